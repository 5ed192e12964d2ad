/-
  Contracts over this program: trans.reached.
-/
import Derived.Test.YtafcekognhkmgaaKAp
namespace Go.Proofs.Ytafcekognhkmgaa.tr
open Go.ChangeShapes Go.WideShapes Go.ChangeAt Go.RowKit Go.Shelf
set_option linter.unusedVariables false

/-- a row of bools -/
def bcells (l : List Bool) : Array Value := (l.map fun x => Value.bool x).toArray
def BRow (w : World) (g : Nat) (l : List Bool) : Prop := w.heap[g]? = some (.cells (bcells l) 4 (0, 0))
section
variable {w w' : World} {g : Nat} {l : List Bool}
theorem BRow.lt (h : BRow w g l) : g < w.heap.size := (Array.getElem?_eq_some_iff.1 h).1
theorem BRow.keep (h : BRow w g l) (e : w'.heap[g]? = w.heap[g]?) : BRow w' g l := e.trans h
theorem BRow.cell (h : BRow w g l) (i : Nat) (hi : i < l.length) : w.cell? ⟨g, i, none⟩ = some (.bool l[i]) := by
  rw [Lib.cell_of_heap h]
  simp [bcells, hi]
theorem BRow.fz (h : BRow w g l) (i : Nat) : w.frozen? ⟨g, i, none⟩ = false := Lib.frozen_of_heap h i
theorem BRow.put (h : BRow w g l) (i : Nat) (x : Bool) : BRow (w.setCell ⟨g, i, none⟩ (.bool x)) g (l.set i x) := by
  unfold BRow
  rw [set_heap w g _ _ i _ h]
  congr 2
  simp [bcells]
end
theorem info4 : (Try.prog.info? 4).map (fun i => (i.zero, i.size, i.bytes)) = some (some (.bool false), 1, 1) := by kernel_rfl
theorem bcells_made (n : Nat) : madeCells #[.bool false] n = bcells (List.replicate n false) := by
  apply Array.toList_inj.1
  rw [toList_madeCells_one]
  simp [bcells]
theorem make127 (n : Nat) (hn : n ≤ 1000000) (W : World) : (Instr.makeSlice 127 (.int .i64 (n : Int)) (.int .i64 (n : Int))).run Try.prog W = .ok (.slice (some ⟨W.heap.size, 0, none⟩) n n) (W.alloc (.cells (bcells (List.replicate n false)) 4)) := by
  rw [← bcells_made]
  exact run_make_row' (P := Try.prog) 127 4 (.bool false) 1 Try.underlying127 info4 rfl .i64 .i64 n (by omega) (by omega) W

def icl (L : List Nat) : List Value := L.map fun n : Nat => Value.int .i64 (n : Int)
theorem icl_len (L : List Nat) : (icl L).length = L.length := by simp [icl]
theorem icl_one (L : List Nat) (x : Nat) : icl (L ++ [x]) = icl L ++ [.int .i64 (x : Int)] := by simp [icl]
structure Rq (w : World) (m : Mc) (p : Mp) (gn : Nat) (v : Value) (L : List Nat) (S : List Bool) (W : World) : Prop where
  be : Below w.heap.size w W
  bx : Box W w.heap.size m p
  own : W.ownsRow (w.heap.size + 1) 3 1 v L.length (icl L)
  sn : BRow W gn S
  gnl : w.heap.size < gn
  wl : w.heap.size + 1 ≤ W.heap.size
section
variable {w : World} {m : Mc} {p : Mp} {gn : Nat} {v : Value} {L : List Nat} {S : List Bool} {W : World}
theorem Rq.mark (h : Rq w m p gn v L S W) (i : Nat) (x : Bool) : Rq w m p gn v L (S.set i x) (W.setCell ⟨gn, i, none⟩ (.bool x)) :=
  ⟨h.be.setCell (p := ⟨gn, i, none⟩) (Nat.le_of_lt h.gnl) _, (Below.heap_setCell _ _ _ _ (show w.heap.size ≠ gn by have := h.gnl; omega)).trans h.bx, ow.keep h.own (fun g eg => Below.heap_setCell _ _ _ _ (fun e => by subst e; exact ow.type h.own h.sn (by decide) eg.symm)), h.sn.put i x, h.gnl, by have := h.wl; simpa [World.setCell] using this⟩
theorem Rq.drewN (h : Rq w m p gn v L S W) (n : Nat) : Rq w m p gn v L S (W.drewN n) := ⟨below_drewN h.be n, h.bx, h.own, h.sn, h.gnl, h.wl⟩
theorem Rq.cell (h : Rq w m p gn v L S W) {i : Nat} (hi : i < L.length) : ∃ g cap, v = .slice (some ⟨g, 0, none⟩) L.length cap ∧ W.cell? ⟨g, i, none⟩ = some (.int .i64 (L[i] : Nat)) := by
  obtain ⟨g, cap, e, _, hc⟩ := ow.cell h.own i (by rw [icl_len]; exact hi)
  exact ⟨g, cap, e, by rw [hc]; simp [icl]⟩
theorem Rq.more {W2 : World} {g' cap' x : Nat} (h : Rq w m p gn v L S W) (ho : W2.ownsRow (w.heap.size + 1) 3 1 (.slice (some ⟨g', 0, none⟩) (L.length + 1) cap') (L.length + 1) (icl L ++ [.int .i64 (x : Int)])) (hg : (W.alloc (.cells #[.int .i64 (x : Int)] 3)).grownBy W2 v.ownBlock) : Rq w m p gn (.slice (some ⟨g', 0, none⟩) (L.length + 1) cap') (L ++ [x]) S W2 := by
  have ba := below_alloc W (.cells #[.int .i64 (x : Int)] 3)
  have hne := ow.type h.own h.sn (by decide)
  have hgl := h.sn.lt
  have hwl := h.wl
  have hsz := ba.size
  have hxl := h.bx.lt
  refine ⟨(chain h.be ba).grown hg (by omega) (fun k hk => by have := (ow.lt h.own hk).1; omega), ?_, ?_, ?_, h.gnl, ?_⟩
  · have : W2.heap[w.heap.size]? = W.heap[w.heap.size]? := by
      rw [hg.block _ (by omega) (fun e => by have := (ow.lt h.own e.symm).1; omega), ba.block _ hxl]
    exact this.trans h.bx
  · rw [icl_one, List.length_append]
    exact ho
  · exact h.sn.keep (by rw [hg.block _ (by omega) hne, ba.block _ hgl])
  · have := hg.size; omega
end
structure Mr (m : Mc) (L : List Nat) (S : List Bool) : Prop where
  len : S.length = m.next.length
  iff : ∀ s, S[s]? = some true ↔ s ∈ L
  rch : ∀ s ∈ L, Rch m s
  cnt : L.length + S.count false = m.next.length
  head : L[0]? = some 0
theorem Mr.more {m : Mc} {L : List Nat} {S : List Bool} (h : Mr m L S) {x : Nat} (hx : x < S.length) (h0 : S[x] = false) (hr : Rch m x) : Mr m (L ++ [x]) (S.set x true) := by
  refine ⟨by rw [List.length_set]; exact h.len, fun s => ?_, fun s hs => ?_, ?_, ?_⟩
  · by_cases e : x = s
    · subst e
      rw [List.getElem?_set_self hx]
      simp
    · rw [List.getElem?_set_ne e, h.iff s, List.mem_append, List.mem_singleton]
      constructor
      · exact .inl
      · rintro (h | h)
        · exact h
        · exact (e h.symm).elim
  · rcases List.mem_append.1 hs with hs | hs
    · exact h.rch s hs
    · rw [List.mem_singleton.1 hs]; exact hr
  · rw [List.count_set hx, List.length_append]
    have h1 := h.cnt
    have h2 : 0 < S.count false := List.count_pos_iff.2 (h0 ▸ List.getElem_mem hx)
    simp [h0]
    omega
  · rw [List.getElem?_append_left (by have := (List.getElem?_eq_some_iff.1 h.head).1; omega)]
    exact h.head
theorem Mr.lt {m : Mc} {L : List Nat} {S : List Bool} (h : Mr m L S) (hR : Right m) {s : Nat} (hs : s ∈ L) : s < m.next.length := (h.rch s hs).lt hR
def Upo (m : Mc) (L : List Nat) (i b : Nat) : Prop := ∀ j c s, (j < i ∨ j = i ∧ c < b) → c < 256 → L[j]? = some s → nx m s c ∈ L
theorem Upo.more {m : Mc} {L : List Nat} {i b : Nat} (h : Upo m L i b) (hi : i < L.length) (x : Nat) : Upo m (L ++ [x]) i b := fun j c s hh hc hs => by
  rw [List.getElem?_append_left (by omega)] at hs
  exact List.mem_append_left _ (h j c s hh hc hs)
theorem Upo.step {m : Mc} {L : List Nat} {i b s : Nat} (h : Upo m L i b) (hs : L[i]? = some s) (hm : nx m s b ∈ L) : Upo m L i (b + 1) := fun j c s' hh hc hs' => by
  by_cases e : j = i ∧ c = b
  · obtain ⟨rfl, rfl⟩ := e
    rw [hs] at hs'
    cases hs'
    exact hm
  · exact h j c s' (by omega) hc hs'
theorem Upo.row {m : Mc} {L : List Nat} {i b : Nat} (h : Upo m L i b) (hb : 256 ≤ b) : Upo m L (i + 1) 0 := fun j c s hh hc hs => h j c s (by omega) hc hs
theorem Mr.all {m : Mc} {L : List Nat} {S : List Bool} (h : Mr m L S) (hu : Upo m L L.length 0) : ∀ s, Rch m s ↔ s ∈ L := by
  intro s
  constructor
  · intro r
    induction r with
    | zero => exact List.mem_of_getElem? h.head
    | step r hb ih =>
      obtain ⟨j, hj⟩ := List.mem_iff_getElem?.1 ih
      exact hu j _ _ (.inl (List.getElem?_eq_some_iff.1 hj).1) hb hj
  · exact h.rch s
def RqOut (m : Mc) (w : World) (e : Ending) (w' : World) : Prop := ∃ v L, e = .returned v ∧ w'.ownsRow (w.heap.size + 1) 3 1 v L.length (icl L) ∧ (∀ s, Rch m s ↔ s ∈ L) ∧ L[0]? = some 0 ∧ L.length ≤ 1200 ∧ Below w.heap.size w w'

set_option maxHeartbeats 4000000 in
set_option maxRecDepth 100000 in
theorem reached_any (m : Mc) (hR : Right m) (p : Mp) (w : World) (hM : MAt (In w) w m p) : Calls Try.prog 47 #[.agg (mv m p)] w (RqOut m w) := by
  have b0 := box_new w m p
  have B0 := below_alloc w (.cells (mv m p) 26)
  have hn1 := hR.one
  have hn4 := hR.most
  have HRR := (show Hid (Right m) from hR)
  have HML := (show Hid (∀ W, Below w.heap.size w W → MAt (Lo w.heap.size) W m p) from fun W b => hM.carry (fun k hk => b.block k hk) (fun _ h => h))
  have mk := make127 m.next.length (by omega)
  have nx0 := b0.c0
  have hfit := hM.rnx.fit
  have htop := hM.rnx.top
  have HA : Hid (Rq w m p (w.heap.size + 1 + 1) (.slice (some ⟨w.heap.size + 1, 0, none⟩) 1 1) [0] (List.replicate m.next.length false) (((w.alloc (.cells (mv m p) 26)).alloc (.cells #[.int .i64 0] 3)).alloc (.cells (bcells (List.replicate m.next.length false)) 4)).drew) :=
    ⟨(below3 w _ _ _).drew, heap3_old w _ _ _, ⟨rfl, .inr ⟨w.heap.size + 1, 1, #[.int .i64 0], rfl, Nat.le_refl _, heap3_mid w _ _ _, Nat.le_refl _, by unfold maxLen; omega, rfl, rfl⟩⟩, heap3 w _ _ _, by omega, by show _ ≤ (((w.alloc _).alloc _).alloc _).heap.size; rw [World.size_alloc, World.size_alloc, World.size_alloc]; omega⟩
  have HB : Hid (Rq w m p (w.heap.size + 1) (.slice (some ⟨w.heap.size + 1 + 1, 0, none⟩) 1 1) [0] (List.replicate m.next.length false) (((w.alloc (.cells (mv m p) 26)).alloc (.cells (bcells (List.replicate m.next.length false)) 4)).alloc (.cells #[.int .i64 0] 3)).drew) :=
    ⟨(below3 w _ _ _).drew, heap3_old w _ _ _, ⟨rfl, .inr ⟨w.heap.size + 1 + 1, 1, #[.int .i64 0], rfl, by omega, heap3 w _ _ _, Nat.le_refl _, by unfold maxLen; omega, rfl, rfl⟩⟩, heap3_mid w _ _ _, by omega, by show _ ≤ (((w.alloc _).alloc _).alloc _).heap.size; rw [World.size_alloc, World.size_alloc, World.size_alloc]; omega⟩
  have HM0 : Hid (Mr m [0] ((List.replicate m.next.length false).set 0 true)) := by
    refine ⟨by simp, fun s => ?_, fun s hs => ?_, ?_, rfl⟩
    · by_cases e : 0 = s
      · subst e
        rw [List.getElem?_set_self (by simp; omega)]
        simp
      · rw [List.getElem?_set_ne e, List.getElem?_replicate]
        constructor
        · intro h
          split at h <;> simp at h
        · intro h
          simp at h
          omega
    · simp at hs
      subst hs
      exact .zero
    · rw [List.count_set (by simp; omega)]
      simp
      omega
  clear b0 B0 hR hM
  obtain ⟨Wa, HWa⟩ : ∃ W, Hid (W = (((w.alloc (.cells (mv m p) 26)).alloc (.cells #[.int .i64 0] 3)).alloc (.cells (bcells (List.replicate m.next.length false)) 4)).drew) := ⟨_, rfl⟩
  obtain ⟨Wb, HWb⟩ : ∃ W, Hid (W = (((w.alloc (.cells (mv m p) 26)).alloc (.cells (bcells (List.replicate m.next.length false)) 4)).alloc (.cells #[.int .i64 0] 3)).drew) := ⟨_, rfl⟩
  rw [← HWa.out] at HA
  rw [← HWb.out] at HB
  go_enter Try.func47, Try.ntmps47
  go_wp2_with (fail)
  go_region_law (fail)
  all_goals
    first
    | (rw [← HWa.out]
       have HQ0 := HA
       clear HA HB HWa HWb
       obtain ⟨W0, rfl⟩ : ∃ W0 : World, W0 = Wa := ⟨_, rfl⟩
       generalize (w.heap.size + 1 + 1) = gn at *
       generalize (w.heap.size + 1) = gs at *)
    | (rw [← HWb.out]
       have HQ0 := HB
       clear HA HB HWa HWb
       obtain ⟨W0, rfl⟩ : ∃ W0 : World, W0 = Wb := ⟨_, rfl⟩
       generalize (w.heap.size + 1 + 1) = gs at *
       generalize (w.heap.size + 1) = gn at *)
    have q0 := HQ0.out.sn.cell 0 (by simp; omega)
    have q1 := HQ0.out.sn.fz 0
    have HQ1 : Hid _ := HQ0.out.mark 0 true
    rw [List.getElem_replicate] at q0
    clear HQ0 mk nx0
    go_wp2_with (fail)
    obtain ⟨S0, HS0⟩ : ∃ S0, Hid (S0 = (List.replicate m.next.length false).set 0 true) := ⟨_, rfl⟩
    rw [← HS0.out] at HQ1 HM0
    clear q0 q1 HS0
    generalize W0.setCell ⟨gn, 0, none⟩ (.bool true) = W1 at *
    go_loopw [3, 5] (fun y x wr => ∃ (i : Nat) (L : List Nat) (S : List Bool), x = .int .i64 i ∧ i ≤ L.length ∧ Hid (Rq w m p gn y L S wr) ∧ Hid (Mr m L S) ∧ Hid (Upo m L i 0)) (fun _ x _ => m.next.length - (intOf x).toNat)
    case atStart => exact ⟨0, [0], S0, rfl, by omega, HQ1, HM0, fun j c s hh hc hs => by omega⟩
    case round =>
      obtain ⟨i, L, S, rfl, hi, HQ, HMR, HU⟩ := hrel
      clear HQ1 HM0
      obtain ⟨yg, yc, hy, yb1, yb2⟩ := ow.form HQ.out.own
      subst hy
      have hLn : L.length ≤ m.next.length := by have := HMR.out.cnt; omega
      by_cases hend : i < L.length
      · obtain ⟨g, cap, he, hc⟩ := HQ.out.cell hend
        simp only [Value.slice.injEq, true_and] at he
        obtain ⟨rfl, rfl⟩ := he
        have hsm : L[i] ∈ L := List.getElem_mem hend
        have hsl := HMR.out.lt HRR.out hsm
        have HSR : Hid (Rch m L[i]) := HMR.out.rch _ hsm
        have HLI : Hid (L[i]? = some L[i]) := List.getElem?_eq_getElem hend
        obtain ⟨rb, roff, rb', roff', rci, hno, hrb, hrc, hrb', hrf, hrt, hrow⟩ := (HML.out wr HQ.out.be).next_all HRR.out hsl
        have HROW := (show Hid (∀ W : World, Below w.heap.size w W → ∀ c, c < 256 → W.cell? ⟨rb', roff' + c, none⟩ = some (.int .i64 (nx m L[i] c : Nat))) from fun W hb c hc => by
          have h1 := hrow c hc
          rw [HQ.out.be.cell (p := ⟨rb', roff' + c, none⟩) hrb'] at h1
          rw [hb.cell (p := ⟨rb', roff' + c, none⟩) hrb']
          exact h1)
        have k0 := HQ.out.bx.c0
        rw [hno] at k0
        have HSB : Hid (∀ b, b < 256 → nx m L[i] b < m.next.length ∧ Rch m (nx m L[i] b)) := fun b hb => ⟨HRR.out.nx_lt hsl hb, .step HSR.out hb⟩
        generalize L[i] = s at *
        clear hrow hno hsm
        go_wp2_with (fail)
        go_quiet (fail)
        go_wp2_with (fail)
        have HQd : Hid _ := HQ.out.drewN nq
        obtain ⟨w0, rfl⟩ : ∃ w0 : World, w0 = wr := ⟨_, rfl⟩
        go_loopw [3, 30] (fun y x wr => ∃ (b : Nat) (L' : List Nat) (S : List Bool), x = .int .i64 b ∧ b ≤ 256 ∧ i < L'.length ∧ Hid (L'[i]? = some s) ∧ Hid (Rq w m p gn y L' S wr) ∧ Hid (Mr m L' S) ∧ Hid (Upo m L' i b)) (fun _ x _ => 256 - (intOf x).toNat)
        case atStart => exact ⟨0, L, S, rfl, by omega, hend, HLI, HQd, HMR, HU⟩
        case round =>
          obtain ⟨b, L2, S2, rfl, hb, hil, HLI2, HQ2, HMR2, HU2⟩ := hrel
          clear HQd HQ HMR HU HLI hc k0 hrc
          obtain ⟨zg, zc, hz, zb1, zb2⟩ := ow.form HQ2.out.own
          subst hz
          have hLn2 : L2.length ≤ m.next.length := by have := HMR2.out.cnt; omega
          by_cases hbe : b < 256
          · have k2 := HROW.out wr HQ2.out.be b hbe
            have hjn := (HSB.out b hbe).1
            have HRJ : Hid (Rch m (nx m s b)) := (HSB.out b hbe).2
            have hSl := HMR2.out.len
            have k4 := HQ2.out.sn.cell (nx m s b) (by omega)
            have k5 := HQ2.out.sn.fz (nx m s b)
            have HST : Hid (∀ L S, L2 <+: L → Mr m L S → Upo m L i b → S[nx m s b]? = some true → Upo m L i (b + 1)) := fun L S hp hm hu h => hu.step (by
              obtain ⟨r, rfl⟩ := hp
              rw [List.getElem?_append_left hil]
              exact HLI2.out) ((hm.iff _).1 h)
            cases hv : S2[nx m s b] with
            | true =>
              have HU3 : Hid (Upo m L2 i (b + 1)) := HST.out L2 S2 (List.prefix_refl _) HMR2.out HU2.out (by rw [List.getElem?_eq_getElem (by omega), hv])
              rw [hv] at k4
              clear HST HU2 hv
              generalize nx m s b = j at *
              go_wp2_with (fail)
              go_roundw
              case rel => exact ⟨b + 1, L2, S2, by go_num, by omega, hil, HLI2, HQ2, HMR2, HU3⟩
              case measure => simp [intOf]; omega
            | false =>
              have HM3 : Hid (Mr m (L2 ++ [nx m s b]) (S2.set (nx m s b) true)) := HMR2.out.more (by omega) hv HRJ.out
              have HU3 : Hid (Upo m (L2 ++ [nx m s b]) i (b + 1)) := HST.out _ _ (List.prefix_append _ _) HM3.out (HU2.out.more hil _) (by rw [List.getElem?_set_self (by omega)])
              have HQ3 : Hid _ := HQ2.out.mark (nx m s b) true
              have HL3 : Hid ((L2 ++ [nx m s b])[i]? = some s) := by show _ = _; rw [List.getElem?_append_left hil]; exact HLI2.out
              rw [hv] at k4
              clear HST HU2 hv HRJ
              generalize nx m s b = j at *
              have hsz : (wr.setCell ⟨gn, j, none⟩ (.bool true)).heap.size = wr.heap.size := by simp [World.setCell]
              have HNW := (show Hid _ from ow.new1 (wr.setCell ⟨gn, j, none⟩ (.bool true)) (.int .i64 (j : Int)) 3)
              rw [hsz] at HNW
              have HOW := (show Hid _ from ow.later HQ3.out.own (below_alloc (wr.setCell ⟨gn, j, none⟩ (.bool true)) (.cells #[.int .i64 (j : Int)] 3)))
              have hwl : w.heap.size + 1 ≤ ((wr.setCell ⟨gn, j, none⟩ (.bool true)).alloc (.cells #[.int .i64 (j : Int)] 3)).heap.size := by have := HQ3.out.wl; rw [World.size_alloc]; omega
              clear hsz
              go_wp2_with (at_builtin; refine ow.wpList_append (by rfl) (.tmp 42) (.tmp 44) 23 (by rfl) 3 (.int .i64 0) 1 8 Try.underlying23 info3 (by rfl) (by decide) (by decide) (w.heap.size + 1) (.slice zg L2.length zc) L2.length (icl L2) wr.heap.size [.int .i64 (j : Int)] (by rfl) (by rfl) (by exact HOW.out) (by rfl) (by exact HNW.out) (by exact ow.one1 _ rfl) (by omega) (by exact hwl) ?_; intro g' cap' w12 ho hgr _)
              have HQ4 : Hid _ := HQ3.out.more ho hgr
              go_roundw
              case rel => exact ⟨b + 1, L2 ++ [j], S2.set j true, by go_num, by omega, by rw [List.length_append]; omega, HL3, HQ4, HM3, HU3⟩
              case measure => simp [intOf]; omega
          · have HU3 : Hid (Upo m L2 (i + 1) 0) := HU2.out.row (by omega)
            go_wp2_with (fail)
            go_roundw
            case rel => exact ⟨i + 1, L2, S2, by go_num, by omega, HQ2, HMR2, HU3⟩
            case measure => simp [intOf]; omega
      · have HAL : Hid (∀ s, Rch m s ↔ s ∈ L) := HMR.out.all (by have h := HU.out; rw [show i = L.length by omega] at h; exact h)
        have hz : decide (i < L.length) = false := decide_eq_false hend
        go_wp2_with (fail)
        go_ret
        exact ⟨_, L, rfl, HQ.out.own, HAL.out, HMR.out.head, by omega, HQ.out.be⟩
end Go.Proofs.Ytafcekognhkmgaa.tr
