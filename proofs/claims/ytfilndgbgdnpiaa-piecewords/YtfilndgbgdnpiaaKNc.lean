/-
  Over this program: the iterator over a state's edges (nfa.web's from), for every body that keeps its memory.
-/
import Derived.Test.YtfilndgbgdnpiaaM05
import Derived.Test.YtfilndgbgdnpiaaM00
namespace Go.Proofs.Ytfilndgbgdnpiaa.nf
open Go.RowKit Go.Shelf
set_option linter.unusedVariables false
attribute [local go_sem] Oper.semAt_some
open df (Kp)

abbrev edV (e : Ed) : Value := .agg #[.int .i64 e.fr, .int .i64 e.to, .bool e.free, .int .u64 e.a, .int .u64 e.b, .int .u64 e.c, .int .u64 e.d]
abbrev webV (o : Option Addr) (m cap n fb nb : Nat) : Value := .agg #[.slice o m cap, .slice (some ⟨fb, 0, none⟩) n n, .slice (some ⟨nb, 0, none⟩) m m]
/-- what the web leads to, in blocks of which P is said -/
structure WebAt (P : Nat → Prop) (W : World) (l : List Ed) (n : Nat) (o : Option Addr) (cap fb nb : Nat) : Prop where
  fit : l.length ≤ cap
  top : cap ≤ 9223372036854775807
  lie : ∀ i (h : i < l.length), ∃ b off, o = some ⟨b, off, none⟩ ∧ P b ∧ EdAt W b (off + i * 7) l[i]
  fr : IRow W fb (firsts l n l.length)
  nr : IRow W nb (nexts l l.length)
  pf : P fb
  pn : P nb
  lt : ∀ b, P b → b < W.heap.size
theorem WebAt.carry {P : Nat → Prop} {W W' : World} {l : List Ed} {n : Nat} {o : Option Addr} {cap fb nb : Nat} (h : WebAt P W l n o cap fb nb) (k : Kp P W W') : WebAt P W' l n o cap fb nb :=
  ⟨h.fit, h.top, fun i hi => by
    obtain ⟨b, off, e, hp, hc⟩ := h.lie i hi
    exact ⟨b, off, e, hp, hc.same (k.2 b hp)⟩, h.fr.keep (k.2 fb h.pf), h.nr.keep (k.2 nb h.pn), h.pf, h.pn, fun b hb => Nat.lt_of_lt_of_le (h.lt b hb) k.1⟩
def WBox (W : World) (g : Nat) (o : Option Addr) (m cap n fb nb : Nat) : Prop := W.heap[g]? = some (.cells #[.slice o m cap, .slice (some ⟨fb, 0, none⟩) n n, .slice (some ⟨nb, 0, none⟩) m m] 70 (0, 0))
section
variable {W W' : World} {g : Nat} {o : Option Addr} {m cap n fb nb : Nat}
theorem WBox.c0 (h : WBox W g o m cap n fb nb) : W.cell? ⟨g, 0, none⟩ = some (.slice o m cap) := by rw [Lib.cell_of_heap h]; rfl
theorem WBox.c1 (h : WBox W g o m cap n fb nb) : W.cell? ⟨g, 1, none⟩ = some (.slice (some ⟨fb, 0, none⟩) n n) := by rw [Lib.cell_of_heap h]; rfl
theorem WBox.c2 (h : WBox W g o m cap n fb nb) : W.cell? ⟨g, 2, none⟩ = some (.slice (some ⟨nb, 0, none⟩) m m) := by rw [Lib.cell_of_heap h]; rfl
theorem WBox.lt (h : WBox W g o m cap n fb nb) : g < W.heap.size := (Array.getElem?_eq_some_iff.1 h).1
end
set_option maxHeartbeats 1000000 in
theorem from_in (o : Option Addr) (m cap n fb nb : Nat) (s : Int) (w : World) :
    Calls Try.prog 55 #[webV o m cap n fb nb, .int .i64 s] w fun e w' => e = .returned (.func (.func 76) #[] #[.pointer (some ⟨w.heap.size, 0, none⟩), .pointer (some ⟨w.heap.size + 1, 0, none⟩)]) ∧
      w' = (w.alloc (.cells #[.slice o m cap, .slice (some ⟨fb, 0, none⟩) n n, .slice (some ⟨nb, 0, none⟩) m m] 70)).alloc (.cells #[.int .i64 s] 3) := by
  go_enter Try.func55, Try.ntmps55
  go_wp2
  go_ret
  exact ⟨rfl, rfl⟩
theorem nexts_at (l : List Ed) (j : Nat) (h : j < l.length) : (nexts l l.length)[j]'(by rw [nexts_len]; exact h) = before l j l[j].fr := by
  unfold nexts
  rw [List.getElem_map, List.getElem_range, if_pos h, List.getElem?_eq_getElem h]
  rfl
set_option maxRecDepth 100000 in
set_option maxHeartbeats 4000000 in
theorem from1_in {Q : Ed → Prop} (P : Nat → Prop) (l : Nat) (gw gs : Nat) (L : List Ed) (n : Nat) (s : Nat) (hs : s < n) (hL : L.length ≤ 16000) (o : Option Addr) (cap fb nb : Nat) (hQ : ∀ e ∈ L, Q e) (J Jx : List { e : Ed // Q e } → World → Prop)
    (hY : ∀ pre x W, J pre W → pre.length < L.length → YieldAt Fence.wide 4 Try.prog l #[edV x.1] W fun e W' =>
      (e = .returned (.bool true) ∧ J (pre ++ [x]) W' ∧ Kp P W W') ∨ (e = .returned (.bool false) ∧ Jx (pre ++ [x]) W'))
    (W : World) (hW : WebAt P W L n o cap fb nb) (hB : WBox W gw o L.length cap n fb nb) (hg : P gw) (hS : Boxed W gs 3 (.int .i64 (s : Int))) (h0 : J [] W) :
    CallsIn Fence.wide 5 Try.prog 76 #[.func (.yield l) #[] #[], .pointer (some ⟨gw, 0, none⟩), .pointer (some ⟨gs, 0, none⟩)] W fun e W' => (∃ v, e = .returned v) ∧
      ((∃ ys, ys.map (·.1) = chainOf L L.length (s : Int) ∧ J ys W') ∨ (∃ pre, pre.map (·.1) <+: chainOf L L.length (s : Int) ∧ Jx pre W')) := by
  have hfit := hW.fit
  have htop := hW.top
  have k1 := hB.c1
  have k2 := hS.cell
  have k3 := hW.fr.cell s (by rw [firsts_len]; exact hs)
  rw [firsts_at L n L.length s hs] at k3
  have HW := (show Hid (WebAt P W L n o cap fb nb) from hW)
  have HB := (show Hid (WBox W gw o L.length cap n fb nb) from hB)
  have HCL := chain_len L (s : Int) L.length
  obtain ⟨full, hfull⟩ : ∃ full, full = chainOf L L.length (s : Int) := ⟨_, rfl⟩
  have HI : Hid (full = [] ++ chainOf L L.length (s : Int)) := hfull
  rw [← hfull] at HCL ⊢
  clear hW hB hfull
  refine callsIn_of_wp Try.func76 rfl trivial ?_ rfl
  simp only [Try.ntmps76, List.size_toArray, List.length_cons, List.length_nil, Nat.reduceAdd, Nat.reduceSub, Array.replicate_succ, Array.replicate_zero, List.push_toArray, List.append_toArray, List.nil_append, List.cons_append]
  gi_wp2
  gi_loopw [4] (fun y wr => ∃ (k : Nat) (pre : List { e : Ed // Q e }), y = .int .i64 (before L k (s : Int)) ∧ k ≤ L.length ∧ Hid (full = pre.map (·.1) ++ chainOf L k (s : Int)) ∧ J pre wr ∧ Hid (WebAt P wr L n o cap fb nb) ∧ Hid (WBox wr gw o L.length cap n fb nb)) (fun y _ => (intOf y + 1).toNat)
  case atStart => exact ⟨L.length, [], rfl, Nat.le_refl _, HI, h0, HW, HB⟩
  case round =>
    obtain ⟨k, pre, rfl, hk, HE, hJs, HWr, HBr⟩ := hrel
    clear k1 k2 k3 HW HB HI
    have hr := before_range L (s : Int) k
    by_cases hneg : before L k (s : Int) = -1
    · have hex : pre.map (·.1) = full := by have := HE.out; rw [chain_none L _ k hneg, List.append_nil] at this; exact this.symm
      rw [hneg]
      clear hneg hr
      gi_wp2
      go_end0
      exact ⟨⟨_, rfl⟩, .inl ⟨pre, hex, hJs⟩⟩
    · obtain ⟨j, hj⟩ : ∃ j : Nat, before L k (s : Int) = (j : Int) := ⟨(before L k (s : Int)).toNat, by omega⟩
      obtain ⟨hjl, hjk, hjs, hch⟩ := chain_some L (s : Int) j k hk hj
      rw [hj]
      have HF : Hid (full = (pre ++ [(⟨L[j], hQ _ (List.getElem_mem hjl)⟩ : { e : Ed // Q e })]).map (·.1) ++ chainOf L j (s : Int)) := by show _ = _; rw [HE.out, hch, List.map_append, List.append_assoc]; rfl
      obtain ⟨b, off, rfl, hpb, hed⟩ := HWr.out.lie j hjl
      have hed0 := hed
      obtain ⟨c0, c1, c2, c3, c4, c5, c6⟩ := hed
      have kb := HBr.out.c0
      have hjr := before_range L (s : Int) j
      have g1 : ((j : Int) != -1) = true := bne_iff_ne.2 (by omega)
      have g2 : ((j : Int) == -1) = false := beq_eq_false_iff_ne.2 (by omega)
      have hnx := nexts_at L j hjl
      rw [hjs] at hnx
      have HN := (show Hid ((nexts L L.length)[j]'(by rw [nexts_len]; exact hjl) = before L j (s : Int)) from hnx)
      have hlen : pre.length < L.length := by have := HCL; rw [HF.out, List.length_append, List.length_map, List.length_append] at this; simp at this; omega
      obtain ⟨fn, tmps, assign, body, hy, hR⟩ := hY pre ⟨L[j], hQ _ (List.getElem_mem hjl)⟩ wr hJs hlen
      dsimp only at hy
      have HQj := hQ _ (List.getElem_mem hjl)
      clear hneg hr hch HE hj hjs hnx hed0 hY
      gi_wp2
      refine hR.mono ?_
      rintro e W3 (⟨rfl, hJ3, hk3⟩ | ⟨rfl, hJx3⟩)
      · have M3 := HWr.out.carry hk3
        have B3 : WBox W3 gw (some ⟨b, off, none⟩) L.length cap n fb nb := (hk3.2 gw hg).trans HBr.out
        have q2 := B3.c2
        have q3 := M3.nr.cell j (by rw [nexts_len]; exact hjl)
        rw [HN.out] at q3
        have HM3 := (show Hid _ from M3)
        have HB3 := (show Hid _ from B3)
        clear M3 B3
        gi_wp2
        go_roundw
        case rel => exact ⟨j, _, rfl, by omega, HF, hJ3, HM3, HB3⟩
        case measure => simp [intOf]; omega
      · gi_wp2
        refine bodyPost_ret (results_none rfl _ _ _) rfl ?_
        exact ⟨⟨_, rfl⟩, .inr ⟨_, ⟨_, HF.out.symm⟩, hJx3⟩⟩
theorem from_stops {Q : Ed → Prop} (P : Nat → Prop) (gw gs : Nat) (L : List Ed) (n : Nat) (s : Nat) (hs : s < n) (hL : L.length ≤ 16000) (o : Option Addr) (cap fb nb : Nat) (hQ : ∀ e ∈ L, Q e)
    (w : World) (hW : WebAt P w L n o cap fb nb) (hB : WBox w gw o L.length cap n fb nb) (hg : P gw) (hS : Boxed w gs 3 (.int .i64 (s : Int))) :
    SeqStopsK Fence.wide 5 Try.prog 76 #[.pointer (some ⟨gw, 0, none⟩), .pointer (some ⟨gs, 0, none⟩)] (fun x : { e : Ed // Q e } => #[edV x.1]) (Kp P) (fun ys => ys.map (·.1) = chainOf L L.length (s : Int)) (fun pre => pre.map (·.1) <+: chainOf L L.length (s : Int)) L.length w := fun l J Jx W hb hJ hJx hY h0 =>
  from1_in P l gw gs L n s hs hL o cap fb nb hQ J Jx hY W (hW.carry (Kp.below hb hb.size hW.lt)) ((hb.block gw hB.lt).trans hB) hg ((hb.block gs hS.lt).trans hS) h0
end Go.Proofs.Ytfilndgbgdnpiaa.nf
