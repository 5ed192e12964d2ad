/-
  Contracts over this program: a walk is made (tok.newWalk).
-/
import Derived.Test.YthmecbonjkcnmaaGreatKKr
namespace Go.Proofs.YthmecbonjkcnmaaGreat.wk
open Go.ChangeShapes Go.WideShapes Go.ChangeAt Go.RowKit
open nb (Cf Rl Pa)
open nf (Ed Eds EdAt)
set_option linter.unusedVariables false
set_option maxRecDepth 100000

theorem newL (W : World) (l : List Value) (t : TypeId) : ∀ j u, l[j]? = some u → (W.alloc (.cells l.toArray t)).drew.cell? ((⟨W.heap.size, 0, none⟩ : Addr).add j) = some u := fun j u hu => by
  show (W.alloc (.cells l.toArray t)).cell? ((⟨W.heap.size, 0, none⟩ : Addr).add j) = some u
  have e : ((⟨W.heap.size, 0, none⟩ : Addr).add j) = ⟨W.heap.size, j, none⟩ := by cases j <;> simp [Addr.add]
  rw [e, Lib.cell_of_heap (World.alloc_heap_new W _)]
  simpa using hu
def NewOut (n : Nat) (es : List Ed) (s : ByteArray) (w : World) (e : Ending) (w' : World) : Prop :=
  ∃ X : Wd, e = .returned (.pointer (some ⟨X.wb, 0, none⟩)) ∧ X.n = n ∧ X.es = es ∧ X.s = s ∧ Ok X ∧ Wk X w' 0 (List.replicate ((s.size + 1) * X.wide) 0) ∧ Below w.heap.size w w' ∧ X.B = w'.heap.size ∧ w.heap.size ≤ X.wb ∧ w.heap.size ≤ X.sb
/-- between the rounds -/
structure Nw (n : Nat) (es : List Ed) (s : ByteArray) (wide len : Nat) (o : Option Addr) (cap : Nat) (w : World) (i : Nat) (V : Nat → Value) (wr : World) : Prop where
  nr : Nr (w.heap.size + 4) (w.heap.size + 1) n V (esAt es i) wr
  wb : wr.heap[w.heap.size + 2]? = some (.cells #[.int .i64 (n : Int), .int .i64 0, .int .i64 1, .slice o es.length cap, .slice (some ⟨w.heap.size + 1, 0, none⟩) n n, .string s, .int .i64 0, .int .i64 (wide : Int), .slice (some ⟨w.heap.size + 3, 0, none⟩) len len] 130 (0, 0))
  sb : wr.heap[w.heap.size + 3]? = some (.cells (ucells (List.replicate len 0)) 23 (0, 0))
  be : Below w.heap.size w wr
theorem Nw.start (n : Nat) (es : List Ed) (s : ByteArray) (wide len : Nat) (o : Option Addr) (cap : Nat) (w : World) (A : Obj) : Nw n es s wide len o cap w 0 (fun _ => .slice none 0 0) ((((w.alloc A).alloc (.cells ((List.range n).map fun _ => Value.slice none 0 0).toArray 84)).alloc (.cells #[.int .i64 (n : Int), .int .i64 0, .int .i64 1, .slice o es.length cap, .slice (some ⟨w.heap.size + 1, 0, none⟩) n n, .string s, .int .i64 0, .int .i64 (wide : Int), .slice (some ⟨w.heap.size + 1 + 1 + 1, 0, none⟩) len len] 130)).alloc (.cells (ucells (List.replicate len 0)) 23)).drew := by
  have z : ∀ (W : World) (o : Obj), (W.alloc o).heap.size = W.heap.size + 1 := fun W o => by simp
  have old : ∀ (W : World) (o : Obj) (k : Nat), k < W.heap.size → (W.alloc o).heap[k]? = W.heap[k]? := fun W o k hk => (below_alloc W o).block k hk
  have nw : ∀ (W : World) (cs : Array Value) (t : TypeId) (k : Nat), k = W.heap.size → (W.alloc (.cells cs t)).heap[k]? = some (.cells cs t (0, 0)) := fun W cs t k hk => by rw [hk]; exact World.alloc_heap_new W _
  refine ⟨⟨?_, fun q hq => ⟨rfl, .inl ⟨rfl, rfl⟩⟩, fun q t g _ _ h => (by cases h), by omega, ?_⟩, ?_, ?_, ?_⟩
  · show (World.alloc _ _).heap[_]? = _
    rw [old _ _ _ (by simp only [z]; omega), old _ _ _ (by simp only [z]; omega)]
    exact nw _ _ _ _ (by simp only [z])
  · show _ ≤ (World.alloc _ _).heap.size
    simp only [z]; omega
  · show (World.alloc _ _).heap[_]? = _
    rw [old _ _ _ (by simp only [z]; omega)]
    exact nw _ _ _ _ (by simp only [z])
  · show (World.alloc _ _).heap[_]? = _
    exact nw _ _ _ _ (by simp only [z])
  · exact Below.drew (((((Below.refl _ _).alloc (Nat.le_refl _) _).alloc (by simp) _).alloc (by simp only [z]; omega) _).alloc (by simp only [z]; omega) _)
theorem Nw.later {n : Nat} {es : List Ed} {s : ByteArray} {wide len : Nat} {o : Option Addr} {cap : Nat} {w : World} {i : Nat} {V : Nat → Value} {wr w' : World} (h : Nw n es s wide len o cap w i V wr) (b : Below wr.heap.size wr w') : Nw n es s wide len o cap w i V w' := by
  have hs := h.nr.size
  exact ⟨h.nr.later b, (b.block _ (by omega)).trans h.wb, (b.block _ (by omega)).trans h.sb, h.be.trans (b.mono h.be.size)⟩
theorem Nw.put {n : Nat} {es : List Ed} {s : ByteArray} {wide len : Nat} {o : Option Addr} {cap : Nat} {w : World} {i : Nat} {V : Nat → Value} {wr w' : World} (h : Nw n es s wide len o cap w i V wr) {q : Nat} (hq : q < n) (hi : i < es.length) (hf : es[i].fr = (q : Int)) {g' k' cap' : Nat} (hk : k' = (esAt es i q).length + 1) (ho : w'.ownsRow (w.heap.size + 4) 132 7 (.slice (some ⟨g', 0, none⟩) k' cap') k' (c7 (esAt es i q) ++ e7 es[i])) (hg : wr.grownBy w' (V q).ownBlock) (hn : some g' = (V q).ownBlock ∨ wr.heap.size ≤ g') :
    Nw n es s wide len o cap w (i + 1) (up V q (.slice (some ⟨g', 0, none⟩) k' cap')) (w'.setCell ⟨w.heap.size + 1, q, none⟩ (.slice (some ⟨g', 0, none⟩) k' cap')) ∧ w'.cell? ⟨w.heap.size + 1, q, none⟩ = some (V q) ∧ w'.frozen? ⟨w.heap.size + 1, q, none⟩ = false := by
  obtain ⟨p1, p2, p3, p4, p5⟩ := h.nr.put hq hk ho hg hn
  refine ⟨⟨by rw [esAt_put es hi hf]; exact p1, (p4 _ (by omega) (by omega)).trans h.wb, (p4 _ (by omega) (by omega)).trans h.sb, ?_⟩, p2, p3⟩
  exact ⟨hg.os.trans h.be.os, hg.tape.trans h.be.tape, hg.output.trans h.be.output, Nat.le_trans h.be.size p5, fun k hk => (p4 k (by omega) (by omega)).trans (h.be.block k hk)⟩
theorem Nw.done {n : Nat} {es : List Ed} {s : ByteArray} {wide len : Nat} {o : Option Addr} {cap : Nat} {w : World} {V : Nat → Value} {wr : World} (h : Nw n es s wide len o cap w es.length V wr) (hn : n ≤ 2500) (hw : wide = n / 64 + 1) (hl : len = (s.size + 1) * wide) (hin : ∀ e ∈ es, 0 ≤ e.fr ∧ e.fr < (n : Int) ∧ 0 ≤ e.to ∧ e.to < (n : Int)) (hfit : ∀ e ∈ es, nf.Fits e) (hlen : es.length ≤ 20000) (hs : s.size ≤ 300000) : NewOut n es s w (.returned (.pointer (some ⟨w.heap.size + 2, 0, none⟩))) wr := by
  have hsz := h.nr.size
  refine ⟨⟨n, es, s, wide, o, cap, w.heap.size + 2, w.heap.size + 1, w.heap.size + 3, wr.heap.size⟩, rfl, rfl, rfl, rfl, ⟨by simp only; omega, by simp only; omega, by simp only; omega, hs, hin, hfit, by simp only; omega, by simp only; omega, by simp only; omega, by simp only; omega, ⟨by simp only; omega, by simp only; omega, by simp only; omega⟩⟩, ⟨?_, ?_, fun q hq => ?_, fun x hx => by rw [(List.mem_replicate.1 hx).2]; decide, by simp, Nat.le_refl _⟩, h.be, rfl, by simp only; omega, by simp only; omega⟩
  · show wr.heap[_]? = some (Obj.cells (wcells _ _) _ _)
    rw [h.wb, hl]
    rfl
  · rw [← hl]; exact h.sb
  · obtain ⟨o', c', hv, f1, f2, f3⟩ := own_edges (h.nr.own q hq)
    have he : esAt es es.length q = edgesOf ⟨n, es, s, wide, o, cap, w.heap.size + 2, w.heap.size + 1, w.heap.size + 3, wr.heap.size⟩ q := by
      unfold esAt edgesOf
      rw [List.take_length]
    rw [he] at hv f1 f3
    refine ⟨⟨_, h.nr.row⟩, o', c', ?_, f1, f2, fun i hi => ?_⟩
    · show wr.cell? ⟨w.heap.size + 1, q, none⟩ = _
      rw [h.nr.cell hq, hv]
    · obtain ⟨g, e, g1, g2, gt, g3⟩ := f3 i hi
      exact ⟨g, 0, e, g2, by simp only; omega, by simp only; omega, gt, g3⟩
set_option maxHeartbeats 4000000 in
theorem new_any (n : Nat) (es : List Ed) (s : ByteArray) (o : Option Addr) (cap : Nat) (w : World) (hn : n ≤ 2500) (he : Eds w o cap es) (hin : ∀ e ∈ es, 0 ≤ e.fr ∧ e.fr < (n : Int) ∧ 0 ≤ e.to ∧ e.to < (n : Int)) (hfit : ∀ e ∈ es, nf.Fits e) (hlen : es.length ≤ 20000) (hs : s.size ≤ 300000) :
    Calls Tryz.prog 45 #[.agg #[.int .i64 (n : Int), .int .i64 0, .int .i64 1, .slice o es.length cap], .string s] w (NewOut n es s w) := by
  obtain ⟨wide, hwide⟩ : ∃ wide, wide = n / 64 + 1 := ⟨_, rfl⟩
  obtain ⟨len, hlen2⟩ : ∃ len, len = (s.size + 1) * wide := ⟨_, rfl⟩
  have hlb : len ≤ 20000000 := by
    rw [hlen2]
    exact Nat.le_trans (Nat.mul_le_mul (show s.size + 1 ≤ 300001 by omega) (show wide ≤ 40 by omega)) (by decide)
  have h127 := make127 n (by omega)
  have h128 := make128 len (by omega)
  obtain ⟨m, hm⟩ : ∃ m, m = n / 64 := ⟨_, rfl⟩
  have z1 : ((n : Int) / 64) = (m : Int) := by omega
  have z2 : ((n : Int).tdiv 64) = (m : Int) := by rw [Int.tdiv_eq_ediv_of_nonneg (by omega)]; exact z1
  have z3 : IntKind.i64.wrap (m : Int) = (m : Int) := by rw [IntKind.wrap_i64]; omega
  have z4 : ((m : Int) + 1) = (wide : Int) := by omega
  have z5 : IntKind.i64.wrap (wide : Int) = (wide : Int) := by rw [IntKind.wrap_i64]; omega
  have z6 : IntKind.i64.wrap ((m : Int) + 1) = (wide : Int) := by rw [z4]; exact z5
  have z7 : IntKind.i64.wrap (((s.size : Int) + 1) * (wide : Int)) = (len : Int) := by
    have : ((s.size : Int) + 1) * (wide : Int) = (len : Int) := by rw [hlen2]; simp
    rw [this, IntKind.wrap_i64]; omega
  have HW := (show Hid (wide = n / 64 + 1 ∧ m = n / 64 ∧ len = (s.size + 1) * wide) from ⟨by omega, hm, hlen2⟩)
  clear hwide hlen2 hm
  go_enter Tryz.func45, Tryz.ntmps45
  go_wp2_with (fail)
  go_region
  go_wp2_with (fail)
  have HST := (show Hid _ from Nw.start n es s wide len o cap w (.cells #[.int .i64 (n : Int), .int .i64 0, .int .i64 1, .slice o es.length cap] 86))
  generalize ((((w.alloc (.cells #[.int .i64 (n : Int), .int .i64 0, .int .i64 1, .slice o es.length cap] 86)).alloc (.cells ((List.range n).map fun _ => Value.slice none 0 0).toArray 84)).alloc (.cells #[.int .i64 (n : Int), .int .i64 0, .int .i64 1, .slice o es.length cap, .slice (some ⟨w.heap.size + 1, 0, none⟩) n n, .string s, .int .i64 0, .int .i64 (wide : Int), .slice (some ⟨w.heap.size + 1 + 1 + 1, 0, none⟩) len len] 130)).alloc (.cells (ucells (List.replicate len 0)) 23)).drew = w1 at *
  go_loopw [34] (fun z wr => ∃ (i : Nat) (V : Nat → Value), z = .int .i64 i ∧ i ≤ es.length ∧ Hid (Nw n es s wide len o cap w i V wr)) (fun z _ => es.length - (intOf z).toNat)
  case atStart => exact ⟨0, _, rfl, by omega, HST⟩
  case round =>
    obtain ⟨i, V, rfl, hi, HI⟩ := hrel
    clear HST
    by_cases hend : i < es.length
    · obtain ⟨b, off, rfl, hb, ed⟩ := (he.later HI.out.be).lie i hend
      obtain ⟨e0, e1, e2, e3, e4, e5, e6⟩ := ed
      have hfr := hin es[i] (List.getElem_mem hend)
      have HQ := (show Hid (∃ h : i < es.length, True) from ⟨hend, trivial⟩)
      obtain ⟨q, hq⟩ : ∃ q : Nat, es[i].fr = (q : Int) := ⟨es[i].fr.toNat, by omega⟩
      have hqn : q < n := by omega
      have HPUT := (show Hid (∀ (wx w' : World) (g' k' cap' : Nat), Nw n es s wide len (some ⟨b, off, none⟩) cap w i V wx → k' = (esAt es i q).length + 1 → w'.ownsRow (w.heap.size + 4) 132 7 (.slice (some ⟨g', 0, none⟩) k' cap') k' (c7 (esAt es i q) ++ e7 es[i]) → wx.grownBy w' (V q).ownBlock → (some g' = (V q).ownBlock ∨ wx.heap.size ≤ g') → Nw n es s wide len (some ⟨b, off, none⟩) cap w (i + 1) (up V q (.slice (some ⟨g', 0, none⟩) k' cap')) (w'.setCell ⟨w.heap.size + 1, q, none⟩ (.slice (some ⟨g', 0, none⟩) k' cap')) ∧ w'.cell? ⟨w.heap.size + 1, q, none⟩ = some (V q) ∧ w'.frozen? ⟨w.heap.size + 1, q, none⟩ = false) from fun wx w' g' k' cap' h hk ho hg hn => h.put hqn hend hq hk ho hg hn)
      have HFR := (show Hid (es[i].fr = (q : Int)) from hq)
      clear hq hfr
      generalize es[i] = y at *
      have HO := (HI.out.nr.own q hqn)
      have hel : (esAt es i q).length ≤ 20000 := by
        have := List.length_filter_le (fun e : Ed => decide (e.fr = (q : Int))) (es.take i)
        have h2 := List.length_take_le i es
        unfold esAt
        omega
      generalize hEs : esAt es i q = Es at *
      clear hEs
      obtain ⟨w9, HW9⟩ : ∃ w9, Hid (w9 = wr.alloc (.cells #[.int .i64 y.fr, .int .i64 y.to, .bool y.free, .int .u64 y.a, .int .u64 y.b, .int .u64 y.c, .int .u64 y.d] 132)) := ⟨_, rfl⟩
      have b9 : Below wr.heap.size wr w9 := by rw [HW9.out]; exact below_alloc _ _
      have HN9 := (show Hid (Nw n es s wide len (some ⟨b, off, none⟩) cap w i V w9) from HI.out.later b9)
      have HEB := (show Hid (EBox w9 wr.heap.size y) from by show EBox _ _ _; rw [HW9.out]; exact World.alloc_heap_new _ _)
      have HNE := (show Hid (∀ k, (V q).ownBlock = some k → w.heap.size + 4 ≤ k ∧ k < wr.heap.size) from fun k e => ow.lt HO e)
      have HEL := (show Hid (Es.length ≤ 20000) from hel)
      have k4 : ∀ W' : World, Nw n es s wide len (some ⟨b, off, none⟩) cap w i V W' → W'.cell? ⟨w.heap.size + 1 + 1, 4, none⟩ = some (.slice (some ⟨w.heap.size + 1, 0, none⟩) n n) := fun W' h => by rw [Lib.cell_of_heap (show W'.heap[w.heap.size + 1 + 1]? = _ from h.wb)]; rfl
      have HK4 := (show Hid _ from k4)
      have HOW := (show Hid (∀ w', Below w9.heap.size w9 w' → w'.ownsRow (w.heap.size + 4) 132 7 (V q) Es.length (c7 Es)) from fun w' h => ow.later HO (chain b9 h))
      clear hel HO b9 HI k4
      go_wp2_with (fail)
      rw [← HW9.out]
      refine regW rfl ⟨w.heap.size + 1 + 1, w.heap.size + 1, n, q, wr.heap.size, y, V q⟩ rfl rfl (B := w.heap.size + 4) (kk := Es.length) (xs := c7 Es) HN9.out.nr.size (by have := HEL.out; omega) hqn HFR.out HEB.out ?_ ?_ ?_ ?_ ?_ ?_ ?_
      · intro w1 w2 hb hg
        exact (hg.block _ (HEB.out.later hb).lt (fun e => by have := (HNE.out _ e.symm).2; omega)).trans (HEB.out.later hb)
      · intro w1 hb
        exact HK4.out _ (HN9.out.later hb)
      · intro w1 w2 hb hg
        have h1 := HN9.out.later hb
        have h2 := h1.nr.size
        have b1 := hg.block (w.heap.size + 2) (by omega) (fun e => by have := (HNE.out _ e.symm).1; omega)
        show w2.cell? ⟨w.heap.size + 2, 4, none⟩ = _
        rw [Lib.cell_of_heap (b1.trans h1.wb)]; rfl
      · intro w1 hb
        exact (HN9.out.later hb).nr.cell hqn
      · exact HOW.out
      · intro w1 w2 hb hg
        have h1 := HN9.out.later hb
        have b1 := hg.block (w.heap.size + 1) (by have := h1.nr.size; omega) (fun e => by have := (HNE.out _ e.symm).1; omega)
        refine ⟨?_, Lib.frozen_of_heap (b1.trans h1.nr.row) q⟩
        exact (World.cell?_of_block b1).trans (h1.nr.cell hqn)
      · intro vals g cap' w1 w2 hb ho hg hn'
        have HNX := (show Hid (Nw n es s wide len (some ⟨b, off, none⟩) cap w (i + 1) (up V q (.slice (some ⟨g, 0, none⟩) (Es.length + 1) cap')) (w2.setCell ⟨w.heap.size + 1, q, none⟩ (.slice (some ⟨g, 0, none⟩) (Es.length + 1) cap'))) from (HPUT.out w1 w2 g _ cap' (HN9.out.later hb) rfl ho hg hn').1)
        rw [foldW]
        clear HPUT HN9 HEB HNE HEL HK4 HOW ho hg hn' hb e0 e1 e2 e3 e4 e5 e6
        go_wp2_with (fail)
        go_roundw
        case rel => exact ⟨i + 1, _, by go_num, by omega, HNX⟩
        case measure => simp [intOf]; omega
    · have hie : i = es.length := by omega
      subst hie
      have HD := (show Hid _ from HI.out.done hn HW.out.1 HW.out.2.2 hin hfit hlen hs)
      go_wp2_with (fail)
      go_ret
      exact HD.out
end Go.Proofs.YthmecbonjkcnmaaGreat.wk
