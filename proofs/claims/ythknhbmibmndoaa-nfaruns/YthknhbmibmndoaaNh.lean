/-
  Contracts over this program: a crowd is spread over Free edges (crowd.spread).
-/
import Derived.Test.YthknhbmibmndoaaNg
import Derived.Sort.LoopGhostIn
import Derived.RegionIn
namespace Go.Proofs.Ythknhbmibmndoaa.nf
open Go.RowKit Go.Shelf
set_option linter.unusedVariables false
attribute [local go_sem] Oper.semAt_some
open df (Kp Owns)

def mark (D : Nat) : Deferred := { target := .collected D, args := #[] }
structure Marks (N : Nat) (ds : List Nat) (W : World) : Prop where
  nd : ds.Nodup
  at' : ∀ D ∈ ds, N ≤ D ∧ W.heap[D]? = some (.deferred (some []))
theorem leave_marks {fn : Func} {tmps : Array Value} {R : Ending → World → Prop} {N n : Nat} (Inv : World → Prop) (hput : ∀ W D, Inv W → N ≤ D → W.heap[D]? = some (.deferred (some [])) → Inv (W.putObj D (.deferred none)))
    (hend : ∀ W, Inv W → ∃ v, (results fn tmps).run Try.prog W = .ok v W ∧ R (.returned v) W) : ∀ (ds : List Nat) (W : World), Marks N ds W → Inv W → LeavesInM Fence.wide n Try.prog fn tmps R (ds.map mark) .returning W
  | [], W, _, hi => hend W hi
  | D :: ds, W, hm, hi => by
    obtain ⟨h1, h2⟩ := hm.at' D (by simp)
    have hnd := List.nodup_cons.1 hm.nd
    refine ⟨by simp, .inl ⟨D, _, rfl, run_takeDeferred h2, ?_⟩⟩
    refine leave_marks Inv hput hend ds _ ⟨hnd.2, fun D' hD' => ?_⟩ (hput W D hi h1 h2)
    obtain ⟨a1, a2⟩ := hm.at' D' (by simp [hD'])
    exact ⟨a1, (World.putObj_heap_other (fun e => hnd.1 (by subst e; exact hD'))).trans a2⟩
theorem Marks.moved {X : Nat → Prop} {B N : Nat} {ds : List Nat} {W W' : World} (h : Marks N ds W) (m : Moved X B W W') : Marks N ds W' := ⟨h.nd, fun D hD => ⟨(h.at' D hD).1, m.ot.same D _ (h.at' D hD).2 rfl⟩⟩
theorem Crowd.pop {X : Nat → Prop} {W : World} {B c sb n : Nat} {m : List Bool} {va : Value} {l q0 : List Int} {t : Int} {g cq : Nat} (h : Crowd X W B c sb n m va (.slice (some ⟨g, 0, none⟩) (q0.length + 1) cq) l (q0 ++ [t])) :
    Crowd X (W.setCell ⟨c, 2, none⟩ (.slice (some ⟨g, 0, none⟩) q0.length cq)) B c sb n m va (.slice (some ⟨g, 0, none⟩) q0.length cq) l q0 := by
  have hr : Owns W B (.slice (some ⟨g, 0, none⟩) q0.length cq) q0 := by
    rcases h.wait.2 with ⟨h0, _⟩ | ⟨gg, cap, cur, e, hb, hgg, hn, hc, hs, ht⟩
    · cases h0
    · simp only [Value.slice.injEq, Option.some.injEq, Addr.mk.injEq] at e
      obtain ⟨⟨rfl, _⟩, _, rfl⟩ := e
      rw [List.length_append] at hn ht
      simp only [List.length_cons, List.length_nil] at hn ht
      refine ⟨by simp, .inr ⟨_, _, cur, rfl, hb, hgg, by omega, hc, hs, ?_⟩⟩
      have := congrArg (List.take (q0.length * 1)) ht
      rw [List.take_take] at this
      simpa [Nat.min_def] using this
  exact h.putW hr ⟨rfl, rfl, rfl, Nat.le_refl _, fun _ _ _ => rfl⟩ (.inl rfl)

theorem Moved.less {X Y : Nat → Prop} {B : Nat} {W W' : World} (h : Moved X B W W') (hx : ∀ b, Y b → X b) : Moved Y B W W' := ⟨⟨h.kp.1, fun b hb => h.kp.2 b (hx b hb)⟩, h.be, h.ot⟩
def esOf {Q : Ed → Prop} (pre : List { e : Ed // Q e }) : List Ed := pre.map (·.1)
theorem esOf_snoc {Q : Ed → Prop} (pre : List { e : Ed // Q e }) (y : { e : Ed // Q e }) : esOf (pre ++ [y]) = esOf pre ++ [y.1] := by unfold esOf; rw [List.map_append]; rfl
theorem addAll_len (es : List Ed) : ∀ st : List Int × List Int, (addAll es st).2.length + st.1.length = (addAll es st).1.length + st.2.length ∧ st.1.length ≤ (addAll es st).1.length := by
  induction es with
  | nil => intro st; unfold addAll; simp; omega
  | cons e es ih =>
    intro st
    have h := ih (addF st e)
    have k : (addF st e).2.length + st.1.length = (addF st e).1.length + st.2.length ∧ st.1.length ≤ (addF st e).1.length := by
      unfold addF addE
      split
      · split
        · omega
        · simp; omega
      · omega
    have e1 : addAll (e :: es) st = addAll es (addF st e) := rfl
    rw [e1]
    omega
def SpreadIs (x : Nfa) (n : Nat) : Prop := ∀ (P : Int → Prop) (X : Nat → Prop) (B c sb : Nat) (l q : List Int) (o : Option Addr) (cap fb nb : Nat) (W : World), Cr X W B c sb n l q → Inv x P l q → WebAt X W x.edges n o cap fb nb →
    Calls Try.prog 32 #[.pointer (some ⟨c, 0, none⟩), webV o x.edges.length cap n fb nb] W fun e W' => (∃ v, e = .returned v) ∧ ∃ l', Cr X W' B c sb n l' [] ∧ Inv x P l' [] ∧ (∀ t ∈ l, t ∈ l') ∧ Moved X B W W'

set_option maxRecDepth 100000 in
set_option maxHeartbeats 4000000 in
theorem spread_in (x : Nfa) (n : Nat) (hn : n ≤ 2000) (hm : x.edges.length ≤ 16000) (hto : ∀ e ∈ x.edges, 0 ≤ e.to ∧ e.to < (n : Int)) (P : Int → Prop) (X : Nat → Prop) (B c sb : Nat) (l q : List Int) (o : Option Addr) (cap fb nb : Nat) (W : World) (hC : Cr X W B c sb n l q) (hI : Inv x P l q) (hW : WebAt X W x.edges n o cap fb nb) :
    CallsIn Fence.wide 6 Try.prog 32 #[.pointer (some ⟨c, 0, none⟩), webV o x.edges.length cap n fb nb] W fun e W' => (∃ v, e = .returned v) ∧ ∃ l', Cr X W' B c sb n l' [] ∧ Inv x P l' [] ∧ (∀ t ∈ l, t ∈ l') ∧ Moved X B W W' := by
  have hB : B ≤ W.heap.size := by obtain ⟨m, va, vw, k, _⟩ := hC.lie; exact k.size
  have hXl : ∀ b, X b → b < W.heap.size := hW.lt
  have bP := Boxed.new W 50 (.pointer (some ⟨c, 0, none⟩))
  obtain ⟨W2, hW2⟩ : ∃ W2, W2 = (W.alloc (.cells #[.pointer (some ⟨c, 0, none⟩)] 50)).alloc (.cells #[.slice o x.edges.length cap, .slice (some ⟨fb, 0, none⟩) n n, .slice (some ⟨nb, 0, none⟩) x.edges.length x.edges.length] 48) := ⟨_, rfl⟩
  have sz : W2.heap.size = W.heap.size + 1 + 1 := by rw [hW2]; simp
  have B2 : Below W.heap.size W W2 := by rw [hW2]; exact ((Below.refl _ W).alloc (Nat.le_refl _) _).alloc (by simp) _
  have M0 : Moved X B W W2 := by rw [hW2]; exact ((Moved.refl X B W).alloc hXl hB _).alloc (fun b hb => by have := hXl b hb; simp; omega) (by simp; omega) _
  have P2 : Boxed W2 W.heap.size 50 (.pointer (some ⟨c, 0, none⟩)) := by rw [hW2]; exact bP.alloc _
  have Q2 : WBox W2 (W.heap.size + 1) o x.edges.length cap n fb nb := by
    rw [hW2]
    have := World.alloc_heap_new (W.alloc (.cells #[.pointer (some ⟨c, 0, none⟩)] 50)) (.cells #[.slice o x.edges.length cap, .slice (some ⟨fb, 0, none⟩) n n, .slice (some ⟨nb, 0, none⟩) x.edges.length x.edges.length] 48)
    rwa [World.size_alloc] at this
  obtain ⟨X', hX'⟩ : ∃ X' : Nat → Prop, X' = fun b => X b ∨ b = W.heap.size ∨ b = W.heap.size + 1 := ⟨_, rfl⟩
  have hXX : ∀ b, X b → X' b := fun b hb => by rw [hX']; exact .inl hb
  have hXp : X' W.heap.size := by rw [hX']; exact .inr (.inl rfl)
  have hXq : X' (W.heap.size + 1) := by rw [hX']; exact .inr (.inr rfl)
  have hX'l : ∀ b, X' b → b < W2.heap.size := fun b hb => by
    rw [hX'] at hb
    rcases hb with h | h | h
    · have := hXl b h; omega
    · omega
    · omega
  have C2 : Cr X' W2 B c sb n l q := hC.more B2 (fun b hb => by
    rw [hX'] at hb
    rcases hb with h | h | h
    · exact .inl h
    · exact .inr (by omega)
    · exact .inr (by omega))
  have V2 : WebAt X' W2 x.edges n o cap fb nb := by
    have V := hW.carry (Kp.below B2 B2.size hXl)
    exact ⟨V.fit, V.top, fun i hi => by obtain ⟨b, off, e, hp, hc⟩ := V.lie i hi; exact ⟨b, off, e, hXX b hp, hc⟩, V.fr, V.nr, hXX _ V.pf, hXX _ V.pn, hX'l⟩
  have hB2 : B ≤ W2.heap.size := by omega
  clear hX' bP
  refine callsIn_of_wp_marks Try.func32 rfl trivial ?_ rfl
  simp only [Try.ntmps32, List.size_toArray, List.length_cons, List.length_nil, Nat.reduceAdd, Nat.reduceSub, Array.replicate_succ, Array.replicate_zero, List.push_toArray, List.append_toArray, List.nil_append, List.cons_append]
  gi_wp2
  rw [← hW2]
  clear hW2
  refine wpIn_loop_ghost (fun k a w => ∃ (l1 q1 : List Int) (ds : List Nat) (u4 u5 u6 u7 u8 u9 u10 u11 u12 u13 u14 u15 u16 u17 u18 u19 u20 u21 u22 u23 u24 u25 u26 u27 u28 u29 u30 u31 u32 u33 u34 u35 u36 u37 u38 u39 u40 u41 u42 u43 u44 : Value), k = q1.length + 2 * (n - l1.length) ∧ a = { tmps := #[.pointer (some ⟨c, 0, none⟩), webV o x.edges.length cap n fb nb, .pointer (some ⟨W.heap.size, 0, none⟩), .pointer (some ⟨W.heap.size + 1, 0, none⟩), u4, u5, u6, u7, u8, u9, u10, u11, u12, u13, u14, u15, u16, u17, u18, u19, u20, u21, u22, u23, u24, u25, u26, u27, u28, u29, u30, u31, u32, u33, u34, u35, u36, u37, u38, u39, u40, u41, u42, u43, u44], defers := ds.map mark } ∧ Cr X' w B c sb n l1 q1 ∧ Inv x P l1 q1 ∧ (∀ t ∈ l, t ∈ l1) ∧ Moved X' B W2 w ∧ Marks W2.heap.size ds w) (q.length + 2 * (n - l.length)) ⟨l, q, [], undef, undef, undef, undef, undef, undef, undef, undef, undef, undef, undef, undef, undef, undef, undef, undef, undef, undef, undef, undef, undef, undef, undef, undef, undef, undef, undef, undef, undef, undef, undef, undef, undef, undef, undef, undef, undef, undef, undef, undef, undef, rfl, rfl, C2, hI, fun _ h => h, Moved.refl _ _ _, ⟨List.nodup_nil, by simp⟩⟩ ?_
  rintro k a w ⟨l1, q1, ds, u4, u5, u6, u7, u8, u9, u10, u11, u12, u13, u14, u15, u16, u17, u18, u19, u20, u21, u22, u23, u24, u25, u26, u27, u28, u29, u30, u31, u32, u33, u34, u35, u36, u37, u38, u39, u40, u41, u42, u43, u44, rfl, rfl, hC1, hI1, hS1, hM1, hD1⟩
  have p1 : Boxed w W.heap.size 50 (.pointer (some ⟨c, 0, none⟩)) := (hM1.kp.2 _ hXp).trans P2
  have pc := p1.cell
  obtain ⟨m, va, vw, K, hmk⟩ := hC1.lie
  have k2 := K.c2
  have HC1 := (show Hid (Cr X' w B c sb n l1 q1) from hC1)
  rcases List.eq_nil_or_concat q1 with rfl | ⟨q0, t, hq⟩
  · obtain ⟨gq, cq, rfl⟩ := df.own_slice K.wait
    gi_wp2
    refine leave_marks (N := W2.heap.size) (fun W' => Cr X' W' B c sb n l1 [] ∧ Moved X' B W2 W') (fun V D hV hD hd => ?_) (fun V hV => ?_) ds w hD1 ⟨HC1.out, hM1⟩
    · exact ⟨Cr.own (N := W2.heap.size) (fun _ : Unit => (l1, [])) () V _ (some D) hV.1 (grownBy_putObj' V D _) (fun r e => by cases e; exact ⟨hD, _, hd, rfl⟩), moved_own hX'l hB2 (Nat.le_refl _) () V _ (some D) hV.2 (grownBy_putObj' V D _) (fun r e => by cases e; exact ⟨hD, _, hd, rfl⟩)⟩
    · exact ⟨_, results_none rfl _ _ _, ⟨_, rfl⟩, l1, hV.1.less hXX, hI1, hS1, M0.trans (hV.2.less hXX)⟩
  · rw [List.concat_eq_append] at hq
    subst hq
    have htl : t ∈ l1 := hI1.sub t (by simp)
    have htr := hC1.rg t htl
    obtain ⟨s, rfl⟩ : ∃ s : Nat, t = (s : Int) := ⟨t.toNat, by omega⟩
    have hsn : s < n := by omega
    have hln := hC1.len
    have hql := hC1.ql
    have ho := K.wait
    have hlen : (q0 ++ [(s : Int)]).length = q0.length + 1 := by simp
    unfold df.Owns at ho
    rw [hlen] at ho
    obtain ⟨g, cq, rfl⟩ := ownsRow_succ ho
    have hcq : q0.length + 1 ≤ cq ∧ cq ≤ 9223372036854775807 := by
      rcases ho.2 with ⟨h0, _⟩ | ⟨gg, cap, cur, e, hb, hgg, hnn, hc, _⟩
      · cases h0
      · simp only [Value.slice.injEq] at e
        obtain ⟨_, _, rfl⟩ := e
        unfold maxLen at hc
        exact ⟨hnn, hc⟩
    have hcell := World.ownsRow.cellAt ho q0.length (by omega)
    have hc5 : w.cell? ⟨g, q0.length, none⟩ = some (.int .i64 (s : Int)) := by rw [hcell]; simp
    have hfz := K.fz 2
    have K3 := K.pop
    have HK3 := (show Hid _ from K3)
    have hlen2 : q0.length ≤ 2000 := by rw [hlen] at hql; omega
    obtain ⟨hcq1, hcq2⟩ := hcq
    clear hcell ho hlen K3
    gi_wp2
    gi_region
    obtain ⟨w3, hw3⟩ : ∃ w3, w3 = (w.setCell ⟨c, 2, none⟩ (.slice (some ⟨g, 0, none⟩) q0.length cq)).drew := ⟨_, rfl⟩
    have C3 : Cr X' w3 B c sb n l1 q0 := by rw [hw3]; exact ⟨⟨m, va, _, (HK3.out.keep (W' := (w.setCell ⟨c, 2, none⟩ (.slice (some ⟨g, 0, none⟩) q0.length cq)).drew) (Nat.le_refl _) rfl rfl (fun _ _ => rfl) (fun _ _ => rfl)), hmk⟩, HC1.out.nd, HC1.out.rg, by have := HC1.out.ql; simp at this; omega⟩
    have M3' : Moved X' B w w3 := by
      rw [hw3]
      have h := (Moved.refl X' B w).set (g := c) (fun b hb => (K.ap b hb).2.1) K.bc 2 (.slice (some ⟨g, 0, none⟩) q0.length cq)
      exact ⟨h.kp, h.be.drew, ⟨h.ot.size, h.ot.same⟩⟩
    have M3 : Moved X' B W2 w3 := hM1.trans M3'
    have D3 := hD1.moved M3'
    rw [← hw3]
    clear hw3 HK3 K hmk HC1 k2 pc p1 hfz hc5 M3' hC1
    have q3 : WBox w3 (W.heap.size + 1) o x.edges.length cap n fb nb := (M3.kp.2 _ hXq).trans Q2
    have e0 := q3.c0
    have e1 := q3.c1
    have e2 := q3.c2
    have V3 := V2.carry M3.kp
    have hfrom := fun W => from_in o x.edges.length cap n fb nb (s : Int) W
    gi_wp2_with (refine ⟨trivial, ?_⟩; gi_at_call 47; refine (callsIn_wide.2 (hfrom _)).mono ?_; rintro e w4 ⟨rfl, rfl⟩)
    have hsz3 : W2.heap.size ≤ w3.heap.size := M3.kp.1
    obtain ⟨W4, hW4⟩ : ∃ W4, W4 = (w3.alloc (.cells #[.slice o x.edges.length cap, .slice (some ⟨fb, 0, none⟩) n n, .slice (some ⟨nb, 0, none⟩) x.edges.length x.edges.length] 48)).alloc (.cells #[.int .i64 (s : Int)] 3) := ⟨_, rfl⟩
    have sz4 : W4.heap.size = w3.heap.size + 1 + 1 := by rw [hW4]; simp
    have B4 : Below w3.heap.size w3 W4 := by rw [hW4]; exact ((Below.refl _ w3).alloc (Nat.le_refl _) _).alloc (by simp) _
    have G4 : WBox W4 w3.heap.size o x.edges.length cap n fb nb := by rw [hW4]; exact (Below.heap_alloc _ _ _ (by simp)).trans (World.alloc_heap_new w3 _)
    have S4 : Boxed W4 (w3.heap.size + 1) 3 (.int .i64 (s : Int)) := by
      rw [hW4]
      have := Boxed.new (w3.alloc (.cells #[.slice o x.edges.length cap, .slice (some ⟨fb, 0, none⟩) n n, .slice (some ⟨nb, 0, none⟩) x.edges.length x.edges.length] 48)) 3 (.int .i64 (s : Int))
      rwa [World.size_alloc] at this
    have hX3 : ∀ b, X' b → b < w3.heap.size := fun b hb => Nat.lt_of_lt_of_le (hX'l b hb) hsz3
    have MM4 : Moved X' B w3 W4 := by rw [hW4]; exact ((Moved.refl X' B w3).alloc hX3 (by omega) _).alloc (fun b hb => by have := hX3 b hb; simp; omega) (by simp; omega) _
    obtain ⟨Y, hY⟩ : ∃ Y : Nat → Prop, Y = fun b => X' b ∨ b = w3.heap.size := ⟨_, rfl⟩
    have hXY : ∀ b, X' b → Y b := fun b hb => by rw [hY]; exact .inl hb
    have hYg : Y w3.heap.size := by rw [hY]; exact .inr rfl
    have hYl : ∀ b, Y b → b < W4.heap.size := fun b hb => by
      rw [hY] at hb
      rcases hb with h | h
      · have := hX3 b h; omega
      · omega
    have C4 : Cr Y W4 B c sb n l1 q0 := C3.more B4 (fun b hb => by
      rw [hY] at hb
      rcases hb with h | h
      · exact .inl h
      · exact .inr (by omega))
    have V4 : WebAt Y W4 x.edges n o cap fb nb := by
      have V := V3.carry (Kp.below B4 B4.size hX3)
      exact ⟨V.fit, V.top, fun i hi => by obtain ⟨b, off, e, hp, hc⟩ := V.lie i hi; exact ⟨b, off, e, hXY b hp, hc⟩, V.fr, V.nr, hXY _ V.pf, hXY _ V.pn, hYl⟩
    have P4 : Boxed W4 W.heap.size 50 (.pointer (some ⟨c, 0, none⟩)) := (MM4.kp.2 _ hXp).trans ((M3.kp.2 _ hXp).trans P2)
    have hB4 : B ≤ W4.heap.size := by omega
    rw [← hW4]
    clear hW4 hY e0 e1 e2
    refine wpIn_rangeFunc_ownH (α := { e : Ed // 0 ≤ e.to ∧ e.to < (n : Int) }) rfl (by omega) (gf := 60) (lb := #[.pointer (some ⟨w3.heap.size, 0, none⟩), .pointer (some ⟨w3.heap.size + 1, 0, none⟩)]) rfl trivial (enters_of Try.func60 (by kernel_rfl) rfl)
      (from_stops (Q := fun e => 0 ≤ e.to ∧ e.to < (n : Int)) Y w3.heap.size (w3.heap.size + 1) x.edges n s hsn hm o cap fb nb hto W4 V4 G4 hYg S4) (fun h k => h.trans k) (Kp.book hYl) (Below.refl _ _) (fun _ => rfl)
      (fun pre V => Cr Y V B c sb n (addAll (esOf pre) (l1, q0)).1 (addAll (esOf pre) (l1, q0)).2 ∧ Moved Y B W4 V)
      (fun _ _ _ => False)
      (OwnFrom.and (Cr.own _) (moved_own hYl hB4 (Nat.le_refl _)))
      (fun _ _ _ _ _ hs _ _ => hs)
      ⟨C4, Moved.refl _ _ _⟩
      (fun y a' V => ∃ Bx, V.heap[Bx]? = some (.cells #[.int .i64 y.1.fr, .int .i64 y.1.to, .bool y.1.free, .int .u64 y.1.a, .int .u64 y.1.b, .int .u64 y.1.c, .int .u64 y.1.d] 62 (0, 0)) ∧ a' = { tmps := #[.pointer (some ⟨c, 0, none⟩), webV o x.edges.length cap n fb nb, .pointer (some ⟨W.heap.size, 0, none⟩), .pointer (some ⟨W.heap.size + 1, 0, none⟩), .int .i64 (q0.length : Int), .int .i64 (s : Int), .pointer (some ⟨Bx, 0, none⟩), .pointer (some ⟨c, 0, none⟩), .pointer (some ⟨c, 0, none⟩), .pointer (some ⟨c, 2, none⟩), .slice (some ⟨g, 0, none⟩) (q0.length + 1) cq, .int .i64 ((q0.length : Int) + 1), .bool true, .pointer (some ⟨c, 0, none⟩), .pointer (some ⟨c, 0, none⟩), .pointer (some ⟨c, 2, none⟩), .slice (some ⟨g, 0, none⟩) (q0.length + 1) cq, .int .i64 ((q0.length : Int) + 1), .int .i64 (q0.length : Int), .pointer (some ⟨c, 0, none⟩), .pointer (some ⟨c, 0, none⟩), .pointer (some ⟨c, 2, none⟩), .slice (some ⟨g, 0, none⟩) (q0.length + 1) cq, .int .i64 (q0.length : Int), .pointer (some ⟨g, q0.length, none⟩), .int .i64 (s : Int), .pointer (some ⟨c, 0, none⟩), .pointer (some ⟨c, 0, none⟩), .pointer (some ⟨c, 0, none⟩), .pointer (some ⟨c, 2, none⟩), .slice (some ⟨g, 0, none⟩) (q0.length + 1) cq, .int .i64 (q0.length : Int), .slice (some ⟨g, 0, none⟩) q0.length cq, .pointer (some ⟨c, 0, none⟩), .pointer (some ⟨c, 2, none⟩), webV o x.edges.length cap n fb nb, .int .i64 (s : Int), .func (.func 60) #[] #[.pointer (some ⟨w3.heap.size, 0, none⟩), .pointer (some ⟨w3.heap.size + 1, 0, none⟩)], edV y.1, u39, u40, u41, u42, u43, u44], defers := [] })
      (fun y a' _ V V' row hs hg hr => by
        obtain ⟨Bx, h1, h2⟩ := hs
        exact ⟨Bx, (hg.block Bx (Array.getElem?_eq_some_iff.1 h1).1 (fun e => by obtain ⟨_, o', ho', hn'⟩ := hr Bx e.symm; rw [h1] at ho'; cases ho'; cases hn')).trans h1, h2⟩)
      ?assign ?body ?done ?stop
    case assign =>
      rintro lo pre y V KK ⟨hC, hM⟩ hKK
      have hVl : ∀ b, Y b → b < V.heap.size := fun b hb => Nat.lt_of_lt_of_le (hYl b hb) hM.kp.1
      have hBV : B ≤ V.heap.size := Nat.le_trans hB4 hM.kp.1
      gi_wp2
      have mv := (Moved.refl Y B V).alloc hVl hBV (.cells #[.int .i64 y.1.fr, .int .i64 y.1.to, .bool y.1.free, .int .u64 y.1.a, .int .u64 y.1.b, .int .u64 y.1.c, .int .u64 y.1.d] 62)
      exact hKK _ _ (mv.ot.from _) mv.kp ⟨hC.later (below_alloc _ _), hM.trans mv⟩ ⟨V.heap.size, World.alloc_heap_new V _, rfl⟩
    case body =>
      rintro lo pre y a' V hlo ⟨r, hr⟩ ⟨hC, hM⟩ ⟨Bx, hbx, rfl⟩ hlt
      have d1 : V.cell? ⟨Bx, 1, none⟩ = some (.int .i64 y.1.to) := by rw [Lib.cell_of_heap hbx]; rfl
      have d2 : V.cell? ⟨Bx, 2, none⟩ = some (.bool y.1.free) := by rw [Lib.cell_of_heap hbx]; rfl
      have pV : Boxed V W.heap.size 50 (.pointer (some ⟨c, 0, none⟩)) := (hM.kp.2 _ (hXY _ hXp)).trans P4
      have pcV := pV.cell
      obtain ⟨y, hy1, hy2⟩ := y
      dsimp only at *
      have HSN : Hid (addAll (esOf (pre ++ [⟨y, hy1, hy2⟩])) (l1, q0) = addF (addAll (esOf pre) (l1, q0)) y) := by show _ = _; rw [esOf_snoc]; exact addAll_snoc _ _ _
      obtain ⟨s2, hs2⟩ : ∃ s2 : Nat, y.to = (s2 : Int) := ⟨y.to.toNat, by omega⟩
      cases hf : y.free with
      | false =>
        rw [hf] at d2
        have e1 : Hid (addAll (esOf (pre ++ [⟨y, hy1, hy2⟩])) (l1, q0) = addAll (esOf pre) (l1, q0)) := by show _ = _; rw [HSN.out]; unfold addF; rw [hf]; rfl
        clear hs2 hf HSN
        gi_wp2
        exact ⟨KeepsFrom.refl _ _, ⟨Nat.le_refl _, fun _ _ => rfl⟩, by rw [e1.out]; exact hC, hM⟩
      | true =>
        rw [hf] at d2
        have e1 : Hid (addAll (esOf (pre ++ [⟨y, hy1, hy2⟩])) (l1, q0) = addE (addAll (esOf pre) (l1, q0)) (s2 : Int)) := by show _ = _; rw [HSN.out]; unfold addF; rw [hf, hs2]; rfl
        have hadd := add_any Y B c sb n hn (addAll (esOf pre) (l1, q0)).1 (addAll (esOf pre) (l1, q0)).2 s2 (by omega) V hC
        rw [hs2] at d1
        clear hs2 hf HSN
        gi_wp2_with (refine ⟨trivial, ?_⟩; gi_at_call 31; refine (CallsIn.inRound lo (callsIn_wide.2 hadd)).mono ?_; rintro e V2 ⟨⟨v, rfl⟩, hC2, hM2⟩)
        exact ⟨hM2.ot.from _, hM2.kp, by rw [e1.out]; exact hC2, hM.trans hM2⟩
    case done =>
      rintro D ys V hD hS ⟨hC, hM⟩ hK
      have hS2 : esOf ys = chainOf x.edges x.edges.length (s : Int) := hS
      rw [hS2] at hC
      have hI2 := inv_step hI1
      have hsub : ∀ t ∈ l, t ∈ (addAll (chainOf x.edges x.edges.length (s : Int)) (l1, q0)).1 := fun t ht => addAll_sub _ (l1, q0) t (hS1 t ht)
      have hl := addAll_len (chainOf x.edges x.edges.length (s : Int)) (l1, q0)
      have hcl := hC.len
      have mv : Moved X' B w3 V := MM4.trans (hM.less hXY)
      have D5 : Marks W2.heap.size (D :: ds) V := by
        have h := D3.moved mv
        refine ⟨List.nodup_cons.2 ⟨fun hin => ?_, h.nd⟩, fun D' hD' => ?_⟩
        · have h1 := (D3.at' D hin).2
          have h2 := (Array.getElem?_eq_some_iff.1 h1).1
          omega
        · rcases List.mem_cons.1 hD' with rfl | h1
          · exact ⟨by omega, hK⟩
          · exact h.at' D' h1
      gi_wp2
      rw [sz] at D5
      exact ⟨_, by omega, (addAll (chainOf x.edges x.edges.length (s : Int)) (l1, q0)).1, (addAll (chainOf x.edges x.edges.length (s : Int)) (l1, q0)).2, rfl, D :: ds, rfl, hC.less hXY, hI2, hsub, M3.trans mv, D5⟩
    case stop =>
      rintro D cc pre V _ _ h _
      exact h.elim
theorem spread_any (x : Nfa) (n : Nat) (hn : n ≤ 2000) (hm : x.edges.length ≤ 16000) (hto : ∀ e ∈ x.edges, 0 ≤ e.to ∧ e.to < (n : Int)) : SpreadIs x n :=
  fun P X B c sb l q o cap fb nb W hC hI hW => callsIn_wide.1 (spread_in x n hn hm hto P X B c sb l q o cap fb nb W hC hI hW)
end Go.Proofs.Ythknhbmibmndoaa.nf
