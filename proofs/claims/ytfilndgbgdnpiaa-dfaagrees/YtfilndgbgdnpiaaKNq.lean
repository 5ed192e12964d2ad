/-
  Contracts over this program: what is reached from a crowd over a byte is added to another one (crowd.step).
-/
import Derived.Test.YtfilndgbgdnpiaaM03
import Derived.Test.YtfilndgbgdnpiaaKHs
namespace Go.Proofs.Ytfilndgbgdnpiaa.nf
open Go.RowKit Go.Shelf
set_option linter.unusedVariables false
attribute [local go_sem] Oper.semAt_some
open df (Kp Owns Row iv In IntsV)

def setOf (e : Ed) : st.Q4 := ⟨e.a, e.b, e.c, e.d⟩
def hasE (e : Ed) (b : Nat) : Bool := st.has (setOf e) b
def addB (b : Nat) (st : List Int × List Int) (e : Ed) : List Int × List Int := if e.free = false ∧ hasE e b = true then addE st e.to else st
def addBs (b : Nat) (es : List Ed) (st : List Int × List Int) : List Int × List Int := es.foldl (addB b) st
theorem addBs_snoc (b : Nat) (es : List Ed) (e : Ed) (st : List Int × List Int) : addBs b (es ++ [e]) st = addB b (addBs b es st) e := by unfold addBs; rw [List.foldl_append]; rfl
def stepL (L : List Ed) (b : Nat) (l : List Int) (st : List Int × List Int) : List Int × List Int := l.foldl (fun st s => addBs b (chainOf L L.length s) st) st
theorem stepL_snoc (L : List Ed) (b : Nat) (l : List Int) (s : Int) (st : List Int × List Int) : stepL L b (l ++ [s]) st = addBs b (chainOf L L.length s) (stepL L b l st) := by unfold stepL; rw [List.foldl_append]; rfl
theorem fits_of {e : Ed} (h : Fits e) : st.Fits (setOf e) := ⟨h.1, h.2.1, h.2.2.1, h.2.2.2⟩
/-- a crowd that is only read -/
structure Here (X : Nat → Prop) (W : World) (c : Nat) (l : List Int) : Prop where
  lie : ∃ v0 ga ca v2, W.heap[c]? = some (.cells #[v0, .slice ga l.length ca, v2] 76 (0, 0)) ∧ Row X W iv ga ca l
  pc : X c
theorem Here.carry {X : Nat → Prop} {W W' : World} {c : Nat} {l : List Int} (h : Here X W c l) (k : Kp X W W') : Here X W' c l := by
  obtain ⟨v0, ga, ca, v2, h1, h2⟩ := h.lie
  exact ⟨⟨v0, ga, ca, v2, (k.2 c h.pc).trans h1, h2.carry k.2 (fun _ => id)⟩, h.pc⟩
def StepIs (x : Nfa) (n : Nat) (b : Nat) : Prop := ∀ (X : Nat → Prop) (B c1 c sb : Nat) (l l2 q2 : List Int) (o : Option Addr) (cap fb nb : Nat) (W : World), Cr X W B c sb n l2 q2 → Here X W c1 l → (∀ t ∈ l, 0 ≤ t ∧ t < (n : Int)) → WebAt X W x.edges n o cap fb nb →
    Calls Try.prog 35 #[.pointer (some ⟨c1, 0, none⟩), webV o x.edges.length cap n fb nb, .int .u8 (b : Int), .pointer (some ⟨c, 0, none⟩)] W fun e W' => (∃ v, e = .returned v) ∧ Cr X W' B c sb n (stepL x.edges b l (l2, q2)).1 (stepL x.edges b l (l2, q2)).2 ∧ Moved X B W W'
set_option maxRecDepth 100000 in
set_option maxHeartbeats 4000000 in
theorem step_in (x : Nfa) (n : Nat) (hn : n ≤ 2000) (hm : x.edges.length ≤ 16000) (hto : ∀ e ∈ x.edges, (0 ≤ e.to ∧ e.to < (n : Int)) ∧ Fits e) (b : Nat) (hb : b < 256) (X : Nat → Prop) (B c1 c sb : Nat) (l l2 q2 : List Int) (o : Option Addr) (cap fb nb : Nat) (W : World) (hC : Cr X W B c sb n l2 q2) (hH : Here X W c1 l) (hl : ∀ t ∈ l, 0 ≤ t ∧ t < (n : Int)) (hW : WebAt X W x.edges n o cap fb nb) :
    CallsIn Fence.wide 6 Try.prog 35 #[.pointer (some ⟨c1, 0, none⟩), webV o x.edges.length cap n fb nb, .int .u8 (b : Int), .pointer (some ⟨c, 0, none⟩)] W fun e W' => (∃ v, e = .returned v) ∧ Cr X W' B c sb n (stepL x.edges b l (l2, q2)).1 (stepL x.edges b l (l2, q2)).2 ∧ Moved X B W W' := by
  have hB : B ≤ W.heap.size := by obtain ⟨m, va, vw, k, _⟩ := hC.lie; exact k.size
  have hXl : ∀ b, X b → b < W.heap.size := hW.lt
  obtain ⟨W2, hW2⟩ : ∃ W2, W2 = ((W.alloc (.cells #[.slice o x.edges.length cap, .slice (some ⟨fb, 0, none⟩) n n, .slice (some ⟨nb, 0, none⟩) x.edges.length x.edges.length] 70)).alloc (.cells #[.int .u8 (b : Int)] 5)).alloc (.cells #[.pointer (some ⟨c, 0, none⟩)] 72) := ⟨_, rfl⟩
  have sz : W2.heap.size = W.heap.size + 1 + 1 + 1 := by rw [hW2]; simp
  have B2 : Below W.heap.size W W2 := by rw [hW2]; exact (((Below.refl _ W).alloc (Nat.le_refl _) _).alloc (by simp) _).alloc (by simp; omega) _
  have M0 : Moved X B W W2 := moved_of B2 hXl hB
  have t3 := three W.heap (.cells #[.slice o x.edges.length cap, .slice (some ⟨fb, 0, none⟩) n n, .slice (some ⟨nb, 0, none⟩) x.edges.length x.edges.length] 70) (.cells #[.int .u8 (b : Int)] 5) (.cells #[.pointer (some ⟨c, 0, none⟩)] 72)
  have Q2 : WBox W2 W.heap.size o x.edges.length cap n fb nb := by rw [hW2]; exact t3.1
  have Y2 : Boxed W2 (W.heap.size + 1) 5 (.int .u8 (b : Int)) := by rw [hW2]; exact t3.2.1
  have P2 : Boxed W2 (W.heap.size + 1 + 1) 72 (.pointer (some ⟨c, 0, none⟩)) := by rw [hW2]; exact t3.2.2
  obtain ⟨X', hX'⟩ : ∃ X' : Nat → Prop, X' = fun b => X b ∨ (W.heap.size ≤ b ∧ b < W.heap.size + 1 + 1 + 1) := ⟨_, rfl⟩
  have hXX : ∀ b, X b → X' b := fun b hb => by rw [hX']; exact .inl hb
  have hXq : X' W.heap.size := by rw [hX']; exact .inr (by omega)
  have hXy : X' (W.heap.size + 1) := by rw [hX']; exact .inr (by omega)
  have hXp : X' (W.heap.size + 1 + 1) := by rw [hX']; exact .inr (by omega)
  have hX'l : ∀ b, X' b → b < W2.heap.size := fun b hb => by
    rw [hX'] at hb
    rcases hb with h | h
    · have := hXl b h; omega
    · omega
  have C2 : Cr X' W2 B c sb n l2 q2 := hC.more B2 (fun b hb => by
    rw [hX'] at hb
    rcases hb with h | h
    · exact .inl h
    · exact .inr (by omega))
  have V2 : WebAt X' W2 x.edges n o cap fb nb := by
    have V := hW.carry (Kp.below B2 B2.size hXl)
    exact ⟨V.fit, V.top, fun i hi => by obtain ⟨b, off, e, hp, hc⟩ := V.lie i hi; exact ⟨b, off, e, hXX b hp, hc⟩, V.fr, V.nr, hXX _ V.pf, hXX _ V.pn, hX'l⟩
  have H2 : Here X' W2 c1 l := by
    obtain ⟨v0, ga, ca, v2, h1, h2⟩ := (hH.carry (Kp.below B2 B2.size hXl)).lie
    exact ⟨⟨v0, ga, ca, v2, h1, h2.carry (fun _ _ => rfl) hXX⟩, hXX _ hH.pc⟩
  have hB2 : B ≤ W2.heap.size := by omega
  obtain ⟨v0, ga, ca, v2, hblk, hrow⟩ := H2.lie
  have k1 : W2.cell? ⟨c1, 1, none⟩ = some (.slice ga l.length ca) := by rw [Lib.cell_of_heap hblk]; rfl
  have hfit := hrow.fit
  have htop := hrow.top
  have HROW := (show Hid (Row X' W2 iv ga ca l) from hrow)
  have HRG := (show Hid (∀ t ∈ l, 0 ≤ t ∧ t < (n : Int)) from hl)
  have k1' := k1
  rw [hW2] at k1'
  clear hX' t3 hrow hblk hl
  refine callsIn_of_wp_marks Try.func35 rfl trivial ?_ rfl
  simp only [Try.ntmps35, List.size_toArray, List.length_cons, List.length_nil, Nat.reduceAdd, Nat.reduceSub, Array.replicate_succ, Array.replicate_zero, List.push_toArray, List.append_toArray, List.nil_append, List.cons_append]
  gi_wp2
  rw [← hW2]
  clear hW2 k1 k1'
  refine wpIn_loop_ghost (fun k a w => ∃ (i : Nat) (ds : List Nat) (u9 u10 u17 u18 u19 u20 u21 u22 u23 u24 u25 u26 u27 u28 u29 u30 u31 u32 u33 u34 u35 u36 u37 : Value), k = l.length - i ∧ i ≤ l.length ∧ a = { tmps := #[.pointer (some ⟨c1, 0, none⟩), webV o x.edges.length cap n fb nb, .int .u8 (b : Int), .pointer (some ⟨c, 0, none⟩), undef, .pointer (some ⟨W.heap.size, 0, none⟩), .pointer (some ⟨W.heap.size + 1, 0, none⟩), .pointer (some ⟨W.heap.size + 1 + 1, 0, none⟩), undef, u9, u10, .pointer (some ⟨c1, 0, none⟩), .pointer (some ⟨c1, 0, none⟩), .pointer (some ⟨c1, 1, none⟩), .slice ga l.length ca, .int .i64 (l.length : Int), .int .i64 (i : Int), u17, u18, u19, u20, u21, u22, u23, u24, u25, u26, u27, u28, u29, u30, u31, u32, u33, u34, u35, u36, u37], defers := ds.map mark } ∧ Cr X' w B c sb n (stepL x.edges b (l.take i) (l2, q2)).1 (stepL x.edges b (l.take i) (l2, q2)).2 ∧ Moved X' B W2 w ∧ Marks W2.heap.size ds w) l.length ⟨0, [], undef, undef, undef, undef, undef, undef, undef, undef, undef, undef, undef, undef, undef, undef, undef, undef, undef, undef, undef, undef, undef, undef, undef, by omega, by omega, rfl, C2, Moved.refl _ _ _, ⟨List.nodup_nil, by simp⟩⟩ ?_
  rintro k a w ⟨i, ds, u9, u10, u17, u18, u19, u20, u21, u22, u23, u24, u25, u26, u27, u28, u29, u30, u31, u32, u33, u34, u35, u36, u37, rfl, hil, rfl, hC1, hM1, hD1⟩
  by_cases hend : i < l.length
  · obtain ⟨rb, roff, rfl, hprb, hrc⟩ := HROW.out.lie i hend
    have hrc2 : w.cell? ⟨rb, roff + i, none⟩ = some (.int .i64 l[i]) := by have h := hM1.kp.2 rb hprb; simp only [World.cell?, h] at hrc ⊢; exact hrc
    have htk := List.take_succ_eq_append_getElem hend
    have hrg := HRG.out l[i] (List.getElem_mem hend)
    obtain ⟨s, hs⟩ : ∃ s : Nat, l[i] = (s : Int) := ⟨l[i].toNat, by omega⟩
    rw [hs] at hrc2 hrg htk
    have hsn : s < n := by omega
    have HSN : Hid (stepL x.edges b (l.take (i + 1)) (l2, q2) = addBs b (chainOf x.edges x.edges.length (s : Int)) (stepL x.edges b (l.take i) (l2, q2))) := by show _ = _; rw [htk, stepL_snoc]
    clear hs htk hrc hrg
    generalize stepL x.edges b (l.take i) (l2, q2) = S0 at *
    have q3 : WBox w W.heap.size o x.edges.length cap n fb nb := (hM1.kp.2 _ hXq).trans Q2
    have e0 := q3.c0
    have e1 := q3.c1
    have e2 := q3.c2
    have V3 := V2.carry hM1.kp
    have hfrom := fun W => from_in o x.edges.length cap n fb nb (s : Int) W
    gi_wp2_with (refine ⟨trivial, ?_⟩; gi_at_call 55; refine (callsIn_wide.2 (hfrom _)).mono ?_; rintro e w4 ⟨rfl, rfl⟩)
    have hsz3 : W2.heap.size ≤ w.heap.size := hM1.kp.1
    obtain ⟨W4, hW4⟩ : ∃ W4, W4 = (w.alloc (.cells #[.slice o x.edges.length cap, .slice (some ⟨fb, 0, none⟩) n n, .slice (some ⟨nb, 0, none⟩) x.edges.length x.edges.length] 70)).alloc (.cells #[.int .i64 (s : Int)] 3) := ⟨_, rfl⟩
    have sz4 : W4.heap.size = w.heap.size + 1 + 1 := by rw [hW4]; simp
    have B4 : Below w.heap.size w W4 := by rw [hW4]; exact ((Below.refl _ w).alloc (Nat.le_refl _) _).alloc (by simp) _
    have G4 : WBox W4 w.heap.size o x.edges.length cap n fb nb := by rw [hW4]; exact (Below.heap_alloc _ _ _ (by simp)).trans (World.alloc_heap_new w _)
    have S4 : Boxed W4 (w.heap.size + 1) 3 (.int .i64 (s : Int)) := by
      rw [hW4]
      have := Boxed.new (w.alloc (.cells #[.slice o x.edges.length cap, .slice (some ⟨fb, 0, none⟩) n n, .slice (some ⟨nb, 0, none⟩) x.edges.length x.edges.length] 70)) 3 (.int .i64 (s : Int))
      rwa [World.size_alloc] at this
    have hX3 : ∀ b, X' b → b < w.heap.size := fun b hb => Nat.lt_of_lt_of_le (hX'l b hb) hsz3
    have MM4 : Moved X' B w W4 := moved_of B4 hX3 (by omega)
    obtain ⟨Y, hY⟩ : ∃ Y : Nat → Prop, Y = fun b => X' b ∨ b = w.heap.size := ⟨_, rfl⟩
    have hXY : ∀ b, X' b → Y b := fun b hb => by rw [hY]; exact .inl hb
    have hYg : Y w.heap.size := by rw [hY]; exact .inr rfl
    have hYl : ∀ b, Y b → b < W4.heap.size := fun b hb => by
      rw [hY] at hb
      rcases hb with h | h
      · have := hX3 b h; omega
      · omega
    have C4 : Cr Y W4 B c sb n S0.1 S0.2 := hC1.more B4 (fun b hb => by
      rw [hY] at hb
      rcases hb with h | h
      · exact .inl h
      · exact .inr (by omega))
    have V4 : WebAt Y W4 x.edges n o cap fb nb := by
      have V := V3.carry (Kp.below B4 B4.size hX3)
      exact ⟨V.fit, V.top, fun i hi => by obtain ⟨b, off, e, hp, hc⟩ := V.lie i hi; exact ⟨b, off, e, hXY b hp, hc⟩, V.fr, V.nr, hXY _ V.pf, hXY _ V.pn, hYl⟩
    have P4 : Boxed W4 (W.heap.size + 1 + 1) 72 (.pointer (some ⟨c, 0, none⟩)) := (MM4.kp.2 _ hXp).trans ((hM1.kp.2 _ hXp).trans P2)
    have Y4 : Boxed W4 (W.heap.size + 1) 5 (.int .u8 (b : Int)) := (MM4.kp.2 _ hXy).trans ((hM1.kp.2 _ hXy).trans Y2)
    have hB4 : B ≤ W4.heap.size := by omega
    rw [← hW4]
    clear hW4 hY e0 e1 e2
    refine wpIn_rangeFunc_ownH (α := { e : Ed // (0 ≤ e.to ∧ e.to < (n : Int)) ∧ Fits e }) rfl (by omega) (gf := 76) (lb := #[.pointer (some ⟨w.heap.size, 0, none⟩), .pointer (some ⟨w.heap.size + 1, 0, none⟩)]) rfl trivial (enters_of Try.func76 (by kernel_rfl) rfl)
      (from_stops (Q := fun e => (0 ≤ e.to ∧ e.to < (n : Int)) ∧ Fits e) Y w.heap.size (w.heap.size + 1) x.edges n s hsn hm o cap fb nb hto W4 V4 G4 hYg S4) (fun h k => h.trans k) (Kp.book hYl) (Below.refl _ _) (fun _ => rfl)
      (fun pre V => Cr Y V B c sb n (addBs b (esOf pre) S0).1 (addBs b (esOf pre) S0).2 ∧ Moved Y B W4 V)
      (fun _ _ _ => False)
      (OwnFrom.and (Cr.own _) (moved_own hYl hB4 (Nat.le_refl _)))
      (fun _ _ _ _ _ hs _ _ => hs)
      ⟨C4, Moved.refl _ _ _⟩
      (fun y a' V => ∃ Bx, V.heap[Bx]? = some (.cells #[.int .i64 y.1.fr, .int .i64 y.1.to, .bool y.1.free, .int .u64 y.1.a, .int .u64 y.1.b, .int .u64 y.1.c, .int .u64 y.1.d] 68 (0, 0)) ∧ a' = { tmps := #[.pointer (some ⟨c1, 0, none⟩), webV o x.edges.length cap n fb nb, .int .u8 (b : Int), .pointer (some ⟨c, 0, none⟩), undef, .pointer (some ⟨W.heap.size, 0, none⟩), .pointer (some ⟨W.heap.size + 1, 0, none⟩), .pointer (some ⟨W.heap.size + 1 + 1, 0, none⟩), undef, .int .i64 (s : Int), .pointer (some ⟨Bx, 0, none⟩), .pointer (some ⟨c1, 0, none⟩), .pointer (some ⟨c1, 0, none⟩), .pointer (some ⟨c1, 1, none⟩), .slice (some ⟨rb, roff, none⟩) l.length ca, .int .i64 (l.length : Int), .int .i64 (i : Int), .bool true, .pointer (some ⟨rb, roff + i, none⟩), .int .i64 (s : Int), webV o x.edges.length cap n fb nb, .int .i64 (s : Int), .func (.func 76) #[] #[.pointer (some ⟨w.heap.size, 0, none⟩), .pointer (some ⟨w.heap.size + 1, 0, none⟩)], edV y.1, u24, u25, u26, u27, u28, u29, u30, u31, u32, u33, u34, u35, u36, u37], defers := [] })
      (fun y a' _ V V' row hs hg hr => by
        obtain ⟨Bx, h1, h2⟩ := hs
        exact ⟨Bx, (hg.block Bx (Array.getElem?_eq_some_iff.1 h1).1 (fun e => by obtain ⟨_, o', ho', hn'⟩ := hr Bx e.symm; rw [h1] at ho'; cases ho'; cases hn')).trans h1, h2⟩)
      ?assign ?body ?done ?stop
    case assign =>
      rintro lo pre y V KK ⟨hC, hM⟩ hKK
      have hVl : ∀ b, Y b → b < V.heap.size := fun b hb => Nat.lt_of_lt_of_le (hYl b hb) hM.kp.1
      have hBV : B ≤ V.heap.size := Nat.le_trans hB4 hM.kp.1
      gi_wp2
      have mv := (Moved.refl Y B V).alloc hVl hBV (.cells #[.int .i64 y.1.fr, .int .i64 y.1.to, .bool y.1.free, .int .u64 y.1.a, .int .u64 y.1.b, .int .u64 y.1.c, .int .u64 y.1.d] 68)
      exact hKK _ _ (mv.ot.from _) mv.kp ⟨hC.later (below_alloc _ _), hM.trans mv⟩ ⟨V.heap.size, World.alloc_heap_new V _, rfl⟩
    case body =>
      rintro lo pre y a' V hlo ⟨r, hr⟩ ⟨hC, hM⟩ ⟨Bx, hbx, rfl⟩ hlt
      have hVl : ∀ b, Y b → b < V.heap.size := fun b hb => Nat.lt_of_lt_of_le (hYl b hb) hM.kp.1
      have hBV : B ≤ V.heap.size := Nat.le_trans hB4 hM.kp.1
      have d1 : V.cell? ⟨Bx, 1, none⟩ = some (.int .i64 y.1.to) := by rw [Lib.cell_of_heap hbx]; rfl
      have d2 : V.cell? ⟨Bx, 2, none⟩ = some (.bool y.1.free) := by rw [Lib.cell_of_heap hbx]; rfl
      have d3 : V.cell? ⟨Bx, 3, none⟩ = some (.int .u64 y.1.a) := by rw [Lib.cell_of_heap hbx]; rfl
      have d4 : V.cell? ⟨Bx, 4, none⟩ = some (.int .u64 y.1.b) := by rw [Lib.cell_of_heap hbx]; rfl
      have d5 : V.cell? ⟨Bx, 5, none⟩ = some (.int .u64 y.1.c) := by rw [Lib.cell_of_heap hbx]; rfl
      have d6 : V.cell? ⟨Bx, 6, none⟩ = some (.int .u64 y.1.d) := by rw [Lib.cell_of_heap hbx]; rfl
      have hbl : Bx < V.heap.size := (Array.getElem?_eq_some_iff.1 hbx).1
      have pV : Boxed V (W.heap.size + 1 + 1) 72 (.pointer (some ⟨c, 0, none⟩)) := (hM.kp.2 _ (hXY _ hXp)).trans P4
      have yV : Boxed V (W.heap.size + 1) 5 (.int .u8 (b : Int)) := (hM.kp.2 _ (hXY _ hXy)).trans Y4
      have pcV := pV.cell
      have ycV := yV.cell
      obtain ⟨y, hy0, hyf⟩ := y
      obtain ⟨hy1, hy2⟩ := hy0
      dsimp only at *
      have HSN2 : Hid (addBs b (esOf (pre ++ [⟨y, ⟨hy1, hy2⟩, hyf⟩])) S0 = addB b (addBs b (esOf pre) S0) y) := by show _ = _; rw [esOf_snoc]; exact addBs_snoc _ _ _ _
      obtain ⟨s2, hs2⟩ : ∃ s2 : Nat, y.to = (s2 : Int) := ⟨y.to.toNat, by omega⟩
      cases hf : y.free with
      | true =>
        rw [hf] at d2
        have e1 : Hid (addBs b (esOf (pre ++ [⟨y, ⟨hy1, hy2⟩, hyf⟩])) S0 = addBs b (esOf pre) S0) := by show _ = _; rw [HSN2.out]; unfold addB; rw [if_neg (by rw [hf]; simp)]
        clear hs2 hf HSN2
        gi_wp2
        skip
        refine ⟨trivial, ?_⟩
        gi_wp2
        exact ⟨KeepsFrom.refl _ _, ⟨Nat.le_refl _, fun _ _ => rfl⟩, by rw [e1.out]; exact hC, hM⟩
      | false =>
        rw [hf] at d2
        have h48 := st.has_any (setOf y) (fits_of hyf) b hb _ rfl
        unfold st.HasIs setOf at h48
        dsimp only at h48
        cases hh : hasE y b with
        | false =>
          have hh2 : st.has ⟨y.a, y.b, y.c, y.d⟩ b = false := hh
          rw [hh2] at h48
          have e1 : Hid (addBs b (esOf (pre ++ [⟨y, ⟨hy1, hy2⟩, hyf⟩])) S0 = addBs b (esOf pre) S0) := by show _ = _; rw [HSN2.out]; unfold addB; rw [if_neg (by rw [hh]; simp)]
          clear hs2 hf HSN2 hh hh2
          gi_wp2_with (refine ⟨trivial, ?_⟩; gi_at_call 56; refine (CallsIn.inRound lo (callsIn_wide.2 (h48 _))).mono ?_; rintro e V1 ⟨rfl, b1⟩)
          have mv := moved_of (X := Y) b1 hVl hBV
          exact ⟨mv.ot.from _, mv.kp, by rw [e1.out]; exact hC.later b1, hM.trans mv⟩
        | true =>
          have hh2 : st.has ⟨y.a, y.b, y.c, y.d⟩ b = true := hh
          rw [hh2] at h48
          have e1 : Hid (addBs b (esOf (pre ++ [⟨y, ⟨hy1, hy2⟩, hyf⟩])) S0 = addE (addBs b (esOf pre) S0) (s2 : Int)) := by show _ = _; rw [HSN2.out]; unfold addB; rw [if_pos ⟨hf, hh⟩, hs2]
          have hadd := add_any Y B c sb n hn (addBs b (esOf pre) S0).1 (addBs b (esOf pre) S0).2 s2 (by omega)
          unfold AddIs at hadd
          rw [hs2] at d1
          clear hs2 hf HSN2 hh hh2
          gi_wp2_with (first | (refine ⟨trivial, ?_⟩; gi_at_call 56; refine (CallsIn.inRound lo (callsIn_wide.2 (h48 _))).mono ?_; rintro e V1 ⟨rfl, b1⟩; have hC1' := hC.later b1; have g1 := (b1.cell (p := ⟨W.heap.size + 1 + 1, 0, none⟩) pV.lt).trans pcV; have g2 := (b1.cell (p := ⟨Bx, 1, none⟩) hbl).trans d1) | (refine ⟨trivial, ?_⟩; gi_at_call 33; refine (CallsIn.inRound lo (callsIn_wide.2 (hadd _ hC1'))).mono ?_; rintro e V2 ⟨⟨v, rfl⟩, hC2, hM2⟩))
          have mv := (moved_of (X := Y) b1 hVl hBV).trans hM2
          exact ⟨mv.ot.from _, mv.kp, by rw [e1.out]; exact hC2, hM.trans mv⟩
    case done =>
      rintro D ys V hD hS ⟨hC, hM⟩ hK
      have hS2 : esOf ys = chainOf x.edges x.edges.length (s : Int) := hS
      rw [hS2, ← HSN.out] at hC
      have mv : Moved X' B w V := MM4.trans (hM.less hXY)
      have D5 : Marks W2.heap.size (D :: ds) V := by
        have h := hD1.moved mv
        refine ⟨List.nodup_cons.2 ⟨fun hin => ?_, h.nd⟩, fun D' hD' => ?_⟩
        · have h1 := (hD1.at' D hin).2
          have h2 := (Array.getElem?_eq_some_iff.1 h1).1
          omega
        · rcases List.mem_cons.1 hD' with rfl | h1
          · exact ⟨by omega, hK⟩
          · exact h.at' D' h1
      gi_wp2
      exact ⟨l.length - (i + 1), by omega, i + 1, D :: ds, _, _, _, _, _, _, _, _, _, _, _, _, _, _, _, _, _, _, _, _, _, _, _, rfl, by omega, rfl, hC.less hXY, hM1.trans mv, D5⟩
    case stop =>
      rintro D cc pre V _ _ h _
      exact h.elim
  · have ei : l.take i = l := List.take_of_length_le (by omega)
    rw [ei] at hC1
    clear ei
    gi_wp2
    refine leave_marks (N := W2.heap.size) (fun W' => Cr X' W' B c sb n (stepL x.edges b l (l2, q2)).1 (stepL x.edges b l (l2, q2)).2 ∧ Moved X' B W2 W') (fun V D hV hD hd => ?_) (fun V hV => ?_) ds w hD1 ⟨hC1, hM1⟩
    · exact ⟨Cr.own (N := W2.heap.size) (fun _ : Unit => stepL x.edges b l (l2, q2)) () V _ (some D) hV.1 (grownBy_putObj' V D _) (fun r e => by cases e; exact ⟨hD, _, hd, rfl⟩), moved_own hX'l hB2 (Nat.le_refl _) () V _ (some D) hV.2 (grownBy_putObj' V D _) (fun r e => by cases e; exact ⟨hD, _, hd, rfl⟩)⟩
    · exact ⟨_, results_none rfl _ _ _, ⟨_, rfl⟩, hV.1.less hXX, M0.trans (hV.2.less hXX)⟩
theorem step_any (x : Nfa) (n : Nat) (hn : n ≤ 2000) (hm : x.edges.length ≤ 16000) (hto : ∀ e ∈ x.edges, (0 ≤ e.to ∧ e.to < (n : Int)) ∧ Fits e) (b : Nat) (hb : b < 256) : StepIs x n b := fun X B c1 c sb l l2 q2 o cap fb nb W hC hH hl hW => callsIn_wide.1 (step_in x n hn hm hto b hb X B c1 c sb l l2 q2 o cap fb nb W hC hH hl hW)
end Go.Proofs.Ytfilndgbgdnpiaa.nf
