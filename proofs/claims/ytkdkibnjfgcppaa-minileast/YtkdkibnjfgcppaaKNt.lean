/-
  Contracts over this program: the document's Least.
-/
import Derived.Test.YtkdkibnjfgcppaaKNn
import Derived.Test.YtkdkibnjfgcppaaM06
import Derived.Test.YtkdkibnjfgcppaaKMz
import Derived.Test.YtkdkibnjfgcppaaKNv
import Derived.Test.YtkdkibnjfgcppaaKNa
import Derived.Test.YtkdkibnjfgcppaaKRg
namespace Go.Proofs.Ytkdkibnjfgcppaa.mi
open Go.ChangeShapes Go.WideShapes Go.ChangeAt Go.RowKit Go.Shelf Go.Maps
set_option linter.unusedVariables false

def RLeast (d : df.Dfa) (w : World) (e : Ending) (w' : World) : Prop := ∃ (d' : df.Dfa) (cs' : Array Value) (o' ao' : Option Addr) (cap' acap' : Nat), e = .returned (.agg cs') ∧ df.DAt (fun b => w.heap.size ≤ b ∧ b < w'.heap.size) w' d' cs' o' cap' ao' acap' ∧ Least ((dm d).lang (some 0)) ((List.range 256).map d'.cls) d'.next d'.acc ∧ Below w.heap.size w w'
/-- how far the states are looked at for one that is alike -/
def Lk (t : List (List Int)) (S : List Int) (j m : Nat) (k : Int) : Prop := (k = -1 ∧ ∀ (i : Nat) (x : Int), i < m → S[i]? = some x → T2 t j x.toNat ≠ 0) ∨ ∃ (i : Nat) (x : Int), k = (i : Int) ∧ S[i]? = some x ∧ T2 t j x.toNat = 0
def P1 (d : df.Dfa) (w : World) (B : Nat) (sv : Value) (S : List Int) (wv : Value) (i : Nat) : Prop := ∃ vs rows, Gr d i S rows ∧ Ma1 w B sv S wv vs rows ∧ vs.length = rows.length ∧ rows.length = i ∧ ∀ k, k < rows.length → (nthL rows k).length = 256
/-- a state is being left -/
def P2 (d : df.Dfa) (w : World) (B : Nat) (sv : Value) (S' : List Int) (wv : Value) (vs : List Value) (rows : List (List Int)) (rvv : Value) (S : List Int) (s b : Nat) : Prop := ∃ r, Rr d S s b S' r ∧ r.length = b ∧ Ma1 w B sv S' wv vs rows ∧ Rw1 w B rvv r sv vs
theorem P2.later {d : df.Dfa} {w w' : World} {B : Nat} {sv : Value} {S' : List Int} {wv : Value} {vs : List Value} {rows : List (List Int)} {rvv : Value} {S : List Int} {s b : Nat} (h : P2 d w B sv S' wv vs rows rvv S s b) (hb : Below w.heap.size w w') : P2 d w' B sv S' wv vs rows rvv S s b := by
  obtain ⟨r, h1, h2, h3, h4⟩ := h
  exact ⟨r, h1, h2, h3.later hb, h4.later hb⟩
theorem blk_or {w : World} {v : Value} {g n c : Nat} (h : some g = v.ownBlock ∨ w.heap.size ≤ g) : (Value.slice (some ⟨g, 0, none⟩) n c).ownBlock = v.ownBlock ∨ ∃ k, (Value.slice (some ⟨g, 0, none⟩) n c).ownBlock = some k ∧ w.heap.size ≤ k := by
  rcases h with h | h
  · exact .inl h
  · exact .inr ⟨g, rfl, h⟩
theorem p2_app {d : df.Dfa} {w w3 : World} {B : Nat} {sv : Value} {S' : List Int} {wv : Value} {vs : List Value} {rows : List (List Int)} {rvv : Value} {S r : List Int} {s b : Nat} {x : Int} (hl : vs.length = rows.length) (hM : Ma1 w B sv S' wv vs rows) (hR : Rw1 w B rvv r sv vs) (hrl : r.length = b) (hN : Rr d S s (b + 1) S' (r ++ [x])) {g' cap' : Nat} (ho : w3.ownsRow B 3 1 (.slice (some ⟨g', 0, none⟩) (b + 1) cap') (b + 1) (ivl r ++ [.int .i64 x])) (hgr : w.grownBy w3 rvv.ownBlock) (hw : some g' = rvv.ownBlock ∨ w.heap.size ≤ g') : P2 d w3 B sv S' wv vs rows (.slice (some ⟨g', 0, none⟩) (b + 1) cap') S s (b + 1) := by
  subst hrl
  exact ⟨r ++ [x], hN, by simp, hM.row hR hgr, hR.row hM ho hl (blk_or hw)⟩
theorem int_cell {w : World} {B : Nat} {sv : Value} {S : List Int} (h : w.ownsRow B 3 1 sv S.length (ivl S)) (hn : sv.ownBlock ≠ none) : ∃ sb c, sv = .slice (some ⟨sb, 0, none⟩) S.length c ∧ S.length ≤ c ∧ c ≤ 9223372036854775807 ∧ ∀ (i : Nat) (x : Int), S[i]? = some x → w.cell? ⟨sb, i, none⟩ = some (.int .i64 x) := by
  obtain ⟨o, c, e1, h1, h2, h3⟩ := own_row h (by simp [ivl]) (fun _ _ => rfl)
  rcases h.2 with ⟨rfl, _⟩ | ⟨g, cap, cur, rfl, _⟩
  · exact absurd rfl hn
  · cases e1
    refine ⟨g, c, rfl, h1, h2, fun i x hx => ?_⟩
    obtain ⟨g', e2, _, _, hc⟩ := h3 i (.int .i64 x) (by unfold ivl; rw [List.getElem?_map, hx]; rfl)
    cases e2
    exact hc
def fsI (col : Nat → List Int) (b : Nat) : List Int := (firsts col b).map fun n : Nat => (n : Int)
theorem fsI_len (col : Nat → List Int) (b : Nat) : (fsI col b).length = (firsts col b).length := by simp [fsI]
theorem fsI_get {col : Nat → List Int} {b c f : Nat} (h : (firsts col b)[c]? = some f) : (fsI col b)[c]? = some (f : Int) := by unfold fsI; rw [List.getElem?_map, h]; rfl
def Xb (col : Nat → List Int) (b : Nat) : List Nat := (List.range 256).map fun i => if i < b then clsOf col 256 i else 0
theorem Xb_len (col : Nat → List Int) (b : Nat) : (Xb col b).length = 256 := by simp [Xb]
theorem Xb_get (col : Nat → List Int) (b i : Nat) (h : i < 256) : (Xb col b)[i]? = some (if i < b then clsOf col 256 i else 0) := by simp [Xb, h]
theorem Xb_set (col : Nat → List Int) (b : Nat) (h : b < 256) : (Xb col b).set b (clsOf col 256 b) = Xb col (b + 1) := by
  apply List.ext_getElem?
  intro i
  by_cases hi : i < 256
  · rw [Xb_get col (b + 1) i hi, List.getElem?_set]
    by_cases e : b = i
    · subst e
      rw [if_pos rfl, if_pos (by rw [Xb_len]; exact hi), if_pos (by omega)]
    · rw [if_neg e, Xb_get col b i hi]
      by_cases h1 : i < b
      · rw [if_pos h1, if_pos (by omega)]
      · rw [if_neg h1, if_neg (by omega)]
  · rw [List.getElem?_eq_none (by rw [List.length_set, Xb_len]; omega), List.getElem?_eq_none (by rw [Xb_len]; omega)]
theorem z26_cells (col : Nat → List Int) : DCells z26 (Xb col 0) (.slice none 0 0) (.slice none 0 0) := by
  refine ⟨z26_size, fun i hi => ?_, z26_nil 256 (by omega) (by omega), z26_nil 257 (by omega) (by omega)⟩
  rw [Xb_get col 0 i hi, if_neg (by omega)]
  unfold z26
  rw [List.getElem?_toArray, List.getElem?_append_left (by rw [List.length_replicate]; exact hi), List.getElem?_replicate, if_pos hi]
  rfl
/-- the classes so far -/
def C2 (w : World) (g : Nat) (lv : Value) (col : Nat → List Int) (b : Nat) : Prop := DL w g (Xb col b) (.slice none 0 0) (.slice none 0 0) ∧ w.ownsRow (g + 1) 3 1 lv (firsts col b).length (ivl (fsI col b)) ∧ lv.ownBlock ≠ none
theorem C2.later {w w' : World} {g : Nat} {lv : Value} {col : Nat → List Int} {b : Nat} (h : C2 w g lv col b) (hb : Below w.heap.size w w') : C2 w' g lv col b := ⟨h.1.keep (hb.block g h.1.lt), ow.later h.2.1 hb, h.2.2⟩
theorem C2.old {w : World} {g : Nat} {lv : Value} {col : Nat → List Int} {b k : Nat} (h : C2 w g lv col b) (hb : b < 256) (h1 : firsts col (b + 1) = firsts col b) (h2 : clsOf col 256 b = k) : C2 (w.setCell ⟨g, b, none⟩ (.int .u8 (k : Int))) g lv col (b + 1) := by
  subst h2
  obtain ⟨cells, hb', hC⟩ := h.1
  refine ⟨by rw [← Xb_set col b hb]; exact h.1.setC b _ hb (Xb_len _ _), ?_, h.2.2⟩
  rw [h1, show fsI col (b + 1) = fsI col b by unfold fsI; rw [h1]]
  exact ow.keep h.2.1 fun k hk => Below.heap_setCell _ _ _ _ (fun e1 => ow.type h.2.1 hb' (by decide) (by rw [← (show k = g from e1), hk]))
theorem C2.new {w w' : World} {g : Nat} {lv lv' : Value} {col : Nat → List Int} {b : Nat} (h : C2 w g lv col b) (hb : b < 256) (h1 : firsts col (b + 1) = firsts col b ++ [b]) (h2 : clsOf col 256 b = (firsts col b).length) (ho : w'.ownsRow (g + 1) 3 1 lv' ((firsts col b).length + 1) (ivl (fsI col b) ++ [.int .i64 (b : Int)])) (hg : w.grownBy w' lv.ownBlock) (hn : lv'.ownBlock ≠ none) : C2 (w'.setCell ⟨g, b, none⟩ (.int .u8 ((firsts col b).length : Int))) g lv' col (b + 1) := by
  have hlt := h.1.lt
  obtain ⟨cells, hb', hC⟩ := h.1
  have hk : w'.heap[g]? = w.heap[g]? := hg.block g hlt (ow.type h.2.1 hb' (by decide))
  have hD : DL w' g (Xb col b) (.slice none 0 0) (.slice none 0 0) := h.1.keep hk
  refine ⟨by rw [← Xb_set col b hb, h2]; exact hD.setC b _ hb (Xb_len _ _), ?_, hn⟩
  rw [h1, show fsI col (b + 1) = fsI col b ++ [(b : Int)] by unfold fsI; rw [h1, List.map_append]; rfl, List.length_append]
  unfold ivl
  rw [List.map_append]
  exact ow.keep ho fun k hk2 => Below.heap_setCell _ _ _ _ (fun e1 => ow.type ho (hk.trans hb') (by decide) (by rw [← (show k = g from e1), hk2]))
theorem C2.cell {w : World} {g : Nat} {lv : Value} {col : Nat → List Int} {b : Nat} (h : C2 w g lv col b) (hb : b < 256) : ∃ u, w.cell? ⟨g, b, none⟩ = some u := by
  obtain ⟨cells, hb', hC⟩ := h.1
  exact ⟨_, by rw [Lib.cell_of_heap hb', hC.cl b hb, Xb_get _ _ _ hb]; rfl⟩
/-- the rows, as they are read -/
theorem row_read {w : World} {B : Nat} {sv : Value} {S : List Int} {wv : Value} {vs : List Value} {rows : List (List Int)} (h : Ma1 w B sv S wv vs rows) (hl : vs.length = rows.length) {k : Nat} (hk : k < rows.length) (h256 : (nthL rows k).length = 256) : ∃ q c rb rc, wv = .slice (some ⟨q, 0, none⟩) rows.length c ∧ rows.length ≤ c ∧ c ≤ 9223372036854775807 ∧ w.cell? ⟨q, k, none⟩ = some (.slice (some ⟨rb, 0, none⟩) 256 rc) ∧ 256 ≤ rc ∧ rc ≤ 9223372036854775807 ∧ ∀ b, b < 256 → w.cell? ⟨rb, b, none⟩ = some (.int .i64 (atL (nthL rows k) b)) := by
  obtain ⟨v, e, h1, h2, h3⟩ := h.rs k hk
  obtain ⟨o, c, e1, f1, f2, f3⟩ := own_row h.wd hl (fun _ _ => rfl)
  obtain ⟨q, e2, _, _, hc⟩ := f3 k v e
  obtain ⟨rb, rc, e4, g1, g2, g3⟩ := int_cell h1 h2
  rw [h256] at e4 g1
  refine ⟨q, c, rb, rc, by rw [e1, e2], f1, f2, by rw [hc, e4], g1, g2, fun b hb => g3 b _ (atL_get (by omega))⟩
set_option maxHeartbeats 8000000 in
set_option maxRecDepth 100000 in
theorem rleast_any (d : df.Dfa) (hr : df.right d = true) (cs : Array Value) (o ao : Option Addr) (cap acap : Nat) (w : World) (hD : df.DAt (df.In w) w d cs o cap ao acap) :
    Calls Try.prog 12 #[.agg cs] w (RLeast d w) := by
  have hok := df.ok_of d hr
  have hmost := hok.most
  have hone := hok.one
  have haccl := hok.accs
  have hw8 := hD.size
  have hz := zero26
  obtain ⟨wA, hwA⟩ : ∃ wA, wA = (w.alloc (.cells cs 26)).alloc (.cells z26 26) := ⟨_, rfl⟩
  have B0 : Below w.heap.size w wA := by rw [hwA]; exact ((Below.refl _ _).alloc (Nat.le_refl _) _).alloc (by simp) _
  have xA : df.DBox wA w.heap.size cs := by rw [hwA]; exact (Below.heap_alloc _ _ _ (by simp)).trans (df.dbox_new w cs)
  have xR : df.DBox wA (w.heap.size + 1) z26 := by rw [hwA]; have := heap_alloc_new (w.alloc (.cells cs 26)) (.cells z26 26); rw [World.size_alloc] at this; exact this
  have HA := (show Hid _ from hD.later B0)
  have c25 := live_any d hr cs o ao cap acap wA HA.out
  have HOK := (show Hid _ from hok)
  have f1 := HA.out.rows.fit
  have f2 := HA.out.rows.top
  clear hD hok
  go_enter Try.func12, Try.ntmps12
  go_wp2_with (fail)
  rw [← hwA]
  clear hwA hz
  refine wp_load_row 26 (.tmp 1) rfl w.heap.size rfl 26 cs (0, 0) _ xA Try.underlying26 rfl (df.info26 cs hw8) ?_
  go_wp2_with (fail)
  go_at_call 25
  refine c25.mono ?_
  rintro e w1 ⟨l, lb, rfl, hlb, hZ, hll, hbl, hlv, b1⟩
  have hL : Lives d l := ⟨hll, hbl, hlv⟩
  have k0 := hZ.at (i := 0) (by omega)
  have x1 : df.DBox w1 w.heap.size cs := xA.later b1
  have xR1 : df.DBox w1 (w.heap.size + 1) z26 := xR.later b1
  have HZ := (show Hid (ZRow w1 lb l) from hZ)
  have HL := (show Hid (Lives d l) from hL)
  rcases hbl 0 with h0 | h1
  · have hdead : ¬ Live ((dm d).lang (some 0)) := fun hv => by
      have := (hlv 0 (by omega)).2 hv
      omega
    have HLD := (show Hid _ from least_dead hdead)
    rw [h0] at k0
    obtain ⟨M0, hbt, hDC⟩ := built26_2 (.slice (some ⟨w1.heap.size + 1, 0, none⟩) 1 1) (.slice (some ⟨w1.heap.size + 1 + 1, 0, none⟩) 1 1) rfl rfl d []
    have hcs := hDC.size
    have hone2 := hDC.one
    have hi26 := df.info26 M0 hcs
    have B1 := below_alloc w1 (.cells #[.int .i64 (-1)] 3)
    have B2 := below_alloc (w1.alloc (.cells #[.int .i64 (-1)] 3)) (.cells #[.slice (some ⟨w1.heap.size, 0, none⟩) 1 1] 39)
    have B3 := below_alloc ((w1.alloc (.cells #[.int .i64 (-1)] 3)).alloc (.cells #[.slice (some ⟨w1.heap.size, 0, none⟩) 1 1] 39)) (.cells #[.bool false] 4)
    have hw1s : w.heap.size + 1 < w1.heap.size := (Array.getElem?_eq_some_iff.1 xR1).1
    have x2 : df.DBox (((w1.alloc (.cells #[.int .i64 (-1)] 3)).alloc (.cells #[.slice (some ⟨w1.heap.size, 0, none⟩) 1 1] 39)).alloc (.cells #[.bool false] 4)) (w.heap.size + 1) z26 := xR1.later (df.chain (df.chain B1 B2) B3)
    clear hL hZ hlv hll c25
    go_wp2_with (first | (refine wpList_build26_2 rfl (.tmp 35) (.tmp 36) rfl (.slice (some ⟨w1.heap.size + 1, 0, none⟩) 1 1) (.slice (some ⟨w1.heap.size + 1 + 1, 0, none⟩) 1 1) rfl rfl M0 hbt ?_) | (refine wpList_store_row rfl 26 (.tmp 2) (.tmp 37) rfl (w.heap.size + 1) M0 rfl rfl 26 _ x2 hi26 (by rw [z26_size, hcs]) hone2 ?_))
    refine bodyPost_ret (results_cell_row Try.results12 _ _ (w.heap.size + 1) 26 _ (0, 0) _ rfl (setRow_heap _ _ _ M0 _ _ x2) Try.underlying26 rfl hi26) rfl ?_
    have b3 := df.chain (df.chain B1 B2) B3
    have n0 : (w1.alloc (.cells #[.int .i64 (-1)] 3)).heap[w1.heap.size]? = some (.cells #[.int .i64 (-1)] 3 (0, 0)) := heap_alloc_new w1 _
    have n1 := heap_alloc_new (w1.alloc (.cells #[.int .i64 (-1)] 3)) (.cells #[.slice (some ⟨w1.heap.size, 0, none⟩) 1 1] 39)
    have n2 := heap_alloc_new ((w1.alloc (.cells #[.int .i64 (-1)] 3)).alloc (.cells #[.slice (some ⟨w1.heap.size, 0, none⟩) 1 1] 39)) (.cells #[.bool false] 4)
    rw [World.size_alloc] at n1
    rw [World.size_alloc, World.size_alloc] at n2
    have n0' := (B3.block w1.heap.size (by simp; omega)).trans ((B2.block w1.heap.size (by simp)).trans n0)
    have n1' := (B3.block (w1.heap.size + 1) (by simp)).trans n1
    generalize ((w1.alloc (.cells #[.int .i64 (-1)] 3)).alloc (.cells #[.slice (some ⟨w1.heap.size, 0, none⟩) 1 1] 39)).alloc (.cells #[.bool false] 4) = w4 at *
    obtain ⟨o', c', ao', ac', hDAT⟩ := dat_own (w := w4) (w' := w4.setRow (w.heap.size + 1) M0) (B := w1.heap.size) (X := xk d [] 0) (nv := .slice (some ⟨w1.heap.size + 1, 0, none⟩) 1 1) (av := .slice (some ⟨w1.heap.size + 1 + 1, 0, none⟩) 1 1) (vs := [.slice (some ⟨w1.heap.size, 0, none⟩) 1 1]) (rs := [[-1]]) (ac := [false])
      ⟨rfl, .inr ⟨w1.heap.size + 1 + 1, 1, #[.bool false], rfl, by omega, n2, Nat.le_refl _, by unfold maxLen; omega, rfl, rfl⟩⟩
      ⟨rfl, .inr ⟨w1.heap.size + 1, 1, #[.slice (some ⟨w1.heap.size, 0, none⟩) 1 1], rfl, by omega, n1', Nat.le_refl _, by unfold maxLen; omega, rfl, rfl⟩⟩
      (fun k hk => by
        obtain rfl : k = 0 := by simp at hk; omega
        exact ⟨_, rfl, ⟨rfl, .inr ⟨w1.heap.size, 1, #[.int .i64 (-1)], rfl, by omega, n0', Nat.le_refl _, by unfold maxLen; omega, rfl, rfl⟩⟩⟩)
      hDC (xk_len _ _ _) (fun x hx => by
        obtain ⟨j, hj, e⟩ := List.mem_iff_getElem.1 hx
        have := xk_get d [] 0 j (by rw [xk_len] at hj; exact hj)
        rw [List.getElem?_eq_getElem hj, if_neg (by omega)] at this
        rw [← e, Option.some.inj this]; omega) (fun k hk => setRow_other _ _ _ _ (by omega))
    refine ⟨_, M0, o', ao', c', ac', rfl, hDAT.carry (fun _ _ => rfl) (fun b hb => ⟨by omega, hb.2⟩), ?_, below_setRow (df.chain (df.chain B0 b1) b3) (by omega) _⟩
    have hcl : (List.range 256).map (fun i => (xk d [] 0).getD i 0) = (List.range 256).map fun _ => 0 := by
      apply List.map_congr_left
      intro j hj
      rw [List.getD_eq_getElem?_getD, xk_get d [] 0 j (List.mem_range.1 hj), if_neg (by omega)]; rfl
    show Least _ ((List.range 256).map fun i => (xk d [] 0).getD i 0) _ _
    rw [hcl]
    exact HLD.out
  · rw [h1] at k0
    have c26 := apart_any d hr cs o ao cap acap l lb w1 (HA.out.later b1) hL hZ
    clear c25 hL hZ hlv hll
    go_wp2_with (fail)
    refine wp_load_row 26 (.tmp 1) rfl w.heap.size rfl 26 cs (0, 0) _ x1 Try.underlying26 rfl (df.info26 cs hw8) ?_
    go_wp2_with (fail)
    go_at_call 26
    refine c26.mono ?_
    rintro e w2 ⟨tv, gs, t, rfl, hTB, htl, hbt, htt, b2⟩
    obtain ⟨q, qc, g0, rfl, hq1, hq2, _⟩ := hTB.at (k := 0) (by omega)
    rw [htl] at hq1
    have b12 := df.chain b1 b2
    have HTT := (show Hid (Tells d t) from htt)
    have HTB := (show Hid _ from hTB)
    have HBT := (show Hid (∀ i j, T2 t i j = 0 ∨ T2 t i j = 1) from hbt)
    have xb2 : df.DBox w2 w.heap.size cs := xA.later b12
    have HZ2 := (show Hid (ZRow w2 lb l) from HZ.out.later b2)
    obtain ⟨w3, hw3⟩ : ∃ w3, w3 = w2.alloc (.cells #[.int .i64 0] 3) := ⟨_, rfl⟩
    obtain ⟨w4, hw4⟩ : ∃ w4, w4 = w3.alloc (.cells #[] 39) := ⟨_, rfl⟩
    have B3 : Below w2.heap.size w2 w3 := by rw [hw3]; exact below_alloc w2 _
    have B4 : Below w3.heap.size w3 w4 := by rw [hw4]; exact below_alloc w3 _
    have HS3 := (show Hid (w3.heap.size = w2.heap.size + 1) from by show _ = _; rw [hw3]; simp)
    have HS := (show Hid (w4.ownsRow w2.heap.size 3 1 (.slice (some ⟨w2.heap.size, 0, none⟩) 1 1) 1 (ivl [0])) from ow.later (show w3.ownsRow w2.heap.size 3 1 (.slice (some ⟨w2.heap.size, 0, none⟩) 1 1) 1 (ivl [0]) from by
      rw [hw3]
      exact ⟨rfl, .inr ⟨w2.heap.size, 1, #[.int .i64 0], rfl, Nat.le_refl _, heap_alloc_new w2 _, Nat.le_refl _, by unfold maxLen; omega, rfl, rfl⟩⟩) B4)
    have HWD := (show Hid (w4.ownsRow w2.heap.size 39 1 (.slice (some ⟨w2.heap.size + 1, 0, none⟩) 0 0) 0 []) from by
      rw [hw4, ← HS3.out]
      exact World.ownsRow_made w3 #[] 0 (by rw [HS3.out]; omega) (Nat.zero_le _) rfl)
    have HP := (show Hid (P1 d w4 w2.heap.size (.slice (some ⟨w2.heap.size, 0, none⟩) 1 1) [0] (.slice (some ⟨w2.heap.size + 1, 0, none⟩) 0 0) 0) from ⟨[], [], gr_start d hone, ⟨HS.out, HWD.out, fun k hk => (by simp at hk), (by simp [Value.ownBlock])⟩, rfl, rfl, fun k hk => (by simp at hk)⟩)
    have B24 := df.chain B3 B4
    rw [htl]
    clear hTB c26 hbt htt x1 k0
    go_wp2_with (fail)
    rw [← hw3, ← hw4]
    clear hw3 hw4 HS HWD
    have hqn : d.next.length ≤ qc := hq1
    go_loopw [7, 5, 6] (fun y v u wr => ∃ (i : Nat) (S : List Int) (stg : Option Addr) (stc : Nat) (wtg : Option Addr) (wtc : Nat), y = .int .i64 (i : Int) ∧ v = .slice stg S.length stc ∧ u = .slice wtg i wtc ∧ i ≤ S.length ∧ S.length ≤ d.next.length ∧ S.length ≤ stc ∧ stc ≤ 9223372036854775807 ∧ i ≤ wtc ∧ wtc ≤ 9223372036854775807 ∧ Below w2.heap.size w2 wr ∧ Hid (P1 d wr w2.heap.size (.slice stg S.length stc) S (.slice wtg i wtc) i)) (fun y _ _ _ => d.next.length + 1 - (intOf y).toNat)
    case atStart => exact ⟨0, [0], _, 1, _, 0, rfl, rfl, rfl, by simp, by simpa using hone, by simp, by omega, by omega, by omega, B24, HP⟩
    case round =>
      clear HP
      obtain ⟨i, S, stg, stc, wtg, wtc, rfl, rfl, rfl, hiS, hSn, sf1, sf2, wf1, wf2, hBi, HP⟩ := hrel
      by_cases hlt : i < S.length
      · obtain ⟨vs, rows, hGr, hM, hvl, hrl, h256⟩ := HP.out
        obtain ⟨s, hs⟩ : ∃ s : Nat, S[i]? = some (s : Int) := ⟨S[i].toNat, by have := hGr.ins S[i] (List.getElem_mem hlt); rw [List.getElem?_eq_getElem hlt]; congr 1; omega⟩
        have hsn : s < d.next.length := by have := hGr.ins (s : Int) (List.mem_of_getElem? hs); omega
        obtain ⟨w5, hw5⟩ : ∃ w5, w5 = wr.alloc (.cells #[] 3) := ⟨_, rfl⟩
        have B5 : Below wr.heap.size wr w5 := by rw [hw5]; exact below_alloc wr _
        have hR0 : Rw1 w5 w2.heap.size (.slice (some ⟨wr.heap.size, 0, none⟩) 0 0) [] (.slice stg S.length stc) vs := ⟨by rw [hw5]; exact World.ownsRow_made wr #[] 0 hBi.size (Nat.zero_le _) rfl, by simp [Value.ownBlock], fun e => (by have := (ow.lt hM.s (show Value.ownBlock _ = some wr.heap.size from e.symm)).2; omega), fun k v hv e => (by
          obtain ⟨v2, e3, h1, _⟩ := hM.rs k (by rw [← hvl]; exact (List.getElem?_eq_some_iff.1 hv).1)
          rw [hv] at e3
          obtain rfl := Option.some.inj e3
          have := (ow.lt h1 (show Value.ownBlock _ = some wr.heap.size from e)).2
          omega)⟩
        have HP2 := (show Hid (P2 d w5 w2.heap.size (.slice stg S.length stc) S (.slice wtg i wtc) vs rows (.slice (some ⟨wr.heap.size, 0, none⟩) 0 0) S s 0) from ⟨[], hGr.rr s, rfl, hM.later B5, hR0⟩)
        have HGr := (show Hid (Gr d i S rows) from hGr)
        have hB5 := hBi.trans (B5.mono hBi.size)
        have HRL := (show Hid (rows.length = i) from hrl)
        clear hGr hM hR0 HP hrl
        go_wp2_with (fail)
        rw [← hw5]
        clear hw5 B5
        generalize wr = wq at *
        go_loopw [9, 5, 8] (fun y v u wr => ∃ (b : Nat) (S' : List Int) (stg : Option Addr) (stc : Nat) (rtg : Option Addr) (rtc : Nat), y = .int .i64 (b : Int) ∧ v = .slice stg S'.length stc ∧ u = .slice rtg b rtc ∧ b ≤ 256 ∧ S'.length ≤ d.next.length ∧ S'.length ≤ stc ∧ stc ≤ 9223372036854775807 ∧ b ≤ rtc ∧ rtc ≤ 9223372036854775807 ∧ Below w2.heap.size w2 wr ∧ Hid (P2 d wr w2.heap.size (.slice stg S'.length stc) S' (.slice wtg i wtc) vs rows (.slice rtg b rtc) S s b)) (fun y _ _ _ => 256 - (intOf y).toNat)
        case atStart => exact ⟨0, S, stg, stc, _, 0, rfl, rfl, rfl, by omega, hSn, sf1, sf2, by omega, by omega, hB5, HP2⟩
        case round =>
          clear HP2 hB5
          obtain ⟨b, S', stg, stc, rtg, rtc, rfl, rfl, rfl, hb, hSn', sf1, sf2, rf1, rf2, hBb, HP2⟩ := hrel
          by_cases hbl2 : b < 256
          · obtain ⟨r, hRr, hrl, hM, hR⟩ := HP2.out
            obtain ⟨sb, sc, e1, _, _, hsc⟩ := int_cell hM.s hM.ss
            cases e1
            have hsi : S'[i]? = some (s : Int) := by
              obtain ⟨ext, rfl⟩ := hRr.pre
              rw [List.getElem?_append_left hlt]; exact hs
            have hil : i < S'.length := (List.getElem?_eq_some_iff.1 hsi).1
            have hBA := b12.trans (hBb.mono b12.size)
            have ks := hsc i _ hsi
            have xi := xA.later hBA
            have z1 := xi.nx HA.out
            have z2 := xi.cl HA.out b hbl2
            obtain ⟨rb, roff, oi, ci, rfl, hrb, hrc, hrow⟩ := HA.out.rows.lie s hsn
            have k3 := (hBA.cell (p := ⟨rb, roff + s, none⟩) hrb).trans hrc
            have hwd := HOK.out.wide s hsn
            have hcl := HOK.out.cl b hbl2
            have hk256 := HOK.out.k256
            have hc8 := HA.out.c8 b
            obtain ⟨qb, qoff, rfl, hqb, hqc⟩ := hrow.lie (d.cls b) (by omega)
            have k4 : wr.cell? ⟨qb, qoff + d.cls b, none⟩ = some (.int .i64 (df.nxt d s (d.cls b))) := by
              have e2 : df.nxt d s (d.cls b) = d.next[s][d.cls b]'(by omega) := by
                unfold df.nxt
                rw [List.getElem?_eq_getElem hsn, Option.getD_some, List.getElem?_eq_getElem (by omega)]; rfl
              rw [e2]
              exact (hBA.cell (p := ⟨qb, qoff + d.cls b, none⟩) hqb).trans hqc
            have hrfit := hrow.fit
            have hrtop := hrow.top
            have hclr : d.cls b < d.next[s].length := by omega
            have hrl256 : d.next[s].length ≤ 256 := by omega
            have hnx := df.nxt_ok HOK.out s (d.cls b) hsn hcl
            have HDD := (show Hid _ from ddx_dv hr HL.out hsn hbl2)
            have HSC := (show Hid (∀ (i : Nat) (x : Int), S'[i]? = some x → wr.cell? ⟨sb, i, none⟩ = some (.int .i64 x)) from hsc)
            have HM := (show Hid _ from hM)
            have HR := (show Hid _ from hR)
            have HRr := (show Hid _ from hRr)
            have HRLb := (show Hid (r.length = b) from hrl)
            clear hrow hqc hrc xi HP2 hsc hM hR hRr hrl
            generalize d.next[s].length = rl at *
            generalize d.cls b = cb at *
            generalize df.nxt d s cb = j at *
            go_wp2_with (fail)
            go_quiet (fail)
            have hBd := df.below_drewN hBb nq
            have bd : Below wr.heap.size wr (wr.drewN nq) := df.below_drewN (Below.refl _ _) nq
            have HMd := (show Hid _ from HM.out.later bd)
            have HRd := (show Hid _ from HR.out.later bd)
            have HSd := (show Hid (∀ (i : Nat) (x : Int), S'[i]? = some x → (wr.drewN nq).cell? ⟨sb, i, none⟩ = some (.int .i64 x)) from HSC.out)
            have HZd := (show Hid (ZRow (wr.drewN nq) lb l) from HZ2.out.later hBd)
            have HTd := (show Hid _ from HTB.out.later hBd)
            clear HM HR HSC bd ks k3 k4 z1 z2 hBb hBA
            generalize wr.drewN nq = wd at *
            by_cases hj0 : j < 0
            · have HNX := (show Hid (Rr d S s (b + 1) S' (r ++ [-1])) from HRr.out.dead hbl2 (by
                rw [HDD.out.1 (by unfold ddx; rw [decide_eq_true hj0]; rfl)]; exact live_nil))
              have BX := below_alloc wd (.cells #[.int .i64 (-1)] 3)
              have HMx := (show Hid _ from HMd.out.later BX)
              have HRx := (show Hid _ from HRd.out.later BX)
              have HN1 := (show Hid _ from ow.new1 wd (.int .i64 (-1)) 3)
              have hBx : Below w2.heap.size w2 (wd.alloc (.cells #[.int .i64 (-1)] 3)) := hBd.trans (BX.mono hBd.size)
              have hBw : w2.heap.size ≤ (wd.alloc (.cells #[.int .i64 (-1)] 3)).heap.size := hBx.size
              have HOx := (show Hid (World.ownsRow (wd.alloc (.cells #[.int .i64 (-1)] 3)) w2.heap.size 3 1 (.slice rtg b rtc) b (ivl r)) from by have := HRx.out.r; rw [HRLb.out] at this; exact this)
              clear HMd HRd BX
              generalize hwx : wd.alloc (.cells #[.int .i64 (-1)] 3) = wx at *
              go_wp2_with (at_builtin; refine ow.wpList_append (by rfl) (.tmp 106) (.tmp 108) 39 (by rfl) 3 (.int .i64 0) 1 8 Try.underlying39 df.info3 (by rfl) (by decide) (by decide) w2.heap.size (.slice rtg b rtc) b (ivl r) wd.heap.size [.int .i64 (-1)] (by rfl) (by rfl) (by exact HOx.out) (by rfl) (by exact HN1.out) (by exact ow.one1 _ rfl) (by omega) (by exact hBw) ?_; intro g' cap' w6 ho hgr hw6)
              have HF := (show Hid _ from p2_app hvl HMx.out HRx.out HRLb.out HNX.out ho hgr hw6)
              have HB6 := (show Hid (Below w2.heap.size w2 w6) from grown_low HOx.out hBx hgr)
              obtain ⟨_, _, e5, e6, e7⟩ := row_len ho
              cases e5
              go_roundw
              case rel => exact ⟨b + 1, S', _, _, _, _, by go_num, rfl, rfl, by omega, hSn', sf1, sf2, e6, e7, HB6.out, HF⟩
              case measure => simp [intOf]; omega
            · obtain ⟨jn, rfl⟩ := Int.eq_ofNat_of_zero_le (show 0 ≤ j by omega)
              have hjl : jn < d.next.length := by omega
              have kl := HZd.out.at (i := jn) (by rw [HL.out.1]; exact hjl)
              rcases hbl jn with hl0 | hl1
              · rw [hl0] at kl
                have HNX := (show Hid (Rr d S s (b + 1) S' (r ++ [-1])) from HRr.out.dead hbl2 (by
                  rw [HDD.out.1 (by unfold ddx; rw [show ((jn : Nat) : Int).toNat = jn from rfl, hl0]; simp)]; exact live_nil))
                have BX := below_alloc wd (.cells #[.int .i64 (-1)] 3)
                have HMx := (show Hid _ from HMd.out.later BX)
                have HRx := (show Hid _ from HRd.out.later BX)
                have HN1 := (show Hid _ from ow.new1 wd (.int .i64 (-1)) 3)
                have hBx : Below w2.heap.size w2 (wd.alloc (.cells #[.int .i64 (-1)] 3)) := hBd.trans (BX.mono hBd.size)
                have hBw : w2.heap.size ≤ (wd.alloc (.cells #[.int .i64 (-1)] 3)).heap.size := hBx.size
                have HOx := (show Hid (World.ownsRow (wd.alloc (.cells #[.int .i64 (-1)] 3)) w2.heap.size 3 1 (.slice rtg b rtc) b (ivl r)) from by have := HRx.out.r; rw [HRLb.out] at this; exact this)
                clear HMd HRd BX
                generalize hwx : wd.alloc (.cells #[.int .i64 (-1)] 3) = wx at *
                go_wp2_with (at_builtin; refine ow.wpList_append (by rfl) (.tmp 106) (.tmp 108) 39 (by rfl) 3 (.int .i64 0) 1 8 Try.underlying39 df.info3 (by rfl) (by decide) (by decide) w2.heap.size (.slice rtg b rtc) b (ivl r) wd.heap.size [.int .i64 (-1)] (by rfl) (by rfl) (by exact HOx.out) (by rfl) (by exact HN1.out) (by exact ow.one1 _ rfl) (by omega) (by exact hBw) ?_; intro g' cap' w6 ho hgr hw6)
                have HF := (show Hid _ from p2_app hvl HMx.out HRx.out HRLb.out HNX.out ho hgr hw6)
                have HB6 := (show Hid (Below w2.heap.size w2 w6) from grown_low HOx.out hBx hgr)
                obtain ⟨_, _, e5, e6, e7⟩ := row_len ho
                cases e5
                go_roundw
                case rel => exact ⟨b + 1, S', _, _, _, _, by go_num, rfl, rfl, by omega, hSn', sf1, sf2, e6, e7, HB6.out, HF⟩
                case measure => simp [intOf]; omega
              · rw [hl1] at kl
                obtain ⟨_, _, hlive, hdv⟩ := HDD.out.2 (by unfold ddx; rw [show ((jn : Nat) : Int).toNat = jn from rfl, hl1, decide_eq_false (by omega)]; rfl)
                have HLV := (show Hid (Live (lg d jn) ∧ dv (lg d s) (by8 b) = lg d jn) from ⟨hlive, hdv⟩)
                have HIN := (show Hid (∀ x ∈ S', 0 ≤ x ∧ x < (d.next.length : Int)) from HRr.out.ins)
                have HTC := (show Hid (∀ x : Nat, x < d.next.length → ∃ g, wd.cell? ⟨q, jn, none⟩ = some (rv d.next.length g) ∧ wd.cell? ⟨g, x, none⟩ = some (.int .i64 (T2 t jn x)) ∧ (T2 t jn x = 0 ∨ T2 t jn x = 1)) from fun x hx => by
                  obtain ⟨q', qc', g, e1, _, _, _, _, hc1, hz1, hz2⟩ := HTd.out.at (k := jn) (by omega)
                  cases e1
                  exact ⟨g, hc1, hz1.at (by omega), HBT.out jn x⟩)
                clear hlive hdv HDD
                go_wp2_with (fail)
                go_loopw [79, 11] (fun y v wr => ∃ (m : Nat) (k : Int), y = .int .i64 (m : Int) ∧ v = .int .i64 k ∧ m ≤ S'.length ∧ -1 ≤ k ∧ k < (S'.length : Int) ∧ wr = wd ∧ Hid (Lk t S' jn m k)) (fun y _ _ => S'.length - (intOf y).toNat)
                case atStart => exact ⟨0, -1, rfl, rfl, by omega, by omega, by omega, rfl, .inl ⟨rfl, fun i x hi => by omega⟩⟩
                case round =>
                  obtain ⟨m, k, rfl, rfl, hm, hk1, hk2, rfl, HLK⟩ := hrel
                  by_cases hml : m < S'.length
                  · obtain ⟨x, hx⟩ : ∃ x, S'[m]? = some x := ⟨_, List.getElem?_eq_getElem hml⟩
                    have hxr := HIN.out x (List.mem_of_getElem? hx)
                    obtain ⟨xn, rfl⟩ := Int.eq_ofNat_of_zero_le hxr.1
                    have kx := HSd.out m _ hx
                    have hxl : xn < d.next.length := by omega
                    by_cases hkn : k < 0
                    · obtain rfl : k = -1 := by omega
                      obtain ⟨g, kg1, kg2, hb2⟩ := HTC.out xn hxl
                      rcases hb2 with ht0 | ht1
                      · have HF := (show Hid (Lk t S' jn (m + 1) (m : Int)) from .inr ⟨m, (xn : Int), rfl, hx, ht0⟩)
                        rw [ht0] at kg2
                        clear HLK hx ht0
                        go_wp2_with (fail)
                        go_roundw
                        case rel => exact ⟨m + 1, (m : Int), by go_num, rfl, by omega, by omega, by omega, (by first | rfl | trivial), HF⟩
                        case measure => simp [intOf]; omega
                      · have HF := (show Hid (Lk t S' jn (m + 1) (-1)) from by
                          rcases HLK.out with ⟨_, h2⟩ | ⟨i2, x2, e2, _⟩
                          · refine .inl ⟨rfl, fun i2 x2 hi2 hx2 => ?_⟩
                            by_cases e3 : i2 = m
                            · subst e3
                              rw [hx] at hx2
                              obtain rfl := Option.some.inj hx2
                              rw [show T2 t jn ((xn : Nat) : Int).toNat = 1 from ht1]; omega
                            · exact h2 i2 x2 (by omega) hx2
                          · omega)
                        rw [ht1] at kg2
                        clear HLK hx ht1
                        go_wp2_with (fail)
                        go_roundw
                        case rel => exact ⟨m + 1, -1, by go_num, rfl, by omega, by omega, by omega, (by first | rfl | trivial), HF⟩
                        case measure => simp [intOf]; omega
                    · have HF := (show Hid (Lk t S' jn (m + 1) k) from by
                        rcases HLK.out with ⟨e2, _⟩ | h2
                        · omega
                        · exact .inr h2)
                      have hkn2 : 0 ≤ k := by omega
                      clear HLK hx
                      go_wp2_with (fail)
                      go_roundw
                      case rel => exact ⟨m + 1, k, by go_num, rfl, by omega, by omega, by omega, (by first | rfl | trivial), HF⟩
                      case measure => simp [intOf]; omega
                  · obtain rfl : m = S'.length := by omega
                    by_cases hkn : k < 0
                    · obtain rfl : k = -1 := by omega
                      have HNW := (show Hid (Rr d S s (b + 1) (S' ++ [(jn : Int)]) (r ++ [(S'.length : Int)])) from HRr.out.new hjl HLV.out.2 HLV.out.1 (fun k x hk => (by
                        rcases HLK.out with ⟨_, h2⟩ | ⟨i2, x2, e2, _⟩
                        · have hxr := HIN.out x (List.mem_of_getElem? hk)
                          exact fun e => h2 k x (List.getElem?_eq_some_iff.1 hk).1 hk ((HTT.out jn x.toNat hjl (by omega)).2 e.symm)
                        · omega)))
                      have hfew := Gr.few HNW.out.nd HNW.out.ins
                      rw [List.length_append] at hfew
                      have hfew2 : S'.length + 1 ≤ d.next.length := hfew
                      have BY := below_alloc wr (.cells #[.int .i64 (jn : Int)] 3)
                      have HMy := (show Hid _ from HMd.out.later BY)
                      have HRy := (show Hid _ from HRd.out.later BY)
                      have HN1 := (show Hid _ from ow.new1 wr (.int .i64 (jn : Int)) 3)
                      have hBy : Below w2.heap.size w2 (wr.alloc (.cells #[.int .i64 (jn : Int)] 3)) := hBd.trans (BY.mono hBd.size)
                      have hBw : w2.heap.size ≤ (wr.alloc (.cells #[.int .i64 (jn : Int)] 3)).heap.size := hBy.size
                      have HOy := (show Hid _ from HMy.out.s)
                      clear HLK HMd HRd BY hfew
                      go_wp2_with (first | (at_builtin; refine ow.wpList_append (by rfl) (.tmp 102) (.tmp 104) 39 (by rfl) 3 (.int .i64 0) 1 8 Try.underlying39 df.info3 (by rfl) (by decide) (by decide) w2.heap.size (.slice (some ⟨sb, 0, none⟩) S'.length stc) S'.length (ivl S') wr.heap.size [.int .i64 (jn : Int)] (by rfl) (by rfl) (by exact HOy.out) (by rfl) (by exact HN1.out) (by exact ow.one1 _ rfl) (by omega) (by exact hBw) ?_; intro g' cap' w7 ho hgr hw7; have HM7 := (show Hid _ from HMy.out.met ho hgr (blk_or (n := S'.length + 1) (c := cap') hw7)); have HR7 := (show Hid _ from HRy.out.met hgr (blk_or (n := S'.length + 1) (c := cap') hw7)); have hB7 := grown_low HOy.out hBy hgr; have B8 := below_alloc w7 (.cells #[.int .i64 (S'.length : Int)] 3); have HM8 := (show Hid _ from HM7.out.later B8); have HR8 := (show Hid _ from HR7.out.later B8); have HN8 := (show Hid _ from ow.new1 w7 (.int .i64 (S'.length : Int)) 3); have hB8 : Below w2.heap.size w2 (w7.alloc (.cells #[.int .i64 (S'.length : Int)] 3)) := hB7.trans (B8.mono hB7.size); have hBw8 : w2.heap.size ≤ (w7.alloc (.cells #[.int .i64 (S'.length : Int)] 3)).heap.size := hB8.size; have HO8 := (show Hid (World.ownsRow (w7.alloc (.cells #[.int .i64 (S'.length : Int)] 3)) w2.heap.size 3 1 (.slice rtg b rtc) b (ivl r)) from (by have := HR8.out.r; rw [HRLb.out] at this; exact this)); clear HOy HMy HRy HM7 HR7 B8) | (at_builtin; refine ow.wpList_append (by rfl) (.tmp 106) (.tmp 108) 39 (by rfl) 3 (.int .i64 0) 1 8 Try.underlying39 df.info3 (by rfl) (by decide) (by decide) w2.heap.size (.slice rtg b rtc) b (ivl r) w7.heap.size [.int .i64 (S'.length : Int)] (by rfl) (by rfl) (by exact HO8.out) (by rfl) (by exact HN8.out) (by exact ow.one1 _ rfl) (by omega) (by exact hBw8) ?_; intro g8 cap8 w9 ho9 hgr9 hw9))
                      have HF := (show Hid _ from p2_app hvl HM8.out HR8.out HRLb.out HNW.out ho9 hgr9 hw9)
                      have HB9 := (show Hid (Below w2.heap.size w2 w9) from grown_low HO8.out hB8 hgr9)
                      obtain ⟨_, _, e5, e6, e7⟩ := row_len ho9
                      cases e5
                      obtain ⟨_, _, e8, e9, e10⟩ := row_len ho
                      cases e8
                      go_roundw
                      case rel => exact ⟨b + 1, S' ++ [(jn : Int)], _, _, _, _, by go_num, (by rw [List.length_append]; rfl), rfl, by omega, (by rw [List.length_append]; exact hfew2), (by rw [List.length_append]; exact e9), e10, e6, e7, HB9.out, (by rw [List.length_append]; exact HF)⟩
                      case measure => simp [intOf]; omega
                    · obtain ⟨kn, rfl⟩ := Int.eq_ofNat_of_zero_le (show 0 ≤ k by omega)
                      have HNX := (show Hid (Rr d S s (b + 1) S' (r ++ [(kn : Int)])) from by
                        rcases HLK.out with ⟨e2, _⟩ | ⟨i2, x2, e2, hx2, ht2⟩
                        · omega
                        · obtain rfl : kn = i2 := by omega
                          have hx3 := HIN.out x2 (List.mem_of_getElem? hx2)
                          exact HRr.out.old HLV.out.2 HLV.out.1 hx2 ((HTT.out jn x2.toNat hjl (by omega)).1 ht2).symm)
                      have hkk : kn < S'.length := by omega
                      clear HLK
                      have BX := below_alloc wr (.cells #[.int .i64 (kn : Int)] 3)
                      have HMx := (show Hid _ from HMd.out.later BX)
                      have HRx := (show Hid _ from HRd.out.later BX)
                      have HN1 := (show Hid _ from ow.new1 wr (.int .i64 (kn : Int)) 3)
                      have hBx : Below w2.heap.size w2 (wr.alloc (.cells #[.int .i64 (kn : Int)] 3)) := hBd.trans (BX.mono hBd.size)
                      have hBw : w2.heap.size ≤ (wr.alloc (.cells #[.int .i64 (kn : Int)] 3)).heap.size := hBx.size
                      have HOx := (show Hid (World.ownsRow (wr.alloc (.cells #[.int .i64 (kn : Int)] 3)) w2.heap.size 3 1 (.slice rtg b rtc) b (ivl r)) from by have := HRx.out.r; rw [HRLb.out] at this; exact this)
                      clear HMd HRd BX
                      generalize hwx : wr.alloc (.cells #[.int .i64 (kn : Int)] 3) = wx at *
                      go_wp2_with (at_builtin; refine ow.wpList_append (by rfl) (.tmp 106) (.tmp 108) 39 (by rfl) 3 (.int .i64 0) 1 8 Try.underlying39 df.info3 (by rfl) (by decide) (by decide) w2.heap.size (.slice rtg b rtc) b (ivl r) wr.heap.size [.int .i64 (kn : Int)] (by rfl) (by rfl) (by exact HOx.out) (by rfl) (by exact HN1.out) (by exact ow.one1 _ rfl) (by omega) (by exact hBw) ?_; intro g' cap' w6 ho hgr hw6)
                      have HF := (show Hid _ from p2_app hvl HMx.out HRx.out HRLb.out HNX.out ho hgr hw6)
                      have HB6 := (show Hid (Below w2.heap.size w2 w6) from grown_low HOx.out hBx hgr)
                      obtain ⟨_, _, e5, e6, e7⟩ := row_len ho
                      cases e5
                      go_roundw
                      case rel => exact ⟨b + 1, S', _, _, _, _, by go_num, rfl, rfl, by omega, hSn', sf1, sf2, e6, e7, HB6.out, HF⟩
                      case measure => simp [intOf]; omega
          · obtain rfl : b = 256 := by omega
            obtain ⟨r, hRr, hrl, hM, hR⟩ := HP2.out
            have HG2 := (show Hid (Gr d (i + 1) S' (rows ++ [r])) from HGr.out.step hs hRr)
            have B9 := below_alloc wr (.cells #[.slice rtg 256 rtc] 39)
            have HM9 := (show Hid _ from hM.later B9)
            have HR9 := (show Hid _ from hR.later B9)
            have HN9 := (show Hid _ from ow.new1 wr (.slice rtg 256 rtc) 39)
            have hB9 : Below w2.heap.size w2 (wr.alloc (.cells #[.slice rtg 256 rtc] 39)) := hBb.trans (B9.mono hBb.size)
            have hBw : w2.heap.size ≤ (wr.alloc (.cells #[.slice rtg 256 rtc] 39)).heap.size := hB9.size
            have HO9 := (show Hid (World.ownsRow (wr.alloc (.cells #[.slice rtg 256 rtc] 39)) w2.heap.size 39 1 (.slice wtg i wtc) i vs) from by have := HM9.out.wd; rw [HRL.out] at this; exact this)
            have hsl := HG2.out.le
            clear HP2 hM hR hRr B9
            generalize hwb : wr.alloc (.cells #[.slice rtg 256 rtc] 39) = wb at *
            go_wp2_with (at_builtin; refine ow.wpList_append (by rfl) (.tmp 110) (.tmp 112) 23 (by rfl) 39 (.slice none 0 0) 1 24 Try.underlying23 info39t (by rfl) (by decide) (by decide) w2.heap.size (.slice wtg i wtc) i vs wr.heap.size [.slice rtg 256 rtc] (by rfl) (by rfl) (by exact HO9.out) (by rfl) (by exact HN9.out) (by exact ow.one1 _ rfl) (by omega) (by exact hBw) ?_; intro g' cap' w9 ho hgr hw9)
            have HF := (show Hid (P1 d w9 w2.heap.size (.slice stg S'.length stc) S' (.slice (some ⟨g', 0, none⟩) (i + 1) cap') (i + 1)) from ⟨vs ++ [.slice rtg 256 rtc], rows ++ [r], HG2.out, HM9.out.push HR9.out hvl (by rw [HRL.out]; exact ho) hgr, by rw [List.length_append, List.length_append, hvl]; rfl, by rw [List.length_append, HRL.out]; rfl, fun k hk => (by
              rw [List.length_append] at hk
              by_cases e : k < rows.length
              · have en : nthL (rows ++ [r]) k = nthL rows k := by unfold nthL; rw [List.getD_eq_getElem?_getD, List.getD_eq_getElem?_getD, List.getElem?_append_left e]
                rw [en]; exact h256 k e
              · obtain rfl : k = rows.length := by simp at hk; omega
                have en : nthL (rows ++ [r]) rows.length = r := by unfold nthL; rw [List.getD_eq_getElem?_getD, List.getElem?_append_right (Nat.le_refl _)]; simp
                rw [en]; exact hrl)⟩)
            have HB10 := (show Hid (Below w2.heap.size w2 w9) from grown_low HO9.out hB9 hgr)
            obtain ⟨_, _, e5, e6, e7⟩ := row_len ho
            cases e5
            go_roundw
            case rel => exact ⟨i + 1, S', stg, stc, _, _, by go_num, rfl, rfl, by omega, hSn', sf1, sf2, e6, e7, HB10.out, HF⟩
            case measure => simp [intOf]; omega
      · obtain rfl : i = S.length := by omega
        obtain ⟨vs, rows, hGr, hM, hvl, hrl, h256⟩ := HP.out
        have HLE := (show Hid _ from hGr.least)
        have HIN := (show Hid (∀ x ∈ S, 0 ≤ x ∧ x < (d.next.length : Int)) from hGr.ins)
        have hbd := run26_0
        have hz := zero26
        have hst := store26 wr z26 z26_size z26_one
        have hzz := z26_size
        obtain ⟨w5, hw5⟩ : ∃ w5, w5 = wr.alloc (.cells z26 26) := ⟨_, rfl⟩
        obtain ⟨w6, hw6⟩ : ∃ w6, w6 = w5.alloc (.cells #[] 3) := ⟨_, rfl⟩
        have B5 : Below wr.heap.size wr w5 := by rw [hw5]; exact below_alloc wr _
        have B6 : Below w5.heap.size w5 w6 := by rw [hw6]; exact below_alloc w5 _
        have HS5 := (show Hid (w5.heap.size = wr.heap.size + 1) from by show _ = _; rw [hw5]; simp)
        have HC := (show Hid (C2 w6 wr.heap.size (.slice (some ⟨wr.heap.size + 1, 0, none⟩) 0 0) (colOf rows) 0) from ⟨(show DL w5 wr.heap.size (Xb (colOf rows) 0) (.slice none 0 0) (.slice none 0 0) from ⟨z26, by rw [hw5]; exact heap_alloc_new wr _, z26_cells _⟩).keep (B6.block _ (by rw [HS5.out]; omega)), by
          rw [hw6, ← HS5.out]
          exact World.ownsRow_made w5 #[] 0 (Nat.le_refl _) (Nat.zero_le _) rfl, by simp [Value.ownBlock]⟩)
        have HM := (show Hid _ from hM)
        have H256 := (show Hid (∀ k, k < rows.length → (nthL rows k).length = 256) from h256)
        have hB56 := df.chain B5 B6
        have HRL := (show Hid (rows.length = S.length) from hrl)
        clear hM HP hGr h256 hrl
        go_wp2_with (fail)
        rw [← hw5, ← hw6]
        clear hw5 hw6 hbd hz hst B5 B6
        generalize wr = w0 at *
        go_loopw [16, 15] (fun y v wr => ∃ (b : Nat) (ltg : Option Addr) (ltc : Nat), y = .int .i64 (b : Int) ∧ v = .slice ltg (firsts (colOf rows) b).length ltc ∧ b ≤ 256 ∧ (firsts (colOf rows) b).length ≤ ltc ∧ ltc ≤ 9223372036854775807 ∧ Below w0.heap.size w0 wr ∧ Hid (C2 wr w0.heap.size (.slice ltg (firsts (colOf rows) b).length ltc) (colOf rows) b)) (fun y _ _ => 256 - (intOf y).toNat)
        case atStart => exact ⟨0, _, 0, rfl, rfl, by omega, by simp [firsts], by omega, hB56, HC⟩
        case round =>
          clear HC hB56
          obtain ⟨b, ltg, ltc, rfl, rfl, hb, lf1, lf2, hBb, HC⟩ := hrel
          have hfl := firsts_len (colOf rows) b
          by_cases hbl4 : b < 256
          · have HLC := (show Hid (Lc (colOf rows) b 0 (-1)) from Lc.start (colOf rows) b)
            have HFL := (show Hid (∀ (c f : Nat), (firsts (colOf rows) b)[c]? = some f → f < b) from fun c f h => firsts_lt _ _ f (List.mem_of_getElem? h))
            have HFE := (show Hid (∀ c, c < (firsts (colOf rows) b).length → ∃ f : Nat, (firsts (colOf rows) b)[c]? = some f ∧ (fsI (colOf rows) b)[c]? = some (f : Int)) from fun c hc => ⟨_, List.getElem?_eq_getElem hc, fsI_get (List.getElem?_eq_getElem hc)⟩)
            obtain ⟨nf, hnf⟩ : ∃ nf, nf = (firsts (colOf rows) b).length := ⟨_, rfl⟩
            have HNF := (show Hid (nf = (firsts (colOf rows) b).length) from hnf)
            rw [← hnf] at HFE HC lf1 hfl ⊢
            clear hnf
            go_wp2_with (fail)
            go_loopw [122, 17] (fun y v wr => ∃ (c : Nat) (k : Int), y = .int .i64 (c : Int) ∧ v = .int .i64 k ∧ c ≤ nf ∧ -1 ≤ k ∧ k < 256 ∧ Below w0.heap.size w0 wr ∧ Hid (C2 wr w0.heap.size (.slice ltg nf ltc) (colOf rows) b) ∧ Hid (Lc (colOf rows) b c k)) (fun y _ _ => nf - (intOf y).toNat)
            case atStart => exact ⟨0, -1, rfl, rfl, by omega, by omega, by omega, hBb, HC, HLC⟩
            case round =>
              clear HC HLC hBb
              obtain ⟨c, k, rfl, rfl, hc, hk1, hk2, hBc, HC, HLC⟩ := hrel
              by_cases hcl5 : c < nf
              · obtain ⟨f, hf, hfi⟩ := HFE.out c hcl5
                have hfb := HFL.out c f hf
                obtain ⟨lb5, lc5, e5, _, _, hlc⟩ := int_cell (show World.ownsRow _ _ _ _ _ (fsI (colOf rows) b).length (ivl (fsI (colOf rows) b)) from by rw [fsI_len]; exact HC.out.2.1) HC.out.2.2
                have e5' : ltg = some ⟨lb5, 0, none⟩ := by cases e5; rfl
                subst e5'
                have kf := hlc c _ hfi
                have HSM := (show Hid (Sm rows b f 0 true) from Sm.start rows b f)
                clear hlc e5 hfi
                go_wp2_with (fail)
                clear kf
                go_loopw [129, 20] (fun y v wr => ∃ (m : Nat) (same : Bool), y = .int .i64 (m : Int) ∧ v = .bool same ∧ m ≤ S.length ∧ Below w0.heap.size w0 wr ∧ Hid (C2 wr w0.heap.size (.slice (some ⟨lb5, 0, none⟩) nf ltc) (colOf rows) b) ∧ Hid (Sm rows b f m same)) (fun y _ _ => S.length - (intOf y).toNat)
                case atStart => exact ⟨0, true, rfl, rfl, by omega, hBc, HC, HSM⟩
                case round =>
                  clear HC HSM hBc
                  obtain ⟨m, same, rfl, rfl, hm, hBm, HC, HSM⟩ := hrel
                  by_cases hml : m < S.length
                  · obtain ⟨q6, c6, rb6, rc6, e6, _, _, kq, r61, r62, krow⟩ := row_read (HM.out.later hBm) hvl (k := m) (by rw [HRL.out]; exact hml) (H256.out m (by rw [HRL.out]; exact hml))
                    rw [HRL.out] at e6
                    have e6' : wtg = some ⟨q6, 0, none⟩ := by cases e6; rfl
                    subst e6'
                    have kb6 := krow b hbl4
                    have kf6 := krow f (by omega)
                    have HS2 := (show Hid (Sm rows b f (m + 1) (same && decide (atL (nthL rows m) b = atL (nthL rows m) f))) from HSM.out.step)
                    have HCd := (show Hid (∀ nq, C2 (wr.drewN nq) w0.heap.size (.slice (some ⟨lb5, 0, none⟩) nf ltc) (colOf rows) b) from fun nq => HC.out.later (df.below_drewN (Below.refl _ _) nq))
                    have hf256 : f < 256 := by omega
                    clear krow HSM e6
                    generalize atL (nthL rows m) b = x6 at *
                    generalize atL (nthL rows m) f = y6 at *
                    cases same with
                    | true =>
                      by_cases hxy : x6 = y6
                      · have hbb : (x6 == y6) = true := beq_iff_eq.2 hxy
                        rw [decide_eq_true hxy] at HS2
                        clear hxy
                        go_wp2_with (fail)
                        go_quiet (fail)
                        go_wp2_with (fail)
                        go_roundw
                        case rel => exact ⟨m + 1, true, by go_num, rfl, by omega, df.below_drewN hBm _, HCd.out _, HS2⟩
                        case measure => simp [intOf]; omega
                      · have hbb : (x6 == y6) = false := beq_eq_false_iff_ne.2 hxy
                        rw [decide_eq_false hxy] at HS2
                        go_wp2_with (fail)
                        go_quiet (fail)
                        go_wp2_with (fail)
                        go_roundw
                        case rel => exact ⟨m + 1, false, by go_num, rfl, by omega, df.below_drewN hBm _, HCd.out _, HS2⟩
                        case measure => simp [intOf]; omega
                    | false =>
                      go_wp2_with (fail)
                      go_quiet (fail)
                      go_wp2_with (fail)
                      go_roundw
                      case rel => exact ⟨m + 1, false, by go_num, rfl, by omega, df.below_drewN hBm _, HCd.out _, HS2⟩
                      case measure => simp [intOf]; omega
                  · obtain rfl : m = S.length := by omega
                    have HSD := (show Hid (same = true ↔ colOf rows f = colOf rows b) from by have := HSM.out; rw [← HRL.out] at this; exact this.done)
                    clear HSM
                    by_cases hkn : k < 0
                    · obtain rfl : k = -1 := by omega
                      cases same with
                      | true =>
                        have HF := (show Hid (Lc (colOf rows) b (c + 1) (c : Int)) from Lc.yes hf (HSD.out.1 rfl))
                        clear HSD HLC
                        go_wp2_with (fail)
                        go_roundw
                        case rel => exact ⟨c + 1, (c : Int), by go_num, rfl, by omega, by omega, by omega, hBm, HC, HF⟩
                        case measure => simp [intOf]; omega
                      | false =>
                        have HF := (show Hid (Lc (colOf rows) b (c + 1) (-1)) from HLC.out.no hf (fun e => by have := HSD.out.2 e; cases this))
                        clear HSD HLC
                        go_wp2_with (fail)
                        go_roundw
                        case rel => exact ⟨c + 1, -1, by go_num, rfl, by omega, by omega, by omega, hBm, HC, HF⟩
                        case measure => simp [intOf]; omega
                    · have HF := (show Hid (Lc (colOf rows) b (c + 1) k) from HLC.out.keep (by omega))
                      have hk0 : 0 ≤ k := by omega
                      clear HSD HLC
                      cases same with
                      | true =>
                        go_wp2_with (fail)
                        go_roundw
                        case rel => exact ⟨c + 1, k, by go_num, rfl, by omega, by omega, by omega, hBm, HC, HF⟩
                        case measure => simp [intOf]; omega
                      | false =>
                        go_wp2_with (fail)
                        go_roundw
                        case rel => exact ⟨c + 1, k, by go_num, rfl, by omega, by omega, by omega, hBm, HC, HF⟩
                        case measure => simp [intOf]; omega
              · obtain rfl : c = nf := by omega
                by_cases hkn : k < 0
                · obtain rfl : k = -1 := by omega
                  have HNW := (show Hid (firsts (colOf rows) (b + 1) = firsts (colOf rows) b ++ [b] ∧ clsOf (colOf rows) 256 b = (firsts (colOf rows) b).length) from Lc.new hbl4 (by have := HLC.out; rw [HNF.out] at this; exact this))
                  have BY := below_alloc wr (.cells #[.int .i64 (b : Int)] 3)
                  have HCy := (show Hid (C2 (wr.alloc (.cells #[.int .i64 (b : Int)] 3)) w0.heap.size (.slice ltg c ltc) (colOf rows) b) from HC.out.later BY)
                  have HN1 := (show Hid _ from ow.new1 wr (.int .i64 (b : Int)) 3)
                  have hBy : Below w0.heap.size w0 (wr.alloc (.cells #[.int .i64 (b : Int)] 3)) := hBc.trans (BY.mono hBc.size)
                  have hBw : w0.heap.size + 1 ≤ (wr.alloc (.cells #[.int .i64 (b : Int)] 3)).heap.size := by have := HCy.out.1.lt; omega
                  have HOy := (show Hid (World.ownsRow (wr.alloc (.cells #[.int .i64 (b : Int)] 3)) (w0.heap.size + 1) 3 1 (.slice ltg c ltc) c (ivl (fsI (colOf rows) b))) from by have := HCy.out.2.1; rw [← HNF.out] at this; exact this)
                  have hnf256 : c ≤ 255 := by omega
                  clear HC HLC BY
                  go_wp2_with (at_builtin; refine ow.wpList_append (by rfl) (.tmp 157) (.tmp 159) 39 (by rfl) 3 (.int .i64 0) 1 8 Try.underlying39 df.info3 (by rfl) (by decide) (by decide) (w0.heap.size + 1) (.slice ltg c ltc) c (ivl (fsI (colOf rows) b)) wr.heap.size [.int .i64 (b : Int)] (by rfl) (by rfl) (by exact HOy.out) (by rfl) (by exact HN1.out) (by exact ow.one1 _ rfl) (by omega) (by exact hBw) ?_; intro g' cap' w7 ho hgr hw7; have hfz := (HCy.out.1.keep (hgr.block w0.heap.size HCy.out.1.lt (by obtain ⟨_, hcb, _⟩ := HCy.out.1; exact ow.type HOy.out hcb (by decide)))).fz b; obtain ⟨u7, ku7⟩ : ∃ u, w7.cell? ⟨w0.heap.size, b, none⟩ = some u := (by obtain ⟨u, hu⟩ := HCy.out.cell hbl4; exact ⟨u, by have e9 := hgr.block w0.heap.size HCy.out.1.lt (by obtain ⟨_, hcb, _⟩ := HCy.out.1; exact ow.type HOy.out hcb (by decide)); simp only [World.cell?, e9] at hu ⊢; exact hu⟩))
                  have HC7 := (show Hid (C2 (w7.setCell ⟨w0.heap.size, b, none⟩ (.int .u8 (c : Int))) w0.heap.size (.slice (some ⟨g', 0, none⟩) (c + 1) cap') (colOf rows) (b + 1)) from by
                    have h := HCy.out.new hbl4 HNW.out.1 HNW.out.2 (lv' := .slice (some ⟨g', 0, none⟩) (c + 1) cap') (by rw [← HNF.out]; exact ho) hgr (by simp [Value.ownBlock])
                    rw [← HNF.out] at h
                    exact h)
                  have hB7 : Below w0.heap.size w0 w7 := grown_low (W := w0) (show World.ownsRow (wr.alloc (.cells #[.int .i64 (b : Int)] 3)) w0.heap.size 3 1 (.slice ltg c ltc) c (ivl (fsI (colOf rows) b)) from ⟨HOy.out.1, by
                    rcases HOy.out.2 with h0 | ⟨g, cap, cur, h1, h2, h3⟩
                    · exact .inl h0
                    · exact .inr ⟨g, cap, cur, h1, by omega, h3⟩⟩) hBy hgr
                  have HB7 := (show Hid (Below w0.heap.size w0 (w7.setCell ⟨w0.heap.size, b, none⟩ (.int .u8 (c : Int)))) from hB7.setCell (p := ⟨w0.heap.size, b, none⟩) (by simp) _)
                  have HLA := (show Hid ((firsts (colOf rows) (b + 1)).length = c + 1) from by rw [HNW.out.1, List.length_append, ← HNF.out]; rfl)
                  obtain ⟨_, _, e8, e9, e10⟩ := row_len ho
                  cases e8
                  go_roundw
                  case rel => exact ⟨b + 1, some ⟨g', 0, none⟩, cap', by go_num, (by rw [HLA.out]), by omega, (by rw [HLA.out]; exact e9), e10, HB7.out, (by rw [HLA.out]; exact HC7)⟩
                  case measure => simp [intOf]; omega
                · obtain ⟨kn, rfl⟩ := Int.eq_ofNat_of_zero_le (show 0 ≤ k by omega)
                  have HNW := (show Hid (firsts (colOf rows) (b + 1) = firsts (colOf rows) b ∧ clsOf (colOf rows) 256 b = kn ∧ kn < (firsts (colOf rows) b).length) from Lc.old hbl4 (by have := HLC.out; rw [HNF.out] at this; exact this))
                  have hkn8 : kn < 256 := by omega
                  obtain ⟨u7, ku7⟩ := HC.out.cell hbl4
                  have hfz := HC.out.1.fz b
                  have HC4 := (show Hid _ from HC.out.old hbl4 HNW.out.1 HNW.out.2.1)
                  have HB4 := (show Hid (Below w0.heap.size w0 (wr.setCell ⟨w0.heap.size, b, none⟩ (.int .u8 (kn : Int)))) from hBc.setCell (p := ⟨w0.heap.size, b, none⟩) (by simp) _)
                  have HNE := (show Hid ((firsts (colOf rows) (b + 1)).length = c) from by rw [HNW.out.1]; exact HNF.out.symm)
                  clear HLC HC
                  go_wp2_with (fail)
                  go_roundw
                  case rel => exact ⟨b + 1, ltg, ltc, by go_num, (by rw [HNE.out]), by omega, (by rw [HNE.out]; exact lf1), lf2, HB4.out, (by rw [HNE.out]; exact HC4)⟩
                  case measure => simp [intOf]; omega
          · obtain rfl : b = 256 := by omega
            have HX := (show Hid (Xb (colOf rows) 256 = (List.range 256).map (clsOf (colOf rows) 256)) from by
              unfold Xb
              apply List.map_congr_left
              intro i hi
              rw [if_pos (List.mem_range.1 hi)])
            have bA0 := df.chain b12 hBi
            have hx0 : w.heap.size + 1 < w0.heap.size := by have := (Array.getElem?_eq_some_iff.1 xR).1; have := bA0.size; omega
            have hlo : (firsts (colOf rows) 256).length ≤ 256 := firsts_len _ _
            have HT0 := (show Hid (T7 wr w0.heap.size w0.heap.size (Xb (colOf rows) 256) (.slice ltg (firsts (colOf rows) 256).length ltc) (fsI (colOf rows) 256) (.slice none 0 0) (.slice none 0 0) [] [] []) from ⟨HC.out.1, Nat.le_refl _, by rw [fsI_len]; exact own_wide HC.out.2.1 (by omega), own_nil _ _ _, own_nil _ _ _, fun k hk => (by simp at hk)⟩)
            have HLN := (show Hid ((Value.slice ltg (firsts (colOf rows) 256).length ltc).ownBlock ≠ none) from HC.out.2.2)
            have HFE := (show Hid (∀ c, c < (firsts (colOf rows) 256).length → ∃ f : Nat, f < 256 ∧ (fsI (colOf rows) 256)[c]? = some (f : Int)) from fun c hc => ⟨(firsts (colOf rows) 256)[c], firsts_lt _ _ _ (List.getElem_mem hc), fsI_get (List.getElem?_eq_getElem hc)⟩)
            obtain ⟨nf, hnf⟩ : ∃ nf, nf = (firsts (colOf rows) 256).length := ⟨_, rfl⟩
            obtain ⟨fs, hfs⟩ : ∃ fs, fs = fsI (colOf rows) 256 := ⟨_, rfl⟩
            obtain ⟨X, hX⟩ : ∃ X, X = Xb (colOf rows) 256 := ⟨_, rfl⟩
            have HNF := (show Hid (nf = (firsts (colOf rows) 256).length) from hnf)
            have HFS := (show Hid (fs = fsI (colOf rows) 256) from hfs)
            have HXX := (show Hid (X = Xb (colOf rows) 256) from hX)
            rw [← hnf, ← hfs, ← hX] at HT0
            rw [← hnf] at HLN HFE lf1 hlo ⊢
            rw [← hfs] at HFE
            clear hnf hfs hX HC hfl
            rw [show (((256 : Nat) : Int)) = (256 : Int) from rfl]
            go_wp2_with (fail)
            go_loopw [168] (fun y wr => ∃ (i : Nat) (nv av : Value) (vq : List Value), y = .int .i64 (i : Int) ∧ i ≤ S.length ∧ Below w0.heap.size w0 wr ∧ Hid (T7 wr w0.heap.size w0.heap.size X (.slice ltg nf ltc) fs nv av vq ((rows.take i).map fun r => (firsts (colOf rows) 256).map fun c => r.getD c 0) ((S.take i).map fun s => df.acpt d s.toNat))) (fun y _ => S.length - (intOf y).toNat)
            case atStart => exact ⟨0, _, _, [], rfl, by omega, hBb, HT0⟩
            case round =>
              clear HT0 hBb
              obtain ⟨i, nv, av, vq, rfl, hi, hB, HT⟩ := hrel
              by_cases hil : i < S.length
              · have hir : i < rows.length := by rw [HRL.out]; exact hil
                obtain ⟨q6, c6, rb6, rc6, e6, _, _, kq, r61, r62, krow⟩ := row_read (HM.out.later hB) hvl (k := i) hir (H256.out i hir)
                rw [HRL.out] at e6
                have e6' : wtg = some ⟨q6, 0, none⟩ := by cases e6; rfl
                subst e6'
                obtain ⟨lb5, lc5, e5, _, _, hlc⟩ := int_cell (show World.ownsRow _ _ _ _ _ fs.length (ivl fs) from HT.out.ll) HLN.out
                have e5' : ltg = some ⟨lb5, 0, none⟩ := by cases e5; rfl
                subst e5'
                obtain ⟨wS, rfl⟩ : ∃ wS : World, wS = wr := ⟨_, rfl⟩
                obtain ⟨r, hr9⟩ : ∃ r, r = nthL rows i := ⟨_, rfl⟩
                rw [← hr9] at krow
                have HKR := (show Hid (∀ W, Below wS.heap.size wS W → ∀ b, b < 256 → W.cell? ⟨rb6, b, none⟩ = some (.int .i64 (atL r b))) from fun W hW b hb => by
                  have h1 := krow b hb
                  rw [hW.cell (p := ⟨rb6, b, none⟩) (block_lt_of_cell h1)]; exact h1)
                have HLC := (show Hid (∀ W, Below wS.heap.size wS W → ∀ (c : Nat) (f : Int), fs[c]? = some f → W.cell? ⟨lb5, c, none⟩ = some (.int .i64 f)) from fun W hW c f hf => by
                  have h1 := hlc c f hf
                  rw [hW.cell (p := ⟨lb5, c, none⟩) (block_lt_of_cell h1)]; exact h1)
                have HRW := (show Hid (r = nthL rows i) from hr9)
                have B5 := below_alloc wS (.cells #[] 3)
                have HR0 := (show Hid ((wS.alloc (.cells #[] 3)).ownsRow wS.heap.size 3 1 (.slice (some ⟨wS.heap.size, 0, none⟩) 0 0) 0 (ivl ((fs.take 0).map fun f => atL r f.toNat))) from World.ownsRow_made wS #[] 0 (Nat.le_refl _) (Nat.zero_le _) rfl)
                clear krow hlc e5 e6 hr9
                go_wp2_with (fail)
                clear kq
                go_loopw [176, 25] (fun y v W => ∃ (c : Nat) (rtg : Option Addr) (rtc : Nat), y = .int .i64 (c : Int) ∧ v = .slice rtg c rtc ∧ c ≤ nf ∧ c ≤ rtc ∧ rtc ≤ 9223372036854775807 ∧ Below wS.heap.size wS W ∧ Hid (W.ownsRow wS.heap.size 3 1 (.slice rtg c rtc) c (ivl ((fs.take c).map fun f => atL r f.toNat)))) (fun y _ _ => nf - (intOf y).toNat)
                case atStart => exact ⟨0, _, 0, rfl, rfl, by omega, by omega, by omega, B5, HR0⟩
                case round =>
                  clear HR0 B5
                  obtain ⟨c, rtg, rtc, rfl, rfl, hc, rf1, rf2, hBc, HR⟩ := hrel
                  by_cases hcl8 : c < nf
                  · obtain ⟨f, hf8, hfc⟩ := HFE.out c hcl8
                    have kf := HLC.out wr hBc c _ hfc
                    have kr := HKR.out wr hBc f hf8
                    have hfm : (fs.take (c + 1)).map (fun f => atL r f.toNat) = (fs.take c).map (fun f => atL r f.toNat) ++ [atL r f] := by
                      rw [List.take_add_one, hfc, List.map_append]; rfl
                    have HFM := (show Hid _ from hfm)
                    obtain ⟨x, hx⟩ : ∃ x, x = atL r f := ⟨_, rfl⟩
                    rw [← hx] at kr HFM
                    have BY := below_alloc wr (.cells #[.int .i64 x] 3)
                    have HOy := (show Hid (World.ownsRow (wr.alloc (.cells #[.int .i64 x] 3)) wS.heap.size 3 1 (.slice rtg c rtc) c (ivl ((fs.take c).map fun f => atL r f.toNat))) from ow.later HR.out BY)
                    have HN1 := (show Hid _ from ow.new1 wr (.int .i64 x) 3)
                    have hBy : Below wS.heap.size wS (wr.alloc (.cells #[.int .i64 x] 3)) := df.chain hBc BY
                    have hBw : wS.heap.size ≤ (wr.alloc (.cells #[.int .i64 x] 3)).heap.size := hBy.size
                    clear HR hfm hx hfc BY
                    generalize (fs.take c).map (fun f => atL r f.toNat) = l8 at *
                    go_wp2_with (at_builtin; refine ow.wpList_append (by rfl) (.tmp 180) (.tmp 185) 39 (by rfl) 3 (.int .i64 0) 1 8 Try.underlying39 df.info3 (by rfl) (by decide) (by decide) wS.heap.size (.slice rtg c rtc) c (ivl l8) wr.heap.size [.int .i64 x] (by rfl) (by rfl) (by exact HOy.out) (by rfl) (by exact HN1.out) (by exact ow.one1 _ rfl) (by omega) (by exact hBw) ?_; intro g' cap' w6 ho hgr hw6)
                    have HB6 := (show Hid (Below wS.heap.size wS w6) from grown_low HOy.out hBy hgr)
                    have HF := (show Hid (w6.ownsRow wS.heap.size 3 1 (.slice (some ⟨g', 0, none⟩) (c + 1) cap') (c + 1) (ivl ((fs.take (c + 1)).map fun f => atL r f.toNat))) from by rw [HFM.out]; unfold ivl; rw [List.map_append]; exact ho)
                    obtain ⟨_, _, e5, e6, e7⟩ := row_len ho
                    cases e5
                    go_roundw
                    case rel => exact ⟨c + 1, _, _, by go_num, rfl, by omega, e6, e7, HB6.out, HF⟩
                    case measure => simp [intOf]; omega
                  · obtain rfl : c = nf := by omega
                    have hfl8 : fs.length = c := by rw [HFS.out, fsI_len, HNF.out]
                    have HRM := (show Hid (fs.map (fun f => atL r f.toNat) = (firsts (colOf rows) 256).map fun c => r.getD c 0) from by rw [HFS.out]; unfold fsI; rw [List.map_map]; rfl)
                    have HOR := (show Hid (wr.ownsRow w0.heap.size 3 1 (.slice rtg c rtc) ((firsts (colOf rows) 256).map fun c => r.getD c 0).length (ivl ((firsts (colOf rows) 256).map fun c => r.getD c 0))) from by
                      have h1 := HR.out
                      rw [List.take_of_length_le (by omega), HRM.out] at h1
                      rw [List.length_map, ← HNF.out]
                      exact own_wide h1 hB.size)
                    have HTr := (show Hid _ from HT.out.later hBc)
                    have hBr : Below w0.heap.size w0 wr := df.chain hB hBc
                    have HRT := (show Hid (((rows.take i).map fun r => (firsts (colOf rows) 256).map fun c => r.getD c 0) ++ [(firsts (colOf rows) 256).map fun c => r.getD c 0] = (rows.take (i + 1)).map fun r => (firsts (colOf rows) 256).map fun c => r.getD c 0) from by
                      show _ = _
                      rw [List.take_succ_eq_append_getElem hir, List.map_append, HRW.out]
                      unfold nthL
                      rw [List.getD_eq_getElem?_getD, List.getElem?_eq_getElem hir]; rfl)
                    have hrtl : ((rows.take i).map fun r => (firsts (colOf rows) 256).map fun c => r.getD c 0).length = i := by rw [List.length_map, List.length_take]; omega
                    have HTL := (show Hid _ from hrtl)
                    obtain ⟨s, hs⟩ : ∃ s : Nat, S[i]? = some (s : Int) := ⟨S[i].toNat, by have := HIN.out S[i] (List.getElem_mem hil); rw [List.getElem?_eq_getElem hil]; congr 1; omega⟩
                    have hsn : s < d.next.length := by have := HIN.out (s : Int) (List.mem_of_getElem? hs); omega
                    have HAT := (show Hid (((S.take i).map fun s => df.acpt d s.toNat) ++ [df.acpt d s] = (S.take (i + 1)).map fun s => df.acpt d s.toNat) from by
                      show _ = _
                      rw [List.take_add_one, hs, List.map_append]; rfl)
                    have hatl : ((S.take i).map fun s => df.acpt d s.toNat).length = i := by rw [List.length_map, List.length_take]; omega
                    have HATL := (show Hid _ from hatl)
                    clear HR hrtl hatl hfl8 HT
                    generalize ((rows.take i).map fun r => (firsts (colOf rows) 256).map fun c => r.getD c 0) = RS at *
                    generalize ((S.take i).map fun s => df.acpt d s.toNat) = AC at *
                    generalize ((firsts (colOf rows) 256).map fun c => r.getD c 0) = r9 at *
                    obtain ⟨og, oc, hnv, _, _⟩ := row_len HTr.out.nx
                    rw [HTL.out] at hnv
                    have kn := HTr.out.box.cn
                    rw [hnv] at kn
                    have BE := below_alloc wr (.cells #[.slice rtg c rtc] 39)
                    have HTE := (show Hid _ from HTr.out.later BE)
                    have HOE := (show Hid _ from ow.later HOR.out BE)
                    have HNE := (show Hid _ from ow.new1 wr (.slice rtg c rtc) 39)
                    have HXE := (show Hid (World.ownsRow (wr.alloc (.cells #[.slice rtg c rtc] 39)) w0.heap.size 39 1 (.slice og i oc) i vq) from by have h1 := HTE.out.nx; rw [HTL.out, hnv] at h1; exact h1)
                    have hBE : Below w0.heap.size w0 (wr.alloc (.cells #[.slice rtg c rtc] 39)) := df.chain hBr BE
                    have hBEs := hBE.size
                    have HP9 := (show Hid (∀ (v' : Value) (w' : World), w'.ownsRow w0.heap.size 39 1 v' (i + 1) (vq ++ [.slice rtg c rtc]) → (wr.alloc (.cells #[.slice rtg c rtc] 39)).grownBy w' (Value.slice og i oc).ownBlock → Hid (T7 (w'.setCell ⟨w0.heap.size, 256, none⟩ v') w0.heap.size w0.heap.size X (.slice (some ⟨lb5, 0, none⟩) c ltc) fs v' av (vq ++ [.slice rtg c rtc]) (RS ++ [r9]) AC) ∧ DL w' w0.heap.size X nv av ∧ Below w0.heap.size w0 (w'.setCell ⟨w0.heap.size, 256, none⟩ v')) from fun v' w' h1 h2 => by
                      have h3 := HTE.out.push HOE.out (by rw [HTL.out]; exact h1) (by rw [hnv]; exact h2)
                      exact ⟨h3.1, h3.2, (grown_low HXE.out hBE h2).setCell (p := ⟨w0.heap.size, 256, none⟩) (by simp) _⟩)
                    clear BE HTr HOR HTE HOE
                    go_wp2_with (at_builtin; refine ow.wpList_append (by rfl) (.tmp 189) (.tmp 191) 23 (by rfl) 39 (.slice none 0 0) 1 24 Try.underlying23 info39t (by rfl) (by decide) (by decide) w0.heap.size (.slice og i oc) i vq wr.heap.size [.slice rtg c rtc] (by rfl) (by rfl) (by exact HXE.out) (by rfl) (by exact HNE.out) (by exact ow.one1 _ rfl) (by omega) (by exact hBEs) ?_; intro g' cap' w9 ho hgr hw9; obtain ⟨HT9, hDL9, hB9⟩ := HP9.out _ _ ho hgr; have kz9 := hDL9.cn; have fz9 := hDL9.fz 256)
                    obtain ⟨wC, hwC⟩ : ∃ wC, wC = w9.setCell ⟨w0.heap.size, 256, none⟩ (.slice (some ⟨g', 0, none⟩) (i + 1) cap') := ⟨_, rfl⟩
                    rw [← hwC] at HT9 hB9 ⊢
                    clear hwC hDL9 kz9 fz9 HP9 HXE HNE ho hgr hw9 kn hBE
                    obtain ⟨wD, hwD⟩ : ∃ wD, wD = wC.drew := ⟨_, rfl⟩
                    have HTD := (show Hid (T7 wD w0.heap.size w0.heap.size X (.slice (some ⟨lb5, 0, none⟩) c ltc) fs (.slice (some ⟨g', 0, none⟩) (i + 1) cap') av (vq ++ [.slice rtg c rtc]) (RS ++ [r9]) AC) from by rw [hwD]; exact HT9.out.later (Below.refl _ _).drew)
                    have bAC : Below wA.heap.size wA wC := df.chain bA0 hB9
                    have kAD := (xA.later bAC).ac (HA.out.later bAC)
                    have hsl : s < d.acc.length := by omega
                    obtain ⟨ba, oa, hao, hba0, kcc0⟩ := df.acc_at HA.out s hsl
                    have hba : ba < wA.heap.size := hba0
                    have kcc : wC.cell? ⟨ba, oa + s, none⟩ = some (.bool (df.acpt d s)) := by rw [bAC.cell (p := ⟨ba, oa + s, none⟩) hba]; exact kcc0
                    rw [hao] at kAD
                    obtain ⟨sb, sc, es, _, _, hsc⟩ := int_cell HM.out.s HM.out.ss
                    have es' : stg = some ⟨sb, 0, none⟩ := by cases es; rfl
                    subst es'
                    have ks0 := hsc i _ hs
                    have hsb : sb < w0.heap.size := block_lt_of_cell ks0
                    have ks : wC.cell? ⟨sb, 0 + i, none⟩ = some (.int .i64 (s : Int)) := by rw [Nat.zero_add, hB9.cell (p := ⟨sb, i, none⟩) hsb]; exact ks0
                    have hA0 := bA0.size
                    have hwAs : w.heap.size < wA.heap.size := (Array.getElem?_eq_some_iff.1 xA).1
                    have hqS : ∀ W : World, (∀ k, k < w0.heap.size → W.heap[k]? = wC.heap[k]?) → (W.cell? ⟨w.heap.size, 257, none⟩ = some (.slice (some ⟨ba, oa, none⟩) d.acc.length acap) ∧ W.cell? ⟨ba, oa + s, none⟩ = some (.bool (df.acpt d s)) ∧ W.cell? ⟨sb, 0 + i, none⟩ = some (.int .i64 (s : Int))) := fun W hW => by
                      refine ⟨?_, ?_, ?_⟩
                      · have h1 := kAD; simp only [World.cell?, hW w.heap.size (by omega)] at h1 ⊢; exact h1
                      · have h1 := kcc; simp only [World.cell?, hW ba (by omega)] at h1 ⊢; exact h1
                      · have h1 := ks; simp only [World.cell?, hW sb hsb] at h1 ⊢; exact h1
                    obtain ⟨og2, oc2, hav, _, _⟩ := row_len HTD.out.ac
                    rw [HATL.out] at hav
                    obtain ⟨wE2, hwE2⟩ : ∃ wE2, wE2 = wD.alloc (.cells #[.bool (df.acpt d s)] 4) := ⟨_, rfl⟩
                    have bE2 : Below wD.heap.size wD wE2 := by rw [hwE2]; exact below_alloc wD _
                    have HTE2 := (show Hid _ from HTD.out.later bE2)
                    have kvD := HT9.out.box.ca
                    have kvE := HTE2.out.box.ca
                    rw [hav] at kvD kvE
                    have hownE2 : wE2.ownsRow w0.heap.size 4 1 (.slice og2 i oc2) i (AC.map Value.bool) := by have h1 := HTE2.out.ac; rw [HATL.out, hav] at h1; exact h1
                    have hKE2 : w0.heap.size ≤ wE2.heap.size := by have := HTE2.out.box.lt; omega
                    have hbE2 : wE2.heap[wC.heap.size]? = some (.cells #[.bool (df.acpt d s)] 4 (0, 0)) := by rw [hwE2, hwD]; exact heap_alloc_new wC.drew _
                    obtain ⟨q3, cq3, wG, eG, ho3, hg3, _⟩ := app24 (w := wE2) (g0 := wC.heap.size) (b := df.acpt d s) HATL.out hownE2 hbE2 (by omega) hKE2
                    have hBD : Below w0.heap.size w0 wE2 := df.chain (hB9.trans (by rw [hwD]; exact (Below.refl _ _).drew)) bE2
                    have hBG0 : Below w0.heap.size w0 wG := grown_low hownE2 hBD hg3
                    obtain ⟨hT10, hDLG⟩ := HTE2.out.acc (by rw [HATL.out]; exact ho3) (by rw [hav]; exact hg3)
                    have t1 := hDLG.fz 257
                    have t2 := hDLG.ca
                    rw [hav] at t2
                    have hBG : Below w0.heap.size w0 (wG.setCell ⟨w0.heap.size, 257, none⟩ (.slice (some ⟨q3, 0, none⟩) (i + 1) cq3)) := hBG0.setCell (p := ⟨w0.heap.size, 257, none⟩) (by simp) _
                    have HT10 := (show Hid (T7 (wG.setCell ⟨w0.heap.size, 257, none⟩ (.slice (some ⟨q3, 0, none⟩) (i + 1) cq3)) w0.heap.size w0.heap.size X (.slice (some ⟨lb5, 0, none⟩) c ltc) fs (.slice (some ⟨g', 0, none⟩) (i + 1) cap') (.slice (some ⟨q3, 0, none⟩) (i + 1) cq3) (vq ++ [.slice rtg c rtc]) ((rows.take (i + 1)).map fun r => (firsts (colOf rows) 256).map fun c => r.getD c 0) ((S.take (i + 1)).map fun s => df.acpt d s.toNat)) from by rw [← HRT.out, ← HAT.out]; exact hT10)
                    have lowC : ∀ (W : World), Below w0.heap.size w0 W → ∀ k, k < w0.heap.size → W.heap[k]? = wC.heap[k]? := fun W b k hk => (b.block k hk).trans (hB9.block k hk).symm
                    have kS := hqS wC.drew (fun k hk => rfl)
                    have kE := hqS wE2 (lowC _ hBD)
                    have kG := hqS wG (lowC _ hBG0)
                    have kH := hqS _ (lowC _ hBG)
                    have hdl : d.acc.length ≤ 1000 := by omega
                    have hSl : S.length ≤ 1000 := by omega
                    clear hT10 hDLG HTE2 HTD HT9 hownE2 hKE2 hg3 ho3 kcc kcc0 ks ks0 kAD lowC hqS hsc es
                    generalize df.acpt d s = bb at *
                    refine wp_region_held (S := fun W => W.cell? ⟨w.heap.size, 257, none⟩ = some (.slice (some ⟨ba, oa, none⟩) d.acc.length acap) ∧ W.cell? ⟨ba, oa + s, none⟩ = some (.bool bb) ∧ W.cell? ⟨sb, 0 + i, none⟩ = some (.int .i64 (s : Int))) (by kernel_rfl) ?_
                    refine rg.take_op (i := 0) 194 rfl rfl (rg.yields_run rfl (v := .pointer (some ⟨w0.heap.size, 257, none⟩)) (fun W h => by kernel_rfl)) (by kernel_rfl) (by kernel_rfl) (by kernel_rfl) (fun _ _ _ h => h) kS ?_
                    simp only [Act.put, List.setIfInBounds_toArray, List.set_cons_zero, List.set_cons_succ]
                    refine rg.take_op (i := 2) 196 rfl rfl (rg.yields_run rfl (v := .pointer (some ⟨w.heap.size, 257, none⟩)) (fun W h => by kernel_rfl)) (by kernel_rfl) (by kernel_rfl) (by kernel_rfl) (fun _ _ _ h => h) kS ?_
                    simp only [Act.put, List.setIfInBounds_toArray, List.set_cons_zero, List.set_cons_succ]
                    refine rg.take_op (i := 3) 197 rfl rfl (rg.yields_run rfl (v := .slice (some ⟨ba, oa, none⟩) d.acc.length acap) (fun W h => x_load24 rfl rfl h.1)) (by kernel_rfl) (by kernel_rfl) (by kernel_rfl) (fun _ _ _ h => h) kS ?_
                    simp only [Act.put, List.setIfInBounds_toArray, List.set_cons_zero, List.set_cons_succ]
                    refine rg.take_op (i := 4) 198 rfl rfl (rg.yields_run rfl (v := .slice (some ⟨sb, 0, none⟩) S.length stc) (fun W h => by kernel_rfl)) (by kernel_rfl) (by kernel_rfl) (by kernel_rfl) (fun _ _ _ h => h) kS ?_
                    simp only [Act.put, List.setIfInBounds_toArray, List.set_cons_zero, List.set_cons_succ]
                    refine rg.take_op (i := 5) 199 rfl rfl (rg.yields_run rfl (v := .int .i64 (i : Int)) (fun W h => by kernel_rfl)) (by kernel_rfl) (by kernel_rfl) (by kernel_rfl) (fun _ _ _ h => h) kS ?_
                    simp only [Act.put, List.setIfInBounds_toArray, List.set_cons_zero, List.set_cons_succ]
                    refine rg.take_op (i := 6) 200 rfl rfl (rg.yields_run rfl (v := .pointer (some ⟨sb, 0 + i, none⟩)) (fun W h => y_idx39 rfl rfl rfl hil hSl)) (by kernel_rfl) (by kernel_rfl) (by kernel_rfl) (fun _ _ _ h => h) kS ?_
                    simp only [Act.put, List.setIfInBounds_toArray, List.set_cons_zero, List.set_cons_succ]
                    refine rg.take_op (i := 7) 201 rfl rfl (rg.yields_run rfl (v := .int .i64 (s : Int)) (fun W h => y_load3 rfl rfl h.2.2)) (by kernel_rfl) (by kernel_rfl) (by kernel_rfl) (fun _ _ _ h => h) kS ?_
                    simp only [Act.put, List.setIfInBounds_toArray, List.set_cons_zero, List.set_cons_succ]
                    refine rg.take_op (i := 8) 202 rfl rfl (rg.yields_run rfl (v := .pointer (some ⟨ba, oa + s, none⟩)) (fun W h => x_idx24 rfl rfl rfl hsl hdl)) (by kernel_rfl) (by kernel_rfl) (by kernel_rfl) (fun _ _ _ h => h) kS ?_
                    simp only [Act.put, List.setIfInBounds_toArray, List.set_cons_zero, List.set_cons_succ]
                    refine rg.take_op (i := 9) 203 rfl rfl (rg.yields_run rfl (v := .bool bb) (fun W h => x_load4 rfl rfl h.2.1)) (by kernel_rfl) (by kernel_rfl) (by kernel_rfl) (fun _ _ _ h => h) kS ?_
                    simp only [Act.put, List.setIfInBounds_toArray, List.set_cons_zero, List.set_cons_succ]
                    refine rg.two (i := 1) (j := 10) (by kernel_rfl) ?_ ?_
                    · refine rg.op_val 1 195 (v := .slice og2 i oc2) (w' := wC.drew) rfl rfl rfl (x_load24 rfl rfl kvD) ⟨kS, ?_⟩
                      simp only [Act.put, List.setIfInBounds_toArray, List.set_cons_zero, List.set_cons_succ]
                      refine rg.one (i := 10) (by kernel_rfl) (rg.op_val 10 204 (v := .slice (some ⟨wC.heap.size, 0, none⟩) 1 1) (w' := wE2) rfl rfl rfl (by rw [hwE2, hwD]; exact x_build24 (w := wC.drew) rfl rfl) ⟨kE, ?_⟩)
                      simp only [Act.put, List.setIfInBounds_toArray, List.set_cons_zero, List.set_cons_succ]
                      refine rg.one (i := 11) (by kernel_rfl) (rg.op_val 11 205 (v := .slice (some ⟨q3, 0, none⟩) (i + 1) cq3) (w' := wG) rfl rfl rfl (x_app24 rfl rfl rfl rfl eG) ⟨kG, ?_⟩)
                      simp only [Act.put, List.setIfInBounds_toArray, List.set_cons_zero, List.set_cons_succ]
                      refine rg.take_op (i := 12) 206 rfl rfl (rg.yields_run rfl (v := .pointer (some ⟨w0.heap.size, 257, none⟩)) (fun W h => by kernel_rfl)) (by kernel_rfl) (by kernel_rfl) (by kernel_rfl) (fun _ _ _ h => h) kG ?_
                      simp only [Act.put, List.setIfInBounds_toArray, List.set_cons_zero, List.set_cons_succ]
                      refine rg.one (i := 13) (by kernel_rfl) (rg.op_skip 13 rfl rfl rfl (x_store24 rfl rfl rfl t2 t1) ⟨kH, ?_⟩)
                      refine rg.done_op (by kernel_rfl) ?_
                      go_wp2_with (fail)
                      go_roundw
                      case rel => exact ⟨i + 1, _, _, _, by go_num, by omega, hBG, HT10⟩
                      case measure => simp [intOf]; omega
                    · refine rg.op_val 10 204 (v := .slice (some ⟨wC.heap.size, 0, none⟩) 1 1) (w' := wE2) rfl rfl rfl (by rw [hwE2, hwD]; exact x_build24 (w := wC.drew) rfl rfl) ⟨kE, ?_⟩
                      simp only [Act.put, List.setIfInBounds_toArray, List.set_cons_zero, List.set_cons_succ]
                      refine rg.one (i := 1) (by kernel_rfl) (rg.op_val 1 195 (v := .slice og2 i oc2) (w' := wE2) rfl rfl rfl (x_load24 rfl rfl kvE) ⟨kE, ?_⟩)
                      simp only [Act.put, List.setIfInBounds_toArray, List.set_cons_zero, List.set_cons_succ]
                      refine rg.one (i := 11) (by kernel_rfl) (rg.op_val 11 205 (v := .slice (some ⟨q3, 0, none⟩) (i + 1) cq3) (w' := wG) rfl rfl rfl (x_app24 rfl rfl rfl rfl eG) ⟨kG, ?_⟩)
                      simp only [Act.put, List.setIfInBounds_toArray, List.set_cons_zero, List.set_cons_succ]
                      refine rg.take_op (i := 12) 206 rfl rfl (rg.yields_run rfl (v := .pointer (some ⟨w0.heap.size, 257, none⟩)) (fun W h => by kernel_rfl)) (by kernel_rfl) (by kernel_rfl) (by kernel_rfl) (fun _ _ _ h => h) kG ?_
                      simp only [Act.put, List.setIfInBounds_toArray, List.set_cons_zero, List.set_cons_succ]
                      refine rg.one (i := 13) (by kernel_rfl) (rg.op_skip 13 rfl rfl rfl (x_store24 rfl rfl rfl t2 t1) ⟨kH, ?_⟩)
                      refine rg.done_op (by kernel_rfl) ?_
                      go_wp2_with (fail)
                      go_roundw
                      case rel => exact ⟨i + 1, _, _, _, by go_num, by omega, hBG, HT10⟩
                      case measure => simp [intOf]; omega
              · obtain rfl : i = S.length := by omega
                have hT := HT.out
                rw [List.take_of_length_le (by rw [HRL.out]; omega), List.take_of_length_le (Nat.le_refl _)] at hT
                obtain ⟨cl2, hb2, hd2⟩ := hT.box
                have hcs := hd2.size
                have hone2 : cl2.all (·.oneCell') = true := by
                  obtain ⟨o1, c1, e1⟩ := own_sl hT.nx
                  obtain ⟨o2, c2, e2⟩ := own_sl hT.ac
                  rw [e1, e2] at hd2
                  exact hd2.one
                have hi26 := df.info26 cl2 hcs
                have HTT := (show Hid _ from hT)
                have HD2 := (show Hid _ from hd2)
                have bAW : Below wA.heap.size wA wr := df.chain bA0 hB
                have hX2 : df.DBox wr (w.heap.size + 1) z26 := xR.later bAW
                clear hT hd2 HT
                go_wp2_with (first | (refine wpList_load_row rfl 26 (.tmp 14) rfl w0.heap.size rfl 26 cl2 (0, 0) _ hb2 Try.underlying26 rfl hi26 ?_) | (refine wpList_store_row rfl 26 (.tmp 2) (.tmp 208) rfl (w.heap.size + 1) cl2 rfl rfl 26 _ hX2 hi26 (by rw [z26_size, hcs]) hone2 ?_))
                refine bodyPost_ret (results_cell_row Try.results12 _ _ (w.heap.size + 1) 26 _ (0, 0) _ rfl (setRow_heap wr _ _ cl2 _ _ hX2) Try.underlying26 rfl hi26) rfl ?_
                have hX8 : ∀ x ∈ X, x < 256 := fun x hx => by
                  rw [HXX.out, HX.out] at hx
                  obtain ⟨j, hj, rfl⟩ := List.mem_map.1 hx
                  have := cls_lt (colOf rows) (List.mem_range.1 hj)
                  have h3 := firsts_len (colOf rows) 256
                  omega
                have hXl : X.length = 256 := by rw [HXX.out]; exact Xb_len _ _
                obtain ⟨o', c', ao', ac', hDAT⟩ := HTT.out.dat (w' := wr.setRow (w.heap.size + 1) cl2) HD2.out hXl hX8 (fun k hk => setRow_other _ _ _ _ (by omega))
                refine ⟨_, cl2, o', ao', c', ac', rfl, hDAT.carry (fun _ _ => rfl) (fun b hb => ⟨by omega, hb.2⟩), ?_, below_setRow (df.chain B0 bAW) (by omega) _⟩
                have hcl : (List.range 256).map (fun i => X.getD i 0) = X := by
                  apply List.ext_getElem (by simp [hXl])
                  intro j h1 h2
                  rw [List.getElem_map, List.getElem_range, List.getD_eq_getElem?_getD, List.getElem?_eq_getElem h2]; rfl
                show Least _ ((List.range 256).map fun i => X.getD i 0) _ _
                rw [hcl, HXX.out, HX.out]
                exact HLE.out
end Go.Proofs.Ytkdkibnjfgcppaa.mi
