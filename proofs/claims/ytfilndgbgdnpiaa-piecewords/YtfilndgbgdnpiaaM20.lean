/-
  Texts put together: Contracts over this program: fretsawref07's Ends. Contracts over this program: the document's Pieces (fretsawref10), by an expression's own words.
-/
import Derived.Test.YtfilndgbgdnpiaaM19
import Derived.Test.YtfilndgbgdnpiaaKPk
namespace Go.Proofs.Ytfilndgbgdnpiaa.nb
open Go.ChangeShapes Go.WideShapes Go.ChangeAt Go.RowKit
open st (Tr Q4 nodesOf goods okNode Is Box nthT)
open nf (Ed IRow icells dOf)
open df (Row iv In IntsV)
set_option linter.unusedVariables false

/-- the places that are marked, one behind the other -/
structure Lst (S : Nat → Prop) (i : Nat) (K : List Int) : Prop where
  up : K.Pairwise (· < ·)
  mem : ∀ u, u ∈ K ↔ ∃ j : Nat, j < i ∧ u = (j : Int) ∧ S j
  len : K.length ≤ i
theorem lst_nil (S : Nat → Prop) : Lst S 0 [] := ⟨List.Pairwise.nil, fun u => ⟨fun h => absurd h (by simp), fun ⟨j, h, _⟩ => by omega⟩, Nat.le_refl _⟩
theorem Lst.yes {S : Nat → Prop} {i : Nat} {K : List Int} (h : Lst S i K) (hs : S i) : Lst S (i + 1) (K ++ [(i : Int)]) := by
  refine ⟨List.pairwise_append.2 ⟨h.up, List.pairwise_singleton _ _, fun a ha b hb => ?_⟩, fun u => ?_, by rw [List.length_append]; have := h.len; simp; omega⟩
  · obtain ⟨j, h1, rfl, _⟩ := (h.mem a).1 ha
    rw [List.mem_singleton] at hb
    subst hb
    omega
  · rw [List.mem_append, h.mem, List.mem_singleton]
    constructor
    · rintro (⟨j, h1, h2, h3⟩ | rfl)
      · exact ⟨j, by omega, h2, h3⟩
      · exact ⟨i, by omega, rfl, hs⟩
    · rintro ⟨j, h1, h2, h3⟩
      by_cases e : j = i
      · subst e; exact .inr h2
      · exact .inl ⟨j, by omega, h2, h3⟩
theorem Lst.no {S : Nat → Prop} {i : Nat} {K : List Int} (h : Lst S i K) (hs : ¬ S i) : Lst S (i + 1) K := by
  refine ⟨h.up, fun u => ?_, Nat.le_succ_of_le h.len⟩
  rw [h.mem]
  constructor
  · rintro ⟨j, h1, h2, h3⟩
    exact ⟨j, by omega, h2, h3⟩
  · rintro ⟨j, h1, h2, h3⟩
    by_cases e : j = i
    · subst e; exact absurd h3 hs
    · exact ⟨j, by omega, h2, h3⟩
theorem owns_later2 {W W' : World} {B : Nat} {v : Value} {l : List Int} (h : df.Owns W B v l) (b : Below W.heap.size W W') : df.Owns W' B v l := by
  refine ⟨h.1, ?_⟩
  rcases h.2 with h0 | ⟨g, cap, cur, rfl, hb, hg, hr⟩
  · exact .inl h0
  · exact .inr ⟨g, cap, cur, rfl, hb, (b.block g (Array.getElem?_eq_some_iff.1 hg).1).trans hg, hr⟩
theorem info3b : (Try.prog.info? 3).map (fun i => (i.zero, i.size, i.bytes)) = some (some (.int .i64 0), 1, 8) := by kernel_rfl
def REndsIs (s : ByteArray) (t : Tr) (at' : Nat) (L : List Int) : Prop := ∀ (tv : Value) (w : World) (Q0 : Nat → Prop), Is w Q0 t tv → Calls Try.prog 15 #[trV t tv, .string s, .int .i64 (at' : Int)] w fun e w' => ∃ v, e = .returned v ∧ IntsV w' v L ∧ Below w.heap.size w w'
set_option maxHeartbeats 4000000 in
set_option maxRecDepth 100000 in
theorem rends_any (s : ByteArray) (hs : s.size ≤ 60) (t : Tr) (hfrom : FromIs s t) (at' : Nat) (hat : at' ≤ s.size) (L : List Int) (hL : Lst (fun j => Tk (txOf s) t at' j) (s.size + 1) L) : REndsIs s t at' L := by
  intro tv w Q0 hI
  obtain ⟨o, n0, cap0, rfl⟩ := hI.shape
  have hm : ∀ W, (Instr.makeSlice 79 (.int .i64 ((s.size : Int) + 1)) (.int .i64 ((s.size : Int) + 1))).run Try.prog W = .ok (.slice (some ⟨W.heap.size, 0, none⟩) (s.size + 1) (s.size + 1)) (W.alloc (.cells (icells (List.replicate (s.size + 1) 0)) 3)) := fun W => by
    have := make79 (s.size + 1) (by omega) W
    rw [Int.natCast_add] at this
    exact this
  obtain ⟨w2, HW2⟩ : ∃ w2, Hid (w2 = (w.alloc (.cells #[.int .i64 t.kind, .int .u64 t.set.a, .int .u64 t.set.b, .int .u64 t.set.c, .int .u64 t.set.d, .int .i64 t.min, .int .i64 t.max, .slice o n0 cap0] 28)).alloc (.cells (icells (List.replicate (s.size + 1) 0)) 3)) := ⟨_, rfl⟩
  have HT0 := (show Hid _ from two_new w t _ (s.size + 1) w2 HW2.out)
  have HT1 := (show Hid _ from HT0.out.put at' 1)
  have hw2s : w2.heap.size = w.heap.size + 1 + 1 := by rw [HW2.out]; simp
  have kc := HT0.out.out.cell at' (by simp; omega)
  have kf := HT0.out.out.fz at'
  rw [List.getElem_replicate] at kc
  have HP1 := (show Hid (PlOf (fun j => j = at') (s.size + 1) ((List.replicate (s.size + 1) (0 : Int)).set at' 1)) from ((plOf_none (s.size + 1)).put at' (by omega)).to fun j _ => ⟨fun h => h.elim (fun h => h.elim) id, .inr⟩)
  obtain ⟨w3, HW3⟩ : ∃ w3, Hid (w3 = (w2.setCell ⟨w.heap.size + 1, at', none⟩ (.int .i64 1)).alloc (.cells #[] 3)) := ⟨_, rfl⟩
  have hsz : (w2.setCell ⟨w.heap.size + 1, at', none⟩ (.int .i64 1)).heap.size = w2.heap.size := by simp
  have hb3 : Below (w2.setCell ⟨w.heap.size + 1, at', none⟩ (.int .i64 1)).heap.size (w2.setCell ⟨w.heap.size + 1, at', none⟩ (.int .i64 1)) w3 := by rw [HW3.out]; exact nf.below_alloc _ _
  have HT3 := (show Hid _ from HT1.out.later hb3)
  have hO3 : w3.ownsRow w.heap.size 3 1 (.slice (some ⟨w2.heap.size, 0, none⟩) 0 0) ([] : List Int).length (([] : List Int).map (Value.int .i64)) := ⟨rfl, .inr ⟨w2.heap.size, 0, #[], rfl, by omega, by rw [HW3.out, ← hsz]; exact heap_alloc_new _ _, Nat.le_refl _, by unfold maxLen; omega, rfl, rfl⟩⟩
  have HO3 := (show Hid _ from hO3)
  have c37 := hfrom _ _ _ _ w3 _ HP1.out HT3.out.out (hI.later HT3.out.be)
  have hbx := HT3.out.box
  have HSZ := (show Hid (w2.heap.size = w.heap.size + 1 + 1) from hw2s)
  have HIM := (show Hid (∀ j, Img (s.size + 1) (Tk (txOf s) t) (fun i => i = at') j ↔ Tk (txOf s) t at' j) from fun j => ⟨fun ⟨k, h1, h2, h3⟩ => by subst h2; exact h3, fun h => ⟨at', by omega, rfl, h⟩⟩)
  have hai : (at' : Int) < (s.size : Int) + 1 := by omega
  have HLL := (show Hid _ from hL)
  have hlt3 : w2.heap.size < w3.heap.size := by have := hb3.size; have h1 := (Array.getElem?_eq_some_iff.1 (show w3.heap[w2.heap.size]? = some _ from by rw [HW3.out, ← hsz]; exact heap_alloc_new _ (.cells #[] 3))).1; exact h1
  clear hI hfrom hL hw2s hO3 hb3
  rw [HW2.out] at kc kf
  unfold trV
  go_enter Try.func15, Try.ntmps15
  have hbx' : ((((w.alloc (.cells #[.int .i64 t.kind, .int .u64 t.set.a, .int .u64 t.set.b, .int .u64 t.set.c, .int .u64 t.set.d, .int .i64 t.min, .int .i64 t.max, .slice o n0 cap0] 28)).alloc (.cells (icells (List.replicate (s.size + 1) 0)) 3)).setCell ⟨w.heap.size + 1, at', none⟩ (.int .i64 1)).alloc (.cells #[] 3)).heap[w.heap.size]? = some (.cells #[.int .i64 t.kind, .int .u64 t.set.a, .int .u64 t.set.b, .int .u64 t.set.c, .int .u64 t.set.d, .int .i64 t.min, .int .i64 t.max, .slice o n0 cap0] 28 (0, 0)) := by
    rw [← HW2.out, ← HW3.out]; exact hbx
  unfold trV at c37
  have HWW := (show Hid ((((w.alloc (.cells #[.int .i64 t.kind, .int .u64 t.set.a, .int .u64 t.set.b, .int .u64 t.set.c, .int .u64 t.set.d, .int .i64 t.min, .int .i64 t.max, .slice o n0 cap0] 28)).alloc (.cells ((icells (List.replicate (s.size + 1) 0)).setIfInBounds at' (.int .i64 1)) 3)).alloc (.cells #[] 3)) = w3) from by rw [HW3.out, HW2.out]; rw [World.setCell_alloc_at _ _ _ _ _ (World.size_alloc ..).symm]; exact rfl)
  go_wp2_with (first | (refine wpList_load_row rfl 28 (.tmp 3) rfl w.heap.size rfl 28 _ (0, 0) _ hbx' Try.underlying28 rfl info28 ?_) | (go_at_call 37; rw [HWW.out]; refine c37.mono ?_; rintro e w4 ⟨g4, Q4, rfl, hg4, hr4, hp4, b4⟩))
  have HB4 := (show Hid (Below w.heap.size w w4) from nf.chain HT3.out.be b4)
  rw [HSZ.out] at HO3 hlt3
  have HO4 := (show Hid (df.Owns w4 w.heap.size (.slice (some ⟨w.heap.size + 1 + 1, 0, none⟩) 0 0) []) from owns_later2 HO3.out b4)
  have HR4 := (show Hid (IRow w4 g4 Q4) from hr4)
  have HP4 := (show Hid (PlOf (fun j => Tk (txOf s) t at' j) (s.size + 1) Q4) from hp4.to fun j _ => HIM.out j)
  have hq4 : Q4.length = s.size + 1 := hp4.len
  have HG4 := (show Hid (some g4 ≠ (Value.slice (some ⟨w.heap.size + 1 + 1, 0, none⟩) 0 0).ownBlock) from fun e => by
    have e2 : g4 = w.heap.size + 1 + 1 := Option.some.inj e
    omega)
  clear hr4 hp4 b4 HIM HO3 hbx' HWW hbx HT0 HT1 HT3 HP1 kc kf HW3 HW2 hsz hlt3 HSZ hg4 hm
  go_loopw [8, 24] (fun y x wr => ∃ (i : Nat) (K : List Int) (gy : Option Addr) (cy : Nat), y = .slice gy K.length cy ∧ x = .int .i64 i ∧ i ≤ s.size + 1 ∧ Hid (Lst (fun j => Tk (txOf s) t at' j) i K) ∧ Hid (df.Owns wr w.heap.size (.slice gy K.length cy) K) ∧ Hid (Below w.heap.size w wr) ∧ Hid (IRow wr g4 Q4) ∧ Hid (some g4 ≠ (Value.slice gy K.length cy).ownBlock)) (fun _ x _ => s.size + 1 - (intOf x).toNat)
  case atStart => exact ⟨0, [], _, 0, rfl, rfl, by omega, lst_nil _, HO4, HB4, HR4, HG4⟩
  case round =>
    obtain ⟨i, K, gy, cy, rfl, rfl, hi, HL, HO, HB, HR, HG⟩ := hrel
    clear HO4 HB4 HR4 HG4
    by_cases hend : i < s.size + 1
    · have hiq : i < Q4.length := by omega
      have hc := HR.out.cell i hiq
      have hln := HL.out.len
      have hsz := HB.out.size
      have hii : (i : Int) < (s.size : Int) + 1 := by omega
      rcases HP4.out.bit i hiq with ⟨hb, hS⟩ | ⟨hb, hS⟩
      · rw [hb] at hc
        have HL1 := (show Hid _ from HL.out.yes hS)
        clear hb hS
        go_wp2_with (at_builtin; refine nf.wpList_append_at rfl (.tmp 31) (.tmp 33) rfl w.heap.size _ K (i : Int) _ rfl rfl (owns_later2 HO.out (nf.below_alloc _ _)) (nf.tmp_cell _ _ _ rfl) (by omega) (by simp; omega) ?_; intro g' cap' w5 hown5 hgr5 hw5)
        have hR5 : IRow w5 g4 Q4 := (HR.out.alloc _).keep (hgr5.block g4 (HR.out.alloc _).lt HG.out)
        have hne : some g4 ≠ some g' := fun e => by
          rcases hw5 with h | h
          · exact HG.out (e.trans h)
          · have e2 := Option.some.inj e
            have := HR.out.lt
            simp at h
            omega
        go_roundw
        case rel => exact ⟨i + 1, K ++ [(i : Int)], some ⟨g', 0, none⟩, cap', by simp, by go_num, by omega, HL1, (show df.Owns _ _ _ _ from by simpa using hown5), (HB.out.alloc hsz _).grown hgr5 (by simp; omega) (df.own_ge HO.out), hR5, hne⟩
        case measure => simp [intOf]; omega
      · rw [hb] at hc
        have HL1 := (show Hid _ from HL.out.no hS)
        clear hb hS
        go_wp2_with (fail)
        go_roundw
        case rel => exact ⟨i + 1, K, gy, cy, rfl, by go_num, by omega, HL1, HO, HB, HR, HG⟩
        case measure => simp [intOf]; omega
    · have he : i = s.size + 1 := by omega
      subst he
      go_wp2_with (fail)
      go_ret
      have hKL : K = L := nf.up_eq K L HL.out.up HLL.out.up fun u => (HL.out.mem u).trans (HLL.out.mem u).symm
      exact ⟨_, rfl, by rw [← hKL]; exact df.ints_of_owns HO.out, HB.out⟩
end Go.Proofs.Ytfilndgbgdnpiaa.nb

namespace Go.Proofs.Ytfilndgbgdnpiaa.nb
open Go.ChangeShapes Go.WideShapes Go.ChangeAt Go.RowKit
open st (Tr Q4 nodesOf goods okNode Is Box nthT)
open nf (Ed IRow icells dOf)
open df (Row iv In IntsV Dfa)
open pc (stop all textsL StrsV lastOr)
set_option linter.unusedVariables false

/-- the greatest -/
def top : List Int → Int → Int
  | [], m => m
  | x :: l, m => top l (if m < x then x else m)
theorem top_snoc : ∀ (l : List Int) (x m : Int), top (l ++ [x]) m = if top l m < x then x else top l m
  | [], x, m => rfl
  | y :: l, x, m => top_snoc l x _
theorem last_ge (x : Int) (l : List Int) (h : (x :: l).Pairwise (· < ·)) : x ≤ lastOr l x := by
  rcases pc.last_mem (l := l) (z := x) with e | e
  · omega
  · have := (List.pairwise_cons.1 h).1 _ e
    omega
theorem top_last : ∀ (l : List Int), l.Pairwise (· < ·) → ∀ (m z : Int), z ≤ m → top l m = max (lastOr l z) m
  | [], _, m, z, h => by rw [pc.lastOr_nil, top]; omega
  | x :: l, h, m, z, hz => by
    have h1 := last_ge x l h
    rw [pc.lastOr_cons, top, top_last l (List.pairwise_cons.1 h).2 _ x (by split <;> omega)]
    split <;> omega
theorem take_snoc {l : List Int} {i : Nat} (h : i < l.length) : l.take (i + 1) = l.take i ++ [l[i]] := by
  rw [List.take_add_one, List.getElem?_eq_getElem h]; rfl
theorem top_mono : ∀ (l : List Int) (m S : Int), (∀ x ∈ l, x ≤ S) → m ≤ S → m ≤ top l m ∧ top l m ≤ S
  | [], m, S, _, h => ⟨Int.le_refl _, h⟩
  | x :: l, m, S, hl, h => by
    have h1 := hl x (by simp)
    have := top_mono l (if m < x then x else m) S (fun y hy => hl y (by simp [hy])) (by split <;> omega)
    rw [top]
    constructor
    · refine Int.le_trans ?_ this.1
      split <;> omega
    · exact this.2
/-- what the words say of every place is where the dfa stops -/
def Words (s : ByteArray) (t : Tr) (d : Dfa) : Prop := ∀ a, a < s.size → ∃ L, REndsIs s t a L ∧ L.length ≤ 1000 ∧ (∀ x ∈ L, x ≤ (s.size : Int)) ∧ top L ((a : Int) + 1) = (stop d s a : Int)
theorem own_far {W : World} {B e sz n : Nat} {v : Value} {xs : List Value} (h : W.ownsRow B e sz v n xs) : ∀ k, v.ownBlock = some k → B ≤ k := by
  intro k hk
  rcases h.2 with ⟨rfl, _⟩ | ⟨g, cap, cur, rfl, hb, _⟩
  · cases hk
  · cases hk; exact hb
theorem strs_later {W W' : World} {B : Nat} {v : Value} {n : Nat} {l : List Value} (h : W.ownsRow B 9 1 v n l) (b : Below W.heap.size W W') : W'.ownsRow B 9 1 v n l := by
  refine ⟨h.1, ?_⟩
  rcases h.2 with h0 | ⟨g, cap, cur, rfl, hb, hg, hr⟩
  · exact .inl h0
  · exact .inr ⟨g, cap, cur, rfl, hb, (b.block g (Array.getElem?_eq_some_iff.1 hg).1).trans hg, hr⟩
set_option maxHeartbeats 4000000 in
set_option maxRecDepth 100000 in
theorem pieces_any (s : ByteArray) (hs : s.size ≤ 40) (t : Tr) (d : Dfa) (hwords : Words s t d) (tv : Value) (w : World) (ht : Is w (fun _ => True) t tv) : Calls Try.prog 25 #[trV t tv, .string s] w fun e w' => ∃ v, e = .returned v ∧ StrsV w' v (textsL d s) ∧ Below w.heap.size w w' := by
  obtain ⟨o, n0, cap0, rfl⟩ := ht.shape
  obtain ⟨w1, HW1⟩ : ∃ w1, Hid (w1 = w.alloc (.cells #[.int .i64 t.kind, .int .u64 t.set.a, .int .u64 t.set.b, .int .u64 t.set.c, .int .u64 t.set.d, .int .i64 t.min, .int .i64 t.max, .slice o n0 cap0] 28)) := ⟨_, rfl⟩
  have b1 : Below w.heap.size w w1 := by rw [HW1.out]; exact nf.below_alloc _ _
  have bx1 : Box w1 w.heap.size t (.slice o n0 cap0) := by rw [HW1.out]; exact st.box_new w t _
  have hw1s : w1.heap.size = w.heap.size + 1 := by rw [HW1.out]; simp
  have HX1 := (show Hid (∀ W, Below w1.heap.size w1 W → Box W w.heap.size t (.slice o n0 cap0)) from fun W h => bx1.below h)
  have HT1 := (show Hid (∀ W, Below w1.heap.size w1 W → Is W (fun _ => True) t (.slice o n0 cap0)) from fun W h => ht.carry (Nat.le_trans b1.size h.size) (fun _ _ _ => trivial) (fun b _ hlt => (nf.chain b1 h).block b hlt))
  have HB1 := (show Hid _ from b1)
  have HWD := (show Hid (Words s t d) from hwords)
  obtain ⟨w2, HW2⟩ : ∃ w2, Hid (w2 = w1.alloc (.cells #[] 9)) := ⟨_, rfl⟩
  have b2 : Below w1.heap.size w1 w2 := by rw [HW2.out]; exact nf.below_alloc _ _
  have HO2 := (show Hid (w2.ownsRow w1.heap.size 9 1 (.slice (some ⟨w1.heap.size, 0, none⟩) 0 0) 0 (([] : List ByteArray).map Value.string)) from ⟨rfl, .inr ⟨w1.heap.size, 0, #[], rfl, Nat.le_refl _, by rw [HW2.out]; exact heap_alloc_new _ _, Nat.le_refl _, by unfold maxLen; omega, rfl, rfl⟩⟩)
  rw [hw1s] at HO2
  have HB2 := (show Hid _ from b2)
  have HS1 := (show Hid (w1.heap.size = w.heap.size + 1) from hw1s)
  clear ht b1 bx1 hw1s hwords b2
  go_enter Try.func25, Try.ntmps25
  go_wp2_with (fail)
  rw [← HW1.out, ← HW2.out]
  go_loopw [5, 6] (fun y x wr => ∃ (a : Nat) (K : List ByteArray) (gy : Option Addr) (cy : Nat), y = .slice gy K.length cy ∧ x = .int .i64 a ∧ a ≤ s.size ∧ K.length ≤ a ∧ Hid (K ++ (all d s a).map (fun p => s.extract p.1 p.2) = textsL d s) ∧ Hid (wr.ownsRow (w.heap.size + 1) 9 1 (.slice gy K.length cy) K.length (K.map Value.string)) ∧ Hid (Below w1.heap.size w1 wr)) (fun _ x _ => s.size - (intOf x).toNat)
  case atStart => exact ⟨0, [], _, 0, rfl, rfl, by omega, by simp, rfl, HO2, HB2⟩
  case round =>
    obtain ⟨a, K, gy, cy, rfl, rfl, ha, hKa, HK, HO, HB⟩ := hrel
    clear HO2 HB2 HW2
    by_cases hend : a < s.size
    · obtain ⟨L, hR, hLn, hLs, hst⟩ := HWD.out a hend
      have hai : (a : Int) < (s.size : Int) := by omega
      have hxw := HX1.out wr HB.out
      have h15 := hR _ wr _ (HT1.out wr HB.out)
      have HLS := (show Hid (∀ x ∈ L, x ≤ (s.size : Int)) from hLs)
      have HST := (show Hid (top L ((a : Int) + 1) = (stop d s a : Int)) from hst)
      clear hR hLs hst
      go_wp2_with (first | (refine wpList_load_row rfl 28 (.tmp 2) rfl w.heap.size rfl 28 _ (0, 0) _ hxw Try.underlying28 rfl info28 ?_) | (go_at_call 15; refine h15.mono ?_; rintro e w4 ⟨v4, rfl, ⟨vo, vc, rfl, hv4⟩, b4⟩; have HV4 := (show Hid (Row (In w4) w4 iv vo vc L) from hv4); have HB4 := (show Hid (Below w1.heap.size w1 w4) from nf.chain HB.out b4); have HO4 := (show Hid (w4.ownsRow (w.heap.size + 1) 9 1 (.slice gy K.length cy) K.length (K.map Value.string)) from strs_later HO.out b4); have hvf := hv4.fit; have hvt := hv4.top; clear hv4 b4))
      clear h15 hxw
      go_loopw [7, 22] (fun y x wi => ∃ (i : Nat), y = .int .i64 (top (L.take i) ((a : Int) + 1)) ∧ x = .int .i64 i ∧ i ≤ L.length ∧ wi = w4) (fun _ x _ => L.length - (intOf x).toNat)
      case atStart => exact ⟨0, rfl, rfl, by omega, rfl⟩
      case round =>
        obtain ⟨i, rfl, rfl, hi, rfl⟩ := hrel
        by_cases hin : i < L.length
        · obtain ⟨b, off, rfl, hb, hc⟩ := HV4.out.lie i hin
          have HN := (show Hid (top (L.take (i + 1)) ((a : Int) + 1) = if top (L.take i) ((a : Int) + 1) < L[i] then L[i] else top (L.take i) ((a : Int) + 1)) from by show _ = _; rw [take_snoc hin, top_snoc])
          generalize top (L.take i) ((a : Int) + 1) = m at *
          generalize L[i] = x at *
          by_cases hlt : m < x
          · rw [if_pos hlt] at HN
            go_wp2_with (fail)
            go_roundw
            case rel => exact ⟨i + 1, by rw [HN.out], by go_num, by omega, by first | rfl | trivial⟩
            case measure => simp [intOf]; omega
          · rw [if_neg hlt] at HN
            go_wp2_with (fail)
            go_roundw
            case rel => exact ⟨i + 1, by rw [HN.out], by go_num, by omega, by first | rfl | trivial⟩
            case measure => simp [intOf]; omega
        · have hie : i = L.length := by omega
          subst hie
          have hmm := top_mono L ((a : Int) + 1) (s.size : Int) HLS.out (by omega)
          rw [List.take_length, HST.out]
          rw [HST.out] at hmm
          obtain ⟨z, hz⟩ : ∃ z, z = stop d s a := ⟨_, rfl⟩
          have HNX := (show Hid ((K ++ [s.extract a z]) ++ (all d s z).map (fun p => s.extract p.1 p.2) = textsL d s) from by
            show _ = _
            rw [← HK.out, pc.all_more d s a hend, List.map_cons, ← hz, List.append_assoc]
            rfl)
          rw [← hz] at hmm ⊢
          have hz1 : a < z := by omega
          have hz2 : z ≤ s.size := by omega
          have hzi : (a : Int) ≤ (z : Int) := by omega
          have hzs : (z : Int) ≤ (s.size : Int) := by omega
          have hB4s := HB4.out.size
          have hs1 := HS1.out
          clear hz hmm HST HLS HK HV4
          go_wp2_with (at_builtin; refine ow.wpList_append (by rfl) (.tmp 31) (.tmp 36) 56 (by rfl) 9 _ 1 16 Try.underlying56 pc.info9' (by rfl) (by decide) (by decide) (w.heap.size + 1) (.slice gy K.length cy) K.length (K.map Value.string) wr.heap.size [.string (s.extract a z)] (by rfl) (by rfl) (by exact strs_later HO4.out (nf.below_alloc _ _)) (by rfl) (by exact ow.new1 wr _ 9) (by exact ow.one1 _ rfl) (by omega) (by rw [World.size_alloc]; omega) ?_; intro g' cap' w6 ho hg hnw)
          go_roundw
          case rel => exact ⟨z, K ++ [s.extract a z], some ⟨g', 0, none⟩, cap', by simp, rfl, hz2, by simp; omega, HNX, (show World.ownsRow _ _ _ _ _ _ _ from by simpa using ho), (HB4.out.alloc (by omega) _).grown hg (by simp; omega) (fun k hk => by have := own_far HO4.out k hk; omega)⟩
          case measure => simp [intOf]; omega
    · have he : a = s.size := by omega
      subst he
      go_wp2_with (fail)
      go_ret
      have hKL : K = textsL d s := by rw [← HK.out, pc.all_end d s s.size (Nat.le_refl _)]; simp
      exact ⟨_, rfl, by rw [← hKL]; exact pc.strs_of_owns HO.out, nf.chain HB1.out HB.out⟩
end Go.Proofs.Ytfilndgbgdnpiaa.nb
