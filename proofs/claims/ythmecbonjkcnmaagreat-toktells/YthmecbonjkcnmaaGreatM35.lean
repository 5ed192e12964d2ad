/-
  Texts put together: Plain mathematics: the pieces that ids are made of; where a piece ends is the greatest place that the tree takes the text to. Contracts over this program: the document's Pieces (fretsawref10), by an expression's own words.
-/
import Derived.Test.YthmecbonjkcnmaaGreatKKn
import Derived.Test.YthmecbonjkcnmaaGreatM34
namespace Go.Proofs.YthmecbonjkcnmaaGreat.tk
open mg (app idsOf)
open nb (Rl Pa EdR Tx built Lst Tk REndsIs txOf)
open st (Tr)
set_option linter.unusedVariables false

/-- a text is cut from a place on -/
inductive Cuts (S : Nat → Nat → Prop) (n : Nat) : Nat → List (Nat × Nat) → Prop
  | done : Cuts S n n []
  | more {fr to : Nat} {ps : List (Nat × Nat)} : fr < to → to ≤ n → S fr to → Cuts S n to ps → Cuts S n fr ((fr, to) :: ps)
def textsC (s : ByteArray) (ps : List (Nat × Nat)) : List ByteArray := ps.map fun p => s.extract p.1 p.2
def idsC (K : List mg.Mg) (l : List ByteArray) : List Int := (l.map fun t => app K (idsOf t)).flatten
theorem mids_cuts {es : List nf.Ed} {s : ByteArray} {K : List mg.Mg} {fr : Nat} {ids : List Int} (h : Mids es s K fr ids) : ∃ ps, Cuts (StopS es s) s.size fr ps ∧ ids = idsC K (textsC s ps) := by
  induction h with
  | done => exact ⟨[], .done, rfl⟩
  | more h1 h2 h3 _ ih =>
    obtain ⟨ps, h4, rfl⟩ := ih
    exact ⟨_, .more h1 h2 h3 h4, rfl⟩
theorem Cuts.le {S : Nat → Nat → Prop} {n fr : Nat} {ps : List (Nat × Nat)} (h : Cuts S n fr ps) : fr ≤ n := by
  cases h with
  | done => exact Nat.le_refl _
  | more h1 h2 _ _ => omega
theorem Cuts.few {S : Nat → Nat → Prop} {n fr : Nat} {ps : List (Nat × Nat)} (h : Cuts S n fr ps) : ps.length + fr ≤ n := by
  induction h with
  | done => simp
  | more h1 h2 h3 _ ih => simp only [List.length_cons]; omega
theorem Cuts.at {S : Nat → Nat → Prop} {n fr : Nat} {ps : List (Nat × Nat)} (h : Cuts S n fr ps) (hlt : fr < n) : ∃ to qs, ps = (fr, to) :: qs ∧ fr < to ∧ to ≤ n ∧ S fr to ∧ Cuts S n to qs := by
  cases h with
  | done => omega
  | more h1 h2 h3 h4 => exact ⟨_, _, rfl, h1, h2, h3, h4⟩
theorem Cuts.end {S : Nat → Nat → Prop} {n : Nat} {ps : List (Nat × Nat)} (h : Cuts S n n ps) : ps = [] := by
  cases h with
  | done => rfl
  | more h1 h2 h3 h4 => omega
/-- the greatest -/
def top : List Int → Int → Int
  | [], m => m
  | x :: l, m => top l (if m < x then x else m)
theorem top_snoc : ∀ (l : List Int) (x m : Int), top (l ++ [x]) m = if top l m < x then x else top l m
  | [], x, m => rfl
  | y :: l, x, m => top_snoc l x _
theorem top_is : ∀ (l : List Int) (m : Int), m ≤ top l m ∧ (∀ x ∈ l, x ≤ top l m) ∧ (top l m = m ∨ top l m ∈ l)
  | [], m => ⟨Int.le_refl _, (fun x h => nomatch h), .inl rfl⟩
  | x :: l, m => by
    obtain ⟨h1, h2, h3⟩ := top_is l (if m < x then x else m)
    rw [top]
    by_cases h : m < x
    · rw [if_pos h] at h1 h2 h3 ⊢
      refine ⟨by omega, fun y hy => ?_, ?_⟩
      · rcases List.mem_cons.1 hy with rfl | hy
        · exact h1
        · exact h2 y hy
      · rcases h3 with e | e
        · right; rw [e]; exact List.mem_cons_self
        · right; exact List.mem_cons_of_mem _ e
    · rw [if_neg h] at h1 h2 h3 ⊢
      refine ⟨h1, fun y hy => ?_, ?_⟩
      · rcases List.mem_cons.1 hy with rfl | hy
        · omega
        · exact h2 y hy
      · rcases h3 with e | e
        · exact .inl e
        · right; exact List.mem_cons_of_mem _ e
theorem top_mono (l : List Int) (m S : Int) (h : ∀ x ∈ l, x ≤ S) (hm : m ≤ S) : m ≤ top l m ∧ top l m ≤ S := by
  obtain ⟨h1, h2, h3⟩ := top_is l m
  refine ⟨h1, ?_⟩
  rcases h3 with e | e
  · omega
  · exact h _ e
theorem take_snoc {l : List Int} {i : Nat} (h : i < l.length) : l.take (i + 1) = l.take i ++ [l[i]] := by
  rw [List.take_add_one, List.getElem?_eq_getElem h]; rfl
theorem lst_ex (S : Nat → Prop) : ∀ i, ∃ K, Lst S i K
  | 0 => ⟨[], nb.lst_nil S⟩
  | i + 1 => by
    obtain ⟨K, h⟩ := lst_ex S i
    by_cases hs : S i
    · exact ⟨_, h.yes hs⟩
    · exact ⟨_, h.no hs⟩
/-- what the words say of every place is where pieces end -/
def Words (s : ByteArray) (t : Tr) (S : Nat → Nat → Prop) : Prop := ∀ a, a < s.size → ∀ to, S a to → ∃ L, REndsIs s t a L ∧ L.length ≤ 1000 ∧ (∀ x ∈ L, x ≤ (s.size : Int)) ∧ top L ((a : Int) + 1) = (to : Int)
theorem tx_same (s : ByteArray) : txOf s = ⟨fun i => (s.data.getD i 0).toNat, s.size⟩ := by
  unfold txOf
  congr 1
  funext i
  unfold nf.dOf
  by_cases h : i < s.size
  · rw [dif_pos h]
    have h2 : i < s.data.size := h
    rw [Array.getD_eq_getD_getElem?, Array.getElem?_eq_getElem h2]
    rfl
  · rw [dif_neg h]
    have h2 : ¬ i < s.data.size := h
    rw [Array.getD_eq_getD_getElem?, Array.getElem?_eq_none (by omega)]
    rfl
theorem words_of (t : Tr) (hg : t.good = true) (hf : (built t).full = false) (hsane : t.sane) (hd : t.depth ≤ 30) (s : ByteArray) (hs : s.size ≤ 60) : Words s t (StopS (built t).es s) := by
  intro a ha to ⟨last, ⟨h1, h2, h3⟩, hto⟩
  obtain ⟨L, hL⟩ := lst_ex (fun j => Tk (txOf s) t a j) (s.size + 1)
  have key : ∀ j, Pa (EdR ⟨fun i => (s.data.getD i 0).toNat, s.size⟩ (built t).es) (0, a) (1, j) ↔ Tk (txOf s) t a j := fun j => by rw [tx_same]; exact nb.built_pa _ t hg hf a j
  have hz : (txOf s).len = s.size := rfl
  refine ⟨L, nb.rends_any s hs t (nb.from_any s hs 30 t hd hg hsane) a (by omega) L hL, by have := hL.len; omega, fun x hx => ?_, ?_⟩
  · obtain ⟨j, g1, rfl, _⟩ := (hL.mem x).1 hx
    omega
  · obtain ⟨g1, g2, g3⟩ := top_is L ((a : Int) + 1)
    have lastIn : a + 1 ≤ last → (last : Int) ∈ L := fun h => by
      rcases h2 with e | e
      · omega
      · have hk := (key last).1 e
        have hr := (nb.tk_range (txOf s) t a last hk).2 (by rw [hz]; omega)
        rw [hz] at hr
        exact (hL.mem _).2 ⟨last, by omega, rfl, hk⟩
    have memLe : ∀ x ∈ L, x ≤ (last : Int) := fun x hx => by
      obtain ⟨j, k1, rfl, k2⟩ := (hL.mem x).1 hx
      have := h3 j ((key j).2 k2)
      omega
    subst hto
    by_cases hla : a + 1 ≤ last
    · have q1 := g2 _ (lastIn hla)
      have q2 : top L ((a : Int) + 1) ≤ (last : Int) := by
        rcases g3 with e | e
        · omega
        · exact memLe _ e
      rw [Nat.max_eq_left hla]
      omega
    · have q2 : top L ((a : Int) + 1) ≤ ((a : Int) + 1) := by
        rcases g3 with e | e
        · omega
        · have := memLe _ e; omega
      rw [Nat.max_eq_right (by omega)]
      omega
end Go.Proofs.YthmecbonjkcnmaaGreat.tk

namespace Go.Proofs.YthmecbonjkcnmaaGreat.tk
open Go.ChangeShapes Go.WideShapes Go.ChangeAt Go.RowKit
open st (Tr Q4 nodesOf goods okNode Is Box nthT)
open nf (Ed IRow icells dOf)
open mg (Row iv In IntsV StrsV RowV)
open nb (trV REndsIs)
set_option linter.unusedVariables false

theorem own_far {W : World} {B e sz n : Nat} {v : Value} {xs : List Value} (h : W.ownsRow B e sz v n xs) : ∀ k, v.ownBlock = some k → B ≤ k := by
  intro k hk
  rcases h.2 with ⟨rfl, _⟩ | ⟨g, cap, cur, rfl, hb, _⟩
  · cases hk
  · cases hk; exact hb
theorem strs_later {W W' : World} {B : Nat} {v : Value} {n : Nat} {l : List Value} (h : W.ownsRow B 9 1 v n l) (b : Below W.heap.size W W') : W'.ownsRow B 9 1 v n l := by
  refine ⟨h.1, ?_⟩
  rcases h.2 with h0 | ⟨g, cap, cur, rfl, hb, hg, hr⟩
  · exact .inl h0
  · exact .inr ⟨g, cap, cur, rfl, hb, (b.block g (Array.getElem?_eq_some_iff.1 hg).1).trans hg, hr⟩
set_option maxHeartbeats 4000000 in
set_option maxRecDepth 100000 in
theorem pieces_any (s : ByteArray) (hs : s.size ≤ 60) (t : Tr) (S : Nat → Nat → Prop) (ps : List (Nat × Nat)) (hcut : Cuts S s.size 0 ps) (hwords : Words s t S) (tv : Value) (w : World) (ht : Is w (fun _ => True) t tv) : Calls Tryz.prog 31 #[trV t tv, .string s] w fun e w' => ∃ v, e = .returned v ∧ w'.ownsRow (w.heap.size + 1) 9 1 v (textsC s ps).length ((textsC s ps).map Value.string) ∧ Below w.heap.size w w' := by
  obtain ⟨o, n0, cap0, rfl⟩ := ht.shape
  obtain ⟨w1, HW1⟩ : ∃ w1, Hid (w1 = w.alloc (.cells #[.int .i64 t.kind, .int .u64 t.set.a, .int .u64 t.set.b, .int .u64 t.set.c, .int .u64 t.set.d, .int .i64 t.min, .int .i64 t.max, .slice o n0 cap0] 29)) := ⟨_, rfl⟩
  have b1 : Below w.heap.size w w1 := by rw [HW1.out]; exact nf.below_alloc _ _
  have bx1 : Box w1 w.heap.size t (.slice o n0 cap0) := by rw [HW1.out]; exact st.box_new w t _
  have hw1s : w1.heap.size = w.heap.size + 1 := by rw [HW1.out]; simp
  have HX1 := (show Hid (∀ W, Below w1.heap.size w1 W → Box W w.heap.size t (.slice o n0 cap0)) from fun W h => bx1.below h)
  have HT1 := (show Hid (∀ W, Below w1.heap.size w1 W → Is W (fun _ => True) t (.slice o n0 cap0)) from fun W h => ht.carry (Nat.le_trans b1.size h.size) (fun _ _ _ => trivial) (fun b _ hlt => (nf.chain b1 h).block b hlt))
  have HB1 := (show Hid _ from b1)
  have HWD := (show Hid (Words s t S) from hwords)
  have HCT := (show Hid (∃ qs, Cuts S s.size 0 qs ∧ [] ++ textsC s qs = textsC s ps) from ⟨ps, hcut, rfl⟩)
  obtain ⟨w2, HW2⟩ : ∃ w2, Hid (w2 = w1.alloc (.cells #[] 9)) := ⟨_, rfl⟩
  have b2 : Below w1.heap.size w1 w2 := by rw [HW2.out]; exact nf.below_alloc _ _
  have HO2 := (show Hid (w2.ownsRow w1.heap.size 9 1 (.slice (some ⟨w1.heap.size, 0, none⟩) 0 0) 0 (([] : List ByteArray).map Value.string)) from ⟨rfl, .inr ⟨w1.heap.size, 0, #[], rfl, Nat.le_refl _, by rw [HW2.out]; exact heap_alloc_new _ _, Nat.le_refl _, by unfold maxLen; omega, rfl, rfl⟩⟩)
  rw [hw1s] at HO2
  have HB2 := (show Hid _ from b2)
  have HS1 := (show Hid (w1.heap.size = w.heap.size + 1) from hw1s)
  clear ht b1 bx1 hw1s hwords b2 hcut
  go_enter Tryz.func31, Tryz.ntmps31
  go_wp2_with (fail)
  rw [← HW1.out, ← HW2.out]
  go_loopw [5, 6] (fun y x wr => ∃ (a : Nat) (K : List ByteArray) (gy : Option Addr) (cy : Nat), y = .slice gy K.length cy ∧ x = .int .i64 a ∧ a ≤ s.size ∧ K.length ≤ a ∧ Hid (∃ qs, Cuts S s.size a qs ∧ K ++ textsC s qs = textsC s ps) ∧ Hid (wr.ownsRow (w.heap.size + 1) 9 1 (.slice gy K.length cy) K.length (K.map Value.string)) ∧ Hid (Below w1.heap.size w1 wr)) (fun _ x _ => s.size - (intOf x).toNat)
  case atStart => exact ⟨0, [], _, 0, rfl, rfl, by omega, by simp, HCT, HO2, HB2⟩
  case round =>
    obtain ⟨a, K, gy, cy, rfl, rfl, ha, hKa, HK, HO, HB⟩ := hrel
    clear HO2 HB2 HW2 HCT
    by_cases hend : a < s.size
    · obtain ⟨qs0, hq0, hKe⟩ := HK.out
      obtain ⟨z, qs, rfl, hz1, hz2, hz3, hz4⟩ := hq0.at hend
      obtain ⟨L, hR, hLn, hLs, hst⟩ := HWD.out a hend z hz3
      have HNX := (show Hid (∃ qs, Cuts S s.size z qs ∧ (K ++ [s.extract a z]) ++ textsC s qs = textsC s ps) from ⟨qs, hz4, by rw [← hKe, List.append_assoc]; rfl⟩)
      clear hq0 hz3 hz4 hKe
      have hai : (a : Int) < (s.size : Int) := by omega
      have hxw := HX1.out wr HB.out
      have h15 := hR _ wr _ (HT1.out wr HB.out)
      have HLS := (show Hid (∀ x ∈ L, x ≤ (s.size : Int)) from hLs)
      have HST := (show Hid (top L ((a : Int) + 1) = (z : Int)) from hst)
      clear hR hLs hst
      go_wp2_with (first | (refine wpList_load_row rfl 29 (.tmp 2) rfl w.heap.size rfl 29 _ (0, 0) _ hxw Tryz.underlying29 rfl nb.info29 ?_) | (go_at_call 50; refine h15.mono ?_; rintro e w4 ⟨v4, rfl, ⟨vo, vc, rfl, hv4⟩, b4⟩; have HV4 := (show Hid (Row (In w4) w4 iv vo vc L) from hv4); have HB4 := (show Hid (Below w1.heap.size w1 w4) from nf.chain HB.out b4); have HO4 := (show Hid (w4.ownsRow (w.heap.size + 1) 9 1 (.slice gy K.length cy) K.length (K.map Value.string)) from strs_later HO.out b4); have hvf := hv4.fit; have hvt := hv4.top; clear hv4 b4))
      clear h15 hxw
      go_loopw [7, 22] (fun y x wi => ∃ (i : Nat), y = .int .i64 (top (L.take i) ((a : Int) + 1)) ∧ x = .int .i64 i ∧ i ≤ L.length ∧ wi = w4) (fun _ x _ => L.length - (intOf x).toNat)
      case atStart => exact ⟨0, rfl, rfl, by omega, rfl⟩
      case round =>
        obtain ⟨i, rfl, rfl, hi, rfl⟩ := hrel
        by_cases hin : i < L.length
        · obtain ⟨b, off, rfl, hb, hc⟩ := HV4.out.lie i hin
          have HN := (show Hid (top (L.take (i + 1)) ((a : Int) + 1) = if top (L.take i) ((a : Int) + 1) < L[i] then L[i] else top (L.take i) ((a : Int) + 1)) from by show _ = _; rw [take_snoc hin, top_snoc])
          generalize top (L.take i) ((a : Int) + 1) = m at *
          generalize L[i] = x at *
          by_cases hlt : m < x
          · rw [if_pos hlt] at HN
            go_wp2_with (fail)
            go_roundw
            case rel => exact ⟨i + 1, by rw [HN.out], by go_num, by omega, by first | rfl | trivial⟩
            case measure => simp [intOf]; omega
          · rw [if_neg hlt] at HN
            go_wp2_with (fail)
            go_roundw
            case rel => exact ⟨i + 1, by rw [HN.out], by go_num, by omega, by first | rfl | trivial⟩
            case measure => simp [intOf]; omega
        · have hie : i = L.length := by omega
          subst hie
          have hmm := top_mono L ((a : Int) + 1) (s.size : Int) HLS.out (by omega)
          rw [List.take_length, HST.out]
          rw [HST.out] at hmm
          have hzi : (a : Int) ≤ (z : Int) := by omega
          have hzs : (z : Int) ≤ (s.size : Int) := by omega
          have hB4s := HB4.out.size
          have hs1 := HS1.out
          clear hmm HST HLS HK HV4
          go_wp2_with (at_builtin; refine ow.wpList_append (by rfl) (.tmp 31) (.tmp 36) 31 (by rfl) 9 _ 1 16 Tryz.underlying31 mg.info9 (by rfl) (by decide) (by decide) (w.heap.size + 1) (.slice gy K.length cy) K.length (K.map Value.string) wr.heap.size [.string (s.extract a z)] (by rfl) (by rfl) (by exact strs_later HO4.out (nf.below_alloc _ _)) (by rfl) (by exact ow.new1 wr _ 9) (by exact ow.one1 _ rfl) (by omega) (by rw [World.size_alloc]; omega) ?_; intro g' cap' w6 ho hg hnw)
          go_roundw
          case rel => exact ⟨z, K ++ [s.extract a z], some ⟨g', 0, none⟩, cap', by simp, rfl, hz2, by simp; omega, HNX, (show World.ownsRow _ _ _ _ _ _ _ from by simpa using ho), (HB4.out.alloc (by omega) _).grown hg (by simp; omega) (fun k hk => by have := own_far HO4.out k hk; omega)⟩
          case measure => simp [intOf]; omega
    · have he : a = s.size := by omega
      subst he
      go_wp2_with (fail)
      go_ret
      obtain ⟨qs0, hq0, hKe⟩ := HK.out
      have hKL : K = textsC s ps := by rw [← hKe, hq0.end]; simp [textsC]
      exact ⟨_, rfl, by rw [← hKL]; exact HO.out, nf.chain HB1.out HB.out⟩
end Go.Proofs.YthmecbonjkcnmaaGreat.tk
