/-
  Texts put together: Plain mathematics: the document's walk over languages, by its table of pairs. Memory: what the document's walk keeps: the states met, the row that is made, the rows. Plain mathematics: the classes of the bytes as the document finds them, byte by byte.
-/
import Derived.Test.YtkdkibnjfgcppaaM05
import Derived.Test.YtkdkibnjfgcppaaKMs
import Derived.Test.YtkdkibnjfgcppaaKNq
namespace Go.Proofs.Ytkdkibnjfgcppaa.mi
set_option linter.unusedVariables false

/-- what the table tells -/
def Tells (d : df.Dfa) (t : List (List Int)) : Prop := ∀ i j, i < d.next.length → j < d.next.length → (T2 t i j = 0 ↔ lg d i = lg d j)
/-- how far the document's walk is -/
structure Gr (d : df.Dfa) (i : Nat) (S : List Int) (rows : List (List Int)) : Prop where
  eq : it ((dm d).lang (some 0)) i = (lgs d S, rows)
  nd : (lgs d S).Nodup
  ins : ∀ x ∈ S, 0 ≤ x ∧ x < (d.next.length : Int)
  le : i ≤ S.length
  wk : ∀ j, j < i → j < (it ((dm d).lang (some 0)) j).1.length
/-- how far a state is left -/
structure Rr (d : df.Dfa) (S : List Int) (s b : Nat) (S' : List Int) (r : List Int) : Prop where
  eq : rowN (lgs d S) ((dm d).lang (some s)) b = (lgs d S', r)
  nd : (lgs d S').Nodup
  ins : ∀ x ∈ S', 0 ≤ x ∧ x < (d.next.length : Int)
  pre : S <+: S'
theorem Gr.few {d : df.Dfa} {S : List Int} (nd : (lgs d S).Nodup) (ins : ∀ x ∈ S, 0 ≤ x ∧ x < (d.next.length : Int)) : S.length ≤ d.next.length := by
  have hnd : S.Nodup := List.Pairwise.of_map _ (fun a b h e => h (by rw [e])) nd
  have := few_of hnd (M := (List.range d.next.length).map fun n : Nat => (n : Int)) fun x hx => by
    have := ins x hx
    exact List.mem_map.2 ⟨x.toNat, List.mem_range.2 (by omega), by omega⟩
  simpa using this
theorem gr_start (d : df.Dfa) (h : 1 ≤ d.next.length) : Gr d 0 [0] [] := by
  refine ⟨rfl, by simp [lgs], fun x hx => ?_, by simp, fun j hj => by omega⟩
  simp at hx
  subst hx
  omega
theorem Gr.rr {d : df.Dfa} {i : Nat} {S : List Int} {rows : List (List Int)} (h : Gr d i S rows) (s : Nat) : Rr d S s 0 S [] := ⟨rfl, h.nd, h.ins, List.prefix_refl _⟩
theorem Gr.step {d : df.Dfa} {i : Nat} {S S' : List Int} {rows : List (List Int)} {s : Nat} {r : List Int} (h : Gr d i S rows) (hs : S[i]? = some (s : Int)) (hv : Rr d S s 256 S' r) : Gr d (i + 1) S' (rows ++ [r]) := by
  have hL : (it ((dm d).lang (some 0)) i).1[i]? = some ((dm d).lang (some s)) := by
    rw [h.eq]
    show (lgs d S)[i]? = _
    unfold lgs
    rw [List.getElem?_map, hs]
    rfl
  refine ⟨?_, hv.nd, hv.ins, ?_, ?_⟩
  · rw [it_next hL, h.eq, hv.eq]
  · have h1 := (List.getElem?_eq_some_iff.1 hs).1
    have h2 := hv.pre.length_le
    omega
  · intro j hj
    rcases Nat.lt_or_eq_of_le (Nat.le_of_lt_succ hj) with h1 | rfl
    · exact h.wk j h1
    · exact (List.getElem?_eq_some_iff.1 hL).1
section
variable {d : df.Dfa} {S S' : List Int} {s b : Nat} {r : List Int}
theorem Rr.dead (h : Rr d S s b S' r) (hb : b < 256) (hd : ¬ Live (dv (lg d s) (by8 b))) : Rr d S s (b + 1) S' (r ++ [-1]) := by
  refine ⟨?_, h.nd, h.ins, h.pre⟩
  show ((met (rowN (lgs d S) ((dm d).lang (some s)) b).1 (dv ((dm d).lang (some s)) (by8 b))).1, (rowN (lgs d S) ((dm d).lang (some s)) b).2 ++ [(met (rowN (lgs d S) ((dm d).lang (some s)) b).1 (dv ((dm d).lang (some s)) (by8 b))).2]) = _
  rw [h.eq, met_dead hd]
theorem Rr.old (h : Rr d S s b S' r) {j k : Nat} (he : dv (lg d s) (by8 b) = lg d j) (hl : Live (lg d j)) {x : Int} (hk : S'[k]? = some x) (hx : lg d x.toNat = lg d j) : Rr d S s (b + 1) S' (r ++ [(k : Int)]) := by
  have hg : (lgs d S')[k]? = some (lg d j) := by
    unfold lgs
    rw [List.getElem?_map, hk, ← hx]
    rfl
  refine ⟨?_, h.nd, h.ins, h.pre⟩
  show ((met (rowN (lgs d S) ((dm d).lang (some s)) b).1 (dv ((dm d).lang (some s)) (by8 b))).1, (rowN (lgs d S) ((dm d).lang (some s)) b).2 ++ [(met (rowN (lgs d S) ((dm d).lang (some s)) b).1 (dv ((dm d).lang (some s)) (by8 b))).2]) = _
  rw [h.eq, show dv ((dm d).lang (some s)) (by8 b) = lg d j from he, met_old hl (List.mem_of_getElem? hg), idx_is h.nd hg]
theorem Rr.new (h : Rr d S s b S' r) {j : Nat} (hj : j < d.next.length) (he : dv (lg d s) (by8 b) = lg d j) (hl : Live (lg d j)) (hn : ∀ (k : Nat) (x : Int), S'[k]? = some x → lg d x.toNat ≠ lg d j) : Rr d S s (b + 1) (S' ++ [(j : Int)]) (r ++ [(S'.length : Int)]) := by
  have hm : lg d j ∉ lgs d S' := fun hm => by
    obtain ⟨x, hx, e⟩ := List.mem_map.1 hm
    obtain ⟨k, hk, e2⟩ := List.mem_iff_getElem.1 hx
    exact hn k x (by rw [List.getElem?_eq_getElem hk, e2]) e
  have hlg : lgs d (S' ++ [(j : Int)]) = lgs d S' ++ [lg d j] := by unfold lgs; rw [List.map_append]; rfl
  refine ⟨?_, ?_, fun x hx => ?_, h.pre.trans (List.prefix_append _ _)⟩
  · show ((met (rowN (lgs d S) ((dm d).lang (some s)) b).1 (dv ((dm d).lang (some s)) (by8 b))).1, (rowN (lgs d S) ((dm d).lang (some s)) b).2 ++ [(met (rowN (lgs d S) ((dm d).lang (some s)) b).1 (dv ((dm d).lang (some s)) (by8 b))).2]) = _
    rw [h.eq, show dv ((dm d).lang (some s)) (by8 b) = lg d j from he, met_new hl hm, hlg]
    simp [lgs]
  · rw [hlg, List.nodup_append]
    exact ⟨h.nd, by simp, fun a ha c hc e => by rw [List.mem_singleton.1 hc] at e; exact hm (e ▸ ha)⟩
  · rcases List.mem_append.1 hx with h1 | h1
    · exact h.ins x h1
    · rw [List.mem_singleton.1 h1]; omega
end
/-- at the end it is the least -/
theorem Gr.least {d : df.Dfa} {S : List Int} {rows : List (List Int)} (h : Gr d S.length S rows) :
    Least ((dm d).lang (some 0)) ((List.range 256).map (clsOf (colOf rows) 256)) (rows.map fun r => (firsts (colOf rows) 256).map fun c => r.getD c 0) (S.map fun s => df.acpt d s.toNat) := by
  refine ⟨S.length, ?_, ?_, ?_, ?_⟩
  · rw [h.eq]; simp [lgs]
  · rw [h.eq]
  · rw [h.eq]
  · rw [h.eq]
    show _ = (lgs d S).map fun L => L []
    unfold lgs
    rw [List.map_map]
    apply List.map_congr_left
    intro s hs
    rfl
/-- of a state from which nothing comes -/
theorem least_dead {L0 : Lg} (h : ¬ Live L0) : Least L0 ((List.range 256).map fun _ => 0) [[-1]] [false] := by
  obtain rfl := not_live.1 h
  have hr : ∀ k, rowN [nil] nil k = ([nil], List.replicate k (-1)) := by
    intro k
    induction k with
    | zero => rfl
    | succ k ih =>
      show ((met (rowN [nil] nil k).1 (dv nil (by8 k))).1, (rowN [nil] nil k).2 ++ [(met (rowN [nil] nil k).1 (dv nil (by8 k))).2]) = _
      rw [ih, met_dead (show ¬ Live (dv nil (by8 k)) from live_nil), List.replicate_succ']
  obtain ⟨R, hR⟩ : ∃ R : List Int, R = List.replicate 256 (-1) := ⟨_, rfl⟩
  have hRb : ∀ b, b < 256 → R.getD b 0 = -1 := fun b hb => by rw [hR, List.getD_eq_getElem?_getD, List.getElem?_replicate, if_pos hb]; rfl
  have h1 : it nil 1 = ([nil], [R]) := by
    have := it_next (L0 := nil) (k := 0) (L := nil) rfl
    rw [this]
    show ((rowN [nil] nil 256).1, [] ++ [(rowN [nil] nil 256).2]) = _
    rw [hr, hR]; rfl
  clear hR
  have hcol : ∀ b, b < 256 → colOf [R] b = [-1] := fun b hb => by
    show [R.getD b 0] = _
    rw [hRb b hb]
  have hf : ∀ k, k ≤ 256 → firsts (colOf [R]) k = if k = 0 then [] else [0] := by
    intro k
    induction k with
    | zero => intro _; rfl
    | succ k ih =>
      intro hk
      have i1 := ih (by omega)
      rw [if_neg (by omega)]
      by_cases h0 : k = 0
      · subst h0
        rw [if_pos rfl] at i1
        have : ¬ ∃ c ∈ firsts (colOf [R]) 0, colOf [R] c = colOf [R] 0 := by rw [i1]; simp
        rw [firsts_no this, i1]; rfl
      · rw [if_neg h0] at i1
        have : ∃ c ∈ firsts (colOf [R]) k, colOf [R] c = colOf [R] k := ⟨0, by rw [i1]; simp, by rw [hcol 0 (by omega), hcol k (by omega)]⟩
        rw [firsts_yes this, i1]
  have hf6 := hf 256 (by omega)
  refine ⟨1, by rw [h1]; rfl, ?_, ?_, ?_⟩
  · rw [h1]
    apply List.map_congr_left
    intro b hb
    have hb2 := List.mem_range.1 hb
    show 0 = clsOf (colOf [R]) 256 b
    unfold clsOf
    rw [hf6]
    simp only [if_neg (show ¬ (256 : Nat) = 0 by omega), List.findIdx_cons, hcol 0 (by omega), hcol b hb2]
    simp
  · rw [h1]
    show _ = [(firsts (colOf [R]) 256).map fun c => R.getD c 0]
    rw [hf6, if_neg (show ¬ (256 : Nat) = 0 by omega)]
    show _ = [[R.getD 0 0]]
    rw [hRb 0 (by omega)]
  · rw [h1]; rfl
end Go.Proofs.Ytkdkibnjfgcppaa.mi

namespace Go.Proofs.Ytkdkibnjfgcppaa.mi
open Go.ChangeShapes Go.WideShapes Go.ChangeAt Go.RowKit Go.Shelf Go.Maps
set_option linter.unusedVariables false

abbrev ivl (l : List Int) : List Value := l.map (Value.int .i64)
/-- the states met, and the rows behind one another -/
structure Ma1 (w : World) (B : Nat) (sv : Value) (S : List Int) (wv : Value) (vs : List Value) (rows : List (List Int)) : Prop where
  s : w.ownsRow B 3 1 sv S.length (ivl S)
  wd : w.ownsRow B 39 1 wv rows.length vs
  rs : ∀ k, k < rows.length → ∃ v, vs[k]? = some v ∧ w.ownsRow B 3 1 v (nthL rows k).length (ivl (nthL rows k)) ∧ v.ownBlock ≠ none ∧ v.ownBlock ≠ sv.ownBlock
  ss : sv.ownBlock ≠ none
section
variable {w w' : World} {B : Nat} {sv : Value} {S : List Int} {wv : Value} {vs : List Value} {rows : List (List Int)}
theorem Ma1.later (h : Ma1 w B sv S wv vs rows) (b : Below w.heap.size w w') : Ma1 w' B sv S wv vs rows :=
  ⟨ow.later h.s b, ow.later h.wd b, fun k hk => by
    obtain ⟨v, e, h1, h2⟩ := h.rs k hk
    exact ⟨v, e, ow.later h1 b, h2⟩, h.ss⟩
theorem own_kept {w w' : World} {B e n : Nat} {v : Value} {xs : List Value} {row : Option Nat} (h : w.ownsRow B e 1 v n xs) (hg : w.grownBy w' row) (hne : v.ownBlock ≠ row ∨ v.ownBlock = none) : w'.ownsRow B e 1 v n xs :=
  ow.keep h fun g hk => hg.block g (ow.lt h hk).2 (fun e => by
    rcases hne with h1 | h1
    · exact h1 (by rw [hk, e])
    · rw [h1] at hk; cases hk)
theorem own_cells {w : World} {B e n : Nat} {v : Value} {xs : List Value} (h : w.ownsRow B e 1 v n xs) {g : Nat} (hk : v.ownBlock = some g) : ∃ cur, w.heap[g]? = some (.cells cur e (0, 0)) := by
  rcases h.2 with ⟨rfl, _⟩ | ⟨gg, cap, cur, rfl, _, hgg, _⟩
  · cases hk
  · cases hk; exact ⟨cur, hgg⟩
theorem own_apart {w : World} {B e e' n n' : Nat} {v v' : Value} {xs xs' : List Value} (h : w.ownsRow B e 1 v n xs) (h' : w.ownsRow B e' 1 v' n' xs') (hne : e ≠ e') : v.ownBlock ≠ v'.ownBlock ∨ v.ownBlock = none := by
  cases hk : v.ownBlock with
  | none => exact .inr rfl
  | some g =>
    refine .inl fun e1 => ?_
    obtain ⟨cur, hc⟩ := own_cells h hk
    exact ow.type h' hc hne e1
/-- one more state is met -/
theorem Ma1.met (h : Ma1 w B sv S wv vs rows) {j : Int} {v' : Value} (ho : w'.ownsRow B 3 1 v' (S.length + 1) (ivl S ++ [.int .i64 j])) (hg : w.grownBy w' sv.ownBlock) (hb : v'.ownBlock = sv.ownBlock ∨ ∃ g, v'.ownBlock = some g ∧ w.heap.size ≤ g) : Ma1 w' B v' (S ++ [j]) wv vs rows := by
  refine ⟨by unfold ivl; rw [List.length_append, List.map_append]; exact ho, own_kept h.wd hg (own_apart h.wd h.s (by decide)), fun k hk => ?_, ?_⟩
  · obtain ⟨v, e, h1, h2, h3⟩ := h.rs k hk
    refine ⟨v, e, own_kept h1 hg (.inl h3), h2, ?_⟩
    rcases hb with e1 | ⟨g, e1, hle⟩
    · rw [e1]; exact h3
    · rw [e1]; intro e2
      have := (ow.lt h1 e2).2
      omega
  · rcases hb with e1 | ⟨g, e1, _⟩
    · rw [e1]; exact h.ss
    · rw [e1]; simp
/-- a row of its own beside them -/
structure Rw1 (w : World) (B : Nat) (rvv : Value) (r : List Int) (sv : Value) (vs : List Value) : Prop where
  r : w.ownsRow B 3 1 rvv r.length (ivl r)
  n0 : rvv.ownBlock ≠ none
  ns : rvv.ownBlock ≠ sv.ownBlock
  nv : ∀ (k : Nat) (v : Value), vs[k]? = some v → v.ownBlock ≠ rvv.ownBlock
theorem Rw1.later {rvv : Value} {r : List Int} (h : Rw1 w B rvv r sv vs) (b : Below w.heap.size w w') : Rw1 w' B rvv r sv vs := ⟨ow.later h.r b, h.n0, h.ns, h.nv⟩
/-- the states grow: the row stays -/
theorem Rw1.met {rvv : Value} {r : List Int} (h : Rw1 w B rvv r sv vs) {v' : Value} (hg : w.grownBy w' sv.ownBlock) (hb : v'.ownBlock = sv.ownBlock ∨ ∃ g, v'.ownBlock = some g ∧ w.heap.size ≤ g) : Rw1 w' B rvv r v' vs := by
  refine ⟨own_kept h.r hg (.inl h.ns), h.n0, ?_, h.nv⟩
  rcases hb with e1 | ⟨g, e1, hle⟩
  · rw [e1]; exact h.ns
  · rw [e1]; intro e2
    have := (ow.lt h.r e2).2
    omega
/-- the row grows: what is beside it stays -/
theorem Ma1.row (h : Ma1 w B sv S wv vs rows) {rvv : Value} {r : List Int} (hr : Rw1 w B rvv r sv vs) (hg : w.grownBy w' rvv.ownBlock) : Ma1 w' B sv S wv vs rows :=
  ⟨own_kept h.s hg (.inl (Ne.symm hr.ns)), own_kept h.wd hg (own_apart h.wd hr.r (by decide)), fun k hk => by
    obtain ⟨v, e, h1, h2, h3⟩ := h.rs k hk
    exact ⟨v, e, own_kept h1 hg (.inl (hr.nv k v e)), h2, h3⟩, h.ss⟩
theorem Rw1.row {rvv : Value} {r : List Int} (h : Rw1 w B rvv r sv vs) (hS : Ma1 w B sv S wv vs rows) {x : Int} {v' : Value} (ho : w'.ownsRow B 3 1 v' (r.length + 1) (ivl r ++ [.int .i64 x])) (hl : vs.length = rows.length) (hb : v'.ownBlock = rvv.ownBlock ∨ ∃ g, v'.ownBlock = some g ∧ w.heap.size ≤ g) : Rw1 w' B v' (r ++ [x]) sv vs := by
  refine ⟨by unfold ivl; rw [List.length_append, List.map_append]; exact ho, ?_, ?_, fun k v hv => ?_⟩
  · rcases hb with e1 | ⟨g, e1, _⟩
    · rw [e1]; exact h.n0
    · rw [e1]; simp
  · rcases hb with e1 | ⟨g, e1, hle⟩
    · rw [e1]; exact h.ns
    · rw [e1]; intro e2
      have := (ow.lt hS.s e2.symm).2
      omega
  · rcases hb with e1 | ⟨g, e1, hle⟩
    · rw [e1]; exact h.nv k v hv
    · rw [e1]; intro e2
      have hk : k < rows.length := by rw [← hl]; exact (List.getElem?_eq_some_iff.1 hv).1
      obtain ⟨v2, e3, h1, _⟩ := hS.rs k hk
      rw [hv] at e3
      obtain rfl := Option.some.inj e3
      have := (ow.lt h1 e2).2
      omega
/-- the row is put behind the others -/
theorem Ma1.push (h : Ma1 w B sv S wv vs rows) {rvv : Value} {r : List Int} (hr : Rw1 w B rvv r sv vs) (hl : vs.length = rows.length) {v' : Value} (ho : w'.ownsRow B 39 1 v' (rows.length + 1) (vs ++ [rvv])) (hg : w.grownBy w' wv.ownBlock) : Ma1 w' B sv S v' (vs ++ [rvv]) (rows ++ [r]) := by
  refine ⟨own_kept h.s hg (own_apart h.s h.wd (by decide)), by rw [List.length_append]; exact ho, fun k hk => ?_, h.ss⟩
  rw [List.length_append] at hk
  by_cases e : k < rows.length
  · obtain ⟨v, e1, h1, h2, h3⟩ := h.rs k e
    have en : nthL (rows ++ [r]) k = nthL rows k := by unfold nthL; rw [List.getD_eq_getElem?_getD, List.getD_eq_getElem?_getD, List.getElem?_append_left e]
    rw [en]
    exact ⟨v, by rw [List.getElem?_append_left (by omega)]; exact e1, own_kept h1 hg (own_apart h1 h.wd (by decide)), h2, h3⟩
  · obtain rfl : k = rows.length := by simp at hk; omega
    have en : nthL (rows ++ [r]) rows.length = r := by unfold nthL; rw [List.getD_eq_getElem?_getD, List.getElem?_append_right (Nat.le_refl _)]; simp
    rw [en]
    exact ⟨rvv, by rw [List.getElem?_append_right (by omega), hl]; simp, own_kept hr.r hg (own_apart hr.r h.wd (by decide)), hr.n0, hr.ns⟩
end
end Go.Proofs.Ytkdkibnjfgcppaa.mi

namespace Go.Proofs.Ytkdkibnjfgcppaa.mi
set_option linter.unusedVariables false

theorem cls_uniq {col : Nat → List Int} {k b c f : Nat} (hb : b < k) (hf : (firsts col k)[c]? = some f) (hc : col f = col b) : clsOf col k b = c := by
  obtain ⟨f', h1, h2⟩ := cls_at col hb
  obtain ⟨a1, a2⟩ := List.getElem?_eq_some_iff.1 hf
  obtain ⟨b1, b2⟩ := List.getElem?_eq_some_iff.1 h1
  have hp := List.pairwise_iff_getElem.1 (firsts_dis col k)
  have e : ∀ i (h : i < (firsts col k).length), ((firsts col k).map col)[i]'(by rw [List.length_map]; exact h) = col (firsts col k)[i] := fun i h => List.getElem_map _
  rcases Nat.lt_trichotomy (clsOf col k b) c with h | h | h
  · exact absurd (by rw [e _ b1, e _ a1, a2, b2, hc, h2]) (hp _ _ (by rw [List.length_map]; exact b1) (by rw [List.length_map]; exact a1) h)
  · exact h
  · exact absurd (by rw [e _ b1, e _ a1, a2, b2, hc, h2]) (hp _ _ (by rw [List.length_map]; exact a1) (by rw [List.length_map]; exact b1) h)
/-- how far the classes are looked at for one that is the byte's -/
def Lc (col : Nat → List Int) (b c : Nat) (k : Int) : Prop := (k = -1 ∧ ∀ (i f : Nat), i < c → (firsts col b)[i]? = some f → col f ≠ col b) ∨ ∃ (i f : Nat), k = (i : Int) ∧ (firsts col b)[i]? = some f ∧ col f = col b
theorem Lc.start (col : Nat → List Int) (b : Nat) : Lc col b 0 (-1) := .inl ⟨rfl, fun i f hi => by omega⟩
theorem Lc.yes {col : Nat → List Int} {b c f : Nat} (hf : (firsts col b)[c]? = some f) (h : col f = col b) : Lc col b (c + 1) (c : Int) := .inr ⟨c, f, rfl, hf, h⟩
theorem Lc.no {col : Nat → List Int} {b c f : Nat} {k : Int} (hL : Lc col b c k) (hf : (firsts col b)[c]? = some f) (h : col f ≠ col b) : Lc col b (c + 1) k := by
  rcases hL with ⟨e, h2⟩ | h2
  · refine .inl ⟨e, fun i f' hi hf' => ?_⟩
    by_cases e2 : i = c
    · subst e2
      rw [hf] at hf'
      rw [← Option.some.inj hf']; exact h
    · exact h2 i f' (by omega) hf'
  · exact .inr h2
theorem Lc.keep {col : Nat → List Int} {b c : Nat} {k : Int} (hL : Lc col b c k) (hk : 0 ≤ k) : Lc col b (c + 1) k := by
  rcases hL with ⟨e, _⟩ | h2
  · omega
  · exact .inr h2
theorem Lc.new {col : Nat → List Int} {b : Nat} (hb : b < 256) (hL : Lc col b (firsts col b).length (-1)) : firsts col (b + 1) = firsts col b ++ [b] ∧ clsOf col 256 b = (firsts col b).length := by
  rcases hL with ⟨_, h2⟩ | ⟨i, f, e, _⟩
  · have hn : ¬ ∃ c ∈ firsts col b, col c = col b := fun ⟨f, hf, e⟩ => by
      obtain ⟨i, hi, e2⟩ := List.mem_iff_getElem.1 hf
      exact h2 i f hi (by rw [List.getElem?_eq_getElem hi, e2]) e
    have e1 := firsts_no hn
    refine ⟨e1, ?_⟩
    rw [cls_pre col (show b < b + 1 by omega) (by omega)]
    exact cls_uniq (by omega) (f := b) (by rw [e1, List.getElem?_append_right (Nat.le_refl _)]; simp) rfl
  · omega
theorem Lc.old {col : Nat → List Int} {b k : Nat} (hb : b < 256) (hL : Lc col b (firsts col b).length (k : Int)) : firsts col (b + 1) = firsts col b ∧ clsOf col 256 b = k ∧ k < (firsts col b).length := by
  rcases hL with ⟨e, _⟩ | ⟨i, f, e, hf, hc⟩
  · omega
  · obtain rfl : k = i := by omega
    have e1 := firsts_yes ⟨f, List.mem_of_getElem? hf, hc⟩
    refine ⟨e1, ?_, (List.getElem?_eq_some_iff.1 hf).1⟩
    rw [cls_pre col (show b < b + 1 by omega) (by omega)]
    exact cls_uniq (by omega) (f := f) (by rw [e1]; exact hf) hc
/-- two columns, row by row -/
def Sm (rows : List (List Int)) (b l m : Nat) (same : Bool) : Prop := same = true ↔ ∀ k, k < m → (rows.getD k []).getD b 0 = (rows.getD k []).getD l 0
theorem Sm.start (rows : List (List Int)) (b l : Nat) : Sm rows b l 0 true := ⟨fun _ k hk => by omega, fun _ => rfl⟩
theorem Sm.step {rows : List (List Int)} {b l m : Nat} {same : Bool} (h : Sm rows b l m same) : Sm rows b l (m + 1) (same && decide ((rows.getD m []).getD b 0 = (rows.getD m []).getD l 0)) := by
  unfold Sm at *
  rw [Bool.and_eq_true, decide_eq_true_iff, h]
  constructor
  · rintro ⟨h1, h2⟩ k hk
    by_cases e : k = m
    · rw [e]; exact h2
    · exact h1 k (by omega)
  · exact fun h1 => ⟨fun k hk => h1 k (by omega), h1 m (by omega)⟩
theorem Sm.done {rows : List (List Int)} {b l : Nat} {same : Bool} (h : Sm rows b l rows.length same) : same = true ↔ colOf rows l = colOf rows b := by
  unfold Sm at h
  rw [h]
  unfold colOf
  constructor
  · intro h1
    apply List.map_congr_left
    intro r hr
    obtain ⟨k, hk, rfl⟩ := List.mem_iff_getElem.1 hr
    have := h1 k hk
    have e : rows.getD k [] = rows[k] := by rw [List.getD_eq_getElem?_getD, List.getElem?_eq_getElem hk]; rfl
    rw [e] at this
    exact this.symm
  · intro h1 k hk
    have e : rows.getD k [] = rows[k] := by rw [List.getD_eq_getElem?_getD, List.getElem?_eq_getElem hk]; rfl
    rw [e]
    have := congrArg (·[k]?) h1
    simp [hk] at this
    rw [List.getD_eq_getElem?_getD, List.getD_eq_getElem?_getD]
    exact this.symm
end Go.Proofs.Ytkdkibnjfgcppaa.mi
