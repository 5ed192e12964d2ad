/-
  Texts put together: Plain mathematics: the table of pairs that are apart. Contracts over this program: a table in memory; the document's differ.
-/
import Derived.Test.YtkdkibnjfgcppaaM04
namespace Go.Proofs.Ytkdkibnjfgcppaa.mi
set_option linter.unusedVariables false

def nthL (t : List (List Int)) (i : Nat) : List Int := t.getD i []
def T2 (t : List (List Int)) (i j : Nat) : Int := atL (nthL t i) j
def put2 (t : List (List Int)) (i j : Nat) : List (List Int) := t.set i ((nthL t i).set j 1)
theorem nthL_set (t : List (List Int)) (i k : Nat) (r : List Int) (hi : i < t.length) : nthL (t.set i r) k = if i = k then r else nthL t k := by
  unfold nthL
  rw [List.getD_eq_getElem?_getD, List.getD_eq_getElem?_getD, List.getElem?_set]
  by_cases e : i = k
  · rw [if_pos e, if_pos e, if_pos hi]; rfl
  · rw [if_neg e, if_neg e]
theorem T2_put (t : List (List Int)) (i j a b : Nat) (hi : i < t.length) (hj : j < (nthL t i).length) : T2 (put2 t i j) a b = if i = a ∧ j = b then 1 else T2 t a b := by
  unfold T2 put2
  rw [nthL_set t i a _ hi]
  by_cases e : i = a
  · subst e
    rw [if_pos rfl, atL_set _ _ _ _ hj]
    by_cases e2 : j = b
    · rw [if_pos e2, if_pos ⟨rfl, e2⟩]
    · rw [if_neg e2, if_neg fun h => e2 h.2]
  · rw [if_neg e, if_neg fun h => e h.1]
def zs2 : List (List Int) → Nat
  | [] => 0
  | r :: t => zeros r + zs2 t
theorem zs2_set : ∀ (t : List (List Int)) (i j : Nat), i < t.length → j < (nthL t i).length → T2 t i j = 0 → zs2 (put2 t i j) + 1 = zs2 t
  | [], i, j, h, _, _ => by simp at h
  | r :: t, 0, j, _, hj, h0 => by
    have := zeros_set r j hj h0
    show zeros (r.set j 1) + zs2 t + 1 = zeros r + zs2 t
    omega
  | r :: t, i + 1, j, hi, hj, h0 => by
    have := zs2_set t i j (by simpa using hi) hj h0
    show zeros r + zs2 (put2 t i j) + 1 = zeros r + zs2 t
    omega
/-- dead: nothing comes out of there -/
def ddx (l : List Int) (x : Int) : Bool := decide (x < 0) || decide (atL l x.toNat = 0)
def dfB (d : df.Dfa) (l : List Int) (t : List (List Int)) (i j b : Nat) : Bool :=
  (ddx l (df.nxt d i (d.cls b)) != ddx l (df.nxt d j (d.cls b))) || (!ddx l (df.nxt d i (d.cls b)) && decide (T2 t (df.nxt d i (d.cls b)).toNat (df.nxt d j (d.cls b)).toNat = 1))
def Dif (d : df.Dfa) (l : List Int) (t : List (List Int)) (i j : Nat) : Prop := ∃ b, b < 256 ∧ dfB d l t i j b = true
/-- the live states are marked -/
def Lives (d : df.Dfa) (l : List Int) : Prop := l.length = d.next.length ∧ Bin l ∧ ∀ i, i < d.next.length → (atL l i = 1 ↔ Live (lg d i))
theorem ddx_dv {d : df.Dfa} (hr : df.right d = true) {l : List Int} (hl : Lives d l) {i b : Nat} (hi : i < d.next.length) (hb : b < 256) : (ddx l (df.nxt d i (d.cls b)) = true → dv (lg d i) (by8 b) = nil) ∧ (ddx l (df.nxt d i (d.cls b)) = false → 0 ≤ df.nxt d i (d.cls b) ∧ (df.nxt d i (d.cls b)).toNat < d.next.length ∧ Live (lg d (df.nxt d i (d.cls b)).toNat) ∧ dv (lg d i) (by8 b) = lg d (df.nxt d i (d.cls b)).toNat) := by
  have hok := df.ok_of d hr
  have hn := df.nxt_ok hok i (d.cls b) hi (hok.cl b hb)
  rw [lg_dv d i b hb]
  unfold ddx
  by_cases hx : 0 ≤ df.nxt d i (d.cls b)
  · rw [if_pos hx, decide_eq_false (by omega), Bool.false_or]
    have hlt : (df.nxt d i (d.cls b)).toNat < d.next.length := by omega
    refine ⟨fun h => ?_, fun h => ⟨hx, hlt, ?_, rfl⟩⟩
    · have h0 := of_decide_eq_true h
      exact not_live.1 fun hL => by have := (hl.2.2 _ hlt).2 hL; omega
    · have h0 := of_decide_eq_false h
      exact (hl.2.2 _ hlt).1 ((hl.2.1 _).resolve_left h0)
  · rw [if_neg hx, decide_eq_true (by omega), Bool.true_or]
    exact ⟨fun _ => rfl, fun h => by cases h⟩
structure ApOk (d : df.Dfa) (t : List (List Int)) : Prop where
  len : t.length = d.next.length
  wide : ∀ i, i < d.next.length → (nthL t i).length = d.next.length
  bin : ∀ i j, T2 t i j = 0 ∨ T2 t i j = 1
  acc : ∀ i j, i < d.next.length → j < d.next.length → df.acpt d i ≠ df.acpt d j → T2 t i j = 1
  sound : ∀ i j, i < d.next.length → j < d.next.length → T2 t i j = 1 → lg d i ≠ lg d j
theorem ApOk.put {d : df.Dfa} (hr : df.right d = true) {l : List Int} (hl : Lives d l) {t : List (List Int)} (h : ApOk d t) {i j : Nat} (hi : i < d.next.length) (hj : j < d.next.length) (hd : Dif d l t i j) : ApOk d (put2 t i j) := by
  have hil : i < t.length := by rw [h.len]; exact hi
  have hjl : j < (nthL t i).length := by rw [h.wide i hi]; exact hj
  refine ⟨by unfold put2; rw [List.length_set]; exact h.len, fun k hk => ?_, fun a b => ?_, fun a b ha hb hab => ?_, fun a b ha hb hab => ?_⟩
  · unfold put2
    rw [nthL_set t i k _ hil]
    split
    · rw [List.length_set]; exact h.wide i hi
    · exact h.wide k hk
  · rw [T2_put t i j a b hil hjl]
    split
    · exact .inr rfl
    · exact h.bin a b
  · rw [T2_put t i j a b hil hjl]
    split
    · rfl
    · exact h.acc a b ha hb hab
  · rw [T2_put t i j a b hil hjl] at hab
    by_cases e : i = a ∧ j = b
    · obtain ⟨rfl, rfl⟩ := e
      intro heq
      obtain ⟨c, hc, hB⟩ := hd
      have h1 := ddx_dv hr hl hi hc
      have h2 := ddx_dv hr hl hj hc
      unfold dfB at hB
      have hdv : dv (lg d i) (by8 c) = dv (lg d j) (by8 c) := by rw [heq]
      cases d1 : ddx l (df.nxt d i (d.cls c)) with
      | true =>
        rw [d1] at hB
        cases d2 : ddx l (df.nxt d j (d.cls c)) with
        | true => rw [d2] at hB; simp at hB
        | false =>
          obtain ⟨_, _, hL, e2⟩ := h2.2 d2
          rw [h1.1 d1, e2] at hdv
          rw [← hdv] at hL
          exact live_nil hL
      | false =>
        obtain ⟨x0, x1, hL1, e1⟩ := h1.2 d1
        rw [d1] at hB
        cases d2 : ddx l (df.nxt d j (d.cls c)) with
        | true =>
          rw [h2.1 d2, e1] at hdv
          rw [hdv] at hL1
          exact live_nil hL1
        | false =>
          obtain ⟨y0, y1, hL2, e2⟩ := h2.2 d2
          rw [d2] at hB
          simp at hB
          rw [e1, e2] at hdv
          exact h.sound _ _ x1 y1 hB hdv
    · rw [if_neg e] at hab
      exact h.sound a b ha hb hab
theorem ApOk.done {d : df.Dfa} (hr : df.right d = true) {l : List Int} (hl : Lives d l) {t : List (List Int)} (h : ApOk d t) (hs : ∀ i j, i < d.next.length → j < d.next.length → T2 t i j = 0 → ¬ Dif d l t i j) : ∀ i j, i < d.next.length → j < d.next.length → (T2 t i j = 0 ↔ lg d i = lg d j) := by
  have key : ∀ (w : List UInt8) (i j : Nat), i < d.next.length → j < d.next.length → T2 t i j = 0 → lg d i w = lg d j w := by
    intro w
    induction w with
    | nil =>
      intro i j hi hj h0
      rw [lg_nil, lg_nil]
      by_cases e : df.acpt d i = df.acpt d j
      · exact e
      · have := h.acc i j hi hj e; omega
    | cons b w ih =>
      intro i j hi hj h0
      have hb : b.toNat < 256 := b.toNat_lt
      have e : by8 b.toNat = b := by simp [by8]
      have h1 := ddx_dv hr hl hi hb
      have h2 := ddx_dv hr hl hj hb
      rw [e] at h1 h2
      have hn : dfB d l t i j b.toNat = false := by
        cases hq : dfB d l t i j b.toNat with
        | false => rfl
        | true => exact absurd ⟨_, hb, hq⟩ (hs i j hi hj h0)
      show dv (lg d i) b w = dv (lg d j) b w
      unfold dfB at hn
      cases d1 : ddx l (df.nxt d i (d.cls b.toNat)) with
      | true =>
        rw [d1] at hn
        cases d2 : ddx l (df.nxt d j (d.cls b.toNat)) with
        | true => rw [h1.1 d1, h2.1 d2]
        | false => rw [d2] at hn; simp at hn
      | false =>
        rw [d1] at hn
        cases d2 : ddx l (df.nxt d j (d.cls b.toNat)) with
        | true => rw [d2] at hn; simp at hn
        | false =>
          rw [d2] at hn
          simp at hn
          obtain ⟨x0, x1, _, e1⟩ := h1.2 d1
          obtain ⟨y0, y1, _, e2⟩ := h2.2 d2
          rw [e1, e2]
          exact ih _ _ x1 y1 ((h.bin _ _).resolve_right hn)
  intro i j hi hj
  refine ⟨fun h0 => funext fun w => key w i j hi hj h0, fun e => ?_⟩
  rcases h.bin i j with h0 | h1
  · exact h0
  · exact absurd e (h.sound i j hi hj h1)
/-- how a pass over the pairs stands -/
structure Pass2 (d : df.Dfa) (l : List Int) (t0 t : List (List Int)) (more : Bool) (i j : Nat) : Prop where
  ok : ApOk d t
  yes : more = true → zs2 t < zs2 t0
  no : more = false → t = t0 ∧ ∀ a b, a < d.next.length → b < d.next.length → (a < i ∨ a = i ∧ b < j) → T2 t a b = 0 → ¬ Dif d l t a b
theorem Pass2.skip {d : df.Dfa} {l : List Int} {t0 t : List (List Int)} {more : Bool} {i j : Nat} (h : Pass2 d l t0 t more i j) (hs : T2 t i j = 0 → ¬ Dif d l t i j) : Pass2 d l t0 t more i (j + 1) :=
  ⟨h.ok, h.yes, fun e => ⟨(h.no e).1, fun a b ha hb hab h0 => by
    by_cases e2 : a = i ∧ b = j
    · obtain ⟨rfl, rfl⟩ := e2; exact hs h0
    · exact (h.no e).2 a b ha hb (by omega) h0⟩⟩
theorem Pass2.mark {d : df.Dfa} (hr : df.right d = true) {l : List Int} (hl : Lives d l) {t0 t : List (List Int)} {more : Bool} {i j : Nat} (h : Pass2 d l t0 t more i j) (hi : i < d.next.length) (hj : j < d.next.length) (h0 : T2 t i j = 0) (hd : Dif d l t i j) : Pass2 d l t0 (put2 t i j) true i (j + 1) := by
  have hz := zs2_set t i j (by rw [h.ok.len]; exact hi) (by rw [h.ok.wide i hi]; exact hj) h0
  refine ⟨h.ok.put hr hl hi hj hd, fun _ => ?_, fun e => by cases e⟩
  cases hm : more with
  | true => have := h.yes hm; omega
  | false => rw [(h.no hm).1] at hz ⊢; omega
theorem Pass2.row {d : df.Dfa} {l : List Int} {t0 t : List (List Int)} {more : Bool} {i : Nat} (h : Pass2 d l t0 t more i d.next.length) : Pass2 d l t0 t more (i + 1) 0 :=
  ⟨h.ok, h.yes, fun e => ⟨(h.no e).1, fun a b ha hb hab h0 => (h.no e).2 a b ha hb (by omega) h0⟩⟩
end Go.Proofs.Ytkdkibnjfgcppaa.mi

namespace Go.Proofs.Ytkdkibnjfgcppaa.mi
open Go.ChangeShapes Go.WideShapes Go.ChangeAt Go.RowKit Go.Shelf Go.Maps
set_option linter.unusedVariables false

abbrev rv (n : Nat) (g : Nat) : Value := .slice (some ⟨g, 0, none⟩) n n
/-- a table whose rows lie in blocks of their own -/
structure TB (w : World) (B : Nat) (tv : Value) (gs : List Nat) (t : List (List Int)) (n : Nat) : Prop where
  own : w.ownsRow B 39 1 tv t.length (gs.map (rv n))
  len : gs.length = t.length
  rows : ∀ k, k < t.length → ∃ g, gs[k]? = some g ∧ B ≤ g ∧ ZRow w g (nthL t k) ∧ (nthL t k).length = n
  nd : gs.Nodup
section
variable {w w' : World} {B : Nat} {tv : Value} {gs : List Nat} {t : List (List Int)} {n : Nat}
theorem TB.later (h : TB w B tv gs t n) (b : Below w.heap.size w w') : TB w' B tv gs t n :=
  ⟨ow.later h.own b, h.len, fun k hk => by
    obtain ⟨g, e, h1, h2, h3⟩ := h.rows k hk
    exact ⟨g, e, h1, h2.later b, h3⟩, h.nd⟩
theorem TB.at (h : TB w B tv gs t n) {k : Nat} (hk : k < t.length) : ∃ q c g, tv = .slice (some ⟨q, 0, none⟩) t.length c ∧ t.length ≤ c ∧ c ≤ 9223372036854775807 ∧ gs[k]? = some g ∧ B ≤ g ∧ w.cell? ⟨q, k, none⟩ = some (rv n g) ∧ ZRow w g (nthL t k) ∧ (nthL t k).length = n := by
  obtain ⟨g, e, h1, h2, h3⟩ := h.rows k hk
  obtain ⟨o, c, e1, f1, f2, f3⟩ := own_row h.own (by rw [List.length_map]; exact h.len) (fun _ _ => rfl)
  obtain ⟨q, e2, _, _, hc⟩ := f3 k (rv n g) (by rw [List.getElem?_map, e]; rfl)
  exact ⟨q, c, g, by rw [e1, e2], f1, f2, e, h1, hc, h2, h3⟩
theorem TB.put (h : TB w B tv gs t n) {i j g : Nat} (hi : i < t.length) (hj : j < n) (hg : gs[i]? = some g) : TB (w.setCell ⟨g, j, none⟩ (.int .i64 1)) B tv gs (put2 t i j) n := by
  obtain ⟨g', e, h1, h2, h3⟩ := h.rows i hi
  rw [hg] at e
  obtain rfl := Option.some.inj e
  have oth : ∀ k, k ≠ g → (w.setCell ⟨g, j, none⟩ (.int .i64 1)).heap[k]? = w.heap[k]? := fun k hk => Below.heap_setCell _ _ _ _ hk
  have hl : (put2 t i j).length = t.length := by unfold put2; rw [List.length_set]
  refine ⟨by rw [hl]; exact ow.keep h.own fun k hk => oth k (fun e1 => ow.type h.own (show w.heap[g]? = _ from h2) (by decide) (by rw [← e1, hk])), by rw [hl]; exact h.len, fun k hk => ?_, h.nd⟩
  rw [hl] at hk
  unfold put2
  rw [nthL_set t i k _ hi]
  by_cases e1 : i = k
  · subst e1
    rw [if_pos rfl]
    exact ⟨g, hg, h1, h2.put j 1, by rw [List.length_set]; exact h3⟩
  · rw [if_neg e1]
    obtain ⟨gk, ek, k1, k2, k3⟩ := h.rows k hk
    have hne : gk ≠ g := fun e2 => by
      subst e2
      obtain ⟨a1, a2⟩ := List.getElem?_eq_some_iff.1 hg
      obtain ⟨c1, c2⟩ := List.getElem?_eq_some_iff.1 ek
      have hp := List.pairwise_iff_getElem.1 h.nd
      rcases Nat.lt_or_ge i k with h1 | h1
      · exact hp i k a1 c1 h1 (a2.trans c2.symm)
      · exact hp k i c1 a1 (by omega) (c2.trans a2.symm)
    exact ⟨gk, ek, k1, (oth gk hne).trans k2, k3⟩
end
theorem T2_at {t : List (List Int)} {i j : Nat} : atL (nthL t i) j = T2 t i j := rfl
set_option maxHeartbeats 4000000 in
set_option maxRecDepth 100000 in
theorem differ_any (d : df.Dfa) (hr : df.right d = true) (cs : Array Value) (o ao : Option Addr) (cap acap : Nat) (l : List Int) (lb : Nat) (B : Nat) (tv : Value) (gs : List Nat) (t : List (List Int)) (i j : Nat) (hi : i < d.next.length) (hj : j < d.next.length) (r : Bool) (hrr : r = true ↔ Dif d l t i j) (w : World) (hD : df.DAt (df.In w) w d cs o cap ao acap) (hl : l.length = d.next.length) (hbl : Bin l) (hZ : ZRow w lb l) (hT : TB w B tv gs t d.next.length) (htl : t.length = d.next.length) (hbt : ∀ a b, T2 t a b = 0 ∨ T2 t a b = 1) :
    Calls Try.prog 42 #[.agg cs, .slice (some ⟨lb, 0, none⟩) d.next.length d.next.length, tv, .int .i64 (i : Int), .int .i64 (j : Int)] w fun e w' => e = .returned (.bool r) ∧ Below w.heap.size w w' := by
  have hok := df.ok_of d hr
  have hmost := hok.most
  have hw8 := hD.size
  obtain ⟨q, qc, _, rfl, hq1, hq2, _⟩ := hT.at (k := i) (by omega)
  obtain ⟨wA, hwA⟩ : ∃ wA, wA = w.alloc (.cells cs 26) := ⟨_, rfl⟩
  have B0 : Below w.heap.size w wA := by rw [hwA]; exact below_alloc w _
  have xA : df.DBox wA w.heap.size cs := by rw [hwA]; exact df.dbox_new w cs
  have HA := (show Hid _ from hD.later B0)
  have HZ := (show Hid (ZRow wA lb l) from hZ.later B0)
  have HT := (show Hid _ from hT.later B0)
  have c1 := bytes_any d hr i hi cs o ao cap acap wA HA.out
  have HOK := (show Hid _ from hok)
  clear hD hZ hT hok
  go_enter Try.func42, Try.ntmps42
  go_wp2_with (fail)
  rw [← hwA]
  clear hwA
  refine wp_load_row 26 (.tmp 5) rfl w.heap.size rfl 26 cs (0, 0) _ xA Try.underlying26 rfl (df.info26 cs hw8) ?_
  go_wp2_with (fail)
  go_at_call 41
  refine c1.mono ?_
  rintro e w1 ⟨v1, rfl, hv1, b1⟩
  have x1 : df.DBox w1 w.heap.size cs := xA.later b1
  have c2 := bytes_any d hr j hj cs o ao cap acap w1 (HA.out.later b1)
  obtain ⟨vb, vc, rfl, _, hvc1, hvc2, hrow⟩ := rowB_of hv1
  have HR1 := (show Hid (RowB w1 vb d i) from hrow)
  have hvl : vb < w1.heap.size := block_lt_of_cell (hrow 0 (by omega))
  clear c1 hv1 hrow
  go_wp2_with (fail)
  refine wp_load_row 26 (.tmp 5) rfl w.heap.size rfl 26 cs (0, 0) _ x1 Try.underlying26 rfl (df.info26 cs hw8) ?_
  go_wp2_with (fail)
  go_at_call 41
  refine c2.mono ?_
  rintro e w2 ⟨v2, rfl, hv2, b2⟩
  obtain ⟨ub, uc, rfl, _, huc1, huc2, hrow⟩ := rowB_of hv2
  have HR2 := (show Hid (RowB w2 ub d j) from hrow)
  have HR1 := (show Hid (RowB w2 vb d i) from fun b hb => by rw [b2.cell (p := ⟨vb, b, none⟩) hvl]; exact HR1.out b hb)
  have b12 := df.chain b1 b2
  have HZ2 := (show Hid (ZRow w2 lb l) from HZ.out.later b12)
  have HT2 := (show Hid _ from HT.out.later b12)
  have HEND := (show Hid (Below w.heap.size w w2) from df.chain B0 b12)
  have HRR := (show Hid (r = true ↔ Dif d l t i j) from hrr)
  clear c2 hv2 hrow xA x1 HZ HT hrr
  go_wp2_with (fail)
  go_loopw [26] (fun y wr => ∃ b : Nat, y = .int .i64 (b : Int) ∧ b ≤ 256 ∧ wr = w2 ∧ Hid (∀ c, c < b → dfB d l t i j c = false)) (fun y _ => 256 - (intOf y).toNat)
  case atStart => exact ⟨0, rfl, by omega, rfl, fun c hc => by omega⟩
  case round =>
    obtain ⟨b, rfl, hb, rfl, HN⟩ := hrel
    by_cases hlt : b < 256
    · have k1 := HR1.out b hlt
      have k2 := HR2.out b hlt
      have n1 := df.nxt_ok HOK.out i (d.cls b) hi (HOK.out.cl b hlt)
      have n2 := df.nxt_ok HOK.out j (d.cls b) hj (HOK.out.cl b hlt)
      have HDF := (show Hid (dfB d l t i j b = ((ddx l (df.nxt d i (d.cls b)) != ddx l (df.nxt d j (d.cls b))) || (!ddx l (df.nxt d i (d.cls b)) && decide (T2 t (df.nxt d i (d.cls b)).toNat (df.nxt d j (d.cls b)).toNat = 1)))) from rfl)
      have HYES := (show Hid (dfB d l t i j b = true → r = true) from fun h => HRR.out.2 ⟨b, hlt, h⟩)
      have HNX := (show Hid (dfB d l t i j b = false → ∀ c, c < b + 1 → dfB d l t i j c = false) from fun h c hc => by
        by_cases e : c = b
        · rw [e]; exact h
        · exact HN.out c (by omega))
      have HL0 := (show Hid (∀ k, k < d.next.length → wr.cell? ⟨lb, k, none⟩ = some (.int .i64 (atL l k))) from fun k hk => HZ2.out.at (by omega))
      have HTT := (show Hid (∀ a b, a < d.next.length → b < d.next.length → ∃ g, wr.cell? ⟨q, a, none⟩ = some (rv d.next.length g) ∧ wr.cell? ⟨g, b, none⟩ = some (.int .i64 (T2 t a b))) from fun a b ha hb => by
        obtain ⟨q', qc', g, e1, _, _, _, _, hc1, hz1, hz2⟩ := HT2.out.at (k := a) (by omega)
        cases e1
        exact ⟨g, hc1, hz1.at (by omega)⟩)
      generalize df.nxt d i (d.cls b) = x at *
      generalize df.nxt d j (d.cls b) = y at *
      clear HN HT2 HZ2 HR1 HR2
      by_cases hx : x < 0
      · by_cases hy : y < 0
        · clear HL0
          have HF := (show Hid _ from HNX.out (by rw [HDF.out]; rw [show ddx l x = true from by unfold ddx; rw [decide_eq_true hx]; rfl, show ddx l y = true from by unfold ddx; rw [decide_eq_true hy]; rfl]; rfl))
          clear HYES HNX HDF HRR
          go_wp2_with (fail)
          go_roundw
          case rel => exact ⟨b + 1, by go_num, by omega, (by first | rfl | trivial), HF.out⟩
          case measure => simp [intOf]; omega
        · obtain ⟨yn, rfl⟩ := Int.eq_ofNat_of_zero_le (show 0 ≤ y by omega)
          have ky := HL0.out yn (by omega)
          have hyl : yn < d.next.length := by omega
          rcases hbl yn with hy0 | hy1
          · rw [hy0] at ky
            clear HL0
            have HF := (show Hid _ from HNX.out (by rw [HDF.out]; rw [show ddx l x = true from by unfold ddx; rw [decide_eq_true hx]; rfl, show ddx l ((yn : Nat) : Int) = true from by unfold ddx; rw [show ((yn : Nat) : Int).toNat = yn from rfl, hy0]; simp]; rfl))
            clear HYES HNX HDF HRR
            go_wp2_with (fail)
            go_roundw
            case rel => exact ⟨b + 1, by go_num, by omega, (by first | rfl | trivial), HF.out⟩
            case measure => simp [intOf]; omega
          · rw [hy1] at ky
            clear HL0
            obtain rfl : r = true := HYES.out (by rw [HDF.out]; rw [show ddx l x = true from by unfold ddx; rw [decide_eq_true hx]; rfl, show ddx l ((yn : Nat) : Int) = false from by unfold ddx; rw [show ((yn : Nat) : Int).toNat = yn from rfl, hy1, decide_eq_false (by omega)]; rfl]; rfl)
            clear HYES HNX HDF HRR
            go_wp2_with (fail)
            go_ret
            exact ⟨rfl, HEND.out⟩

      · obtain ⟨xn, rfl⟩ := Int.eq_ofNat_of_zero_le (show 0 ≤ x by omega)
        have kx := HL0.out xn (by omega)
        have hxl : xn < d.next.length := by omega
        rcases hbl xn with hx0 | hx1
        · rw [hx0] at kx
          by_cases hy : y < 0
          · clear HL0
            have HF := (show Hid _ from HNX.out (by rw [HDF.out]; rw [show ddx l ((xn : Nat) : Int) = true from by unfold ddx; rw [show ((xn : Nat) : Int).toNat = xn from rfl, hx0]; simp, show ddx l y = true from by unfold ddx; rw [decide_eq_true hy]; rfl]; rfl))
            clear HYES HNX HDF HRR
            go_wp2_with (fail)
            go_roundw
            case rel => exact ⟨b + 1, by go_num, by omega, (by first | rfl | trivial), HF.out⟩
            case measure => simp [intOf]; omega
          · obtain ⟨yn, rfl⟩ := Int.eq_ofNat_of_zero_le (show 0 ≤ y by omega)
            have ky := HL0.out yn (by omega)
            have hyl : yn < d.next.length := by omega
            rcases hbl yn with hy0 | hy1
            · rw [hy0] at ky
              clear HL0
              have HF := (show Hid _ from HNX.out (by rw [HDF.out]; rw [show ddx l ((xn : Nat) : Int) = true from by unfold ddx; rw [show ((xn : Nat) : Int).toNat = xn from rfl, hx0]; simp, show ddx l ((yn : Nat) : Int) = true from by unfold ddx; rw [show ((yn : Nat) : Int).toNat = yn from rfl, hy0]; simp]; rfl))
              clear HYES HNX HDF HRR
              go_wp2_with (fail)
              go_roundw
              case rel => exact ⟨b + 1, by go_num, by omega, (by first | rfl | trivial), HF.out⟩
              case measure => simp [intOf]; omega
            · rw [hy1] at ky
              clear HL0
              obtain rfl : r = true := HYES.out (by rw [HDF.out]; rw [show ddx l ((xn : Nat) : Int) = true from by unfold ddx; rw [show ((xn : Nat) : Int).toNat = xn from rfl, hx0]; simp, show ddx l ((yn : Nat) : Int) = false from by unfold ddx; rw [show ((yn : Nat) : Int).toNat = yn from rfl, hy1, decide_eq_false (by omega)]; rfl]; rfl)
              clear HYES HNX HDF HRR
              go_wp2_with (fail)
              go_ret
              exact ⟨rfl, HEND.out⟩
        · rw [hx1] at kx
          by_cases hy : y < 0
          · clear HL0
            obtain rfl : r = true := HYES.out (by rw [HDF.out]; rw [show ddx l ((xn : Nat) : Int) = false from by unfold ddx; rw [show ((xn : Nat) : Int).toNat = xn from rfl, hx1, decide_eq_false (by omega)]; rfl, show ddx l y = true from by unfold ddx; rw [decide_eq_true hy]; rfl]; rfl)
            clear HYES HNX HDF HRR
            go_wp2_with (fail)
            go_ret
            exact ⟨rfl, HEND.out⟩
          · obtain ⟨yn, rfl⟩ := Int.eq_ofNat_of_zero_le (show 0 ≤ y by omega)
            have ky := HL0.out yn (by omega)
            have hyl : yn < d.next.length := by omega
            rcases hbl yn with hy0 | hy1
            · rw [hy0] at ky
              clear HL0
              obtain rfl : r = true := HYES.out (by rw [HDF.out]; rw [show ddx l ((xn : Nat) : Int) = false from by unfold ddx; rw [show ((xn : Nat) : Int).toNat = xn from rfl, hx1, decide_eq_false (by omega)]; rfl, show ddx l ((yn : Nat) : Int) = true from by unfold ddx; rw [show ((yn : Nat) : Int).toNat = yn from rfl, hy0]; simp]; rfl)
              clear HYES HNX HDF HRR
              go_wp2_with (fail)
              go_ret
              exact ⟨rfl, HEND.out⟩
            · rw [hy1] at ky
              clear HL0
              obtain ⟨g, kg1, kg2⟩ := HTT.out xn yn (by omega) (by omega)
              rcases hbt xn yn with ht0 | ht1
              · rw [ht0] at kg2
                have HF := (show Hid _ from HNX.out (by rw [HDF.out]; rw [show ddx l ((xn : Nat) : Int) = false from by unfold ddx; rw [show ((xn : Nat) : Int).toNat = xn from rfl, hx1, decide_eq_false (by omega)]; rfl, show ddx l ((yn : Nat) : Int) = false from by unfold ddx; rw [show ((yn : Nat) : Int).toNat = yn from rfl, hy1, decide_eq_false (by omega)]; rfl, show T2 t ((xn : Nat) : Int).toNat ((yn : Nat) : Int).toNat = 0 from ht0]; rfl))
                clear HYES HNX HDF HRR
                go_wp2_with (fail)
                go_roundw
                case rel => exact ⟨b + 1, by go_num, by omega, (by first | rfl | trivial), HF.out⟩
                case measure => simp [intOf]; omega
              · rw [ht1] at kg2
                obtain rfl : r = true := HYES.out (by rw [HDF.out]; rw [show ddx l ((xn : Nat) : Int) = false from by unfold ddx; rw [show ((xn : Nat) : Int).toNat = xn from rfl, hx1, decide_eq_false (by omega)]; rfl, show ddx l ((yn : Nat) : Int) = false from by unfold ddx; rw [show ((yn : Nat) : Int).toNat = yn from rfl, hy1, decide_eq_false (by omega)]; rfl, show T2 t ((xn : Nat) : Int).toNat ((yn : Nat) : Int).toNat = 1 from ht1]; rfl)
                clear HYES HNX HDF HRR
                go_wp2_with (fail)
                go_ret
                exact ⟨rfl, HEND.out⟩
    · have HF := (show Hid (r = false) from by
        cases hr2 : r with
        | false => rfl
        | true =>
          obtain ⟨c, hc, hq⟩ := HRR.out.1 hr2
          rw [HN.out c (by omega)] at hq; cases hq)
      obtain rfl : r = false := HF.out
      go_wp2_with (fail)
      go_ret
      exact ⟨rfl, HEND.out⟩
end Go.Proofs.Ytkdkibnjfgcppaa.mi
