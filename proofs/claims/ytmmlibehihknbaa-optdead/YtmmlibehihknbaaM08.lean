/-
  Texts put together: Over this program: a row of signs in memory, with its pile and its ranks. Contracts over this program: a sign and the one after it are looked up (row.look).
-/
import Derived.Test.YtmmlibehihknbaaKEa
import Derived.Test.YtmmlibehihknbaaM07
import Derived.Test.YtmmlibehihknbaaM04
namespace Go.Proofs.Ytmmlibehihknbaa.en
open Go.ChangeShapes Go.WideShapes Go.ChangeAt Go.RowKit Go.Shelf Go.Maps
open mg (Mg iv OkM I64 below_alloc chain)
open pp (Pr plt Pil cs2)
open hp (RMap Heap Mv own_keep)
set_option linter.unusedVariables false
set_option maxRecDepth 100000

/-- signs as cells -/
def cs4 : List Sg → List Value
  | [] => []
  | s :: l => .int .i64 s.id :: .int .i64 s.before :: .int .i64 s.after :: .int .i64 s.rank :: cs4 l
theorem cs4_len (l : List Sg) : (cs4 l).length = l.length * 4 := by
  induction l with
  | nil => rfl
  | cons p l ih => simp [cs4, ih]; omega
theorem cs4_app (l : List Sg) (s : Sg) : cs4 (l ++ [s]) = cs4 l ++ [.int .i64 s.id, .int .i64 s.before, .int .i64 s.after, .int .i64 s.rank] := by
  induction l with
  | nil => rfl
  | cons q l ih => simp [cs4, ih]
theorem cs4_at : ∀ (l : List Sg) (i : Nat) (s : Sg), l[i]? = some s → (cs4 l)[i * 4]? = some (.int .i64 s.id) ∧ (cs4 l)[i * 4 + 1]? = some (.int .i64 s.before) ∧ (cs4 l)[i * 4 + 2]? = some (.int .i64 s.after) ∧ (cs4 l)[i * 4 + 3]? = some (.int .i64 s.rank) := by
  intro l
  induction l with
  | nil => intro i p h; simp at h
  | cons q l ih =>
    intro i p h
    cases i with
    | zero => simp at h; subst h; exact ⟨rfl, rfl, rfl, rfl⟩
    | succ i =>
      simp at h
      have := ih i p h
      rw [show (i + 1) * 4 = i * 4 + 1 + 1 + 1 + 1 by omega]
      simpa [cs4] using this
theorem cs4_set : ∀ (l : List Sg) (i : Nat) (s : Sg), l[i]? = some s → ∀ x : Int, (cs4 l).set (i * 4) (.int .i64 x) = cs4 (l.set i { s with id := x }) ∧ (cs4 l).set (i * 4 + 1) (.int .i64 x) = cs4 (l.set i { s with before := x }) ∧ (cs4 l).set (i * 4 + 2) (.int .i64 x) = cs4 (l.set i { s with after := x }) ∧ (cs4 l).set (i * 4 + 3) (.int .i64 x) = cs4 (l.set i { s with rank := x }) := by
  intro l
  induction l with
  | nil => intro i p h; simp at h
  | cons q l ih =>
    intro i p h x
    cases i with
    | zero => simp at h; subst h; exact ⟨rfl, rfl, rfl, rfl⟩
    | succ i =>
      simp at h
      have := ih i p h x
      rw [show (i + 1) * 4 = i * 4 + 1 + 1 + 1 + 1 by omega]
      simpa [cs4] using this

/-- what the row's functions may change: blocks of rows, signs, pairs from B on; new ones -/
structure Ch (B : Nat) (W W' : World) : Prop where
  os : W'.os = W.os
  tape : W'.tape = W.tape
  output : W'.output = W.output
  size : W.heap.size ≤ W'.heap.size
  low : ∀ k, k < B → W'.heap[k]? = W.heap[k]?
  oth : ∀ (k : Nat) (ob : Obj), W.heap[k]? = some ob → (∀ cs fr, ob ≠ Obj.cells cs 160 fr) → (∀ cs fr, ob ≠ Obj.cells cs 162 fr) → (∀ cs fr, ob ≠ Obj.cells cs 165 fr) → W'.heap[k]? = some ob
theorem Ch.refl (B : Nat) (W : World) : Ch B W W := ⟨rfl, rfl, rfl, Nat.le_refl _, fun _ _ => rfl, fun _ _ h _ _ _ => h⟩
theorem Ch.trans {B : Nat} {W W1 W2 : World} (h : Ch B W W1) (k : Ch B W1 W2) : Ch B W W2 :=
  ⟨k.os.trans h.os, k.tape.trans h.tape, k.output.trans h.output, Nat.le_trans h.size k.size, fun x hx => (k.low x hx).trans (h.low x hx), fun x ob h0 h1 h2 h3 => k.oth x ob (h.oth x ob h0 h1 h2 h3) h1 h2 h3⟩
theorem Ch.below {B : Nat} {W W' : World} (h : Ch B W W') : Below B W W' := ⟨h.os, h.tape, h.output, h.size, h.low⟩
theorem Ch.of_below {B : Nat} {W W' : World} (h : Below W.heap.size W W') (hB : B ≤ W.heap.size) : Ch B W W' :=
  ⟨h.os, h.tape, h.output, h.size, fun k hk => h.block k (by omega), fun k ob h0 _ _ _ => (h.block k (Array.getElem?_eq_some_iff.1 h0).1).trans h0⟩
theorem Ch.drewN {B : Nat} {W W' : World} (h : Ch B W W') (n : Nat) : Ch B W (W'.drewN n) := ⟨h.os, h.tape, h.output, h.size, h.low, h.oth⟩
abbrev rcells (mb : Nat) (vs vp : Value) : Array Value := #[.map (some mb), vs, vp]
/-- a row of signs -/
structure Rw (W : World) (B rb mb : Nat) (vs vp : Value) (K : List Mg) (S : List Sg) (L : List Pr) : Prop where
  box : W.heap[rb]? = some (.cells (rcells mb vs vp) 160 (0, 0))
  sg : W.ownsRow B 162 4 vs S.length (cs4 S)
  prs : W.ownsRow B 165 2 vp L.length (cs2 L)
  map : RMap W mb K
  bb : B ≤ rb
section
variable {W W' : World} {B rb mb : Nat} {vs vp : Value} {K : List Mg} {S : List Sg} {L : List Pr}
theorem Rw.lt (h : Rw W B rb mb vs vp K S L) : rb < W.heap.size := (Array.getElem?_eq_some_iff.1 h.box).1
theorem Rw.c0 (h : Rw W B rb mb vs vp K S L) : W.cell? ⟨rb, 0, none⟩ = some (.map (some mb)) := by rw [Lib.cell_of_heap h.box]; rfl
theorem Rw.c1 (h : Rw W B rb mb vs vp K S L) : W.cell? ⟨rb, 1, none⟩ = some vs := by rw [Lib.cell_of_heap h.box]; rfl
theorem Rw.c2 (h : Rw W B rb mb vs vp K S L) : W.cell? ⟨rb, 2, none⟩ = some vp := by rw [Lib.cell_of_heap h.box]; rfl
theorem Rw.fz (h : Rw W B rb mb vs vp K S L) (i : Nat) : W.frozen? ⟨rb, i, none⟩ = false := Lib.frozen_of_heap h.box i
theorem Rw.ns (h : Rw W B rb mb vs vp K S L) : some rb ≠ vs.ownBlock := ow.type h.sg h.box (by decide)
theorem Rw.np (h : Rw W B rb mb vs vp K S L) : some rb ≠ vp.ownBlock := ow.type h.prs h.box (by decide)
theorem Rw.nsm (h : Rw W B rb mb vs vp K S L) : some mb ≠ vs.ownBlock := by obtain ⟨es, c, e⟩ := h.map.obj; exact ow.kind h.sg e rfl
theorem Rw.npm (h : Rw W B rb mb vs vp K S L) : some mb ≠ vp.ownBlock := by obtain ⟨es, c, e⟩ := h.map.obj; exact ow.kind h.prs e rfl
theorem Rw.nm (h : Rw W B rb mb vs vp K S L) : mb ≠ rb := by
  intro e
  subst e
  obtain ⟨es, c, e⟩ := h.map.obj
  rw [h.box] at e
  cases e
theorem own_cells {e sz n g : Nat} {v : Value} {xs : List Value} (h : W.ownsRow B e sz v n xs) (eg : v.ownBlock = some g) : ∃ cs, W.heap[g]? = some (.cells cs e (0, 0)) := by
  rcases h.2 with ⟨rfl, _⟩ | ⟨gg, cap, cur, rfl, _, hgg, _⟩
  · cases eg
  · cases eg; exact ⟨cur, hgg⟩
theorem Rw.nsp (h : Rw W B rb mb vs vp K S L) {g : Nat} (e : vs.ownBlock = some g) : vp.ownBlock ≠ some g := fun e2 => by
  obtain ⟨cs, hc⟩ := own_cells h.sg e
  exact ow.type h.prs hc (by decide) e2.symm
theorem Rw.pil (h : Rw W B rb mb vs vp K S L) : Pil W B rb 2 vp L := ⟨h.c2, h.fz 2, h.prs, h.np⟩
theorem Rw.keep (h : Rw W B rb mb vs vp K S L) (hh : ∀ k, k < W.heap.size → W'.heap[k]? = W.heap[k]?) : Rw W' B rb mb vs vp K S L :=
  ⟨(hh _ h.lt).trans h.box, own_keep h.sg fun g eg => hh g (h.sg.lt g eg).2, own_keep h.prs fun g eg => hh g (h.prs.lt g eg).2, h.map.keep (hh _ h.map.lt), h.bb⟩
theorem Rw.later (h : Rw W B rb mb vs vp K S L) (b : Below W.heap.size W W') : Rw W' B rb mb vs vp K S L := h.keep fun k hk => b.block k hk
/-- one of a sign's cells is set -/
theorem Rw.put {gs n cap : Nat} (h : Rw W B rb mb (.slice (some ⟨gs, 0, none⟩) n cap) vp K S L) (j : Nat) (u : Value) {S' : List Sg} (hl : S'.length = S.length) (hc : (cs4 S).set j u = cs4 S') : Rw (W.setCell ⟨gs, j, none⟩ u) B rb mb (.slice (some ⟨gs, 0, none⟩) n cap) vp K S' L ∧ Ch B W (W.setCell ⟨gs, j, none⟩ u) := by
  have hn : n = S.length := by
    rcases h.sg.2 with ⟨e, _⟩ | ⟨_, _, _, e, _⟩
    · cases e
    · cases e; rfl
  subst hn
  obtain ⟨s1, s2⟩ := h.sg.stored j u
  have oth : ∀ k, k ≠ gs → (W.setCell ⟨gs, j, none⟩ u).heap[k]? = W.heap[k]? := fun k hk => Below.heap_setCell _ _ _ _ hk
  have hgs := h.sg.lt gs rfl
  refine ⟨⟨(oth rb (fun e => h.ns (by rw [e]; rfl))).trans h.box, ?_, own_keep h.prs fun g eg => oth g (fun e => h.nsp (g := gs) rfl (by rw [eg, e])), h.map.keep (oth mb (fun e => h.nsm (by rw [e]; rfl))), h.bb⟩, rfl, rfl, rfl, by rw [World.size_setCell]; exact Nat.le_refl _, fun k hk => oth k (by omega), fun k ob h0 _ h2 _ => ?_⟩
  · rw [hl, ← hc]; exact s1
  · obtain ⟨cs, hcs⟩ := own_cells h.sg (g := gs) rfl
    refine (oth k (fun e => ?_)).trans h0
    subst e
    rw [hcs] at h0
    cases h0
    exact h2 cs (0, 0) rfl
theorem Rw.sign {gs n cap p : Nat} {s : Sg} (h : Rw W B rb mb (.slice (some ⟨gs, 0, none⟩) n cap) vp K S L) (hs : S[p]? = some s) : W.cell? ⟨gs, p * 4, none⟩ = some (.int .i64 s.id) ∧ W.cell? ⟨gs, p * 4 + 1, none⟩ = some (.int .i64 s.before) ∧ W.cell? ⟨gs, p * 4 + 2, none⟩ = some (.int .i64 s.after) ∧ W.cell? ⟨gs, p * 4 + 3, none⟩ = some (.int .i64 s.rank) ∧ (∀ j, W.frozen? ⟨gs, j, none⟩ = false) ∧ n = S.length ∧ n ≤ cap ∧ cap ≤ 9223372036854775807 := by
  have hl := (List.getElem?_eq_some_iff.1 hs).1
  have hn : n = S.length ∧ n ≤ cap ∧ cap ≤ 9223372036854775807 := by
    rcases h.sg.2 with ⟨e, _⟩ | ⟨_, _, _, e, _, _, h1, h2, _⟩
    · cases e
    · cases e; exact ⟨rfl, h1, by unfold maxLen at h2; omega⟩
  obtain ⟨rfl, h1, h2⟩ := hn
  obtain ⟨q0, q1, q2, q3⟩ := cs4_at S p s hs
  refine ⟨?_, ?_, ?_, ?_, fun j => h.sg.frozenAt j, rfl, h1, h2⟩
  · rw [World.ownsRow.cellAt h.sg _ (by omega)]; exact q0
  · rw [World.ownsRow.cellAt h.sg _ (by omega)]; exact q1
  · rw [World.ownsRow.cellAt h.sg _ (by omega)]; exact q2
  · rw [World.ownsRow.cellAt h.sg _ (by omega)]; exact q3
theorem Rw.full (h : Rw W B rb mb vs vp K S L) (h0 : 0 < S.length) : ∃ gs cap, vs = .slice (some ⟨gs, 0, none⟩) S.length cap := by
  rcases h.sg.2 with ⟨rfl, h1⟩ | ⟨gg, cap, cur, rfl, _⟩
  · omega
  · exact ⟨gg, cap, rfl⟩
/-- what a pile's function leaves -/
theorem Rw.piled (h : Rw W B rb mb vs vp K S L) {vp' : Value} {L' : List Pr} (hp : Pil W' B rb 2 vp' L') (hm : Mv W W' rb 2 vp.ownBlock) : Rw W' B rb mb vs vp' K S L' ∧ Ch B W W' := by
  obtain ⟨u, hu⟩ := hm.self _ _ h.box
  have hu' : u = vp' := by
    have := hp.cell
    rw [Lib.cell_of_heap hu] at this
    simpa using this
  subst hu'
  refine ⟨⟨by rw [hu]; rfl, own_keep h.sg fun g eg => hm.block g (h.sg.lt g eg).2 (fun e => h.ns (by rw [← e, eg])) (fun e => h.nsp eg e.symm), hp.own, h.map.keep (hm.block mb h.map.lt h.nm h.npm), h.bb⟩, hm.os, hm.tape, hm.output, hm.size, fun k hk => ?_, fun k ob h0 h1 _ h3 => ?_⟩
  · by_cases hw : k < W.heap.size
    · exact hm.block k hw (by have := h.bb; omega) (fun e => by have := (h.prs.lt k e.symm).1; omega)
    · have := h.lt; have := h.bb; omega
  · refine (hm.block k (Array.getElem?_eq_some_iff.1 h0).1 (fun e => ?_) (fun e => ?_)).trans h0
    · subst e; rw [h.box] at h0; cases h0; exact h1 _ _ rfl
    · obtain ⟨cs, hcs⟩ := own_cells h.prs e.symm
      rw [hcs] at h0; cases h0; exact h3 _ _ rfl
end
end Go.Proofs.Ytmmlibehihknbaa.en

namespace Go.Proofs.Ytmmlibehihknbaa.en
open Go.ChangeShapes Go.WideShapes Go.ChangeAt Go.RowKit Go.Shelf Go.Maps
open mg (Mg iv OkM I64 below_alloc chain)
open pp (Pr plt Pil cs2)
open hp (RMap Heap Mv own_keep)
set_option linter.unusedVariables false
set_option maxRecDepth 100000

def Sm (x : Int) : Prop := 0 ≤ x ∧ x ≤ 1000000
theorem Sm.ok {x y : Int} (h : Sm x) (k : Sm y) : OkM (x, y) := by unfold Sm at h k; unfold OkM I64; simp only; omega
def LookOut (W : World) (B rb mb : Nat) (vs : Value) (K : List Mg) (S : List Sg) (L : List Pr) (p : Nat) (s : Sg) (r : Int) (e : Ending) (W' : World) : Prop :=
  ∃ vp' L', e = .returned (.tuple #[]) ∧ Rw W' B rb mb vs vp' K (S.set p { s with rank := r }) L' ∧ Looked r p L L' ∧ Heap plt L' ∧ Ch B W W'
set_option maxHeartbeats 4000000 in
theorem look_any {W : World} {B rb mb : Nat} {vs vp : Value} {K : List Mg} {S : List Sg} {L : List Pr} (h : Rw W B rb mb vs vp K S L) (hB : B ≤ W.heap.size) (hh : Heap plt L) (hl : L.length ≤ 999998) (hn : S.length ≤ 1000000) (hK : K.length ≤ 1024) (p : Nat) (s : Sg) (hs : S[p]? = some s) (r : Int) (hsm : Sm s.id)
    (hr : (s.after = -1 ∧ r = -1) ∨ ∃ (q : Nat) (t : Sg), s.after = (q : Int) ∧ q ≠ p ∧ S[q]? = some t ∧ Sm t.id ∧ r = lookR K s.id t.id) :
    Calls Try.prog 98 #[.pointer (some ⟨rb, 0, none⟩), iv p] W (LookOut W B rb mb vs K S L p s r) := by
  have hpl := (List.getElem?_eq_some_iff.1 hs).1
  obtain ⟨gs, cap, rfl⟩ := h.full (by omega)
  obtain ⟨k0, k1, k2, k3, kf, -, c1, c2⟩ := h.sign hs
  have kf3 := kf (p * 4 + 3)
  have b1 := h.c1
  have rk1 := h.put (p * 4 + 3) (.int .i64 (-1)) (S' := S.set p { s with rank := -1 }) (by simp) ((cs4_set S p s hs (-1)).2.2.2)
  obtain ⟨R1, C1⟩ := rk1
  have hs1 : (S.set p { s with rank := -1 })[p]? = some { s with rank := -1 } := by rw [set_at _ _ _ _ hpl, if_pos rfl]
  obtain ⟨j0, j1, j2, j3, jf, -, -, -⟩ := R1.sign hs1
  simp only at j0 j1 j2 j3
  have a1 := R1.c1
  have a0 := R1.c0
  rcases hr with ⟨ha, rfl⟩ | ⟨q, t, ha, hqp, ht, htm, rfl⟩
  · have R1' := (show Hid (Rw (W.setCell ⟨gs, p * 4 + 3, none⟩ (.int .i64 (-1))) B rb mb (.slice (some ⟨gs, 0, none⟩) S.length cap) vp K (S.set p { s with rank := -1 }) L) from R1)
    have C1' := (show Hid _ from C1)
    have HH := (show Hid (Heap plt L) from hh)
    rw [ha] at k2 j2
    clear R1 C1 h hs hs1 hh jf kf ha
    generalize S.length = n at *
    go_enter Try.func98, Try.ntmps98
    go_wp2_with (fail)
    refine bodyPost_ret (results_none rfl _ _ _) rfl ?_
    exact ⟨vp, L, rfl, R1'.out, .inl ⟨rfl, rfl⟩, HH.out, C1'.out⟩
  · have hql := (List.getElem?_eq_some_iff.1 ht).1
    have ht1 : (S.set p { s with rank := -1 })[q]? = some t := by rw [set_at _ _ _ _ hpl, if_neg (Ne.symm hqp)]; exact ht
    obtain ⟨i0, -, -, -, -, -, -, -⟩ := R1.sign ht1
    obtain ⟨c, hlk, hcv⟩ := R1.map.look (s.id, t.id) (hsm.ok htm) hsm.1
    simp only at hlk
    rw [ha] at k2 j2
    have hq1 : ((q : Int) == -1) = false := beq_eq_false_iff_ne.2 (by omega)
    by_cases hm : (s.id, t.id) ∈ K
    · have hr : lookR K s.id t.id = c := by unfold lookR; rw [if_pos hm, hcv hm]
      have hc : c = ((K.idxOf (s.id, t.id) : Nat) : Int) := hcv hm
      obtain ⟨cn, hcn⟩ : ∃ cn : Nat, c = (cn : Int) := ⟨_, hc⟩
      have hcl : cn ≤ 1024 := by have := List.idxOf_lt_length_of_mem hm; omega
      rw [hr]
      rw [decide_eq_true hm] at hlk
      subst hcn
      have rk2 := R1.put (p * 4 + 3) (.int .i64 (cn : Int)) (S' := (S.set p { s with rank := -1 }).set p { s with rank := (cn : Int) }) (by simp) ((cs4_set _ p _ hs1 _).2.2.2)
      obtain ⟨R2, C2⟩ := rk2
      rw [List.set_set] at R2
      have jf3 := jf (p * 4 + 3)
      have c49 : ∀ W2, W2.heap = ((W.setCell ⟨gs, p * 4 + 3, none⟩ (.int .i64 (-1))).setCell ⟨gs, p * 4 + 3, none⟩ (.int .i64 (cn : Int))).heap → W2.os = W.os → W2.tape = W.tape → W2.output = W.output → Calls Try.prog 106 #[.pointer (some ⟨rb, 2, none⟩), pp.pv ((cn : Int), (p : Int))] W2 (fun e W' => LookOut W B rb mb (.slice (some ⟨gs, 0, none⟩) S.length cap) K S L p s (cn : Int) e W') := fun W2 hW o1 o2 o3 => by
        have R2' : Rw W2 B rb mb (.slice (some ⟨gs, 0, none⟩) S.length cap) vp K (S.set p { s with rank := (cn : Int) }) L := R2.keep fun k _ => by rw [hW]
        refine (pp.put_any (cn : Int) (p : Int) hl R2'.pil h.bb hh).mono ?_
        rintro e W3 ⟨vp', L', rfl, t1, t2, t3, t4, -⟩
        obtain ⟨R3, C3⟩ := R2'.piled t1 t4
        have C12 := C1.trans C2
        exact ⟨vp', L', rfl, R3, .inr ⟨by omega, t3⟩, t2, Ch.trans ⟨o1, o2, o3, by rw [hW]; exact C12.size, fun k hk => by rw [hW]; exact C12.low k hk, fun k ob h0 h1 h2 h3 => by rw [hW]; exact C12.oth k ob h0 h1 h2 h3⟩ C3⟩
      have C49 := (show Hid _ from c49)
      clear R1 R2 C1 C2 h hs hs1 hh jf kf ha hm hr hcv c49 ht ht1 htm hc
      generalize S.length = n at *
      go_enter Try.func98, Try.ntmps98
      go_wp2_with (fail)
      go_quiet (fail)
      go_wp2_with (fail)
      go_at_call 106
      refine (C49.out _ (by rfl) (by rfl) (by rfl) (by rfl)).mono ?_
      rintro e w3 ⟨vp', L', rfl, q1, q2, q3, q4⟩
      go_wp2_with (fail)
      first | go_end0 | refine bodyPost_ret (results_none rfl _ _ _) rfl ?_
      exact ⟨vp', L', rfl, q1, q2, q3, q4⟩
    · have hr : lookR K s.id t.id = -1 := by unfold lookR; rw [if_neg hm]
      rw [hr]
      rw [decide_eq_false hm] at hlk
      have R1' := (show Hid (Rw (W.setCell ⟨gs, p * 4 + 3, none⟩ (.int .i64 (-1))) B rb mb (.slice (some ⟨gs, 0, none⟩) S.length cap) vp K (S.set p { s with rank := -1 }) L) from R1)
      have C1' := (show Hid _ from C1)
      have HH := (show Hid (Heap plt L) from hh)
      clear R1 C1 h hs hs1 hh jf kf ha hm hr hcv ht ht1 htm
      generalize S.length = n at *
      go_enter Try.func98, Try.ntmps98
      go_wp2_with (fail)
      go_quiet (fail)
      go_wp2_with (fail)
      first | go_end0 | refine bodyPost_ret (results_none rfl _ _ _) rfl ?_
      exact ⟨vp, L, rfl, R1'.out.keep (fun _ _ => rfl), .inl ⟨rfl, rfl⟩, HH.out, Ch.drewN C1'.out _⟩
end Go.Proofs.Ytmmlibehihknbaa.en
