/-
  Contracts over this program: one section read (the reader's section), and so many of them (again).
-/
import Derived.Test.YtjnjjbacfodacaaRd
namespace Go.Proofs.Ytjnjjbacfodacaa.pk
open Go.ChangeShapes Go.WideShapes Go.ChangeAt Go.RowKit
set_option linter.unusedVariables false

def cellsOf : List Sec → List Value
  | [] => []
  | x :: l => .int .u64 x.kind :: .string x.body :: cellsOf l
theorem cellsOf_append (a b : List Sec) : cellsOf (a ++ b) = cellsOf a ++ cellsOf b := by
  induction a with
  | nil => rfl
  | cons x a ih => rw [List.cons_append, cellsOf, cellsOf, ih]; rfl
theorem cellsOf_length (l : List Sec) : (cellsOf l).length = l.length * 2 := by
  induction l with
  | nil => rfl
  | cons x l ih => rw [cellsOf, List.length_cons, List.length_cons, List.length_cons, ih]; omega
theorem nth_cons (x : Sec) (l : List Sec) (i : Nat) : nth (x :: l) (i + 1) = nth l i := by simp [nth]
theorem cellsOf_at (l : List Sec) (i : Nat) (h : i < l.length) : (cellsOf l)[i * 2]? = some (.int .u64 (nth l i).kind) ∧ (cellsOf l)[i * 2 + 1]? = some (.string (nth l i).body) := by
  induction l generalizing i with
  | nil => simp at h
  | cons x l ih =>
    cases i with
    | zero => exact ⟨rfl, rfl⟩
    | succ i =>
      have h2 := ih i (by simpa using h)
      rw [show (i + 1) * 2 = i * 2 + 1 + 1 from by omega, cellsOf, List.getElem?_cons_succ, List.getElem?_cons_succ, List.getElem?_cons_succ, List.getElem?_cons_succ, nth_cons]
      exact h2

/-- a list of sections that the call itself has made -/
def Own (B : Nat) (w : World) (v : Value) (l : List Sec) : Prop := w.ownsRow B 40 2 v l.length (cellsOf l)

theorem Own.secs {B : Nat} {w : World} {v : Value} {l : List Sec} (h : Own B w v l) : Secs w v l := by
  rcases h.2 with ⟨rfl, h0⟩ | ⟨g, cap, cur, rfl, hb, hg, hcap, hm, hsz, htk⟩
  · exact .inl ⟨List.eq_nil_of_length_eq_zero h0, _, _, rfl⟩
  · refine .inr ⟨g, 0, cap, rfl, hcap, by unfold maxLen at hm; omega, (Array.getElem?_eq_some_iff.1 hg).1, fun i hi => ?_⟩
    have hc := World.ownsRow.cells h (g := g) rfl
    have hat := cellsOf_at l i hi
    have hadd : ∀ j, (⟨g, 0, none⟩ : Addr).add j = ⟨g, 0 + j, none⟩ := fun j => by unfold Addr.add; split <;> simp_all
    have h1 := hc _ _ hat.1
    have h2 := hc _ _ hat.2
    rw [hadd] at h1 h2
    exact ⟨h1, by rw [Nat.add_assoc]; exact h2⟩
theorem Own.apart {B : Nat} {w : World} {v : Value} {l : List Sec} (h : Own B w v l) {g p e : Nat} {u : ByteArray} {x : Value} (hb : Blk w g u p e x) : v.ownBlock ≠ some g := by
  intro he
  rcases h.2 with ⟨rfl, h0⟩ | ⟨g', cap, cur, rfl, _, hg, _⟩
  · simp [Value.ownBlock] at he
  · simp [Value.ownBlock] at he
    subst he
    unfold Blk at hb
    rw [hb] at hg
    simp at hg
theorem Own.kept {B : Nat} {w w' : World} {v : Value} {l : List Sec} (h : Own B w v l) {g : Nat} (hne : v.ownBlock ≠ some g) (t : w.grownBy w' (some g)) : Own B w' v l := World.ownsRow.kept h t (.inr hne)
theorem Own.alloc {B : Nat} {w : World} {v : Value} {l : List Sec} (h : Own B w v l) (o : Obj) : Own B (w.alloc o) v l := World.ownsRow.alloc h o
theorem Own.drew {B : Nat} {w : World} {v : Value} {l : List Sec} (h : Own B w v l) : Own B w.drew v l := h

theorem info40 : (Try.prog.info? 40).map (fun i => (i.zero, i.size, i.bytes)) = some (some (.agg #[.int .u64 0, .string ⟨#[]⟩]), 2, 24) := by kernel_rfl

theorem two_cells (w : World) (x : Sec) (W : World) (hW : W = w.alloc (.cells #[.int .u64 x.kind, .string x.body] 40)) : ∀ j u, [Value.int .u64 x.kind, .string x.body][j]? = some u → W.cell? ((⟨w.heap.size, 0, none⟩ : Addr).add j) = some u := by
  subst hW
  intro j u hu
  match j, hu with
  | 0, hu => simp at hu; subst hu; simp [Addr.add]
  | 1, hu => simp at hu; subst hu; simp [Addr.add]
  | j + 2, hu => simp at hu

/-- a section behind what the call owns, as one step of a region that draws -/
theorem step_own {ops : Array Oper} {o : Oper} {a : Act} {w : World} {K : Act → World → Prop} {Q : Exit → Act → World → Prop} {E : Prop} (hg : o.guard = none) (s x : Operand)
    (ho : o.op = .call { callee := .builtin .append, args := #[s, x], argTypes := #[22, 22] }) (B : Nat) (v : Value) (l : List Sec) (y : Sec) (hs : a.eval s = v) (hown : Own B w v l) (ad : Addr) (hx : a.eval x = .slice (some ad) 1 1)
    (hnews : ∀ j u, [Value.int .u64 y.kind, .string y.body][j]? = some u → w.cell? (ad.add j) = some u) (hlen : l.length ≤ 1000000) (hB : B ≤ w.heap.size)
    (h : ∀ v' w', Own B w' v' (l ++ [y]) → w.grownBy w' v.ownBlock → K (a.put o.dst v') w') :
    if Region.wanted o (yielded ops a.tmps) = true then Oper.wp Try.prog o a w K Q else E := by
  have hw : Region.wanted o (yielded ops a.tmps) = true := by simp [Region.wanted, hg]
  rw [if_pos hw]
  obtain ⟨i0, hi, hz0, hz1, hz2⟩ := info_parts info40
  refine wp_append_own w s x 22 ho B 40 i0 _ 2 24 Try.underlying22 hi hz0 hz1 hz2 rfl (by decide) v l.length (cellsOf l) hs hown ad 1 1 [.int .u64 y.kind, .string y.body] hx rfl hnews (by intro u hu; simp at hu; rcases hu with rfl | rfl <;> rfl) (by unfold maxLen; omega) (by omega) hB ?_
  intro v' w' h1 h2 _
  refine h v' w' ?_ h2
  unfold Own
  rw [cellsOf_append, List.length_append]
  exact h1

def SectionIs (B g : Nat) (u : ByteArray) (p : Nat) (acc : List Sec) (p' e' : Nat) (y : Sec) : Prop := ∀ v w, Blk w g u p 0 v → Own B w v acc → B ≤ g → Calls Try.prog 29 #[.pointer (some ⟨g, 0, none⟩)] w fun r w' => r = .returned (.tuple #[]) ∧ ∃ v', Blk w' g u p' e' v' ∧ Own B w' v' (acc ++ [y]) ∧ Below B w w'

theorem Own.form {B : Nat} {w : World} {v : Value} {l : List Sec} {y : Sec} (h : Own B w v (l ++ [y])) : ∃ b cap, v = .slice (some ⟨b, 0, none⟩) (l.length + 1) cap := by
  rcases h.2 with ⟨_, h0⟩ | ⟨g, cap, cur, hv, _⟩
  · simp at h0
  · exact ⟨g, cap, by rw [hv, List.length_append]; rfl⟩
theorem Own.row {B : Nat} {w : World} {v : Value} {l : List Sec} (h : Own B w v l) : ∀ k, v.ownBlock = some k → B ≤ k := fun k hk => (World.ownsRow.lt h k hk).1
theorem Blk.grown {w w' : World} {g p e : Nat} {u : ByteArray} {v x : Value} (h : Blk w g u p e v) (t : w.grownBy w' x.ownBlock) (hne : x.ownBlock ≠ some g) : Blk w' g u p e v := by
  unfold Blk
  rw [t.block g h.lt (fun e => hne e.symm)]
  exact h
theorem Blk.alloc {w : World} {g p e : Nat} {u : ByteArray} {v : Value} (h : Blk w g u p e v) (o : Obj) : Blk (w.alloc o) g u p e v := by
  unfold Blk
  rw [Lib.alloc_old w o g h.lt]
  exact h

/-- what the region of the append leaves -/
theorem put_in {B g : Nat} {u : ByteArray} {p2 e2 : Nat} {acc : List Sec} {y : Sec} {v v' : Value} {w w1 w3 w4 : World} {o : Obj} (hBg : B ≤ g) (hBw : Below B w w1) (b1 : B ≤ w1.heap.size) (t3 : w1.drew.grownBy w3 (some g)) (b3 : Blk w3 g u p2 e2 v) (o3 : Own B (w3.alloc o) v acc) (g4 : (w3.alloc o).grownBy w4 v.ownBlock) (o4 : Own B w4 v' (acc ++ [y])) :
    Blk (w4.setCell ⟨g, 3, none⟩ v') g u p2 e2 v' ∧ Own B (w4.setCell ⟨g, 3, none⟩ v') v' (acc ++ [y]) ∧ Below B w (w4.setCell ⟨g, 3, none⟩ v') := by
  have hne := o3.apart (b3.alloc o)
  have b4 := (b3.alloc o).grown g4 hne
  have hs3 : B ≤ w3.heap.size := Nat.le_trans b1 t3.size
  refine ⟨b4.set3 v', o4.kept (o4.apart b4) (touch_set _ _ _ _), ?_⟩
  exact (((((hBw.drew).grown t3 (by exact b1) (by intro k hk; simp at hk; omega)).alloc hs3 o).grown g4 (by simp; omega) o3.row).setCell (p := ⟨g, 3, none⟩) hBg _)

set_option maxHeartbeats 2000000 in
set_option maxRecDepth 100000 in
theorem section_above (B g : Nat) (u : ByteArray) (p : Nat) (acc : List Sec) (n p1 e1 : Nat) (t : ByteArray) (p2 e2 : Nat) (hlen : acc.length ≤ 1000000) (h42 : NumberIs g u p 0 n p1 e1) (h33 : AboveIs acc n true) (h44 : BodyIs g u p1 e1 t p2 e2) :
    SectionIs B g u p acc p2 e2 ⟨n, t⟩ := by
  intro v w hb hown hBg
  have hBs : B ≤ w.heap.size := Nat.le_of_lt (Nat.lt_of_le_of_lt hBg hb.lt)
  have hrow : ∀ k, (some g : Option Nat) = some k → B ≤ k := by intro k hk; simp at hk; omega
  go_enter Try.func29, Try.ntmps29
  go_wp2_with (first | (go_at_call 42; refine (h42 _ _ hb).mono ?_; rintro e w1 ⟨rfl, b1, t1⟩; have c3 := b1.c3; have o1 := hown.kept (hown.apart hb) t1; have s1 := o1.secs; have hB1 : Below B w w1 := (Below.refl B w).grown t1 hBs hrow; have hs1 : B ≤ w1.heap.size := Nat.le_trans hBs t1.size) | (go_at_call 33; refine (h33 _ _ s1).mono ?_; rintro e w2 ⟨rfl, rfl⟩))
  go_region_law (first | (refine step_own rfl (.tmp 18) (.tmp 23) rfl B v acc ⟨n, t⟩ rfl o3 ⟨w3.heap.size, 0, none⟩ rfl (two_cells w3 ⟨n, t⟩ _ rfl) hlen hs3 ?_; intro v' w4 o4 g4; obtain ⟨gn, cn, rfl⟩ := o4.form; have b4 := (b3.alloc _).grown g4 (o3.apart (b3.alloc _)); have c4 := b4.c3; have z4 := b4.fz 3) | (go_wp2_with (go_at_call 44; refine (h44 _ _ b1.drew).mono ?_; rintro e w3 ⟨rfl, b3, t3⟩; have d3 := b3.c3; have e3 := (b3.alloc (.cells #[.int .u64 n, .string t] 40)).c3; have o3 := ((o1.drew).kept (o1.apart b1) t3).alloc (.cells #[.int .u64 n, .string t] 40); have hs3 : B ≤ (w3.alloc (.cells #[.int .u64 n, .string t] 40)).heap.size := by first | (simp; exact Nat.le_succ_of_le (Nat.le_trans hs1 t3.size)))))
  all_goals go_wp2
  all_goals go_end0
  all_goals exact ⟨rfl, _, put_in hBg hB1 hs1 t3 b3 o3 g4 o4⟩

set_option maxHeartbeats 2000000 in
set_option maxRecDepth 100000 in
theorem section_not (B g : Nat) (u : ByteArray) (p : Nat) (acc : List Sec) (n p1 e1 : Nat) (t : ByteArray) (p2 e2 e3 : Nat) (hlen : acc.length ≤ 1000000) (h42 : NumberIs g u p 0 n p1 e1) (h33 : AboveIs acc n false) (h43 : FailIs g u p1 e1 21 e2) (h44 : BodyIs g u p1 e2 t p2 e3) :
    SectionIs B g u p acc p2 e3 ⟨n, t⟩ := by
  intro v w hb hown hBg
  have hBs : B ≤ w.heap.size := Nat.le_of_lt (Nat.lt_of_le_of_lt hBg hb.lt)
  have hrow : ∀ k, (some g : Option Nat) = some k → B ≤ k := by intro k hk; simp at hk; omega
  go_enter Try.func29, Try.ntmps29
  go_wp2_with (first | (go_at_call 42; refine (h42 _ _ hb).mono ?_; rintro e wa ⟨rfl, ba, ta⟩; have ca := ba.c3; have oa := hown.kept (hown.apart hb) ta; have sa := oa.secs; have hBa : Below B w wa := (Below.refl B w).grown ta hBs hrow; have hsa : B ≤ wa.heap.size := Nat.le_trans hBs ta.size) | (go_at_call 33; refine (h33 _ _ sa).mono ?_; rintro e wb ⟨rfl, rfl⟩) | (go_at_call 43; refine (h43 _ _ ba).mono ?_; rintro e w1 ⟨rfl, b1, t1⟩; have c3 := b1.c3; have o1 := oa.kept (oa.apart ba) t1; have hB1 : Below B w w1 := hBa.grown t1 hsa hrow; have hs1 : B ≤ w1.heap.size := Nat.le_trans hsa t1.size))
  go_region_law (first | (refine step_own rfl (.tmp 18) (.tmp 23) rfl B v acc ⟨n, t⟩ rfl o3 ⟨w3.heap.size, 0, none⟩ rfl (two_cells w3 ⟨n, t⟩ _ rfl) hlen hs3 ?_; intro v' w4 o4 g4; obtain ⟨gn, cn, rfl⟩ := o4.form; have b4 := (b3.alloc _).grown g4 (o3.apart (b3.alloc _)); have c4 := b4.c3; have z4 := b4.fz 3) | (go_wp2_with (go_at_call 44; refine (h44 _ _ b1.drew).mono ?_; rintro e w3 ⟨rfl, b3, t3⟩; have d3 := b3.c3; have e3 := (b3.alloc (.cells #[.int .u64 n, .string t] 40)).c3; have o3 := ((o1.drew).kept (o1.apart b1) t3).alloc (.cells #[.int .u64 n, .string t] 40); have hs3 : B ≤ (w3.alloc (.cells #[.int .u64 n, .string t] 40)).heap.size := by first | (simp; exact Nat.le_succ_of_le (Nat.le_trans hs1 t3.size)))))
  all_goals go_wp2
  all_goals go_end0
  all_goals exact ⟨rfl, _, put_in hBg hB1 hs1 t3 b3 o3 g4 o4⟩
end Go.Proofs.Ytjnjjbacfodacaa.pk
