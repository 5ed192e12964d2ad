/-
  Contracts over this program: a class, one byte of a set (regex.reader's class, single).
-/
import Derived.Test.YtfclidcfhadohaaDoorRl
import Derived.RegionDies
namespace Go.Proofs.YtfclidcfhadohaaDoor.st
open Go.Sort Go.ChangeShapes Go.WideShapes Go.ChangeAt Go.RowKit
set_option linter.unusedVariables false

theorem touch_drew {w w1 : World} {row : Option Nat} (h : w.grownBy w1 row) : w.grownBy w1.drew row := ⟨h.os, h.tape, h.output, h.size, h.block⟩
/-- where the reader stands, by its block -/
def placeOf (w : World) (g : Nat) : Nat := match w.cell? ⟨g, 1, none⟩ with | some (.int _ n) => n.toNat | _ => 0
theorem place_is {w : World} {g p op : Nat} {u : ByteArray} (h : Rd w g u p op) : placeOf w g = p := by unfold placeOf; rw [h.c1]; simp

theorem parts_pure (u : ByteArray) (hu : u.size ≤ 9223372036854775807) (n : Nat) : ∀ (q : Q4) (p : Nat), Fits q → p ≤ u.size → u.size - p < n →
    (∃ a p', p + 1 ≤ p' ∧ p' ≤ u.size ∧ parts n q (suf u p) = .ok a (suf u p') ∧ Fits a) ∨ (∃ e p', p' ≤ u.size ∧ parts n q (suf u p) = .bad e (suf u p')) := by
  induction n with
  | zero => intro q p hq hp hn; omega
  | succ n ih =>
    intro q p hq hp hn
    unfold parts
    cases hs : sees [93] (suf u p) with
    | true =>
      have hin := sees_lt hs
      exact .inl ⟨q, p + 1, Nat.le_refl _, hin, by simp [suf_tail u p hin], hq⟩
    | false =>
      simp only [Bool.false_eq_true, if_false]
      rcases part_any u p hp hu with ⟨r, p1, k1, k2, k3, hr, _⟩ | ⟨e, q', k2, k3, _⟩
      · rw [k3]
        rcases ih (jn q r) p1 (fits_jn hq hr) k2 (by omega) with ⟨a, p', m1, m2, m3, m4⟩ | ⟨e, p', m2, m3⟩
        · exact .inl ⟨a, p', by omega, m2, m3, m4⟩
        · exact .inr ⟨e, p', m2, m3⟩
      · rw [k3]
        exact .inr ⟨e, q', k2, rfl⟩

def OutQ (res : R Q4) (u : ByteArray) (g op : Nat) (w : World) (e : Ending) (w' : World) : Prop :=
  (∃ a p', res = .ok a (suf u p') ∧ p' ≤ u.size ∧ e = .returned (.agg #[.int .u64 a.a, .int .u64 a.b, .int .u64 a.c, .int .u64 a.d]) ∧ Rd w' g u p' op ∧ w.grownBy w' (some g)) ∨
  (∃ er q, res = .bad er (suf u q) ∧ q ≤ u.size ∧ e = .panicked [{ v := .iface 48 (.agg #[.int .i64 er, .int .i64 q]), recovered := false }] ∧ w.grownBy w' (some g))

theorem r_ok {α : Type} {a b : α} {l m : List Nat} (h : (R.ok a l : R α) = .ok b m) : a = b ∧ l = m := by simpa using h
theorem r_bad {α : Type} {a b : Nat} {l m : List Nat} (h : (R.bad a l : R α) = .bad b m) : a = b ∧ l = m := by simpa using h

def clsEnd (others : Bool) (r : R Q4) : R Q4 := r.then fun q l2 => .ok (if others then nt q else q) l2

set_option maxHeartbeats 4000000 in
set_option maxRecDepth 100000 in
theorem class_loop (u : ByteArray) (hu : u.size ≤ 9223372036854775807) (ot : Bool) (p p0 p1 : Nat) (q : Q4) (hq : Fits q) (hp1 : p1 ≤ u.size) (h36 : OkV 65 [.string ⟨#[94]⟩] u p (.bool ot) p0) (h75 : OkQ 96 u p0 q p1) (res : R Q4) (hres : res = clsEnd ot (parts (u.size - p1 + 1) q (suf u p1))) :
    ∀ g op w, Rd w g u p op → Calls Tryd.prog 91 #[.pointer (some ⟨g, 0, none⟩)] w (OutQ res u g op w) := by
  intro g op w h
  have HR : Hid (res = clsEnd ot (parts (u.size - p1 + 1) q (suf u p1))) := hres
  clear hres
  have r0 := fun o => h.later (below_alloc w o)
  have z0 := sp.blk_new w none4
  go_enter Tryd.func91, Tryd.ntmps91
  go_wp2_with (first | (go_at_call 65; refine (h36 _ _ _ (r0 _)).mono ?_; rintro e w1 ⟨rfl, r1, t1⟩) | (go_at_call 96; refine (h75 _ _ _ r1).mono ?_; rintro e w2 ⟨rfl, r2, t2⟩))
  have z2 := (Blk.keep (Blk.keep z0 t1 h.ne.symm) t2 h.ne.symm).later (below_alloc w2 (.cells #[.int .u64 q.a, .int .u64 q.b, .int .u64 q.c, .int .u64 q.d] 25))
  have q2 := sp.blk_new w2 q
  have T2 := touch_alloc (touch_trans (touch_trans (touch_alloc (touch_refl w (some g)) _) t1) t2) (.cells #[.int .u64 q.a, .int .u64 q.b, .int .u64 q.c, .int .u64 q.d] 25)
  have r2' := r2.later (below_alloc w2 (.cells #[.int .u64 q.a, .int .u64 q.b, .int .u64 q.c, .int .u64 q.d] 25))
  have hne1 : w2.heap.size ≠ g := by have := r2.lt; omega
  have hne2 : w2.heap.size ≠ w.heap.size := by have := z2.lt; have := t1.size; have := t2.size; simp at *; omega
  have hsz : w.heap.size ≤ w2.heap.size := by have := t1.size; have := t2.size; simp at *; omega
  generalize w2.heap.size = b4 at *
  go_loopw [9] (fun _ wr => ∃ (n p : Nat) (q : Q4), Rd wr g u p op ∧ sp.Blk wr b4 q ∧ sp.Blk wr w.heap.size none4 ∧ Fits q ∧ p ≤ u.size ∧ w.grownBy wr (some g) ∧ Hid (res = clsEnd ot (parts n q (suf u p)) ∧ u.size - p < n)) (fun _ wr => u.size - placeOf wr g)
  case atStart => exact ⟨_, p1, q, r2', q2, z2, hq, hp1, T2, HR.out, by omega⟩
  case round =>
    obtain ⟨n, p, q, rr, qq, zz, hq, hp, tt, HI⟩ := hrel
    obtain ⟨n, rfl⟩ : ∃ m, n = m + 1 := ⟨n - 1, by have := HI.out.2; omega⟩
    cases hs : sees [93] (suf u p) with
    | true =>
      have hin := sees_lt hs
      have g36 := skips_yes ⟨#[93]⟩ u p hu hs
      have HE : Hid (res = .ok (if ot then nt q else q) (suf u (p + 1))) := by show _ = _; rw [HI.out.1]; unfold parts; rw [hs, suf_tail u p hin]; rfl
      clear hs HI
      cases ot
      · go_wp2_with (go_at_call 65; refine (g36 _ _ _ rr).mono ?_; rintro e w3 ⟨rfl, r3, t3⟩; have q3 := Blk.keep qq t3 hne1; have z3 := Blk.keep zz t3 h.ne.symm; obtain ⟨c0, c1, c2, c3, _, _, _, _⟩ := sp8 q3; obtain ⟨d0, d1, d2, d3, f0, f1, f2, f3⟩ := sp8 z3)
        refine sp.ret25 Tryd.results91 w.heap.size q rfl (sp.set4 z3 q) rfl ?_
        exact .inl ⟨q, p + 1, HE.out, hin, rfl, r3.other (touch_set4 _ _ q) h.ne, touch_over (touch_trans tt t3) (touch_set4 _ _ q) (Nat.le_refl _)⟩
      · have h77 := sp.not_any q _ hq rfl
        generalize nt q = nq at *
        go_wp2_with (first | (go_at_call 65; refine (g36 _ _ _ rr).mono ?_; rintro e w3 ⟨rfl, r3, t3⟩; have q3 := Blk.keep qq t3 hne1; have z3 := Blk.keep zz t3 h.ne.symm; obtain ⟨c0, c1, c2, c3, _, _, _, _⟩ := sp8 q3) | (go_at_call 40; refine (h77 _).mono ?_; rintro e w4 ⟨rfl, b4'⟩; have z4 := z3.later b4'; obtain ⟨d0, d1, d2, d3, f0, f1, f2, f3⟩ := sp8 z4))
        refine sp.ret25 Tryd.results91 w.heap.size nq rfl (sp.set4 z4 nq) rfl ?_
        exact .inl ⟨nq, p + 1, HE.out, hin, rfl, (r3.later b4').other (touch_set4 _ _ nq) h.ne, touch_over (touch_trans (touch_trans tt t3) (touch_below _ b4')) (touch_set4 _ _ nq) (Nat.le_refl _)⟩
    | false =>
      have g36 := skips_no ⟨#[93]⟩ u p hp hu hs
      rcases part_any u p hp hu with ⟨r, p', k1, k2, k3, hr, g75⟩ | ⟨er, q', k2, k3, g75⟩
      · have HJ : Hid (res = clsEnd ot (parts n (jn q r) (suf u p')) ∧ u.size - p' < n) := by
          refine ⟨?_, by have := HI.out.2; omega⟩
          rw [HI.out.1]; conv => lhs; unfold parts
          rw [hs, k3]; rfl
        have h76 := sp.join_any q r _ hq hr rfl
        have hfj := fits_jn hq hr
        clear hs HI k3
        generalize jn q r = qr at *
        go_wp2_with (go_at_call 65; refine (g36 _ _ _ rr).mono ?_; rintro e w3 ⟨rfl, r3, t3⟩)
        have q3 := Blk.keep qq t3 hne1
        have z3 := Blk.keep zz t3 h.ne.symm
        obtain ⟨c0, c1, c2, c3, _, _, _, _⟩ := sp8 q3
        go_region_with (first | (go_at_call 96; refine (g75 _ _ _ r3.drew).mono ?_; rintro e w4 ⟨rfl, r4, t4⟩; have q4 := Blk.keep (w := w3.drew) q3 t4 hne1; have z4 := Blk.keep (w := w3.drew) z3 t4 h.ne.symm; obtain ⟨d0, d1, d2, d3, _, _, _, _⟩ := sp8 q4) | (go_at_call 97; refine (h76 _).mono ?_; rintro e w5 ⟨rfl, b5⟩; have q5 := q4.later b5; have z5 := z4.later b5; obtain ⟨e0, e1, e2, e3, f0, f1, f2, f3⟩ := sp8 q5))
        all_goals go_wp2_with (fail)
        all_goals (
          have rE := (r4.later b5).other (touch_set4 _ b4 qr) hne1.symm
          exact ⟨⟨n, p', qr, rE, sp.set4 q5 qr, Blk.keep z5 (touch_set4 _ _ qr) hne2.symm, hfj, k2, touch_over (touch_trans (touch_trans (touch_drew (touch_trans tt t3)) t4) (touch_below _ b5)) (touch_set4 _ _ qr) hsz, HJ⟩, by rw [place_is rE, place_is rr]; omega⟩)
      · have HE : Hid (res = .bad er (suf u q')) := by
          show _ = _
          rw [HI.out.1]; conv => lhs; unfold parts
          rw [hs, k3]; rfl
        clear hs HI k3
        go_wp2_with (go_at_call 65; refine (g36 _ _ _ rr).mono ?_; rintro e w3 ⟨rfl, r3, t3⟩)
        have q3 := Blk.keep qq t3 hne1
        obtain ⟨c0, c1, c2, c3, _, _, _, _⟩ := sp8 q3
        go_region_dies
        all_goals go_wp2_with (go_at_call 96; refine (g75 _ _ _ r3.drew).mono ?_; rintro e w4 ⟨rfl, t4⟩)
        all_goals exact ⟨rfl, .inr ⟨er, q', HE.out, k2, rfl, touch_trans (touch_drew (touch_trans tt t3)) t4⟩⟩

theorem class_any (u : ByteArray) (p : Nat) (hp : p ≤ u.size) (hu : u.size ≤ 9223372036854775807) :
    Spec (p + 1) (cls (suf u p)) u (fun q p' => Fits q ∧ OkQ 91 u p q p') (fun e q => BadV 91 [] u p e q) := by
  have key : ∀ (ot : Bool) (p0 : Nat), p ≤ p0 → p0 ≤ u.size → OkV 65 [.string ⟨#[94]⟩] u p (.bool ot) p0 → cls (suf u p) = ((part (suf u p0)).then fun q l1 => clsEnd ot (parts (l1.length + 1) q l1)) → Spec (p + 1) (cls (suf u p)) u (fun q p' => Fits q ∧ OkQ 91 u p q p') (fun e q => BadV 91 [] u p e q) := by
    intro ot p0 hp0 hp0' h36 hc
    rw [hc]
    rcases part_any u p0 hp0' hu with ⟨q, p1, k1, k2, k3, hq, h75⟩ | ⟨er, q', k2, k3, h75⟩
    · rw [k3]
      simp only [R.then]
      rw [suf_length]
      have hl := class_loop u hu ot p p0 p1 q hq k2 h36 h75 _ rfl
      rcases parts_pure u hu (u.size - p1 + 1) q p1 hq k2 (by omega) with ⟨a, p', m1, m2, m3, m4⟩ | ⟨e, p', m2, m3⟩
      · rw [m3] at hl ⊢
        refine .inl ⟨if ot then nt a else a, p', by omega, m2, rfl, by split; exact fits_nt _; exact m4, ?_⟩
        intro g op w h
        refine (hl g op w h).mono ?_
        rintro e w' (⟨b, p2, x1, x2, x3, x4, x5⟩ | ⟨er, q2, x1, _⟩)
        · obtain ⟨y1, y2⟩ := r_ok x1
          rw [suf_inj u p' p2 m2 x2 y2, y1]
          exact ⟨x3, x4, x5⟩
        · cases x1
      · rw [m3] at hl ⊢
        refine .inr ⟨e, p', m2, rfl, ?_⟩
        intro g op w h
        refine (hl g op w h).mono ?_
        rintro e' w' (⟨b, p2, x1, x2, x3, x4, x5⟩ | ⟨er, q2, x1, x2, x3, x4⟩)
        · cases x1
        · obtain ⟨y1, y2⟩ := r_bad x1
          rw [suf_inj u p' q2 m2 x2 y2, y1]
          exact ⟨x3, x4⟩
    · refine .inr ⟨er, q', k2, by rw [k3]; rfl, ?_⟩
      clear k3 hc
      intro g op w h
      have r0 := fun o => h.later (below_alloc w o)
      go_enter Tryd.func91, Tryd.ntmps91
      go_wp2_with (first | (go_at_call 65; refine (h36 _ _ _ (r0 _)).mono ?_; rintro e w1 ⟨rfl, r1, t1⟩) | (go_at_call 96; refine (h75 _ _ _ r1).mono ?_; rintro e w2 ⟨rfl, t2⟩))
      exact ⟨rfl, rfl, touch_trans (touch_trans (touch_alloc (touch_refl _ _) _) t1) t2⟩
  cases hs : sees [94] (suf u p) with
  | true =>
    have hin := sees_lt hs
    refine key true (p + 1) (by omega) hin (skips_yes ⟨#[94]⟩ u p hu hs) ?_
    unfold cls
    simp only [hs, if_true]
    rw [suf_tail u p hin]
    rfl
  | false =>
    refine key false p (Nat.le_refl _) hp (skips_no ⟨#[94]⟩ u p hp hu hs) ?_
    unfold cls
    simp only [hs, Bool.false_eq_true, if_false]
    rfl

set_option maxHeartbeats 2000000 in
set_option maxRecDepth 100000 in
theorem single_any (u : ByteArray) (p : Nat) (hp : p ≤ u.size) (hu : u.size ≤ 9223372036854775807) :
    Spec (p + 1) (single (suf u p)) u (fun q p' => Fits q ∧ OkQ 87 u p q p') (fun e q => BadV 87 [] u p e q) := by
  unfold single
  have hA := fun (s : ByteArray) (hs : sees (codes s) (suf u p) = true) => skips_yes s u p hu hs
  have hN := fun (s : ByteArray) (hs : sees (codes s) (suf u p) = false) => skips_no s u p hp hu hs
  unfold OkV at hA hN
  cases hs : sees [91] (suf u p) with
  | true =>
    have hin := sees_lt hs
    have h36 := hA ⟨#[91]⟩ hs
    simp only [if_true]
    rw [suf_tail u p hin]
    clear hs
    rcases class_any u (p + 1) hin hu with ⟨q, p1, k1, k2, k3, hq, h69⟩ | ⟨er, q', k2, k3, h69⟩
    · refine .inl ⟨q, p1, by omega, k2, k3, hq, ?_⟩
      clear k3
      clear hA hN
      intro g op w h
      have r0 := h.later (below_alloc w (.cells #[.int .u64 0, .int .u64 0, .int .u64 0, .int .u64 0] 25))
      have z0 := sp.blk_new w none4
      go_enter Tryd.func87, Tryd.ntmps87
      go_wp2_with (first | (go_at_call 65; (with_reducible refine (h36 _ _ _ r0).mono ?_); rintro e w1 ⟨rfl, r1, t1⟩) | (go_at_call 91; refine (h69 _ _ _ r1).mono ?_; rintro e w2 ⟨rfl, r2, t2⟩; have z2 := Blk.keep (Blk.keep z0 t1 h.ne.symm) t2 h.ne.symm; obtain ⟨c0, c1, c2, c3, f0, f1, f2, f3⟩ := sp8 z2))
      refine sp.ret25 Tryd.results87 w.heap.size q rfl (sp.set4 z2 q) rfl ?_
      exact ⟨rfl, r2.other (touch_set4 _ _ q) h.ne, touch_over (touch_trans (touch_trans (touch_alloc (touch_refl _ _) _) t1) t2) (touch_set4 _ _ q) (Nat.le_refl _)⟩
    · refine .inr ⟨er, q', k2, k3, ?_⟩
      clear k3
      clear hA hN
      intro g op w h
      have r0 := h.later (below_alloc w (.cells #[.int .u64 0, .int .u64 0, .int .u64 0, .int .u64 0] 25))
      go_enter Tryd.func87, Tryd.ntmps87
      go_wp2_with (first | (go_at_call 65; (with_reducible refine (h36 _ _ _ r0).mono ?_); rintro e w1 ⟨rfl, r1, t1⟩) | (go_at_call 91; refine (h69 _ _ _ r1).mono ?_; rintro e w2 ⟨rfl, t2⟩))
      exact ⟨rfl, rfl, touch_trans (touch_trans (touch_alloc (touch_refl _ _) _) t1) t2⟩
  | false =>
    have h36 := hN ⟨#[91]⟩ hs
    simp only [Bool.false_eq_true, if_false]
    clear hs
    cases hs : sees [46] (suf u p) with
    | true =>
      have hin := sees_lt hs
      have g36 := hA ⟨#[46]⟩ hs
      simp only [if_true]
      rw [suf_tail u p hin]
      clear hs
      have h70 := dot_any _ rfl
      refine .inl ⟨dotSet, p + 1, Nat.le_refl _, hin, rfl, fits_dot, ?_⟩
      generalize dotSet = q at *
      clear hA hN
      intro g op w h
      have r0 := h.later (below_alloc w (.cells #[.int .u64 0, .int .u64 0, .int .u64 0, .int .u64 0] 25))
      have z0 := sp.blk_new w none4
      go_enter Tryd.func87, Tryd.ntmps87
      go_wp2_with (first | (go_at_call 65; (with_reducible refine (h36 _ _ _ r0).mono ?_); rintro e w1 ⟨rfl, r1, t1⟩) | (go_at_call 65; (with_reducible refine (g36 _ _ _ r1).mono ?_); rintro e w2 ⟨rfl, r2, t2⟩) | (go_at_call 35; refine (h70 _).mono ?_; rintro e w3 ⟨rfl, b3⟩; have z2 := (Blk.keep (Blk.keep z0 t1 h.ne.symm) t2 h.ne.symm).later b3; obtain ⟨c0, c1, c2, c3, f0, f1, f2, f3⟩ := sp8 z2))
      refine sp.ret25 Tryd.results87 w.heap.size q rfl (sp.set4 z2 q) rfl ?_
      exact ⟨rfl, (r2.later b3).other (touch_set4 _ _ q) h.ne, touch_over (touch_trans (touch_trans (touch_trans (touch_alloc (touch_refl _ _) _) t1) t2) (touch_below _ b3)) (touch_set4 _ _ q) (Nat.le_refl _)⟩
    | false =>
      have g36 := hN ⟨#[46]⟩ hs
      simp only [Bool.false_eq_true, if_false]
      clear hs
      rcases kind_any u p hp hu with ⟨q, p', k1, k2, k3, hf, h71⟩ | ⟨k3, h71⟩
      · rw [k3]
        refine .inl ⟨q, p', k1, k2, rfl, hf, ?_⟩
        clear k3
        clear hA hN
        intro g op w h
        have r0 := h.later (below_alloc w (.cells #[.int .u64 0, .int .u64 0, .int .u64 0, .int .u64 0] 25))
        have z0 := sp.blk_new w none4
        go_enter Tryd.func87, Tryd.ntmps87
        go_wp2_with (first | (go_at_call 65; (with_reducible refine (h36 _ _ _ r0).mono ?_); rintro e w1 ⟨rfl, r1, t1⟩) | (go_at_call 65; (with_reducible refine (g36 _ _ _ r1).mono ?_); rintro e w2 ⟨rfl, r2, t2⟩) | (go_at_call 92; refine (h71 _ _ _ r2).mono ?_; rintro e w3 ⟨rfl, r3, t3⟩; have z3 := (Blk.keep (Blk.keep (Blk.keep z0 t1 h.ne.symm) t2 h.ne.symm) t3 h.ne.symm).later (below_alloc w3 (.cells #[.int .u64 q.a, .int .u64 q.b, .int .u64 q.c, .int .u64 q.d] 25)); obtain ⟨c0, c1, c2, c3, f0, f1, f2, f3⟩ := sp8 z3))
        refine sp.ret25 Tryd.results87 w.heap.size q rfl (sp.set4 z3 q) rfl ?_
        exact ⟨rfl, (r3.later (below_alloc _ _)).other (touch_set4 _ _ q) h.ne, touch_over (touch_alloc (touch_trans (touch_trans (touch_trans (touch_alloc (touch_refl _ _) _) t1) t2) t3) _) (touch_set4 _ _ q) (Nat.le_refl _)⟩
      · rw [k3]
        simp only
        clear k3
        have hpo := point_any ⟨#[92, 40, 41, 91, 93, 123, 125, 46, 42, 43, 63, 124, 94, 36]⟩ u p hp hu
        rw [show codes ⟨#[92, 40, 41, 91, 93, 123, 125, 46, 42, 43, 63, 124, 94, 36]⟩ = signs from rfl] at hpo
        rcases hpo with ⟨a, p1, k1, k2, k3, ha, h73⟩ | ⟨e, q, k2, k3, h73⟩
        · have h72 := lone_any a ha _ rfl
          refine .inl ⟨rng a a, p1, k1, k2, by rw [k3]; rfl, fits_rng _ _, ?_⟩
          clear k3
          generalize rng a a = q at *
          clear hA hN
          intro g op w h
          have r0 := h.later (below_alloc w (.cells #[.int .u64 0, .int .u64 0, .int .u64 0, .int .u64 0] 25))
          have z0 := sp.blk_new w none4
          go_enter Tryd.func87, Tryd.ntmps87
          go_wp2_with (first | (go_at_call 65; (with_reducible refine (h36 _ _ _ r0).mono ?_); rintro e w1 ⟨rfl, r1, t1⟩) | (go_at_call 65; (with_reducible refine (g36 _ _ _ r1).mono ?_); rintro e w2 ⟨rfl, r2, t2⟩) | (go_at_call 92; refine (h71 _ _ _ r2).mono ?_; rintro e w3 ⟨rfl, r3, t3⟩) | (go_at_call 94; refine (h73 _ _ _ (r3.later (below_alloc _ _))).mono ?_; rintro e w4 ⟨rfl, r4, t4⟩) | (go_at_call 93; refine (h72 _).mono ?_; rintro e w5 ⟨rfl, b5⟩; have z3 := (Blk.keep ((Blk.keep (Blk.keep (Blk.keep z0 t1 h.ne.symm) t2 h.ne.symm) t3 h.ne.symm).later (below_alloc w3 _)) t4 h.ne.symm).later b5; obtain ⟨c0, c1, c2, c3, f0, f1, f2, f3⟩ := sp8 z3))
          refine sp.ret25 Tryd.results87 w.heap.size q rfl (sp.set4 z3 q) rfl ?_
          exact ⟨rfl, (r4.later b5).other (touch_set4 _ _ q) h.ne, touch_over (touch_trans (touch_trans (touch_alloc (touch_trans (touch_trans (touch_trans (touch_alloc (touch_refl _ _) _) t1) t2) t3) _) t4) (touch_below _ b5)) (touch_set4 _ _ q) (Nat.le_refl _)⟩
        · refine .inr ⟨e, q, k2, by rw [k3]; rfl, ?_⟩
          clear k3
          clear hA hN
          intro g op w h
          have r0 := h.later (below_alloc w (.cells #[.int .u64 0, .int .u64 0, .int .u64 0, .int .u64 0] 25))
          go_enter Tryd.func87, Tryd.ntmps87
          go_wp2_with (first | (go_at_call 65; (with_reducible refine (h36 _ _ _ r0).mono ?_); rintro e w1 ⟨rfl, r1, t1⟩) | (go_at_call 65; (with_reducible refine (g36 _ _ _ r1).mono ?_); rintro e w2 ⟨rfl, r2, t2⟩) | (go_at_call 92; refine (h71 _ _ _ r2).mono ?_; rintro e w3 ⟨rfl, r3, t3⟩) | (go_at_call 94; refine (h73 _ _ _ (r3.later (below_alloc _ _))).mono ?_; rintro e w4 ⟨rfl, t4⟩))
          exact ⟨rfl, rfl, touch_trans (touch_alloc (touch_trans (touch_trans (touch_trans (touch_alloc (touch_refl _ _) _) t1) t2) t3) _) t4⟩
end Go.Proofs.YtfclidcfhadohaaDoor.st
