/-
  Contracts over this program: items one behind the other (regex.reader's cat).
-/
import Derived.Test.YtjfnefmolhihaaaRs
namespace Go.Proofs.Ytjfnefmolhihaaa.st
open Go.Sort Go.ChangeShapes Go.WideShapes Go.ChangeAt Go.RowKit
set_option linter.unusedVariables false

theorem nodes_pos (t : Tr) : 1 ≤ t.nodes := by rw [t.nodes_eq]; omega
theorem length_nodes (l : List Tr) : l.length ≤ nodesOf l := by
  induction l with
  | nil => simp [nodesOf]
  | cons t l ih => have := nodes_pos t; simp only [List.length_cons, nodesOf]; omega
theorem laid_nodes (ks : List Tr) (t : Tr) (k : Int) : nodesOf (laid ks t k) ≤ nodesOf ks + t.nodes := by
  unfold laid
  have := t.nodes_eq
  split
  · rw [nodesOf_append]; omega
  · rw [nodesOf_append]; simp only [nodesOf]; omega
theorem grown_nodes (k : Int) (ks : List Tr) : (grown k ks).nodes ≤ nodesOf ks + 1 := by
  unfold grown
  split
  · rename_i h
    obtain ⟨x, rfl⟩ := List.length_eq_one_iff.1 h
    simp [nthT, nodesOf]
  · simp only [Tr.nodes]; omega

theorem items_pure (u : ByteArray) (hu : u.size ≤ 512) (op : Nat) (grp : List Nat → R Tr) (hg : Tells 62 1 0 u op grp) (n : Nat) : ∀ (ks : List Tr) (p : Nat), p ≤ u.size → u.size - p < n →
    (∃ t' p', p ≤ p' ∧ p' ≤ u.size ∧ items grp n ks (suf u p) = .ok t' (suf u p') ∧ t'.nodes ≤ nodesOf ks + 2 * (p' - p) + 1) ∨ (∃ e q, q ≤ u.size ∧ items grp n ks (suf u p) = .bad e (suf u q)) := by
  induction n with
  | zero => intro ks p hp hn; omega
  | succ n ih =>
    intro ks p hp hn
    unfold items
    by_cases hend : suf u p = [] ∨ sees [124, 41] (suf u p) = true
    · rw [if_pos hend]
      exact .inl ⟨_, p, Nat.le_refl _, hp, rfl, by have := grown_nodes 2 ks; omega⟩
    · rw [if_neg hend]
      rcases item_any u hu op grp hg p hp with ⟨t, p1, k1, k2, k3, k4, _⟩ | ⟨e, q, k2, k3, _⟩
      · rw [k3]
        have := laid_nodes ks t 2
        rcases ih (laid ks t 2) p1 k2 (by omega) with ⟨t', p', m1, m2, m3, m4⟩ | ⟨e, q, m2, m3⟩
        · exact .inl ⟨t', p', by omega, m2, m3, by omega⟩
        · exact .inr ⟨e, q, m2, m3⟩
      · rw [k3]; exact .inr ⟨e, q, k2, rfl⟩

/-- what stands between the loop's rounds -/
structure Mid (u : ByteArray) (g op B : Nat) (w wr : World) (p : Nat) (l : List (Tr × Value)) (v : Value) : Prop where
  rd : Rd wr g u p op
  zero : Box wr B Tr.zero (.slice none 0 0)
  own : OwnK (B + 1) wr v l
  t : w.grownBy wr (some g)
  few : nodesOf (l.map Prod.fst) ≤ 2 * u.size + 2
  le : p ≤ u.size

theorem Mid.lt {u : ByteArray} {g op B : Nat} {w wr : World} {p : Nat} {l : List (Tr × Value)} {v : Value} (h : Mid u g op B w wr p l v) : B + 1 ≤ wr.heap.size := h.zero.lt
theorem Mid.small {u : ByteArray} {g op B : Nat} {w wr : World} {p : Nat} {l : List (Tr × Value)} {v : Value} (h : Mid u g op B w wr p l v) (hu : u.size ≤ 512) : l.length ≤ 1026 := by
  have h1 := length_nodes (l.map Prod.fst); have h2 := h.few; rw [List.length_map] at h1; omega

theorem Mid.later {u : ByteArray} {g op B : Nat} {w wr w1 : World} {p : Nat} {l : List (Tr × Value)} {v : Value} (h : Mid u g op B w wr p l v) (b : RowKit.Below wr.heap.size wr w1) : Mid u g op B w w1 p l v :=
  ⟨h.rd.later b, h.zero.below b, h.own.below b, touch_trans h.t (touch_below _ b), h.few, h.le⟩

/-- a tree that is read, laid behind the others -/
theorem Mid.more {u : ByteArray} {g op : Nat} {w wr w1 w2 : World} {p p1 : Nat} {l l' : List (Tr × Value)} {v v' : Value} (h : Mid u g op w.heap.size w wr p l v) (hg : g < w.heap.size) (t1 : wr.grownBy w1 (some g)) (r1 : Rd w1 g u p1 op) (o2 : OwnK (w.heap.size + 1) w2 v' l') (t2 : w1.grownBy w2 v.ownBlock) (hp1 : p1 ≤ u.size) (hf : nodesOf (l'.map Prod.fst) ≤ 2 * u.size + 2) : Mid u g op w.heap.size w w2 p1 l' v' := by
  have hv : ∀ k, v.ownBlock = some k → w.heap.size + 1 ≤ k := fun k hk => (World.ownsRow.lt h.own.row k hk).1
  refine ⟨?_, ?_, o2, ?_, hf, hp1⟩
  · unfold Rd; rw [t2.block g r1.lt (fun e => by have := hv g e.symm; omega)]; exact r1
  · have z1 := Box.keep h.zero t1 (by omega)
    unfold Box; rw [t2.block _ z1.lt (fun e => by have := hv _ e.symm; omega)]; exact z1
  · have t3 := touch_trans h.t t1
    exact ⟨t2.os.trans t3.os, t2.tape.trans t3.tape, t2.output.trans t3.output, Nat.le_trans t3.size t2.size, fun k hk hne => (t2.block k (Nat.lt_of_lt_of_le hk t3.size) (fun e => by have := hv k e.symm; omega)).trans (t3.block k hk hne)⟩

/-- the end: what was grown, through the first cell -/
theorem Mid.done {u : ByteArray} {g op : Nat} {w wr w3 : World} {p : Nat} {l : List (Tr × Value)} {v tv : Value} {t : Tr} (h : Mid u g op w.heap.size w wr p l v) (hg : g < w.heap.size) (b3 : RowKit.Below wr.heap.size wr w3) (i3 : Is w3 (fun b => w.heap.size + 1 ≤ b) t tv) (res : R Tr) (hres : res = .ok t (suf u p)) (W : World) (hW : w3.grownBy W (some w.heap.size)) :
    OutT res u g op w (.returned (.agg #[.int .i64 t.kind, .int .u64 t.set.a, .int .u64 t.set.b, .int .u64 t.set.c, .int .u64 t.set.d, .int .i64 t.min, .int .i64 t.max, tv])) W := by
  refine .inl ⟨t, p, tv, hres, h.le, rfl, ?_, (h.rd.later b3).other hW (by omega), touch_over (touch_trans h.t (touch_below _ b3)) hW (Nat.le_refl _)⟩
  exact i3.carry hW.size (fun b hb _ => by omega) (fun b hb hlt => hW.block b hlt (fun e => by have := Option.some.inj e; omega))

set_option maxHeartbeats 4000000 in
set_option maxRecDepth 100000 in
theorem cat_walk (u : ByteArray) (hu : u.size ≤ 512) (op : Nat) (grp : List Nat → R Tr) (hg : Tells 62 1 0 u op grp) (p : Nat) (hp : p ≤ u.size) :
    ∀ g w, Rd w g u p op → Calls Try.prog 35 #[.pointer (some ⟨g, 0, none⟩)] w (OutT (cat grp (suf u p)) u g op w) := by
  intro g w h
  have hu2 : u.size ≤ 9223372036854775807 := by omega
  obtain ⟨res, hres⟩ : ∃ res, res = cat grp (suf u p) := ⟨_, rfl⟩
  have HR : Hid (res = items grp (u.size - p + 1) [] (suf u p)) := by show _ = _; rw [hres]; unfold cat; rw [suf_length]
  rw [← hres]
  clear hres
  have hgw := h.lt
  have m0 : Mid u g op w.heap.size w (w.alloc (.cells #[.int .i64 0, .int .u64 0, .int .u64 0, .int .u64 0, .int .u64 0, .int .i64 0, .int .i64 0, .slice none 0 0] 28)) p [] (.slice none 0 0) :=
    ⟨h.later (below_alloc _ _), box_new w Tr.zero (.slice none 0 0), own_nil _ _, touch_alloc (touch_refl _ _) _, by simp [nodesOf], hp⟩
  go_enter Try.func35, Try.ntmps35
  go_wp2_with (fail)
  go_loopw [3] (fun x wr => ∃ (n p : Nat) (l : List (Tr × Value)), Mid u g op w.heap.size w wr p l x ∧ Hid (res = items grp n (l.map Prod.fst) (suf u p) ∧ u.size - p < n ∧ nodesOf (l.map Prod.fst) ≤ 2 * p)) (fun _ wr => u.size - placeOf wr g)
  case atStart => exact ⟨_, p, [], m0, HR.out, by omega, by simp [nodesOf]⟩
  case round =>
    obtain ⟨n, p, l, mm, HI⟩ := hrel
    obtain ⟨n, rfl⟩ : ∃ m, n = m + 1 := ⟨n - 1, by have := HI.out.2.1; omega⟩
    have hp := mm.le
    have hsm := mm.small hu
    clear m0 HR
    have h42 := sees_any u p ⟨#[124, 41]⟩ hp hu2 _ rfl
    rw [show codes ⟨#[124, 41]⟩ = [124, 41] from rfl] at h42
    obtain ⟨xa, xcap, rfl, hxc⟩ := mm.own.shape
    have h37 := grown_any (w.heap.size + 1) l 2 _ rfl (by omega)
    by_cases hin : p < u.size
    · have k0 := cell_regrown mm.rd.c0
      have k1 := cell_regrown mm.rd.c1
      have hlt : decide (p < u.size) = true := by simpa using hin
      have hne : suf u p ≠ [] := by rw [suf_in u p hin]; simp
      cases hs : sees [124, 41] (suf u p) with
      | true =>
        rw [hs] at h42
        have g42 := sees_grow h42 mm.rd
        have HE : Hid (res = .ok (grown 2 (l.map Prod.fst)) (suf u p)) := by show _ = _; rw [HI.out.1]; unfold items; rw [if_pos (.inr hs)]
        clear hs HI h42 hne
        go_wp2_with (fail)
        refine wp_region_quiet_below (by kernel_rfl) (by kernel_rfl) ?_
        repeat (go_big_quiet_step (with_reducible exact g42 _ _))
        refine wpQuiet_nil ?_
        intro _ hw'
        obtain ⟨⟨dq, osq⟩, hw''⟩ := hw'
        subst hw''
        have b1 := below_regrown wr dq osq
        generalize grow (redrawn wr dq) osq = w1 at *
        have m1 := mm.later b1
        clear g42 k0 k1
        obtain ⟨T, hT⟩ : ∃ T, T = grown 2 (l.map Prod.fst) := ⟨_, rfl⟩
        rw [← hT] at h37 HE
        clear hT
        go_wp2_with (go_at_call 37; refine (h37 _ _ m1.own).mono ?_; rintro e w3 ⟨tv, rfl, i3, b3⟩; obtain ⟨ta, tn, tc, rfl⟩ := i3.shape; have z3 := m1.zero.below b3; obtain ⟨⟨d0, d1, d2, d3, d4, d5, d6, d7⟩, f0, f1, f2, f3, f4, f5, f6, f7⟩ := b8 z3)
        refine ret28 Try.results35 w.heap.size T (.slice ta tn tc) rfl (box_set z3 T _) rfl ?_
        exact m1.done hgw b3 i3 res HE.out _ (touch_set8 _ _ T _)
      | false =>
        rw [hs] at h42
        have g42 := sees_grow h42 mm.rd
        have hno : ¬ (suf u p = [] ∨ sees [124, 41] (suf u p) = true) := by rw [hs]; simp [hne]
        rcases item_any u hu op grp hg p hp with ⟨t, p', q1, q2, q3, q4, h43⟩ | ⟨er, q', q2, q3, h43⟩
        · have hln := laid_nodes (l.map Prod.fst) t 2
          have HJ : Hid (res = items grp n (laid (l.map Prod.fst) t 2) (suf u p') ∧ u.size - p' < n ∧ nodesOf (laid (l.map Prod.fst) t 2) ≤ 2 * p') := by
            refine ⟨?_, by have := HI.out.2.1; omega, by have := HI.out.2.2; omega⟩
            rw [HI.out.1]; conv => lhs; unfold items
            rw [if_neg hno, q3]; rfl
          have hkl : t.kids.length ≤ 1026 := by have := length_nodes t.kids; have := t.nodes_eq; omega
          have h34 := laid_any (w.heap.size + 1) l t 2 (by omega)
          clear hs HI h42 hne hno q3
          go_wp2_with (fail)
          refine wp_region_quiet_below (by kernel_rfl) (by kernel_rfl) ?_
          repeat (go_big_quiet_step (with_reducible exact g42 _ _))
          refine wpQuiet_nil ?_
          intro _ hw'
          obtain ⟨⟨dq, osq⟩, hw''⟩ := hw'
          subst hw''
          have b1 := below_regrown wr dq osq
          generalize grow (redrawn wr dq) osq = w1 at *
          have m1 := mm.later b1
          clear g42 k0 k1
          go_wp2_with (first | (go_at_call 43; refine (h43 _ _ m1.rd).mono ?_; rintro e w2 ⟨tv, rfl, i2, r2, t2⟩; have o2 := m1.own.kept t2 (by omega); have i2' : Is w2 (fun b => w.heap.size + 1 ≤ b ∧ Value.ownBlock _ ≠ some b) t tv := i2.weaken (fun b hb => ⟨Nat.le_trans m1.lt hb, fun e => by have := (World.ownsRow.lt m1.own.row b e).2; omega⟩)) | (go_at_call 34; refine (h34 _ _ _ o2 i2' (Nat.le_trans m1.lt t2.size)).mono ?_; rintro e w3 ⟨v', l', rfl, o3, e3, t3⟩))
          have m3 := m1.more hgw t2 r2 o3 t3 q2 (by rw [e3]; have := HJ.out.2.2; omega)
          go_roundw
          case rel => exact ⟨n, p', l', m3, by rw [e3]; exact HJ.out⟩
          case measure => rw [place_is m3.rd, place_is mm.rd]; omega
        · have HE : Hid (res = .bad er (suf u q')) := by
            show _ = _
            rw [HI.out.1]; conv => lhs; unfold items
            rw [if_neg hno, q3]; rfl
          clear hs HI h42 hne hno q3
          go_wp2_with (fail)
          refine wp_region_quiet_below (by kernel_rfl) (by kernel_rfl) ?_
          repeat (go_big_quiet_step (with_reducible exact g42 _ _))
          refine wpQuiet_nil ?_
          intro _ hw'
          obtain ⟨⟨dq, osq⟩, hw''⟩ := hw'
          subst hw''
          have b1 := below_regrown wr dq osq
          generalize grow (redrawn wr dq) osq = w1 at *
          have m1 := mm.later b1
          clear g42 k0 k1
          go_wp2_with (go_at_call 43; refine (h43 _ _ m1.rd).mono ?_; rintro e w2 ⟨rfl, t2⟩)
          exact ⟨rfl, .inr ⟨er, q', HE.out, q2, rfl, touch_trans m1.t t2⟩⟩
    · have hlt : decide (p < u.size) = false := by simpa using hin
      have k0 := cell_regrown mm.rd.c0
      have k1 := cell_regrown mm.rd.c1
      have HE : Hid (res = .ok (grown 2 (l.map Prod.fst)) (suf u p)) := by show _ = _; rw [HI.out.1]; unfold items; rw [if_pos (.inl (suf_out u p (by omega)))]
      have e : p = u.size := by omega
      subst e
      clear HI h42 hin
      go_wp2_with (fail)
      refine wp_region_quiet_below (by kernel_rfl) (by kernel_rfl) ?_
      repeat (go_big_quiet_step (fail))
      refine wpQuiet_nil ?_
      intro _ hw'
      obtain ⟨⟨dq, osq⟩, hw''⟩ := hw'
      subst hw''
      have b1 := below_regrown wr dq osq
      generalize grow (redrawn wr dq) osq = w1 at *
      have m1 := mm.later b1
      clear k0 k1
      obtain ⟨T, hT⟩ : ∃ T, T = grown 2 (l.map Prod.fst) := ⟨_, rfl⟩
      rw [← hT] at h37 HE
      clear hT
      go_wp2_with (go_at_call 37; refine (h37 _ _ m1.own).mono ?_; rintro e w3 ⟨tv, rfl, i3, b3⟩; obtain ⟨ta, tn, tc, rfl⟩ := i3.shape; have z3 := m1.zero.below b3; obtain ⟨⟨d0, d1, d2, d3, d4, d5, d6, d7⟩, f0, f1, f2, f3, f4, f5, f6, f7⟩ := b8 z3)
      refine ret28 Try.results35 w.heap.size T (.slice ta tn tc) rfl (box_set z3 T _) rfl ?_
      exact m1.done hgw b3 i3 res HE.out _ (touch_set8 _ _ T _)

theorem cat_any (u : ByteArray) (hu : u.size ≤ 512) (op : Nat) (grp : List Nat → R Tr) (hg : Tells 62 1 0 u op grp) : Tells 35 0 1 u op (cat grp) := by
  refine tells_of ?_ (cat_walk u hu op grp hg)
  intro p hp
  unfold cat
  rw [suf_length]
  rcases items_pure u hu op grp hg (u.size - p + 1) [] p hp (by omega) with ⟨t', p', m1, m2, m3, m4⟩ | ⟨e, q, m2, m3⟩
  · exact .inl ⟨t', p', m1, m2, m3, by simp only [nodesOf] at m4; omega⟩
  · exact .inr ⟨e, q, m2, m3⟩
end Go.Proofs.Ytjfnefmolhihaaa.st
