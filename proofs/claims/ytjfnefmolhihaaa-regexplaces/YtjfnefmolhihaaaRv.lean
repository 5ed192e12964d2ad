/-
  Contracts over this program: one of several (regex.reader's alt).
-/
import Derived.Test.YtjfnefmolhihaaaRu
namespace Go.Proofs.Ytjfnefmolhihaaa.st
open Go.Sort Go.ChangeShapes Go.WideShapes Go.ChangeAt Go.RowKit
set_option linter.unusedVariables false

theorem alts_pure (u : ByteArray) (hu : u.size ≤ 512) (op : Nat) (grp : List Nat → R Tr) (hg : Tells 62 1 0 u op grp) (n : Nat) : ∀ (ks : List Tr) (p : Nat), p ≤ u.size → u.size - p < n →
    (∃ t' p', p ≤ p' ∧ p' ≤ u.size ∧ alts grp n ks (suf u p) = .ok t' (suf u p') ∧ t'.nodes ≤ nodesOf ks + 2 * (p' - p) + 1) ∨ (∃ e q, q ≤ u.size ∧ alts grp n ks (suf u p) = .bad e (suf u q)) := by
  induction n with
  | zero => intro ks p hp hn; omega
  | succ n ih =>
    intro ks p hp hn
    unfold alts
    cases hs : sees [124] (suf u p) with
    | false => exact .inl ⟨grown 3 ks, p, Nat.le_refl _, hp, by simp, by have := grown_nodes 3 ks; omega⟩
    | true =>
      have hin := sees_lt hs
      simp only [if_true]
      rw [suf_tail u p hin]
      rcases cat_any u hu op grp hg (p + 1) hin with ⟨t, p1, k1, k2, k3, k4, _⟩ | ⟨e, q, k2, k3, _⟩
      · rw [k3]
        have := laid_nodes ks t 3
        rcases ih (laid ks t 3) p1 k2 (by omega) with ⟨t', p', m1, m2, m3, m4⟩ | ⟨e, q, m2, m3⟩
        · exact .inl ⟨t', p', by omega, m2, m3, by omega⟩
        · exact .inr ⟨e, q, m2, m3⟩
      · rw [k3]; exact .inr ⟨e, q, k2, rfl⟩

theorem alt_pure (u : ByteArray) (hu : u.size ≤ 512) (op : Nat) (grp : List Nat → R Tr) (hg : Tells 62 1 0 u op grp) (p : Nat) (hp : p ≤ u.size) : Pure (p + 0) 2 p (altOf grp (suf u p)) u := by
  unfold altOf
  rcases cat_any u hu op grp hg p hp with ⟨t, p1, k1, k2, k3, k4, _⟩ | ⟨e, q, k2, k3, _⟩
  · rw [k3]
    simp only [R.then]
    rw [suf_length]
    have := laid_nodes [] t 3
    simp only [nodesOf] at this
    rcases alts_pure u hu op grp hg (u.size - p1 + 1) (laid [] t 3) p1 k2 (by omega) with ⟨t', p', m1, m2, m3, m4⟩ | ⟨e, q, m2, m3⟩
    · exact .inl ⟨t', p', by omega, m2, m3, by omega⟩
    · exact .inr ⟨e, q, m2, m3⟩
  · rw [k3]; exact .inr ⟨e, q, k2, rfl⟩

set_option maxHeartbeats 4000000 in
set_option maxRecDepth 100000 in
theorem alt_walk (u : ByteArray) (hu : u.size ≤ 512) (op : Nat) (grp : List Nat → R Tr) (hg : Tells 62 1 0 u op grp) (p p1 : Nat) (hpp : p ≤ p1) (hp1 : p1 ≤ u.size) (t : Tr) (ht : t.nodes ≤ 2 * (p1 - p) + 1) (h35 : OkT 35 u p op t p1) (res : R Tr) (hres : res = alts grp (u.size - p1 + 1) (laid [] t 3) (suf u p1)) :
    ∀ g w, Rd w g u p op → Calls Try.prog 28 #[.pointer (some ⟨g, 0, none⟩)] w (OutT res u g op w) := by
  intro g w h
  have hu2 : u.size ≤ 9223372036854775807 := by omega
  have HR : Hid (res = alts grp (u.size - p1 + 1) (laid [] t 3) (suf u p1)) := hres
  clear hres
  have hgw := h.lt
  have hkl : t.kids.length ≤ 1026 := by have := length_nodes t.kids; have := t.nodes_eq; omega
  have h34 := laid_any (w.heap.size + 1) [] t 3 (by simp; omega)
  have hln := laid_nodes [] t 3
  simp only [nodesOf] at hln
  have m0 : Mid u g op w.heap.size w (w.alloc (.cells #[.int .i64 0, .int .u64 0, .int .u64 0, .int .u64 0, .int .u64 0, .int .i64 0, .int .i64 0, .slice none 0 0] 28)) p [] (.slice none 0 0) :=
    ⟨h.later (below_alloc _ _), box_new w Tr.zero (.slice none 0 0), own_nil _ _, touch_alloc (touch_refl _ _) _, by simp [nodesOf], by omega⟩
  go_enter Try.func28, Try.ntmps28
  go_wp2_with (first | (go_at_call 35; refine (h35 _ _ m0.rd).mono ?_; rintro e w1 ⟨tv, rfl, i1, r1, t1⟩; have o1 := m0.own.kept t1 (by omega); have i1' : Is w1 (fun b => w.heap.size + 1 ≤ b ∧ Value.ownBlock (.slice none 0 0) ≠ some b) t tv := i1.weaken (fun b hb => ⟨Nat.le_trans m0.lt hb, by simp [Value.ownBlock]⟩)) | (go_at_call 34; refine (h34 _ _ _ o1 i1' (Nat.le_trans m0.lt t1.size)).mono ?_; rintro e w2 ⟨v', l', rfl, o2, e2, t2⟩))
  have m2 := m0.more hgw t1 r1 o2 t2 hp1 (by rw [e2]; simp only [List.map_nil]; omega)
  go_loopw [3] (fun x wr => ∃ (n p : Nat) (l : List (Tr × Value)), Mid u g op w.heap.size w wr p l x ∧ Hid (res = alts grp n (l.map Prod.fst) (suf u p) ∧ u.size - p < n ∧ nodesOf (l.map Prod.fst) ≤ 2 * p + 1)) (fun _ wr => u.size - placeOf wr g)
  case atStart => exact ⟨_, p1, l', m2, by rw [e2]; exact HR.out, by omega, by rw [e2]; simp only [List.map_nil]; omega⟩
  case round =>
    clear m2 m0 HR h35 h34 o1 i1' i1 r1 t1 o2 t2 e2 hln hkl ht
    obtain ⟨n, p, l, mm, HI⟩ := hrel
    obtain ⟨n, rfl⟩ : ∃ m, n = m + 1 := ⟨n - 1, by have := HI.out.2.1; omega⟩
    have hp := mm.le
    have hsm := mm.small hu
    have h37 := grown_any (w.heap.size + 1) l 3 _ rfl (by omega)
    obtain ⟨xa, xcap, rfl, hxc⟩ := mm.own.shape
    cases hs : sees [124] (suf u p) with
    | false =>
      have h36 := skips_no ⟨#[124]⟩ u p hp hu2 hs
      have HE : Hid (res = .ok (grown 3 (l.map Prod.fst)) (suf u p)) := by show _ = _; rw [HI.out.1]; unfold alts; rw [hs]; rfl
      clear hs HI
      obtain ⟨T, hT⟩ : ∃ T, T = grown 3 (l.map Prod.fst) := ⟨_, rfl⟩
      rw [← hT] at h37 HE
      clear hT
      go_wp2_with (first | (go_at_call 36; refine (h36 _ _ _ mm.rd).mono ?_; rintro e w3 ⟨rfl, r3, t3⟩; have o3 := mm.own.kept t3 (by omega)) | (go_at_call 37; refine (h37 _ _ o3).mono ?_; rintro e w4 ⟨tv, rfl, i4, b4⟩; obtain ⟨ta, tn, tc, rfl⟩ := i4.shape; have z4 := (Box.keep mm.zero t3 (by omega)).below b4; obtain ⟨⟨d0, d1, d2, d3, d4, d5, d6, d7⟩, f0, f1, f2, f3, f4, f5, f6, f7⟩ := b8 z4))
      refine ret28 Try.results28 w.heap.size T (.slice ta tn tc) rfl (box_set z4 T _) rfl ?_
      exact Mid.done (wr := w3) ⟨r3, Box.keep mm.zero t3 (by omega), o3, touch_trans mm.t t3, mm.few, hp⟩ hgw b4 i4 res HE.out _ (touch_set8 _ _ T _)
    | true =>
      have hin := sees_lt hs
      have h36 := skips_yes ⟨#[124]⟩ u p hu2 hs
      rcases cat_any u hu op grp hg (p + 1) hin with ⟨t, p', q1, q2, q3, q4, g35⟩ | ⟨er, q', q2, q3, g35⟩
      · have hln := laid_nodes (l.map Prod.fst) t 3
        have HJ : Hid (res = alts grp n (laid (l.map Prod.fst) t 3) (suf u p') ∧ u.size - p' < n ∧ nodesOf (laid (l.map Prod.fst) t 3) ≤ 2 * p' + 1) := by
          refine ⟨?_, by have := HI.out.2.1; omega, by have := HI.out.2.2; omega⟩
          rw [HI.out.1]; conv => lhs; unfold alts
          rw [hs, suf_tail u p hin]; simp only [if_true]
          rw [q3]; rfl
        have hkl : t.kids.length ≤ 1026 := by have := length_nodes t.kids; have := t.nodes_eq; omega
        have g34 := laid_any (w.heap.size + 1) l t 3 (by omega)
        clear hs HI q3
        go_wp2_with (first | (go_at_call 36; refine (h36 _ _ _ mm.rd).mono ?_; rintro e w3 ⟨rfl, r3, t3⟩; have o3 := mm.own.kept t3 (by omega); have m3 : Mid u g op w.heap.size w w3 (p + 1) l _ := ⟨r3, Box.keep mm.zero t3 (by omega), o3, touch_trans mm.t t3, mm.few, hin⟩) | (go_at_call 35; refine (g35 _ _ r3).mono ?_; rintro e w4 ⟨tv, rfl, i4, r4, t4⟩; have o4 := o3.kept t4 (by omega); have i4' : Is w4 (fun b => w.heap.size + 1 ≤ b ∧ Value.ownBlock (.slice xa l.length xcap) ≠ some b) t tv := i4.weaken (fun b hb => ⟨Nat.le_trans m3.lt hb, fun e => by have := (World.ownsRow.lt o3.row b e).2; omega⟩)) | (go_at_call 34; refine (g34 _ _ _ o4 i4' (Nat.le_trans m3.lt t4.size)).mono ?_; rintro e w5 ⟨v', l', rfl, o5, e5, t5⟩))
        have m5 := m3.more hgw t4 r4 o5 t5 q2 (by rw [e5]; have := HJ.out.2.2; omega)
        go_roundw
        case rel => exact ⟨n, p', l', m5, by rw [e5]; exact HJ.out⟩
        case measure => rw [place_is m5.rd, place_is mm.rd]; omega
      · have HE : Hid (res = .bad er (suf u q')) := by
          show _ = _
          rw [HI.out.1]; conv => lhs; unfold alts
          rw [hs, suf_tail u p hin]; simp only [if_true]
          rw [q3]; rfl
        clear hs HI q3
        go_wp2_with (first | (go_at_call 36; refine (h36 _ _ _ mm.rd).mono ?_; rintro e w3 ⟨rfl, r3, t3⟩) | (go_at_call 35; refine (g35 _ _ r3).mono ?_; rintro e w4 ⟨rfl, t4⟩))
        exact ⟨rfl, .inr ⟨er, q', HE.out, q2, rfl, touch_trans (touch_trans mm.t t3) t4⟩⟩

theorem alt_any (u : ByteArray) (hu : u.size ≤ 512) (op : Nat) (grp : List Nat → R Tr) (hg : Tells 62 1 0 u op grp) : Tells 28 0 2 u op (altOf grp) := by
  refine tells_of (alt_pure u hu op grp hg) ?_
  intro p hp g w h
  unfold altOf
  rcases cat_any u hu op grp hg p hp with ⟨t, p1, k1, k2, k3, k4, h35⟩ | ⟨e, q, k2, k3, h35⟩
  · rw [k3]
    simp only [R.then]
    rw [suf_length]
    exact alt_walk u hu op grp hg p p1 k1 k2 t k4 h35 _ rfl g w h
  · rw [k3]
    clear k3
    have r0 := fun o => h.later (below_alloc w o)
    go_enter Try.func28, Try.ntmps28
    go_wp2_with (go_at_call 35; refine (h35 _ _ (r0 _)).mono ?_; rintro e w1 ⟨rfl, t1⟩)
    exact ⟨rfl, .inr ⟨e, q, rfl, k2, rfl, touch_trans (touch_alloc (touch_refl _ _) _) t1⟩⟩
end Go.Proofs.Ytjfnefmolhihaaa.st
