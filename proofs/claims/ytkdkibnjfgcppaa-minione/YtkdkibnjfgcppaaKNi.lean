/-
  Memory: the dfa that the law makes, row by row; the law's own alive.
-/
import Derived.Test.YtkdkibnjfgcppaaKNg
import Derived.Test.YtkdkibnjfgcppaaKNh
import Derived.Test.YtkdkibnjfgcppaaKDj
namespace Go.Proofs.Ytkdkibnjfgcppaa.mi
open Go.ChangeShapes Go.WideShapes Go.ChangeAt Go.RowKit Go.Shelf Go.Maps
set_option linter.unusedVariables false

theorem below_iter (w : World) (s : ByteArray) (p : Nat) : Below w.heap.size w (w.iter s p) := (Below.refl _ _).alloc (Nat.le_refl _) _
theorem count_a (s : ByteArray) (hd : Utf8.decode s 0 = (97, 1)) (h0 : 0 < s.size) (hz : s.size ≤ 1) (w : World) :
    Calls Try.prog 29 #[.string s] w fun e w' => e = .returned (.int .i64 1) ∧ Below w.heap.size w w' := by
  have HD : Hid (Utf8.decode s 0 = (97, 1)) := hd
  clear hd
  go_enter Try.func29, Try.ntmps29
  go_wp2
  go_loopw [3] (fun v wr => ∃ pos, wr = w.iter s pos ∧ ((pos = 0 ∧ v = .int .i64 0) ∨ (¬ pos < s.size ∧ v = .int .i64 1))) (fun _ wr => s.size - wr.iterPos w.heap.size)
  case atStart => exact ⟨0, rfl, .inl ⟨rfl, rfl⟩⟩
  case round =>
    obtain ⟨pos, rfl, ⟨rfl, rfl⟩ | ⟨hpos, rfl⟩⟩ := hrel
    · have hnx := fun ty => run_next_any (P := Try.prog) w s 0 ty h0
      rw [HD.out] at hnx
      go_wp2
      go_roundw
      case rel => exact ⟨1, by simp, .inr ⟨by omega, rfl⟩⟩
      case measure => simp; omega
    · have hnx := fun ty => run_next_end (P := Try.prog) w s pos ty hpos
      go_wp2
      go_ret
      exact ⟨rfl, below_iter _ _ _⟩
theorem alive_any (w : World) : Calls Try.prog 18 #[] w fun e w' => e = .returned (.bool true) ∧ Below w.heap.size w w' := by
  have h21 := count_a ⟨#[97]⟩ (by decide) (by decide) (by decide)
  go_enter Try.func18, Try.ntmps18
  go_wp2_with fail
  refine (h21 _).mono ?_
  rintro e w1 ⟨rfl, b1⟩
  go_wp2
  go_ret
  exact ⟨rfl, b1⟩
theorem info39 : (Try.prog.info? 39).map (fun i => (i.zero, i.size, i.bytes)) = some (some (.slice none 0 0), 1, 24) := by kernel_rfl
abbrev twR (d : df.Dfa) (k : Nat) : List Int := twRow d.next.length k (rowR d (k % d.next.length))
structure Tw (w : World) (B g : Nat) (X : List Nat) (av : Value) (ac2 : List Bool) (d : df.Dfa) (i : Nat) (nv : Value) (vs : List Value) : Prop where
  box : DL w g X nv av
  gB : B ≤ g
  ac : w.ownsRow B 4 1 av ac2.length (ac2.map Value.bool)
  nx : w.ownsRow B 39 1 nv i vs
  rows : ∀ k, k < i → ∃ v, vs[k]? = some v ∧ df.Owns w B v (twR d k)
section
variable {w w' : World} {B g : Nat} {X : List Nat} {av : Value} {ac2 : List Bool} {d : df.Dfa} {i : Nat} {nv : Value} {vs : List Value}
theorem own_nil (w : World) (B e : Nat) : w.ownsRow B e 1 nl 0 [] := ⟨rfl, .inl ⟨rfl, rfl⟩⟩
theorem Tw.later (h : Tw w B g X av ac2 d i nv vs) (b : Below w.heap.size w w') : Tw w' B g X av ac2 d i nv vs :=
  ⟨h.box.keep (b.block g h.box.lt), h.gB, ow.later h.ac b, ow.later h.nx b, fun k hk => by
    obtain ⟨v, e, hv⟩ := h.rows k hk
    exact ⟨v, e, ow.later hv b⟩⟩
theorem own_wide {w : World} {B K e n : Nat} {v : Value} {xs : List Value} (h : w.ownsRow K e 1 v n xs) (hB : B ≤ K) : w.ownsRow B e 1 v n xs := by
  refine ⟨h.1, ?_⟩
  rcases h.2 with h0 | ⟨g, cap, cur, h1, h2, h3⟩
  · exact .inl h0
  · exact .inr ⟨g, cap, cur, h1, by omega, h3⟩
theorem Tw.push (h : Tw w B g X av ac2 d i nv vs) {v9 : Value} (hv : df.Owns w B v9 (twR d i)) {v' : Value} (ho : w'.ownsRow B 39 1 v' (i + 1) (vs ++ [v9])) (hg : w.grownBy w' nv.ownBlock) : Tw (w'.setCell ⟨g, 256, none⟩ v') B g X av ac2 d (i + 1) v' (vs ++ [v9]) := by
  have hgl := h.box.lt
  obtain ⟨cells, hb, hC⟩ := h.box
  have hb' : w'.heap[g]? = some (.cells cells 26 (0, 0)) := (hg.block g hgl (ow.type h.nx hb (by decide))).trans hb
  have oth : ∀ k, k ≠ g → (w'.setCell ⟨g, 256, none⟩ v').heap[k]? = w'.heap[k]? := fun k hk => Below.heap_setCell _ _ _ _ hk
  have two : ∀ {e n : Nat} {v : Value} {xs : List Value}, e ≠ 39 → e ≠ 26 → w.ownsRow B e 1 v n xs → (w'.setCell ⟨g, 256, none⟩ v').ownsRow B e 1 v n xs := fun {e n v xs} h1 h2 hr => by
    refine ow.keep hr fun k hk => ?_
    have hkb : ∃ cur, w.heap[k]? = some (.cells cur e (0, 0)) := by
      rcases hr.2 with ⟨rfl, _⟩ | ⟨gg, cap, cur, rfl, _, hgg, _⟩
      · cases hk
      · cases hk; exact ⟨cur, hgg⟩
    obtain ⟨cur, hcur⟩ := hkb
    have hne : k ≠ g := fun e1 => by
      rw [e1, hb] at hcur
      injection hcur with hcur
      injection hcur with _ e2
      exact h2 e2.symm
    rw [oth k hne]
    exact hg.block k (ow.lt hr hk).2 (ow.type h.nx hcur h1)
  refine ⟨DL.setN ⟨cells, hb', hC⟩ v', h.gB, two (by decide) (by decide) h.ac, ?_, fun k hk => ?_⟩
  · exact ow.keep ho fun k hk => oth k (fun e1 => ow.type ho hb' (by decide) (by rw [← e1, hk]))
  · have hvl : vs.length = i := by have := h.nx.1; omega
    by_cases hki : k < i
    · obtain ⟨v, e, hr⟩ := h.rows k hki
      exact ⟨v, by rw [List.getElem?_append_left (by omega)]; exact e, two (by decide) (by decide) hr⟩
    · obtain rfl : k = i := by omega
      exact ⟨v9, by rw [List.getElem?_append_right (by omega), hvl]; simp, two (by decide) (by decide) hv⟩
theorem Tw.dat (h : Tw w B g X av ac2 d (2 * d.next.length) nv vs) (hX : X = clX d) (ha : ac2 = d.acc ++ d.acc) (h8 : ∀ i, d.cls i < 256) :
    ∃ cells o cap ao acap, w.heap[g]? = some (.cells cells 26 (0, 0)) ∧ df.DAt (df.In w) w (tw d) cells o cap ao acap := by
  obtain ⟨cells, hb, hC⟩ := h.box
  obtain ⟨o, c, e1, h1, h2, h3⟩ := own_row h.nx (by have := h.nx.1; omega) (fun _ _ => rfl)
  obtain ⟨ao, ac, e4, h4, h5, h6⟩ := own_row h.ac (by simp) (fun _ _ => rfl)
  refine ⟨cells, o, c, ao, ac, hb, hC.size, fun i hi => ?_, h8, ?_, ?_, ⟨?_, h2, fun i hi => ?_⟩, ⟨?_, h5, fun i hi => ?_⟩⟩
  · rw [hC.cl i hi, hX]; simp [hi]; rfl
  · rw [hC.nx, e1, tw_len]
  · rw [hC.ac, e4, ha]; rfl
  · rw [tw_len]; exact h1
  · have hi2 : i < 2 * d.next.length := by rw [tw_len] at hi; exact hi
    obtain ⟨v, ev, hv⟩ := h.rows i hi2
    obtain ⟨gq, eq, _, hq2, hq3⟩ := h3 i v ev
    obtain ⟨ro, rc, rfl, hrow⟩ := df.ints_of_owns hv
    have ei : (tw d).next[i] = twR d i := by
      have := tw_get d i hi2
      rw [List.getElem?_eq_getElem hi] at this
      exact Option.some.inj this
    rw [ei]
    exact ⟨gq, 0, ro, rc, eq, hq2, by rw [Nat.zero_add]; exact hq3, hrow⟩
  · rw [ha] at h4; exact h4
  · have hi' : i < ac2.length := by rw [ha]; exact hi
    obtain ⟨gq, eq, _, hq2, hq3⟩ := h6 i (.bool ac2[i]) (by rw [List.getElem?_map, List.getElem?_eq_getElem hi']; rfl)
    refine ⟨gq, 0, eq, hq2, ?_⟩
    rw [Nat.zero_add, hq3]
    subst ha
    rfl
end
end Go.Proofs.Ytkdkibnjfgcppaa.mi
