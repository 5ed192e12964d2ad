/-
  Contracts over this program: the law's own alive; a list of rules that came in as an argument.
-/
import Derived.Test.YtafcekognhkmgaaM09
import Derived.Lib.OthersKept
namespace Go.Proofs.Ytafcekognhkmgaa.ru
open Go.ChangeShapes Go.WideShapes Go.ChangeAt Go.RowKit
set_option linter.unusedVariables false
set_option maxRecDepth 100000

theorem below_iter (w : World) (s : ByteArray) (p : Nat) : Below w.heap.size w (w.iter s p) := (Below.refl _ _).alloc (Nat.le_refl _) _

theorem count_a (s : ByteArray) (hd : Utf8.decode s 0 = (97, 1)) (h0 : 0 < s.size) (hz : s.size ≤ 1) (w : World) :
    Calls Try.prog 44 #[.string s] w fun e w' => e = .returned (.int .i64 1) ∧ Below w.heap.size w w' := by
  have HD : Hid (Utf8.decode s 0 = (97, 1)) := hd
  clear hd
  go_enter Try.func44, Try.ntmps44
  go_wp2
  go_loopw [3] (fun v wr => ∃ pos, wr = w.iter s pos ∧ ((pos = 0 ∧ v = .int .i64 0) ∨ (¬ pos < s.size ∧ v = .int .i64 1))) (fun _ wr => s.size - wr.iterPos w.heap.size)
  case atStart => exact ⟨0, rfl, .inl ⟨rfl, rfl⟩⟩
  case round =>
    obtain ⟨pos, rfl, ⟨rfl, rfl⟩ | ⟨hpos, rfl⟩⟩ := hrel
    · have hnx := fun ty => run_next_any (P := Try.prog) w s 0 ty h0
      rw [HD.out] at hnx
      go_wp2
      go_roundw
      case rel => exact ⟨1, by simp, .inr ⟨by omega, rfl⟩⟩
      case measure => simp; omega
    · have hnx := fun ty => run_next_end (P := Try.prog) w s pos ty hpos
      go_wp2
      go_ret
      exact ⟨rfl, below_iter _ _ _⟩

theorem open34 {H : Type} {enc : TypeId × Value → H} {W : World} {base : Nat} {v : Value} {d : DataW H} {p : List MemPlace} (hok : Value.okWide Try.prog W .any base 34 v) (h0 : DataW.Trod enc Try.prog W 0 (fun _ => true) true 34 v d p) : ∃ l, Rus W v l := by
  obtain ⟨a, len, cap, rfl⟩ := okWide_slice Try.underlying34 hok
  obtain ⟨fuel, hf⟩ := h0
  rcases Deep.open_slice_pairs Try.underlying34 Try.underlying39 (by kernel_rfl) rfl rfl (by kernel_rfl) (by kernel_rfl) hf with ⟨hcs, _⟩ | ⟨x, l, c, m, n, V0, V1, D0, D1, P0, P1, hcs, _, hl, hm, hmm, hx, hall⟩
  · simp [Value.cells] at hcs
    obtain ⟨rfl, rfl, rfl⟩ := hcs
    exact ⟨[], .inl ⟨rfl, _, _, rfl⟩⟩
  · simp [Value.cells] at hcs
    obtain ⟨rfl, rfl, rfl⟩ := hcs
    simp only [Prod.mk.injEq] at hx
    obtain ⟨rfl, _⟩ := hx
    have hlm : len ≤ m := by rw [hmm]; simp; omega
    have each : ∀ i, i < len → ∃ y : Ru, W.cell? (x.add (i * 2)) = some (.string y.fr) ∧ W.cell? (x.add (i * 2 + 1)) = some (.string y.to) := by
      intro i hi
      obtain ⟨c0, c1, t0, t1⟩ := hall i (by omega)
      obtain ⟨s0, e0, y0, ws0⟩ := DataW.trod_string Try.underlying9 t0
      obtain ⟨s1, e1, y1, ws1⟩ := DataW.trod_string Try.underlying9 t1
      simp at e0 e1
      exact ⟨⟨s0, s1⟩, by rw [c0, e0], by rw [c1, e1]⟩
    obtain ⟨f, hfam⟩ := Deep.choose_lt each
    by_cases h0 : len = 0
    · subst h0
      exact ⟨[], .inl ⟨rfl, _, _, rfl⟩⟩
    · obtain ⟨b, off, spot⟩ := x
      have hc := (hfam 0 (by omega)).1
      have hspot : spot = none := by simpa [Addr.add] using World.cell?_spot hc
      subst hspot
      have hadd : ∀ i, (⟨b, off, none⟩ : Addr).add i = ⟨b, off + i, none⟩ := fun i => by simp [Addr.add]
      have hlt : b < W.heap.size := by
        rw [hadd] at hc
        unfold World.cell? at hc
        by_cases hb : b < W.heap.size
        · exact hb
        · rw [Array.getElem?_eq_none (by simpa using hb)] at hc
          simp at hc
      have hlen : ((List.range len).map f).length = len := by simp
      have hnth : ∀ i, i < len → nth ((List.range len).map f) i = f i := by
        intro i hi
        unfold nth
        rw [List.getD_eq_getElem?_getD, List.getElem?_map, List.getElem?_range hi]
        rfl
      refine ⟨(List.range len).map f, .inr ⟨b, off, cap, by rw [hlen], by omega, by unfold maxLen at hm; omega, hlt, fun i hi => ?_⟩⟩
      rw [hlen] at hi
      have h := hfam i hi
      rw [hadd, hadd] at h
      rw [hnth i hi]
      exact ⟨h.1, by rw [Nat.add_assoc]; exact h.2⟩
end Go.Proofs.Ytafcekognhkmgaa.ru
