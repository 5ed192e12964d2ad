/-
  A list of instructions that came in as an argument; what is written of any list; the law IsaPuts.
-/
import Derived.Test.YtdekkjnlmlkbdaaDoorHh
import Derived.Deep.Slices
namespace Go.Proofs.YtdekkjnlmlkbdaaDoor.is
open Go.Proofs.YtdekkjnlmlkbdaaDoor.num
open Go.ChangeShapes Go.WideShapes Go.ChangeAt Go.RowKit
set_option linter.unusedVariables false
set_option maxRecDepth 100000

theorem pow_of {w : World} {l : List (String × DataW Unit)} (h : laidMet Tryd.prog l w) (h1 : ("internal/strconv.uint64pow10", (Rows.laid_internal_strconv_uint64pow10 : DataW Unit)) ∈ l) : Pow w := by
  obtain ⟨ps, hL, _, _⟩ := h
  obtain ⟨g, t, cs, fuel, p, hg, ht, hv, hd⟩ := laid_mem hL _ _ h1
  have hgn : ∃ g', Tryd.prog.globalNamed "internal/strconv.uint64pow10" = some g' ∧ (Tryd.prog.globals[g']?).map (·.type) = some 91 := by first | exact ⟨2, by kernel_rfl, by kernel_rfl⟩ | exact ⟨3, by kernel_rfl, by kernel_rfl⟩ | exact ⟨4, by kernel_rfl, by kernel_rfl⟩
  obtain ⟨g', hg', ht'⟩ := hgn
  obtain rfl := Option.some.inj (hg'.symm.trans hg)
  obtain rfl := Option.some.inj (ht'.symm.trans ht)
  rw [pow_data] at hd
  have e := Lib.cells_of_tab Tryd.underlying91 Tryd.underlying56 (by kernel_rfl) (by kernel_rfl) hd
  unfold Pow Lib.TabIs
  rw [hv, ← e]

theorem open25 {H : Type} {enc : TypeId × Value → H} {W : World} {base : Nat} {v : Value} {d : DataW H} {p : List MemPlace} (hok : Value.okWide Tryd.prog W .any base 25 v) (h : DataW.Trod enc Tryd.prog W 0 (fun _ => true) true 25 v d p) :
    ∃ l : List In, (∀ i ∈ l, i.sane) ∧ InsAt W v l := by
  obtain ⟨a0, len0, cap0, rfl⟩ := okWide_slice Tryd.underlying25 hok
  obtain ⟨fuel, hf⟩ := h
  have hf : DataW.trod enc Tryd.prog W 0 (fun _ => true) true fuel 25 [.slice a0 len0 cap0] = some (d, p) := hf
  rcases DataW.trod_slice Tryd.underlying25 hf with ⟨hcs2, _⟩ | ⟨a, len, cap, elems, rest, m, hm, hcs2, _, _, hlc, hmax, hlen, hel, _, _⟩
  · simp at hcs2
    obtain ⟨rfl, rfl, rfl⟩ := hcs2
    exact ⟨[], by simp, none, 0, rfl, Nat.le_refl _, by omega, fun h => absurd h (by simp)⟩
  · simp at hcs2
    obtain ⟨rfl, rfl, rfl⟩ := hcs2
    have c23 : Tryd.prog.cellsOf 23 = 5 := by kernel_rfl
    rw [c23] at hel
    have each : ∀ i, i < len0 → ∃ y : In, y.sane ∧ (W.cell? (a.add (i * 5)) = some (.int .i64 y.op) ∧ W.cell? (a.add (i * 5 + 1)) = some (.int .i64 y.a) ∧ W.cell? (a.add (i * 5 + 2)) = some (.int .i64 y.b) ∧ W.cell? (a.add (i * 5 + 3)) = some (.int .i64 y.c) ∧ W.cell? (a.add (i * 5 + 4)) = some (.int .i64 y.d)) := by
      intro i hi
      have h1 := hel i hi
      rw [List.getElem?_eq_getElem (by omega)] at h1
      obtain ⟨cs', h2, h3⟩ := Option.bind_eq_some_iff.1 h1
      obtain ⟨y, hs, rfl⟩ := parts23 h3
      obtain ⟨_, hlen', hcell⟩ := World.cells?_some h2
      have e0 := hcell 0 (by omega)
      have e1 := hcell 1 (by omega)
      have e2 := hcell 2 (by omega)
      have e3 := hcell 3 (by omega)
      have e4 := hcell 4 (by omega)
      rw [Deep.add_add] at e0 e1 e2 e3 e4
      exact ⟨y, hs, by simpa using e0, by simpa using e1, by simpa using e2, by simpa using e3, by simpa using e4⟩
    letI : Inhabited In := ⟨zI⟩
    obtain ⟨f, hfam⟩ := Deep.choose_lt each
    have hln : ((List.range len0).map f).length = len0 := by simp
    refine ⟨(List.range len0).map f, ?_, some a, cap0, by rw [hln], by rw [hln]; exact hlc, by unfold maxLen at hmax; omega, fun h0 => ?_⟩
    · intro i hi
      obtain ⟨k, hk, rfl⟩ := List.mem_map.1 hi
      exact (hfam k (List.mem_range.1 hk)).1
    · rw [hln] at h0
      obtain ⟨b, off, spot⟩ := a
      have hc := (hfam 0 h0).2.1
      have hspot : spot = none := by simpa [Addr.add] using World.cell?_spot hc
      subst hspot
      have hadd : ∀ i, (⟨b, off, none⟩ : Addr).add i = ⟨b, off + i, none⟩ := fun i => by simp [Addr.add]
      refine ⟨b, off, rfl, fun k hk => ?_⟩
      rw [hln] at hk
      have h := (hfam k hk).2
      simp only [hadd] at h
      simp only [List.getElem_map, List.getElem_range]
      exact ⟨h.1, by rw [Nat.add_assoc]; exact h.2.1, by rw [Nat.add_assoc]; exact h.2.2.1, by rw [Nat.add_assoc]; exact h.2.2.2.1, by rw [Nat.add_assoc]; exact h.2.2.2.2⟩

/-- a list's beginning -/
theorem InsAt.cut {w : World} {o : Option Addr} {n cap : Nat} {l : List In} (h : InsAt w (.slice o n cap) l) (m : Nat) (hm : m ≤ n) : InsAt w (.slice o m cap) (l.take m) := by
  obtain ⟨o', cap', e, h1, h2, h3⟩ := h
  simp at e
  obtain ⟨rfl, rfl, rfl⟩ := e
  have hl : (l.take m).length = m := by rw [List.length_take]; omega
  refine ⟨o, cap, by rw [hl], by omega, h2, fun h0 => ?_⟩
  obtain ⟨b, off, e2, h4⟩ := h3 (by omega)
  refine ⟨b, off, e2, fun k hk => ?_⟩
  rw [List.getElem_take]
  exact h4 k (by omega)

/-- what is written as bytes, and as lines -/
def putR (l : List In) : List UInt8 × Nat := if allE l = 0 then (putL l, 0) else ([], allE l)
def textR (l : List In) : List UInt8 × Nat := if allE l = 0 then (textL l, 0) else ([], allE l)
theorem puts_any (l : List In) : PutsIs l (putR l).1 (putR l).2 := by
  unfold putR
  by_cases h : allE l = 0
  · rw [if_pos h]; exact puts_ok l h
  · rw [if_neg h]; exact puts_bad l h
theorem rputs_any (l : List In) : RPutsIs l (putR l).1 (putR l).2 := by
  unfold putR
  by_cases h : allE l = 0
  · rw [if_pos h]; exact rputs_ok l h
  · rw [if_neg h]; exact rputs_bad l h
theorem texts_any (l : List In) : TextsIs l (textR l).1 (textR l).2 := by
  unfold textR
  by_cases h : allE l = 0
  · rw [if_pos h]; exact texts_ok l h
  · rw [if_neg h]; exact texts_bad l h
theorem rtexts_any (l : List In) : RTextsIs l (textR l).1 (textR l).2 := by
  unfold textR
  by_cases h : allE l = 0
  · rw [if_pos h]; exact rtexts_ok l h
  · rw [if_neg h]; exact rtexts_bad l h

set_option maxHeartbeats 4000000 in
theorem puts_law (l : List In) (hs : ∀ i ∈ l, i.sane) (v : Value) (w : World) (hT : Tabs w) (hP : Pow w) (hv : InsAt w v l) : Calls Tryd.prog 4 #[v] w fun e w' => e = .returned (.bool true) ∧ Below w.heap.size w w' := by
  obtain ⟨o, n, cap, rfl, hn, hc, hcm, hel⟩ := hv.open
  have fin : ∀ (m : Nat) (l : List In), InsAt w (.slice o m cap) l → ∃ (s t : ByteArray) (e f : Nat), (∀ W, Below w.heap.size w W → Calls Tryd.prog 11 #[.slice o m cap] W fun x w' => x = .returned (.tuple #[.string s, .int .i64 e]) ∧ Below W.heap.size W w') ∧ (∀ W, Below w.heap.size w W → Calls Tryd.prog 12 #[.slice o m cap] W fun x w' => x = .returned (.tuple #[.string s, .int .i64 e]) ∧ Below W.heap.size W w') ∧ (∀ W, Below w.heap.size w W → Calls Tryd.prog 13 #[.slice o m cap] W fun x w' => x = .returned (.tuple #[.string t, .int .i64 f]) ∧ Below W.heap.size W w') ∧ (∀ W, Below w.heap.size w W → Calls Tryd.prog 14 #[.slice o m cap] W fun x w' => x = .returned (.tuple #[.string t, .int .i64 f]) ∧ Below W.heap.size W w') := fun m l hi =>
    ⟨ba (putR l).1, ba (textR l).1, (putR l).2, (textR l).2, fun W b => puts_any l _ W (hT.later b) (hi.later b), fun W b => rputs_any l _ W (hi.later b), fun W b => texts_any l _ W (hT.later b) (hP.later b) (hi.later b), fun W b => rtexts_any l _ W (hP.later b) (hi.later b)⟩
  by_cases h1 : 500 < n
  · by_cases h2 : n ≤ 4096
    · obtain ⟨s, t, e, f, g1, g2, g3, g4⟩ := fin 500 (l.take 500) (hv.cut 500 (by omega))
      obtain ⟨b, off, rfl, _⟩ := hel 0 (by omega)
      clear fin hel hv hn
      go_enter Tryd.func4, Tryd.ntmps4
      go_wp2_with (first | (go_at_call 11; refine (g1 _ (Below.refl _ _)).mono ?_; rintro x w1 ⟨rfl, b1⟩) | (go_at_call 12; refine (g2 _ b1).mono ?_; rintro x w2 ⟨rfl, b2⟩; have B2 := chain b1 b2) | (go_at_call 13; refine (g3 _ B2).mono ?_; rintro x w3 ⟨rfl, b3⟩; have B3 := chain B2 b3) | (go_at_call 14; refine (g4 _ B3).mono ?_; rintro x w4 ⟨rfl, b4⟩; have B4 := chain B3 b4))
      go_ret
      exact ⟨rfl, B4⟩
    · have h3 : 4096 < n := by omega
      obtain ⟨s, t, e, f, g1, g2, g3, g4⟩ := fin n l hv
      clear fin hel hv hn h2
      go_enter Tryd.func4, Tryd.ntmps4
      go_wp2_with (first | (go_at_call 11; refine (g1 _ (Below.refl _ _)).mono ?_; rintro x w1 ⟨rfl, b1⟩) | (go_at_call 12; refine (g2 _ b1).mono ?_; rintro x w2 ⟨rfl, b2⟩; have B2 := chain b1 b2) | (go_at_call 13; refine (g3 _ B2).mono ?_; rintro x w3 ⟨rfl, b3⟩; have B3 := chain B2 b3) | (go_at_call 14; refine (g4 _ B3).mono ?_; rintro x w4 ⟨rfl, b4⟩; have B4 := chain B3 b4))
      go_ret
      exact ⟨rfl, B4⟩
  · obtain ⟨s, t, e, f, g1, g2, g3, g4⟩ := fin n l hv
    clear fin hel hv hn
    go_enter Tryd.func4, Tryd.ntmps4
    go_wp2_with (first | (go_at_call 11; refine (g1 _ (Below.refl _ _)).mono ?_; rintro x w1 ⟨rfl, b1⟩) | (go_at_call 12; refine (g2 _ b1).mono ?_; rintro x w2 ⟨rfl, b2⟩; have B2 := chain b1 b2) | (go_at_call 13; refine (g3 _ B2).mono ?_; rintro x w3 ⟨rfl, b3⟩; have B3 := chain B2 b3) | (go_at_call 14; refine (g4 _ B3).mono ?_; rintro x w4 ⟨rfl, b4⟩; have B4 := chain B3 b4))
    go_ret
    exact ⟨rfl, B4⟩
end Go.Proofs.YtdekkjnlmlkbdaaDoor.is
