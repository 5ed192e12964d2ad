/-
  Memory: a dfa that is made is one.
-/
import Derived.Test.YtkdkibnjfgcppaaMu
namespace Go.Proofs.Ytkdkibnjfgcppaa.mi
open Go.ChangeShapes Go.WideShapes Go.ChangeAt Go.RowKit Go.Shelf Go.Maps
set_option linter.unusedVariables false

theorem own_sl {w : World} {K t m n : Nat} {v : Value} {xs : List Value} (h : w.ownsRow K t m v n xs) : ∃ o c, v = .slice o n c := by
  rcases h.2 with ⟨e, h0⟩ | ⟨g, cap, cur, e, _⟩
  · exact ⟨none, 0, by rw [e, h0]⟩
  · exact ⟨_, _, e⟩
theorem own_row {w w' : World} {K t n : Nat} {v : Value} {xs : List Value} (h : w.ownsRow K t 1 v n xs) (hn : xs.length = n) (hk : ∀ g, K ≤ g → w'.heap[g]? = w.heap[g]?) :
    ∃ o c, v = .slice o n c ∧ n ≤ c ∧ c ≤ 9223372036854775807 ∧ ∀ i x, xs[i]? = some x → ∃ g, o = some ⟨g, 0, none⟩ ∧ K ≤ g ∧ g < w'.heap.size ∧ w'.cell? ⟨g, i, none⟩ = some x := by
  have h0 := h
  rcases h.2 with ⟨e, hz⟩ | ⟨g, cap, cur, e, hb, hg, hnc, hc, hs, ht⟩
  · refine ⟨none, 0, by rw [e, hz], by omega, by omega, fun i x hx => ?_⟩
    have := (List.getElem?_eq_some_iff.1 hx).1
    omega
  · unfold maxLen at hc
    refine ⟨_, _, e, hnc, hc, fun i x hx => ⟨g, rfl, hb, ?_, ?_⟩⟩
    · have := (hk g hb).trans hg
      exact (Array.getElem?_eq_some_iff.1 this).1
    · have hi := (List.getElem?_eq_some_iff.1 hx).1
      subst e
      have := World.ownsRow.cellAt h0 i (by omega)
      rw [hx] at this
      simp only [World.cell?, hk g hb] at this ⊢
      exact this
theorem Mst.dat {gl : Nat} {w3 w w' : World} {X : List Nat} {nf : Nat} {gs : List Nat} {rs : List (List Int)} {ac0 : List Bool} {nv av : Value} (h : Mst gl w3 w X nf gs rs ac0 nv av) {cells : Array Value} (hc : DCells cells X nv av) (hX : X.length = 256) (hX8 : ∀ x ∈ X, x < 256) (hn : nf ≤ 256)
    (hk : ∀ g, gl + 1 ≤ g → w'.heap[g]? = w.heap[g]?) : ∃ o c ao ac, df.DAt (fun b => gl + 1 ≤ b ∧ b < w'.heap.size) w' ⟨fun i => X.getD i 0, rs, ac0⟩ cells o c ao ac := by
  obtain ⟨o, c, e1, h1, h2, h3⟩ := own_row h.nx (by simp) hk
  obtain ⟨ao, ac, e4, h4, h5, h6⟩ := own_row h.ac (by simp) hk
  have hl := h.rows.1
  refine ⟨o, c, ao, ac, hc.size, fun i hi => ?_, fun i => ?_, ?_, ?_, ⟨by show rs.length ≤ c; omega, h2, fun i hi => ?_⟩, ⟨h4, h5, fun i hi => ?_⟩⟩
  · rw [hc.cl i hi]
    show _ = some (Value.int .u8 (X.getD i 0 : Nat))
    rw [List.getD_eq_getElem?_getD, List.getElem?_eq_getElem (by omega)]
    rfl
  · show X.getD i 0 < 256
    rw [List.getD_eq_getElem?_getD]
    cases hx : X[i]? with
    | none => simp
    | some x => exact hX8 x (List.mem_of_getElem? hx)
  · rw [hc.nx, e1]; show _ = some (Value.slice o rs.length c); rw [hl]
  · rw [hc.ac, e4]
  · have hi2 : i < gs.length := by have : i < rs.length := hi; omega
    obtain ⟨g, e, hg1, hg2, hg3⟩ := h3 i (Value.slice (some ⟨gs[i], 0, none⟩) nf nf) (by rw [List.getElem?_map, List.getElem?_eq_getElem hi2]; rfl)
    obtain ⟨hz, hzl⟩ := h.rows.2 i hi2 hi
    have hf := (h.far _ (List.getElem_mem hi2)).1
    have hz2 : ZRow w' gs[i] rs[i] := (hk _ (by omega)).trans hz
    refine ⟨g, 0, some ⟨gs[i], 0, none⟩, nf, e, ⟨hg1, hg2⟩, ?_, ⟨?_, by omega, fun j hj => ⟨gs[i], 0, rfl, ⟨by omega, hz2.lt⟩, ?_⟩⟩⟩
    · rw [Nat.zero_add, hg3]
      show some (Value.slice _ nf nf) = some (Value.slice _ rs[i].length nf)
      rw [hzl]
    · show rs[i].length ≤ nf
      omega
    · rw [Nat.zero_add]
      exact hz2.cell (List.getElem?_eq_getElem hj)
  · obtain ⟨g, e, hg1, hg2, hg3⟩ := h6 i (.bool ac0[i]) (by rw [List.getElem?_map, List.getElem?_eq_getElem hi]; rfl)
    exact ⟨g, 0, e, ⟨hg1, hg2⟩, by rw [Nat.zero_add]; exact hg3⟩
/-- the last walk is the least -/
theorem Go_.least {d : df.Dfa} {F : List Nat} {nums S : List Int} {rows : List (List Int)} (h : Go_ d F S.length nums S rows) :
    Least ((dm d).lang (some 0)) (clsL rows) (rows.map fun r => (firsts (colOf rows) 256).map fun c => r.getD c 0) (S.map fun s => df.acpt d s.toNat) := by
  refine ⟨S.length, ?_, ?_, ?_, ?_⟩
  · rw [h.eq]; simp [lgs]
  · rw [h.eq]; rfl
  · rw [h.eq]
  · rw [h.eq]
    show _ = (lgs d S).map fun L => L []
    unfold lgs
    rw [List.map_map]
    apply List.map_congr_left
    intro s hs
    rfl
end Go.Proofs.Ytkdkibnjfgcppaa.mi
