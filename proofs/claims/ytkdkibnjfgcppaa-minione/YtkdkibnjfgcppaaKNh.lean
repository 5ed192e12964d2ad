/-
  Plain mathematics: a dfa with states more, that do what others do, takes the same; what is least is one.
-/
import Derived.Test.YtkdkibnjfgcppaaKNb
namespace Go.Proofs.Ytkdkibnjfgcppaa.mi
set_option linter.unusedVariables false

def twE (n i c : Nat) (j : Int) : Int := if 0 ≤ j ∧ (i + c) % 2 = 1 then j + (n : Int) else j
def twRow (n i : Nat) (r : List Int) : List Int := r.mapIdx fun c j => twE n i c j
def rowR (d : df.Dfa) (k : Nat) : List Int := d.next[k]?.getD []
def tw (d : df.Dfa) : df.Dfa := ⟨d.cls, (List.range (2 * d.next.length)).map fun i => twRow d.next.length i (rowR d (i % d.next.length)), d.acc ++ d.acc⟩
theorem twRow_len (n i : Nat) (r : List Int) : (twRow n i r).length = r.length := by simp [twRow]
theorem twRow_get (n i : Nat) (r : List Int) (c : Nat) : (twRow n i r)[c]? = r[c]?.map (twE n i c) := by simp [twRow]
theorem twRow_take (n i : Nat) (r : List Int) (c : Nat) (h : c < r.length) : (twRow n i r).take (c + 1) = (twRow n i r).take c ++ [twE n i c r[c]] := by
  rw [List.take_add_one, twRow_get, List.getElem?_eq_getElem h]
  rfl
theorem tw_len (d : df.Dfa) : (tw d).next.length = 2 * d.next.length := by simp [tw]
theorem tw_get (d : df.Dfa) (i : Nat) (h : i < 2 * d.next.length) : (tw d).next[i]? = some (twRow d.next.length i (rowR d (i % d.next.length))) := by
  simp [tw, h]
theorem tw_nxt (d : df.Dfa) (i c : Nat) (h : i < 2 * d.next.length) : df.nxt (tw d) i c = ((rowR d (i % d.next.length))[c]?.map (twE d.next.length i c)).getD (-1) := by
  unfold df.nxt
  rw [tw_get d i h, Option.getD_some, twRow_get]
theorem nxt_row (d : df.Dfa) (k c : Nat) : df.nxt d k c = (rowR d k)[c]?.getD (-1) := rfl
theorem row_in {d : df.Dfa} (h : df.Ok d) {k : Nat} (hk : k < d.next.length) : rowR d k = d.next[k] ∧ (rowR d k).length = df.width d := by
  have e : rowR d k = d.next[k] := by unfold rowR; rw [List.getElem?_eq_getElem hk]; rfl
  exact ⟨e, by rw [e]; exact h.wide k hk⟩
theorem tw_right {d : df.Dfa} (hd : df.right d = true) (hn : d.next.length ≤ 150) : df.right (tw d) = true := by
  have h := df.ok_of d hd
  have h1 := h.one
  have hl := tw_len d
  have e0 : (tw d).next[0]?.getD [] = twRow d.next.length 0 (rowR d 0) := by
    rw [tw_get d 0 (by omega), Option.getD_some, Nat.zero_mod]
  have hw : df.width (tw d) = df.width d := by
    unfold df.width
    rw [e0, twRow_len]
    rfl
  have hall : ∀ r ∈ (tw d).next, df.rowOk (tw d).next.length (df.width d) r = true := fun r hr => by
    obtain ⟨i, hi, rfl⟩ := List.mem_iff_getElem.1 hr
    rw [hl] at hi
    have hk : i % d.next.length < d.next.length := Nat.mod_lt _ (by omega)
    obtain ⟨er, wr⟩ := row_in h hk
    have e : (tw d).next[i]'(by omega) = twRow d.next.length i (rowR d (i % d.next.length)) := by
      have := tw_get d i hi
      rw [List.getElem?_eq_getElem (by omega)] at this
      exact Option.some.inj this
    rw [e]
    unfold df.rowOk df.goOn
    simp only [Bool.and_eq_true, beq_iff_eq, List.all_eq_true, decide_eq_true_eq]
    refine ⟨by rw [twRow_len]; exact wr, fun x hx => ?_⟩
    obtain ⟨c, hc, rfl⟩ := List.mem_iff_getElem.1 hx
    rw [twRow_len] at hc
    have e2 : (twRow d.next.length i (rowR d (i % d.next.length)))[c]'(by rw [twRow_len]; exact hc) = twE d.next.length i c ((rowR d (i % d.next.length))[c]) := by
      have := twRow_get d.next.length i (rowR d (i % d.next.length)) c
      rw [List.getElem?_eq_getElem (by rw [twRow_len]; exact hc), List.getElem?_eq_getElem hc] at this
      exact Option.some.inj this
    rw [e2, hl]
    have hv : -1 ≤ (rowR d (i % d.next.length))[c] ∧ (rowR d (i % d.next.length))[c] < (d.next.length : Int) := by
      have := h.st (i % d.next.length) hk c (by rw [← er]; exact hc)
      simp only [er]
      exact this
    unfold twE
    split <;> omega
  have ho := hd
  unfold df.right at ho ⊢
  simp only [Bool.and_eq_true, decide_eq_true_eq, beq_iff_eq] at ho ⊢
  obtain ⟨⟨⟨⟨⟨⟨_, _⟩, h3⟩, h4⟩, h5⟩, _⟩, h7⟩ := ho
  refine ⟨⟨⟨⟨⟨⟨by omega, by omega⟩, ?_⟩, by rw [hw]; exact h4⟩, by rw [hw]; exact h5⟩, ?_⟩, ?_⟩
  · rw [hl]; show (d.acc ++ d.acc).length = _; rw [List.length_append]; omega
  · rw [List.all_eq_true, hw]; exact hall
  · unfold df.clsOk at h7 ⊢
    rw [hw]; exact h7
theorem tw_lang {d : df.Dfa} (hd : df.right d = true) : (dm (tw d)).lang (some 0) = (dm d).lang (some 0) := by
  have h := df.ok_of d hd
  have h1 := h.one
  have hac := h.accs
  refine lang_of (fun x y => (x = none ∧ y = none) ∨ ∃ i, i < 2 * d.next.length ∧ x = some i ∧ y = some (i % d.next.length)) ?_ ?_ (.inr ⟨0, by omega, rfl, by rw [Nat.zero_mod]⟩)
  · rintro x y (⟨rfl, rfl⟩ | ⟨i, hi, rfl, rfl⟩)
    · rfl
    · show df.acpt (tw d) i = df.acpt d (i % d.next.length)
      unfold df.acpt
      show (d.acc ++ d.acc)[i]?.getD false = _
      by_cases hlt : i < d.next.length
      · rw [List.getElem?_append_left (by omega), Nat.mod_eq_of_lt hlt]
      · rw [List.getElem?_append_right (by omega), hac, show i % d.next.length = i - d.next.length by
          rw [Nat.mod_eq_sub_mod (by omega), Nat.mod_eq_of_lt (by omega)]]
  · rintro x y b (⟨rfl, rfl⟩ | ⟨i, hi, rfl, rfl⟩)
    · exact .inl ⟨rfl, rfl⟩
    · have hk : i % d.next.length < d.next.length := Nat.mod_lt _ (by omega)
      obtain ⟨er, wr⟩ := row_in h hk
      have hcl := h.cl b.toNat b.toNat_lt
      have hn1 := tw_nxt d i (d.cls b.toNat) hi
      have hn2 := nxt_row d (i % d.next.length) (d.cls b.toNat)
      have hlt : d.cls b.toNat < (rowR d (i % d.next.length)).length := by rw [wr]; exact hcl
      rw [List.getElem?_eq_getElem hlt] at hn1 hn2
      have hv : -1 ≤ (rowR d (i % d.next.length))[d.cls b.toNat] ∧ (rowR d (i % d.next.length))[d.cls b.toNat] < (d.next.length : Int) := by
        have := h.st (i % d.next.length) hk (d.cls b.toNat) (by rw [← er]; exact hlt)
        simp only [er]
        exact this
      generalize (rowR d (i % d.next.length))[d.cls b.toNat] = j at *
      simp only [Option.map_some, Option.getD_some] at hn1 hn2
      have g1 : (dm (tw d)).goO (some i) b = if 0 ≤ df.nxt (tw d) i (d.cls b.toNat) then some (df.nxt (tw d) i (d.cls b.toNat)).toNat else none := rfl
      have g2 : (dm d).goO (some (i % d.next.length)) b = if 0 ≤ df.nxt d (i % d.next.length) (d.cls b.toNat) then some (df.nxt d (i % d.next.length) (d.cls b.toNat)).toNat else none := rfl
      rw [g1, g2, hn1, hn2]
      by_cases hj : 0 ≤ j
      · by_cases ho : (i + d.cls b.toNat) % 2 = 1
        · rw [show twE d.next.length i (d.cls b.toNat) j = j + (d.next.length : Int) from if_pos ⟨hj, ho⟩, if_pos (show 0 ≤ j + (d.next.length : Int) by omega), if_pos hj]
          refine .inr ⟨_, by omega, rfl, ?_⟩
          rw [show (j + (d.next.length : Int)).toNat = j.toNat + d.next.length by omega, Nat.add_mod_right, Nat.mod_eq_of_lt (by omega)]
        · rw [show twE d.next.length i (d.cls b.toNat) j = j from if_neg fun k => ho k.2, if_pos hj]
          exact .inr ⟨_, by omega, rfl, by rw [Nat.mod_eq_of_lt (by omega)]⟩
      · rw [show twE d.next.length i (d.cls b.toNat) j = j from if_neg fun k => hj k.1, if_neg hj]
        exact .inl ⟨rfl, rfl⟩
/-- what is least is one: as it lies in memory -/
theorem dat_as {P : Nat → Prop} {w : World} {m n : df.Dfa} {L : Lg} (hm : Least L ((List.range 256).map m.cls) m.next m.acc) (hn : Least L ((List.range 256).map n.cls) n.next n.acc) (c8 : ∀ i, m.cls i < 256) {cs : Array Value} {o ao : Option Addr} {cap acap : Nat} (h : df.DAt P w n cs o cap ao acap) : df.DAt P w m cs o cap ao acap := by
  obtain ⟨e1, e2, e3⟩ := hm.one hn
  have ec : ∀ i, i < 256 → m.cls i = n.cls i := fun i hi => by
    have := congrArg (·[i]?) e1
    simpa [hi] using this
  exact ⟨h.size, fun i hi => by rw [h.cl i hi, ec i hi], c8, by rw [h.nx, e2], by rw [h.ac, e3], by rw [e2]; exact h.rows, by rw [e3]; exact h.accs⟩
end Go.Proofs.Ytkdkibnjfgcppaa.mi
