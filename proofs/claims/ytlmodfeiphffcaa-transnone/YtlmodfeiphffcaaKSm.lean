/-
  Plain mathematics over what is made of rules: how far it is made.
-/
import Derived.Test.YtlmodfeiphffcaaKSj
namespace Go.Proofs.Ytlmodfeiphffcaa.ms
open tr
open mk (Kv kcells svs rcs OkT)
open ru (Ru)
set_option linter.unusedVariables false

/-- how far a machine is made -/
structure Pl (l : List Ru) (d : Kq) (i : Nat) : Prop where
  l0 : d.r0.length = i
  l1 : d.r1.length = i
  lf : d.fn.length = i
  first : d.sts[0]? = some ⟨#[]⟩
  rows : ∀ j, j < i → ∃ s x0 x1 k t, d.sts[j]? = some s ∧ d.r0[j]? = some x0 ∧ d.r1[j]? = some x1 ∧ d.fn[j]? = some k ∧ Rows (CSt l) d.sts d.txs s 256 x0.2 x1.2 ∧ d.txs[k]? = some t ∧ CEr l s t.data.toList
  nd : d.sts.Nodup
  ins : ∀ s ∈ d.sts, s.data.toList = [] ∨ ru.rw.waits l s.data.toList = true
  tt : ∀ t ∈ d.txs, ∃ s : ByteArray, (s.data.toList = [] ∨ ru.rw.waits l s.data.toList = true) ∧ ((∃ c odd x, CSt l s c (t.data.toList ++ (if odd = true then [c] else [])) x ∧ (odd = false → t.data.toList.getLast? ≠ some c)) ∨ CEr l s t.data.toList)
  nt : d.txs.Nodup
theorem Pl.start {l : List Ru} {d : Kq} (hg : ru.Good l) (h1 : d.sts = [⟨#[]⟩]) (h2 : d.txs = []) (h3 : d.r0 = []) (h4 : d.r1 = []) (h5 : d.fn = []) : Pl l d 0 := by
  refine ⟨by rw [h3]; rfl, by rw [h4]; rfl, by rw [h5]; rfl, by rw [h1]; rfl, fun j hj => by omega, by rw [h1]; simp, fun s hs => ?_, fun t ht => ?_, by rw [h2]; simp⟩
  · rw [h1] at hs
    rw [List.mem_singleton.1 hs]
    exact .inl rfl
  · rw [h2] at ht
    cases ht
theorem Pl.step {l : List Ru} {d : Kq} {i : Nat} (hg : ru.Good l) (h : Pl l d i) {s : ByteArray} (hs : d.sts[i]? = some s) {sts : List ByteArray} {txs : List ByteArray} {gn gp k : Nat} {rn rp : List Int} {t : ByteArray}
    (hR : Rows (CSt l) sts txs s 256 rn rp) (hV : Adv (CSt l) (CEr l) s d.sts d.txs 257 sts txs) (hk : txs[k]? = some t) (he : CEr l s t.data.toList) :
    Pl l { sts := sts, txs := txs, r0 := d.r0 ++ [(gn, rn)], r1 := d.r1 ++ [(gp, rp)], fn := d.fn ++ [k] } (i + 1) := by
  have hsi := h.ins s (List.mem_of_getElem? hs)
  refine ⟨by simp [h.l0], by simp [h.l1], by simp [h.lf], pre_get hV.ps h.first, fun j hj => ?_, hV.nd h.nd, fun x hx => ?_, fun y hy => ?_, ?_⟩
  · by_cases e : j < i
    · obtain ⟨s', x0, x1, k', t', e1, e2, e3, e4, e5, e6, e7⟩ := h.rows j e
      refine ⟨s', x0, x1, k', t', pre_get hV.ps e1, ?_, ?_, ?_, e5.mono hV.ps hV.pt, pre_get hV.pt e6, e7⟩
      · show (d.r0 ++ _)[j]? = _
        rw [List.getElem?_append_left (by rw [h.l0]; exact e)]; exact e2
      · show (d.r1 ++ _)[j]? = _
        rw [List.getElem?_append_left (by rw [h.l1]; exact e)]; exact e3
      · show (d.fn ++ _)[j]? = _
        rw [List.getElem?_append_left (by rw [h.lf]; exact e)]; exact e4
    · have e1 : j = i := by omega
      subst e1
      refine ⟨s, (gn, rn), (gp, rp), k, t, pre_get hV.ps hs, ?_, ?_, ?_, hR, hk, he⟩
      · show (d.r0 ++ _)[j]? = _
        rw [List.getElem?_append_right (by rw [h.l0]; exact Nat.le_refl _), h.l0, Nat.sub_self]; rfl
      · show (d.r1 ++ _)[j]? = _
        rw [List.getElem?_append_right (by rw [h.l1]; exact Nat.le_refl _), h.l1, Nat.sub_self]; rfl
      · show (d.fn ++ _)[j]? = _
        rw [List.getElem?_append_right (by rw [h.lf]; exact Nat.le_refl _), h.lf, Nat.sub_self]; rfl
  · rcases hV.ss x hx with h1 | ⟨c, o, h1⟩
    · exact h.ins x h1
    · have h2 := (ru.rw.does hg s.data.toList c).1
      rw [show ru.rw.stp l s.data.toList c = (o, x.data.toList) from h1] at h2
      exact h2
  · rcases hV.tt y hy with h1 | ⟨c, odd, x, h1⟩ | h1
    · exact h.tt y h1
    · exact ⟨s, hsi, .inl ⟨c, odd, x, h1⟩⟩
    · exact ⟨s, hsi, .inr h1⟩
  · exact hV.nt h.nt
/-- what is made -/
def mcOf (d : Kq) : Mc := ⟨d.r0.map (·.2), d.r1.map (·.2), d.fn.map fun k : Nat => (k : Int), d.txs⟩
end Go.Proofs.Ytlmodfeiphffcaa.ms
