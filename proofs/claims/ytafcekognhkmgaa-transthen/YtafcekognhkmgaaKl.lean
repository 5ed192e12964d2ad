/-
  Plain mathematics over what is made of two machines: it may be, and puts what the second one puts of what the first one puts.
-/
import Derived.Test.YtafcekognhkmgaaKi
namespace Go.Proofs.Ytafcekognhkmgaa.mk
open tr
set_option linter.unusedVariables false

/-- how far a machine is made -/
structure Pl (a b : Mc) (d : Kq) (i : Nat) : Prop where
  l0 : d.r0.length = i
  l1 : d.r1.length = i
  lf : d.fn.length = i
  first : d.sts[0]? = some (0, 0)
  rows : ∀ j, j < i → ∃ s x0 x1 k t, d.sts[j]? = some s ∧ d.r0[j]? = some x0 ∧ d.r1[j]? = some x1 ∧ d.fn[j]? = some k ∧ Rows (CSt a b) d.sts d.txs s 256 x0.2 x1.2 ∧ d.txs[k]? = some t ∧ CEr a b s t.data.toList
  nd : d.sts.Nodup
  ins : ∀ s ∈ d.sts, s.1 < a.next.length ∧ s.2 < b.next.length
  tt : ∀ t ∈ d.txs, ∃ s : St, s.1 < a.next.length ∧ s.2 < b.next.length ∧ ((∃ c odd x, CSt a b s c (t.data.toList ++ (if odd = true then [c] else [])) x) ∨ CEr a b s t.data.toList)
  ct : d.txs.length ≤ 257 * i
theorem Pl.start {a b : Mc} {d : Kq} (hA : Right a) (hB : Right b) (h1 : d.sts = [(0, 0)]) (h2 : d.txs = []) (h3 : d.r0 = []) (h4 : d.r1 = []) (h5 : d.fn = []) : Pl a b d 0 := by
  refine ⟨by rw [h3]; rfl, by rw [h4]; rfl, by rw [h5]; rfl, by rw [h1]; rfl, fun j hj => by omega, by rw [h1]; simp, fun s hs => ?_, fun t ht => ?_, by rw [h2]; simp⟩
  · rw [h1] at hs
    rw [List.mem_singleton.1 hs]
    exact ⟨hA.one, hB.one⟩
  · rw [h2] at ht
    cases ht
theorem Pl.step {a b : Mc} {d : Kq} {i : Nat} (hA : Right a) (h : Pl a b d i) {s : St} (hs : d.sts[i]? = some s) {sts : List St} {txs : List ByteArray} {gn gp k : Nat} {rn rp : List Int} {t : ByteArray}
    (hR : Rows (CSt a b) sts txs s 256 rn rp) (hV : Adv (CSt a b) (CEr a b) s d.sts d.txs 257 sts txs) (hk : txs[k]? = some t) (he : CEr a b s t.data.toList) :
    Pl a b { sts := sts, txs := txs, r0 := d.r0 ++ [(gn, rn)], r1 := d.r1 ++ [(gp, rp)], fn := d.fn ++ [k] } (i + 1) := by
  have hsi := h.ins s (List.mem_of_getElem? hs)
  refine ⟨by simp [h.l0], by simp [h.l1], by simp [h.lf], pre_get hV.ps h.first, fun j hj => ?_, hV.nd h.nd, fun x hx => ?_, fun y hy => ?_, ?_⟩
  · by_cases e : j < i
    · obtain ⟨s', x0, x1, k', t', e1, e2, e3, e4, e5, e6, e7⟩ := h.rows j e
      refine ⟨s', x0, x1, k', t', pre_get hV.ps e1, ?_, ?_, ?_, e5.mono hV.ps hV.pt, pre_get hV.pt e6, e7⟩
      · show (d.r0 ++ _)[j]? = _
        rw [List.getElem?_append_left (by rw [h.l0]; exact e)]; exact e2
      · show (d.r1 ++ _)[j]? = _
        rw [List.getElem?_append_left (by rw [h.l1]; exact e)]; exact e3
      · show (d.fn ++ _)[j]? = _
        rw [List.getElem?_append_left (by rw [h.lf]; exact e)]; exact e4
    · have e1 : j = i := by omega
      subst e1
      refine ⟨s, (gn, rn), (gp, rp), k, t, pre_get hV.ps hs, ?_, ?_, ?_, hR, hk, he⟩
      · show (d.r0 ++ _)[j]? = _
        rw [List.getElem?_append_right (by rw [h.l0]; exact Nat.le_refl _), h.l0, Nat.sub_self]; rfl
      · show (d.r1 ++ _)[j]? = _
        rw [List.getElem?_append_right (by rw [h.l1]; exact Nat.le_refl _), h.l1, Nat.sub_self]; rfl
      · show (d.fn ++ _)[j]? = _
        rw [List.getElem?_append_right (by rw [h.lf]; exact Nat.le_refl _), h.lf, Nat.sub_self]; rfl
  · rcases hV.ss x hx with h1 | ⟨c, o, h1, h2, _⟩
    · exact h.ins x h1
    · exact ⟨by rw [h1]; exact hA.nx_lt hsi.1 c.toNat_lt, h2⟩
  · rcases hV.tt y hy with h1 | ⟨c, odd, x, h1⟩ | h1
    · exact h.tt y h1
    · exact ⟨s, hsi.1, hsi.2, .inl ⟨c, odd, x, h1⟩⟩
    · exact ⟨s, hsi.1, hsi.2, .inr h1⟩
  · have h1 := hV.ln
    have h2 := h.ct
    show txs.length ≤ 257 * (i + 1)
    omega
/-- what is made -/
def mcOf (d : Kq) : Mc := ⟨d.r0.map (·.2), d.r1.map (·.2), d.fn.map fun k : Nat => (k : Int), d.txs⟩
section
variable {a b : Mc} {d : Kq}
theorem mcOf_next {j : Nat} {x : Nat × List Int} (h : d.r0[j]? = some x) (c : Nat) {n : Int} (hn : x.2[c]? = some n) : nx (mcOf d) j c = n.toNat := by
  unfold nx mcOf
  simp [List.getD_eq_getElem?_getD, h, hn]
theorem mcOf_put {j : Nat} {x : Nat × List Int} (h : d.r1[j]? = some x) (c : Nat) {n : Int} (hn : x.2[c]? = some n) : pt (mcOf d) j c = n.toNat := by
  unfold pt mcOf
  simp [List.getD_eq_getElem?_getD, h, hn]
theorem mcOf_tx {k : Nat} {t : ByteArray} (h : d.txs[k]? = some t) : tx (mcOf d) k = t := by
  unfold tx mcOf
  simp [List.getD_eq_getElem?_getD, h]
theorem mcOf_en {j k : Nat} (h : d.fn[j]? = some k) : en (mcOf d) j = k := by
  unfold en mcOf
  simp [List.getD_eq_getElem?_getD, h]
theorem Pl.right (h : Pl a b d d.sts.length) (h1 : d.sts.length ≤ 1200) (h2 : d.txs.length ≤ 4096) (h3 : ∀ t ∈ d.txs, t.size ≤ 4096) : Right (mcOf d) := by
  have hn : (mcOf d).next.length = d.sts.length := by simp [mcOf, h.l0]
  have hp : 0 < d.sts.length := (List.getElem?_eq_some_iff.1 h.first).1
  refine ⟨by omega, by omega, by rw [hn]; simp [mcOf, h.l1], by rw [hn]; simp [mcOf, h.lf], h2, h3, fun r hr => ?_, fun r hr => ?_, fun x hx => ?_⟩
  · obtain ⟨x, hx, rfl⟩ := List.mem_map.1 hr
    obtain ⟨j, hj, e⟩ := List.mem_iff_getElem.1 hx
    obtain ⟨s, x0, x1, k, t, e1, e2, e3, e4, ⟨r1, r2, r3⟩, e6, e7⟩ := h.rows j (by rw [h.l0] at hj; exact hj)
    rw [List.getElem?_eq_getElem hj, e] at e2
    obtain rfl := Option.some.inj e2
    refine ⟨r1, fun y hy => ?_⟩
    obtain ⟨c, hc, e⟩ := List.mem_iff_getElem.1 hy
    obtain ⟨n, p, a1, a2, ⟨i, k', odd, t', s', b1, b2, b3, b4, b5⟩⟩ := r3 c (by omega)
    rw [List.getElem?_eq_getElem hc, e] at a1
    obtain rfl := Option.some.inj a1
    have := (List.getElem?_eq_some_iff.1 b3).1
    rw [hn, b1]
    omega
  · obtain ⟨x, hx, rfl⟩ := List.mem_map.1 hr
    obtain ⟨j, hj, e⟩ := List.mem_iff_getElem.1 hx
    obtain ⟨s, x0, x1, k, t, e1, e2, e3, e4, ⟨r1, r2, r3⟩, e6, e7⟩ := h.rows j (by rw [h.l1] at hj; exact hj)
    rw [List.getElem?_eq_getElem hj, e] at e3
    obtain rfl := Option.some.inj e3
    refine ⟨r2, fun y hy => ?_⟩
    obtain ⟨c, hc, e⟩ := List.mem_iff_getElem.1 hy
    obtain ⟨n, p, a1, a2, ⟨i, k', odd, t', s', b1, b2, b3, b4, b5⟩⟩ := r3 c (by omega)
    rw [List.getElem?_eq_getElem hc, e] at a2
    obtain rfl := Option.some.inj a2
    have h4 := (List.getElem?_eq_some_iff.1 b4).1
    have h5 : odd.toNat ≤ 1 := by cases odd <;> simp
    show 0 ≤ y ∧ y < ((2 * d.txs.length : Nat) : Int)
    rw [b2]
    omega
  · obtain ⟨k, hk, rfl⟩ := List.mem_map.1 hx
    obtain ⟨j, hj, e⟩ := List.mem_iff_getElem.1 hk
    obtain ⟨s, x0, x1, k', t, e1, e2, e3, e4, _, e6, e7⟩ := h.rows j (by rw [h.lf] at hj; exact hj)
    rw [List.getElem?_eq_getElem hj, e] at e4
    obtain rfl := Option.some.inj e4
    have := (List.getElem?_eq_some_iff.1 e6).1
    show 0 ≤ (k : Int) ∧ (k : Int) < (d.txs.length : Int)
    omega
/-- one byte -/
theorem Pl.byte (h : Pl a b d d.sts.length) (h3 : ∀ t ∈ d.txs, t.size ≤ 4096) {j : Nat} {s : St} (hj : d.sts[j]? = some s) (c : UInt8) :
    outp (mcOf d) j c = (go b s.2 (outp a s.1 c)).1 ∧ d.sts[nx (mcOf d) j c.toNat]? = some (nx a s.1 c.toNat, (go b s.2 (outp a s.1 c)).2) := by
  obtain ⟨s', x0, x1, k, t, e1, e2, e3, e4, ⟨r1, r2, r3⟩, e6, e7⟩ := h.rows j (List.getElem?_eq_some_iff.1 hj).1
  rw [hj] at e1
  obtain rfl := Option.some.inj e1
  obtain ⟨n, p, a1, a2, ⟨i, k', odd, t', s'', b1, b2, b3, b4, b5, b6, b7⟩⟩ := r3 c.toNat c.toNat_lt
  have hu : UInt8.ofNat c.toNat = c := UInt8.ofNat_toNat
  rw [hu] at b5 b7
  have e8 : nx (mcOf d) j c.toNat = i := by rw [mcOf_next e2 _ a1, b1]; omega
  have e9 : pt (mcOf d) j c.toNat = 2 * k' + odd.toNat := by rw [mcOf_put e3 _ a2, b2]; omega
  have ho : outp (mcOf d) j c = t'.data.toList ++ (if odd = true then [c] else []) := by
    unfold outp
    rw [e9]
    cases odd with
    | false => rw [show (2 * k' + Bool.toNat false) / 2 = k' by simp, show (2 * k' + Bool.toNat false) % 2 = 0 by simp, mcOf_tx b4]; simp
    | true => rw [show (2 * k' + Bool.toNat true) / 2 = k' by simp; omega, show (2 * k' + Bool.toNat true) % 2 = 1 by simp, mcOf_tx b4]; simp
  have hsz := h3 t' (List.mem_of_getElem? b4)
  rcases b7 with b7 | b7
  · rw [ho, b7, e8, b3]
    exact ⟨rfl, by rw [← b5]⟩
  · have hl := b7.1
    have ht : t'.data.toList.length = t'.size := by cases t'; simp [ByteArray.size]
    rw [List.length_append, ht] at hl
    have : (if odd = true then [c] else []).length ≤ 1 := by split <;> simp
    omega
theorem Pl.go (h : Pl a b d d.sts.length) (h3 : ∀ t ∈ d.txs, t.size ≤ 4096) (l : List UInt8) : ∀ {j : Nat} {s : St}, d.sts[j]? = some s → (tr.go (mcOf d) j l).1 = (tr.go b s.2 (tr.go a s.1 l).1).1 ∧ d.sts[(tr.go (mcOf d) j l).2]? = some ((tr.go a s.1 l).2, (tr.go b s.2 (tr.go a s.1 l).1).2) := by
  induction l with
  | nil => intro j s hj; exact ⟨rfl, hj⟩
  | cons c l ih =>
    intro j s hj
    obtain ⟨p1, p2⟩ := h.byte h3 hj c
    obtain ⟨q1, q2⟩ := ih p2
    simp only [tr.go]
    rw [go_append, p1, q1]
    exact ⟨rfl, q2⟩
theorem Pl.total (h : Pl a b d d.sts.length) (h3 : ∀ t ∈ d.txs, t.size ≤ 4096) (l : List UInt8) : tr.total (mcOf d) 0 l = tr.total b 0 (tr.total a 0 l) := by
  obtain ⟨p1, p2⟩ := h.go h3 l h.first
  simp only at p1 p2
  obtain ⟨s, x0, x1, k, t, e1, e2, e3, e4, _, e6, e7⟩ := h.rows _ (List.getElem?_eq_some_iff.1 p2).1
  rw [p2] at e1
  have es := (Option.some.inj e1).symm
  unfold tr.total
  rw [mcOf_en e4, mcOf_tx e6, p1]
  rw [go_append]
  simp only
  rw [List.append_assoc]
  congr 1
  have hsz := h3 t (List.mem_of_getElem? e6)
  have ht : t.data.toList.length = t.size := by cases t; simp [ByteArray.size]
  rcases e7 with e7 | e7
  · rw [es] at e7
    simp only at e7
    rw [← e7]
    rfl
  · have := e7.1
    omega
end
end Go.Proofs.Ytafcekognhkmgaa.mk
