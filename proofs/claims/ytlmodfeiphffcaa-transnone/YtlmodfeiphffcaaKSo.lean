/-
  Plain mathematics over what is made of rules: it may be, and puts of a text what that is rewritten to; few rules never fill the maker.
-/
import Derived.Test.YtlmodfeiphffcaaKSm
namespace Go.Proofs.Ytlmodfeiphffcaa.ms
open tr
open mk (Kv kcells svs rcs OkT)
open ru (Ru)
set_option linter.unusedVariables false

theorem few_of {α : Type} [DecidableEq α] : ∀ {L M : List α}, L.Nodup → (∀ a ∈ L, a ∈ M) → L.length ≤ M.length
  | [], M, _, _ => Nat.zero_le _
  | x :: L, M, hd, hs => by
    have hx := hs x (List.mem_cons_self ..)
    have h1 := few_of (L := L) (M := M.erase x) (List.nodup_cons.1 hd).2 (fun b hb => (List.mem_erase_of_ne (fun (e : b = x) => (List.nodup_cons.1 hd).1 (by rw [← e]; exact hb))).2 (hs b (List.mem_cons_of_mem _ hb)))
    have h2 := List.length_erase_of_mem hx
    have h3 := List.length_pos_of_mem hx
    rw [List.length_cons]
    omega
section
variable {l : List Ru} {d : Kq}
theorem mcOf_next {j : Nat} {x : Nat × List Int} (h : d.r0[j]? = some x) (c : Nat) {n : Int} (hn : x.2[c]? = some n) : nx (mcOf d) j c = n.toNat := by
  unfold nx mcOf
  simp [List.getD_eq_getElem?_getD, h, hn]
theorem mcOf_put {j : Nat} {x : Nat × List Int} (h : d.r1[j]? = some x) (c : Nat) {n : Int} (hn : x.2[c]? = some n) : pt (mcOf d) j c = n.toNat := by
  unfold pt mcOf
  simp [List.getD_eq_getElem?_getD, h, hn]
theorem mcOf_tx {k : Nat} {t : ByteArray} (h : d.txs[k]? = some t) : tx (mcOf d) k = t := by
  unfold tx mcOf
  simp [List.getD_eq_getElem?_getD, h]
theorem mcOf_en {j k : Nat} (h : d.fn[j]? = some k) : en (mcOf d) j = k := by
  unfold en mcOf
  simp [List.getD_eq_getElem?_getD, h]
theorem Pl.right (h : Pl l d d.sts.length) (h1 : d.sts.length ≤ 1200) (h2 : d.txs.length ≤ 4096) (h3 : ∀ t ∈ d.txs, t.size ≤ 4096) : Right (mcOf d) := by
  have hn : (mcOf d).next.length = d.sts.length := by simp [mcOf, h.l0]
  have hp : 0 < d.sts.length := (List.getElem?_eq_some_iff.1 h.first).1
  refine ⟨by omega, by omega, by rw [hn]; simp [mcOf, h.l1], by rw [hn]; simp [mcOf, h.lf], h2, h3, fun r hr => ?_, fun r hr => ?_, fun x hx => ?_⟩
  · obtain ⟨x, hx, rfl⟩ := List.mem_map.1 hr
    obtain ⟨j, hj, e⟩ := List.mem_iff_getElem.1 hx
    obtain ⟨s, x0, x1, k, t, e1, e2, e3, e4, ⟨r1, r2, r3⟩, e6, e7⟩ := h.rows j (by rw [h.l0] at hj; exact hj)
    rw [List.getElem?_eq_getElem hj, e] at e2
    obtain rfl := Option.some.inj e2
    refine ⟨r1, fun y hy => ?_⟩
    obtain ⟨c, hc, e⟩ := List.mem_iff_getElem.1 hy
    obtain ⟨n, p, a1, a2, ⟨i, k', odd, t', s', b1, b2, b3, b4, b5⟩⟩ := r3 c (by omega)
    rw [List.getElem?_eq_getElem hc, e] at a1
    obtain rfl := Option.some.inj a1
    have := (List.getElem?_eq_some_iff.1 b3).1
    rw [hn, b1]
    omega
  · obtain ⟨x, hx, rfl⟩ := List.mem_map.1 hr
    obtain ⟨j, hj, e⟩ := List.mem_iff_getElem.1 hx
    obtain ⟨s, x0, x1, k, t, e1, e2, e3, e4, ⟨r1, r2, r3⟩, e6, e7⟩ := h.rows j (by rw [h.l1] at hj; exact hj)
    rw [List.getElem?_eq_getElem hj, e] at e3
    obtain rfl := Option.some.inj e3
    refine ⟨r2, fun y hy => ?_⟩
    obtain ⟨c, hc, e⟩ := List.mem_iff_getElem.1 hy
    obtain ⟨n, p, a1, a2, ⟨i, k', odd, t', s', b1, b2, b3, b4, b5⟩⟩ := r3 c (by omega)
    rw [List.getElem?_eq_getElem hc, e] at a2
    obtain rfl := Option.some.inj a2
    have h4 := (List.getElem?_eq_some_iff.1 b4).1
    have h5 : odd.toNat ≤ 1 := by cases odd <;> simp
    show 0 ≤ y ∧ y < ((2 * d.txs.length : Nat) : Int)
    rw [b2]
    omega
  · obtain ⟨k, hk, rfl⟩ := List.mem_map.1 hx
    obtain ⟨j, hj, e⟩ := List.mem_iff_getElem.1 hk
    obtain ⟨s, x0, x1, k', t, e1, e2, e3, e4, _, e6, e7⟩ := h.rows j (by rw [h.lf] at hj; exact hj)
    rw [List.getElem?_eq_getElem hj, e] at e4
    obtain rfl := Option.some.inj e4
    have := (List.getElem?_eq_some_iff.1 e6).1
    show 0 ≤ (k : Int) ∧ (k : Int) < (d.txs.length : Int)
    omega
/-- one byte -/
theorem Pl.byte (h : Pl l d d.sts.length) {j : Nat} {s : ByteArray} (hj : d.sts[j]? = some s) (c : UInt8) :
    ∃ s' : ByteArray, d.sts[nx (mcOf d) j c.toNat]? = some s' ∧ ru.rw.stp l s.data.toList c = (outp (mcOf d) j c, s'.data.toList) := by
  obtain ⟨s', x0, x1, k, t, e1, e2, e3, e4, ⟨r1, r2, r3⟩, e6, e7⟩ := h.rows j (List.getElem?_eq_some_iff.1 hj).1
  rw [hj] at e1
  obtain rfl := Option.some.inj e1
  obtain ⟨n, p, a1, a2, ⟨i, k', odd, t', s'', b1, b2, b3, b4, b5⟩⟩ := r3 c.toNat c.toNat_lt
  have hu : UInt8.ofNat c.toNat = c := UInt8.ofNat_toNat
  rw [hu] at b5
  have e8 : nx (mcOf d) j c.toNat = i := by rw [mcOf_next e2 _ a1, b1]; omega
  have e9 : pt (mcOf d) j c.toNat = 2 * k' + odd.toNat := by rw [mcOf_put e3 _ a2, b2]; omega
  have ho : outp (mcOf d) j c = t'.data.toList ++ (if odd = true then [c] else []) := by
    unfold outp
    rw [e9]
    cases odd with
    | false => rw [show (2 * k' + Bool.toNat false) / 2 = k' by simp, show (2 * k' + Bool.toNat false) % 2 = 0 by simp, mcOf_tx b4]; simp
    | true => rw [show (2 * k' + Bool.toNat true) / 2 = k' by simp; omega, show (2 * k' + Bool.toNat true) % 2 = 1 by simp, mcOf_tx b4]; simp
  rw [ho, e8]
  exact ⟨s'', b3, b5.1⟩
theorem Pl.go (hg : ru.Good l) (h : Pl l d d.sts.length) (x : List UInt8) : ∀ {j : Nat} {s : ByteArray}, d.sts[j]? = some s → ∃ s' : ByteArray, d.sts[(tr.go (mcOf d) j x).2]? = some s' ∧ ru.ap l (s.data.toList ++ x) = (tr.go (mcOf d) j x).1 ++ ru.ap l s'.data.toList := by
  induction x with
  | nil => intro j s hj; exact ⟨s, hj, by simp [tr.go]⟩
  | cons c x ih =>
    intro j s hj
    obtain ⟨s1, p1, p2⟩ := h.byte hj c
    obtain ⟨s2, q1, q2⟩ := ih p1
    refine ⟨s2, q1, ?_⟩
    have e := ru.rw.stp_ap hg s.data.toList c x
    rw [p2] at e
    simp only at e
    rw [e, q2]
    simp only [tr.go, List.append_assoc]
theorem Pl.total (hg : ru.Good l) (h : Pl l d d.sts.length) (x : List UInt8) : tr.total (mcOf d) 0 x = ru.ap l x := by
  obtain ⟨s', p1, p2⟩ := h.go hg x h.first
  obtain ⟨s, x0, x1, k, t, e1, e2, e3, e4, _, e6, e7⟩ := h.rows _ (List.getElem?_eq_some_iff.1 p1).1
  rw [p1] at e1
  obtain rfl := Option.some.inj e1
  unfold tr.total
  rw [mcOf_en e4, mcOf_tx e6]
  have e8 : ru.ap l s'.data.toList = t.data.toList := e7
  rw [← e8, ← p2]
  rfl
theorem ba_inj {a b : ByteArray} (h : a.data.toList = b.data.toList) : a = b := ru.ba_ext h
/-- rules whose Froms have at most 100 bytes never fill the maker -/
theorem Pl.few (hg : ru.Good l) {i : Nat} (h : Pl l d i) (ht : ru.rw.total l ≤ 100) : d.sts.length ≤ 1200 ∧ d.txs.length ≤ 4096 ∧ ∀ t ∈ d.txs, t.size ≤ 4096 := by
  obtain ⟨f1, f2⟩ := ru.rw.few_texts hg ht
  have n1 : (d.sts.map fun s : ByteArray => s.data.toList).Nodup := List.Pairwise.map _ (fun a b hne e => hne (ba_inj e)) h.nd
  have n2 : (d.txs.map fun s : ByteArray => s.data.toList).Nodup := List.Pairwise.map _ (fun a b hne e => hne (ba_inj e)) h.nt
  have g1 := few_of n1 (M := ru.rw.states l) (fun a ha => by
    obtain ⟨s, hs, rfl⟩ := List.mem_map.1 ha
    exact ru.rw.states_mem (h.ins s hs))
  have g2 := few_of n2 (M := ru.rw.allTexts l) (fun a ha => by
    obtain ⟨t, htt, rfl⟩ := List.mem_map.1 ha
    obtain ⟨s, hs, ho⟩ := h.tt t htt
    refine List.mem_flatMap.2 ⟨s.data.toList, ru.rw.states_mem hs, ?_⟩
    rcases ho with ⟨c, odd, x, h1, h2⟩ | h1
    · have e : t.data.toList = ru.rw.cutc (ru.rw.stp l s.data.toList c).1 c := by
        have e1 : ru.rw.stp l s.data.toList c = _ := h1
        refine ru.rw.cutc_of (odd := odd) (by rw [e1]) (fun e0 => ?_)
        rw [e1]
        subst e0
        simpa using h2 rfl
      rw [e]
      exact ru.rw.texts_step hg _ _
    · have e1 : ru.ap l s.data.toList = _ := h1
      rw [← e1]
      exact ru.rw.texts_end hg _)
  rw [List.length_map] at g1 g2
  refine ⟨by omega, by omega, fun t htt => ?_⟩
  obtain ⟨s, hs, ho⟩ := h.tt t htt
  have hl := list_len t
  have hw := ru.rw.wait_len hg hs
  rcases ho with ⟨c, odd, x, h1, h2⟩ | h1
  · have e1 : ru.rw.stp l s.data.toList c = _ := h1
    have := ru.rw.out_len hg s.data.toList c
    rw [e1] at this
    simp only [List.length_append] at this
    omega
  · have e1 : ru.ap l s.data.toList = _ := h1
    have := ru.rw.end_len hg s.data.toList
    rw [e1] at this
    omega
end
end Go.Proofs.Ytlmodfeiphffcaa.ms
