/-
  Texts put together: Plain mathematics over what is made of two machines: it may be, and puts what the second one puts of what the first one puts. Contracts over this program: the machine of a chain (trans.machine[pair]). Contracts over this program: trans.Then.
-/
import Derived.Test.YtlmodfeiphffcaaM16
import Derived.Test.YtlmodfeiphffcaaKKj
namespace Go.Proofs.Ytlmodfeiphffcaa.mk
open tr
set_option linter.unusedVariables false

/-- how far a machine is made -/
structure Pl (a b : Mc) (d : Kq) (i : Nat) : Prop where
  l0 : d.r0.length = i
  l1 : d.r1.length = i
  lf : d.fn.length = i
  first : d.sts[0]? = some (0, 0)
  rows : ∀ j, j < i → ∃ s x0 x1 k t, d.sts[j]? = some s ∧ d.r0[j]? = some x0 ∧ d.r1[j]? = some x1 ∧ d.fn[j]? = some k ∧ Rows (CSt a b) d.sts d.txs s 256 x0.2 x1.2 ∧ d.txs[k]? = some t ∧ CEr a b s t.data.toList
  nd : d.sts.Nodup
  ins : ∀ s ∈ d.sts, s.1 < a.next.length ∧ s.2 < b.next.length
  tt : ∀ t ∈ d.txs, ∃ s : St, s.1 < a.next.length ∧ s.2 < b.next.length ∧ ((∃ c odd x, CSt a b s c (t.data.toList ++ (if odd = true then [c] else [])) x) ∨ CEr a b s t.data.toList)
  ct : d.txs.length ≤ 257 * i
theorem Pl.start {a b : Mc} {d : Kq} (hA : Right a) (hB : Right b) (h1 : d.sts = [(0, 0)]) (h2 : d.txs = []) (h3 : d.r0 = []) (h4 : d.r1 = []) (h5 : d.fn = []) : Pl a b d 0 := by
  refine ⟨by rw [h3]; rfl, by rw [h4]; rfl, by rw [h5]; rfl, by rw [h1]; rfl, fun j hj => by omega, by rw [h1]; simp, fun s hs => ?_, fun t ht => ?_, by rw [h2]; simp⟩
  · rw [h1] at hs
    rw [List.mem_singleton.1 hs]
    exact ⟨hA.one, hB.one⟩
  · rw [h2] at ht
    cases ht
theorem Pl.step {a b : Mc} {d : Kq} {i : Nat} (hA : Right a) (h : Pl a b d i) {s : St} (hs : d.sts[i]? = some s) {sts : List St} {txs : List ByteArray} {gn gp k : Nat} {rn rp : List Int} {t : ByteArray}
    (hR : Rows (CSt a b) sts txs s 256 rn rp) (hV : Adv (CSt a b) (CEr a b) s d.sts d.txs 257 sts txs) (hk : txs[k]? = some t) (he : CEr a b s t.data.toList) :
    Pl a b { sts := sts, txs := txs, r0 := d.r0 ++ [(gn, rn)], r1 := d.r1 ++ [(gp, rp)], fn := d.fn ++ [k] } (i + 1) := by
  have hsi := h.ins s (List.mem_of_getElem? hs)
  refine ⟨by simp [h.l0], by simp [h.l1], by simp [h.lf], pre_get hV.ps h.first, fun j hj => ?_, hV.nd h.nd, fun x hx => ?_, fun y hy => ?_, ?_⟩
  · by_cases e : j < i
    · obtain ⟨s', x0, x1, k', t', e1, e2, e3, e4, e5, e6, e7⟩ := h.rows j e
      refine ⟨s', x0, x1, k', t', pre_get hV.ps e1, ?_, ?_, ?_, e5.mono hV.ps hV.pt, pre_get hV.pt e6, e7⟩
      · show (d.r0 ++ _)[j]? = _
        rw [List.getElem?_append_left (by rw [h.l0]; exact e)]; exact e2
      · show (d.r1 ++ _)[j]? = _
        rw [List.getElem?_append_left (by rw [h.l1]; exact e)]; exact e3
      · show (d.fn ++ _)[j]? = _
        rw [List.getElem?_append_left (by rw [h.lf]; exact e)]; exact e4
    · have e1 : j = i := by omega
      subst e1
      refine ⟨s, (gn, rn), (gp, rp), k, t, pre_get hV.ps hs, ?_, ?_, ?_, hR, hk, he⟩
      · show (d.r0 ++ _)[j]? = _
        rw [List.getElem?_append_right (by rw [h.l0]; exact Nat.le_refl _), h.l0, Nat.sub_self]; rfl
      · show (d.r1 ++ _)[j]? = _
        rw [List.getElem?_append_right (by rw [h.l1]; exact Nat.le_refl _), h.l1, Nat.sub_self]; rfl
      · show (d.fn ++ _)[j]? = _
        rw [List.getElem?_append_right (by rw [h.lf]; exact Nat.le_refl _), h.lf, Nat.sub_self]; rfl
  · rcases hV.ss x hx with h1 | ⟨c, o, h1, h2, _⟩
    · exact h.ins x h1
    · exact ⟨by rw [h1]; exact hA.nx_lt hsi.1 c.toNat_lt, h2⟩
  · rcases hV.tt y hy with h1 | ⟨c, odd, x, h1⟩ | h1
    · exact h.tt y h1
    · exact ⟨s, hsi.1, hsi.2, .inl ⟨c, odd, x, h1⟩⟩
    · exact ⟨s, hsi.1, hsi.2, .inr h1⟩
  · have h1 := hV.ln
    have h2 := h.ct
    show txs.length ≤ 257 * (i + 1)
    omega
/-- what is made -/
def mcOf (d : Kq) : Mc := ⟨d.r0.map (·.2), d.r1.map (·.2), d.fn.map fun k : Nat => (k : Int), d.txs⟩
section
variable {a b : Mc} {d : Kq}
theorem mcOf_next {j : Nat} {x : Nat × List Int} (h : d.r0[j]? = some x) (c : Nat) {n : Int} (hn : x.2[c]? = some n) : nx (mcOf d) j c = n.toNat := by
  unfold nx mcOf
  simp [List.getD_eq_getElem?_getD, h, hn]
theorem mcOf_put {j : Nat} {x : Nat × List Int} (h : d.r1[j]? = some x) (c : Nat) {n : Int} (hn : x.2[c]? = some n) : pt (mcOf d) j c = n.toNat := by
  unfold pt mcOf
  simp [List.getD_eq_getElem?_getD, h, hn]
theorem mcOf_tx {k : Nat} {t : ByteArray} (h : d.txs[k]? = some t) : tx (mcOf d) k = t := by
  unfold tx mcOf
  simp [List.getD_eq_getElem?_getD, h]
theorem mcOf_en {j k : Nat} (h : d.fn[j]? = some k) : en (mcOf d) j = k := by
  unfold en mcOf
  simp [List.getD_eq_getElem?_getD, h]
theorem Pl.right (h : Pl a b d d.sts.length) (h1 : d.sts.length ≤ 1200) (h2 : d.txs.length ≤ 4096) (h3 : ∀ t ∈ d.txs, t.size ≤ 4096) : Right (mcOf d) := by
  have hn : (mcOf d).next.length = d.sts.length := by simp [mcOf, h.l0]
  have hp : 0 < d.sts.length := (List.getElem?_eq_some_iff.1 h.first).1
  refine ⟨by omega, by omega, by rw [hn]; simp [mcOf, h.l1], by rw [hn]; simp [mcOf, h.lf], h2, h3, fun r hr => ?_, fun r hr => ?_, fun x hx => ?_⟩
  · obtain ⟨x, hx, rfl⟩ := List.mem_map.1 hr
    obtain ⟨j, hj, e⟩ := List.mem_iff_getElem.1 hx
    obtain ⟨s, x0, x1, k, t, e1, e2, e3, e4, ⟨r1, r2, r3⟩, e6, e7⟩ := h.rows j (by rw [h.l0] at hj; exact hj)
    rw [List.getElem?_eq_getElem hj, e] at e2
    obtain rfl := Option.some.inj e2
    refine ⟨r1, fun y hy => ?_⟩
    obtain ⟨c, hc, e⟩ := List.mem_iff_getElem.1 hy
    obtain ⟨n, p, a1, a2, ⟨i, k', odd, t', s', b1, b2, b3, b4, b5⟩⟩ := r3 c (by omega)
    rw [List.getElem?_eq_getElem hc, e] at a1
    obtain rfl := Option.some.inj a1
    have := (List.getElem?_eq_some_iff.1 b3).1
    rw [hn, b1]
    omega
  · obtain ⟨x, hx, rfl⟩ := List.mem_map.1 hr
    obtain ⟨j, hj, e⟩ := List.mem_iff_getElem.1 hx
    obtain ⟨s, x0, x1, k, t, e1, e2, e3, e4, ⟨r1, r2, r3⟩, e6, e7⟩ := h.rows j (by rw [h.l1] at hj; exact hj)
    rw [List.getElem?_eq_getElem hj, e] at e3
    obtain rfl := Option.some.inj e3
    refine ⟨r2, fun y hy => ?_⟩
    obtain ⟨c, hc, e⟩ := List.mem_iff_getElem.1 hy
    obtain ⟨n, p, a1, a2, ⟨i, k', odd, t', s', b1, b2, b3, b4, b5⟩⟩ := r3 c (by omega)
    rw [List.getElem?_eq_getElem hc, e] at a2
    obtain rfl := Option.some.inj a2
    have h4 := (List.getElem?_eq_some_iff.1 b4).1
    have h5 : odd.toNat ≤ 1 := by cases odd <;> simp
    show 0 ≤ y ∧ y < ((2 * d.txs.length : Nat) : Int)
    rw [b2]
    omega
  · obtain ⟨k, hk, rfl⟩ := List.mem_map.1 hx
    obtain ⟨j, hj, e⟩ := List.mem_iff_getElem.1 hk
    obtain ⟨s, x0, x1, k', t, e1, e2, e3, e4, _, e6, e7⟩ := h.rows j (by rw [h.lf] at hj; exact hj)
    rw [List.getElem?_eq_getElem hj, e] at e4
    obtain rfl := Option.some.inj e4
    have := (List.getElem?_eq_some_iff.1 e6).1
    show 0 ≤ (k : Int) ∧ (k : Int) < (d.txs.length : Int)
    omega
/-- one byte -/
theorem Pl.byte (h : Pl a b d d.sts.length) (h3 : ∀ t ∈ d.txs, t.size ≤ 4096) {j : Nat} {s : St} (hj : d.sts[j]? = some s) (c : UInt8) :
    outp (mcOf d) j c = (go b s.2 (outp a s.1 c)).1 ∧ d.sts[nx (mcOf d) j c.toNat]? = some (nx a s.1 c.toNat, (go b s.2 (outp a s.1 c)).2) := by
  obtain ⟨s', x0, x1, k, t, e1, e2, e3, e4, ⟨r1, r2, r3⟩, e6, e7⟩ := h.rows j (List.getElem?_eq_some_iff.1 hj).1
  rw [hj] at e1
  obtain rfl := Option.some.inj e1
  obtain ⟨n, p, a1, a2, ⟨i, k', odd, t', s'', b1, b2, b3, b4, b5, b6, b7⟩⟩ := r3 c.toNat c.toNat_lt
  have hu : UInt8.ofNat c.toNat = c := UInt8.ofNat_toNat
  rw [hu] at b5 b7
  have e8 : nx (mcOf d) j c.toNat = i := by rw [mcOf_next e2 _ a1, b1]; omega
  have e9 : pt (mcOf d) j c.toNat = 2 * k' + odd.toNat := by rw [mcOf_put e3 _ a2, b2]; omega
  have ho : outp (mcOf d) j c = t'.data.toList ++ (if odd = true then [c] else []) := by
    unfold outp
    rw [e9]
    cases odd with
    | false => rw [show (2 * k' + Bool.toNat false) / 2 = k' by simp, show (2 * k' + Bool.toNat false) % 2 = 0 by simp, mcOf_tx b4]; simp
    | true => rw [show (2 * k' + Bool.toNat true) / 2 = k' by simp; omega, show (2 * k' + Bool.toNat true) % 2 = 1 by simp, mcOf_tx b4]; simp
  have hsz := h3 t' (List.mem_of_getElem? b4)
  rcases b7 with b7 | b7
  · rw [ho, b7, e8, b3]
    exact ⟨rfl, by rw [← b5]⟩
  · have hl := b7.1
    have ht : t'.data.toList.length = t'.size := by cases t'; simp [ByteArray.size]
    rw [List.length_append, ht] at hl
    have : (if odd = true then [c] else []).length ≤ 1 := by split <;> simp
    omega
theorem Pl.go (h : Pl a b d d.sts.length) (h3 : ∀ t ∈ d.txs, t.size ≤ 4096) (l : List UInt8) : ∀ {j : Nat} {s : St}, d.sts[j]? = some s → (tr.go (mcOf d) j l).1 = (tr.go b s.2 (tr.go a s.1 l).1).1 ∧ d.sts[(tr.go (mcOf d) j l).2]? = some ((tr.go a s.1 l).2, (tr.go b s.2 (tr.go a s.1 l).1).2) := by
  induction l with
  | nil => intro j s hj; exact ⟨rfl, hj⟩
  | cons c l ih =>
    intro j s hj
    obtain ⟨p1, p2⟩ := h.byte h3 hj c
    obtain ⟨q1, q2⟩ := ih p2
    simp only [tr.go]
    rw [go_append, p1, q1]
    exact ⟨rfl, q2⟩
theorem Pl.total (h : Pl a b d d.sts.length) (h3 : ∀ t ∈ d.txs, t.size ≤ 4096) (l : List UInt8) : tr.total (mcOf d) 0 l = tr.total b 0 (tr.total a 0 l) := by
  obtain ⟨p1, p2⟩ := h.go h3 l h.first
  simp only at p1 p2
  obtain ⟨s, x0, x1, k, t, e1, e2, e3, e4, _, e6, e7⟩ := h.rows _ (List.getElem?_eq_some_iff.1 p2).1
  rw [p2] at e1
  have es := (Option.some.inj e1).symm
  unfold tr.total
  rw [mcOf_en e4, mcOf_tx e6, p1]
  rw [go_append]
  simp only
  rw [List.append_assoc]
  congr 1
  have hsz := h3 t (List.mem_of_getElem? e6)
  have ht : t.data.toList.length = t.size := by cases t; simp [ByteArray.size]
  rcases e7 with e7 | e7
  · rw [es] at e7
    simp only at e7
    rw [← e7]
    rfl
  · have := e7.1
    omega
end
end Go.Proofs.Ytlmodfeiphffcaa.mk

namespace Go.Proofs.Ytlmodfeiphffcaa.mk
open Go.ChangeShapes Go.WideShapes Go.ChangeAt Go.RowKit Go.Shelf Go.Maps
open tr
set_option linter.unusedVariables false

abbrev nil4 : Array Value := #[.slice none 0 0, .slice none 0 0, .slice none 0 0, .slice none 0 0]
theorem make110n (w : World) : (Instr.makeMap 110 none).run Try.prog w = .ok (.map (some w.heap.size)) (w.alloc (.map #[] 0)) := by kernel_rfl
theorem make83n (w : World) : (Instr.makeMap 83 none).run Try.prog w = .ok (.map (some w.heap.size)) (w.alloc (.map #[] 0)) := by kernel_rfl
theorem zero26 : ∀ w, (zeroValue 26).run Try.prog w = .ok (.agg nil4) w := fun w => by kernel_rfl
theorem ret26 {fn : Func} {p u : Tmp} (h : fn.results = #[.cell p 26, .tmp u]) {a : Act} {W : World} {R : Ending → World → Prop} (g : Nat) (v0 v1 v2 v3 : Value) (n : Int) (hp : a.tmps.getD p undef = .pointer (some ⟨g, 0, none⟩)) (hA : W.heap[g]? = some (.cells #[v0, v1, v2, v3] 26 (0, 0))) (hu : a.tmps.getD u undef = .int .i64 n) (hd : a.defers = [])
    (hR : R (.returned (.tuple #[.agg #[v0, v1, v2, v3], .int .i64 n])) W) : bodyPost Try.prog fn R .ret a W :=
  bodyPost_ret (by rw [results_cell_tmp h, hp, hu]; simp [asAddr, Result.andThen, run_loadVar_row W g 26 26 _ (0, 0) _ hA Try.underlying26 rfl info26]) hd hR
theorem below_setRow {n g : Nat} {w W : World} (h : Below n w W) (hg : n ≤ g) (cs : Array Value) : Below n w (W.setRow g cs) := ⟨h.os, h.tape, h.output, by simpa using h.size, fun k hk => (setRow_other _ _ _ _ (by omega)).trans (h.block k hk)⟩

def q0 (n : Nat) : Kv := ⟨.slice none 0 0, n, n + 1, 0, .slice none 0 0, .slice none 0 0, .slice none 0 0, .slice none 0 0⟩
def d0 : Kq := ⟨[], [], [], [], []⟩
theorem ki_start (W : World) (B : Nat) (hB : B ≤ W.heap.size) (f0 f1 : Value) : KI B (W.heap.size + 2) f0 f1 (q0 W.heap.size) d0 (((W.alloc (.map #[] 0)).alloc (.map #[] 0)).alloc (.cells (kcells f0 f1 (q0 W.heap.size)) 113)) := by
  have s1 : (W.alloc (.map #[] 0)).heap.size = W.heap.size + 1 := by simp
  have s2 : ((W.alloc (.map #[] 0)).alloc (.map #[] 0)).heap.size = W.heap.size + 2 := by simp
  have m1 : (W.alloc (.map #[] 0)).ownsMap Try.prog 76 (plainElem (H := Unit) Try.prog 3) W.heap.size 0 (.map []) := World.ownsMap_made _ _ _ _
  have m2 : ((W.alloc (.map #[] 0)).alloc (.map #[] 0)).ownsMap Try.prog 9 (plainElem (H := Unit) Try.prog 3) (W.alloc (.map #[] 0)).heap.size 0 (.map []) := World.ownsMap_made _ _ _ _
  rw [s1] at m2
  refine ⟨?_, ow.nil _ _ _ _, ow.nil _ _ _ _, ow.nil _ _ _ _, ow.nil _ _ _ _, ow.nil _ _ _ _, ⟨_, map_keep m1 ?_, mapN_nil _ _⟩, ⟨_, map_keep m2 ?_, mapN_nil _ _⟩, fun x hx => (by cases hx), fun x hx => (by cases hx), ?_, fun g e => (by cases e), fun x hx => (by cases hx), fun g e => (by cases e), by omega, hB, ?_, fun x hx => (by cases hx), fun x hx => (by cases hx), fun x hx => (by cases hx), .inl rfl⟩
  · have := World.alloc_heap_new ((W.alloc (.map #[] 0)).alloc (.map #[] 0)) (.cells (kcells f0 f1 (q0 W.heap.size)) 113)
    rw [s2] at this
    exact this
  · show ((((W.alloc (.map #[] 0)).alloc (.map #[] 0)).alloc _).heap)[W.heap.size]? = _
    rw [Below.heap_alloc _ _ _ (by rw [s2]; omega), Below.heap_alloc _ _ _ (by rw [s1]; omega)]
    rfl
  · show ((((W.alloc (.map #[] 0)).alloc (.map #[] 0)).alloc _).heap)[W.heap.size + 1]? = _
    rw [Below.heap_alloc _ _ _ (by rw [s2]; omega)]
    rfl
  · show W.heap.size ≠ W.heap.size + 1
    omega
  · show B ≤ W.heap.size + 1
    omega
/-- what is made, as a machine in memory -/
theorem ki_mat {B kb : Nat} {f0 f1 : Value} {q : Kv} {d : Kq} {W : World} {a b : Mc} (k : KI B kb f0 f1 q d W) (h : Pl a b d d.sts.length) : ∃ p : Mp, q.v0 = .slice p.no (mcOf d).next.length p.nc ∧ q.v1 = .slice p.po (mcOf d).put.length p.pc ∧ q.v2 = .slice p.eo (mcOf d).fin.length p.ec ∧ q.v3 = .slice p.xo (mcOf d).txt.length p.xc ∧ MAt (fun g => B ≤ g ∧ g < W.heap.size) W (mcOf d) p := by
  have rr : ∀ {v : Value} {r : List (Nat × List Int)}, W.ownsRow B 23 1 v r.length (rcs r) → (∀ x ∈ r, IRow W x.1 x.2) → (∀ x ∈ r, x.2.length = 256) → (∀ x ∈ r, B ≤ x.1) → ∃ o c, v = .slice o (r.map (·.2)).length c ∧ RowRow (fun g => B ≤ g ∧ g < W.heap.size) W o c (r.map (·.2)) := fun {v r} ho hi hl hbr => by
    obtain ⟨o, c, e, h1, h2⟩ := ow.form ho
    refine ⟨o, c, by rw [List.length_map]; exact e, by rw [List.length_map]; exact h1, h2, fun i hlt => ?_⟩
    rw [List.length_map] at hlt
    obtain ⟨g, cap, e2, hg, hc⟩ := ow.cell ho i (by rw [rcs, List.length_map]; exact hlt)
    have hx := List.getElem_mem hlt
    rw [e] at e2
    obtain ⟨rfl, rfl⟩ : o = some ⟨g, 0, none⟩ ∧ c = cap := by simpa using e2
    refine ⟨g, 0, some ⟨r[i].1, 0, none⟩, 256, rfl, ⟨(ow.lt ho (by rw [e]; rfl)).1, hg⟩, ?_, ?_⟩
    · rw [Nat.zero_add, hc]
      simp [rcs, hl _ hx]
    · simp only [List.getElem_map]
      refine ⟨by rw [hl _ hx]; exact Nat.le_refl _, by omega, fun c hc => ⟨r[i].1, 0, rfl, ⟨hbr _ hx, (hi _ hx).lt⟩, ?_⟩⟩
      rw [Nat.zero_add]
      exact (hi _ hx).cell c hc
  have l0 : ∀ x ∈ d.r0, x.2.length = 256 := fun x hx => by
    obtain ⟨j, hj, e⟩ := List.mem_iff_getElem.1 hx
    obtain ⟨s, x0, x1, k', t, e1, e2, e3, e4, ⟨r1, r2, r3⟩, e6, e7⟩ := h.rows j (by rw [h.l0] at hj; exact hj)
    rw [List.getElem?_eq_getElem hj, e] at e2
    obtain rfl := Option.some.inj e2
    exact r1
  have l1 : ∀ x ∈ d.r1, x.2.length = 256 := fun x hx => by
    obtain ⟨j, hj, e⟩ := List.mem_iff_getElem.1 hx
    obtain ⟨s, x0, x1, k', t, e1, e2, e3, e4, ⟨r1, r2, r3⟩, e6, e7⟩ := h.rows j (by rw [h.l1] at hj; exact hj)
    rw [List.getElem?_eq_getElem hj, e] at e3
    obtain rfl := Option.some.inj e3
    exact r2
  obtain ⟨no, nc, e0, R0⟩ := rr k.o0 k.i0 l0 (fun x hx => k.br x (List.mem_append_left _ hx))
  obtain ⟨po, pc, e1, R1⟩ := rr k.o1 k.i1 l1 (fun x hx => k.br x (List.mem_append_right _ hx))
  obtain ⟨eo, ec, e2, h21, h22⟩ := ow.form k.o2
  obtain ⟨xo, xc, e3, h31, h32⟩ := ow.form k.o3
  refine ⟨⟨no, nc, po, pc, eo, ec, xo, xc⟩, e0, e1, by rw [e2]; simp [mcOf], e3, R0, R1, ⟨by simpa [mcOf] using h21, h22, fun i hi => ?_⟩, ⟨h31, h32, fun i hi => ?_⟩⟩
  · have hi2 : i < d.fn.length := by simpa [mcOf] using hi
    obtain ⟨g, cap, e, hg, hc⟩ := ow.cell k.o2 i (by simpa [icl] using hi2)
    have hlo := (ow.lt k.o2 (by rw [e]; rfl)).1
    rw [e2] at e
    obtain ⟨rfl, rfl⟩ : eo = some ⟨g, 0, none⟩ ∧ ec = cap := by simpa using e
    refine ⟨g, 0, rfl, ⟨hlo, hg⟩, ?_⟩
    rw [Nat.zero_add, hc]
    simp [icl, mcOf]
  · have hi2 : i < d.txs.length := hi
    obtain ⟨g, cap, e, hg, hc⟩ := ow.cell k.o3 i (by simpa [svs] using hi2)
    have hlo := (ow.lt k.o3 (by rw [e]; rfl)).1
    rw [e3] at e
    obtain ⟨rfl, rfl⟩ : xo = some ⟨g, 0, none⟩ ∧ xc = cap := by simpa using e
    refine ⟨g, 0, rfl, ⟨hlo, hg⟩, ?_⟩
    rw [Nat.zero_add, hc]
    simp [svs, mcOf]
def MOut (a b : Mc) (w : World) (e : Ending) (w' : World) : Prop :=
  (∃ d p, e = .returned (.tuple #[.agg (mv (mcOf d) p), .int .i64 0]) ∧ MAt (fun g => w.heap.size ≤ g ∧ g < w'.heap.size) w' (mcOf d) p ∧ Pl a b d d.sts.length ∧ d.sts.length ≤ 1200 ∧ d.txs.length ≤ 4096 ∧ (∀ t ∈ d.txs, t.size ≤ 4096) ∧ Below w.heap.size w w') ∨
  (∃ d i, e = .returned (.tuple #[.agg nil4, .int .i64 80]) ∧ Pl a b d i ∧ i ≤ d.sts.length ∧ (1200 < d.sts.length ∨ 4096 < d.txs.length ∨ ∃ t ∈ d.txs, 4096 < t.size) ∧ Below w.heap.size w w')
/-- what stands at each state that is left -/
structure ML (B kb cb : Nat) (a : Mc) (pa : Mp) (b : Mc) (pb : Mp) (q : Kv) (d : Kq) (i : Nat) (w W : World) : Prop where
  ki : KI B kb (F0 cb) (F1 cb) q d W
  pl : Pl a b d i
  le : i ≤ d.sts.length
  s1 : d.sts.length ≤ 1200
  s2 : d.txs.length ≤ 4096
  s3 : q.lg ≤ 4096
  be : Below B w W
set_option maxHeartbeats 4000000 in
set_option maxRecDepth 100000 in
theorem machine_any {a b : Mc} (hA : Right a) (hB : Right b) {cb : Nat} {pa pb : Mp} {w : World} (hC : Cn w.heap.size w cb a pa b pb) :
    Calls Try.prog 39 #[.agg #[F0 cb, F1 cb], .agg #[.int .i64 0, .int .i64 0]] w (MOut a b w) := by
  have hm1 := make110n
  have hm2 := make83n
  obtain ⟨w3, HW3⟩ : ∃ w3, Hid (w3 = ((w.alloc (.cells #[F0 cb, F1 cb] 80)).alloc (.cells #[.int .i64 0, .int .i64 0] 76)).alloc (.cells nil4 26)) := ⟨_, rfl⟩
  have z1 : (w.alloc (.cells #[F0 cb, F1 cb] 80)).heap.size = w.heap.size + 1 := by simp
  have z2 : ((w.alloc (.cells #[F0 cb, F1 cb] 80)).alloc (.cells #[.int .i64 0, .int .i64 0] 76)).heap.size = w.heap.size + 2 := by simp
  have z3 : w3.heap.size = w.heap.size + 3 := by rw [HW3.out]; simp
  have B3 : Below w.heap.size w w3 := by rw [HW3.out]; exact chain (chain (below_alloc w _) (below_alloc _ _)) (below_alloc _ _)
  have h26 : w3.heap[w.heap.size + 2]? = some (.cells nil4 26 (0, 0)) := by
    have := World.alloc_heap_new ((w.alloc (.cells #[F0 cb, F1 cb] 80)).alloc (.cells #[.int .i64 0, .int .i64 0] 76)) (.cells nil4 26)
    rw [z2] at this
    rw [HW3.out]
    exact this
  have h76 : w3.heap[w.heap.size + 1]? = some (.cells #[.int .i64 0, .int .i64 0] 76 (0, 0)) := by
    rw [HW3.out, Below.heap_alloc _ _ _ (by rw [z2]; omega)]
    have := World.alloc_heap_new (w.alloc (.cells #[F0 cb, F1 cb] 80)) (.cells #[.int .i64 0, .int .i64 0] 76)
    rw [z1] at this
    exact this
  have h80 : w3.heap[w.heap.size]? = some (.cells #[F0 cb, F1 cb] 80 (0, 0)) := by
    rw [HW3.out, Below.heap_alloc _ _ _ (by rw [z2]; omega), Below.heap_alloc _ _ _ (by rw [z1]; omega)]
    exact World.alloc_heap_new w _
  have hC3 : Cn (w.heap.size + 3) w3 cb a pa b pb := by
    have h := hC.low B3
    exact ⟨h.bx, h.ma.carry (fun _ _ => rfl) (fun g hg => by unfold Lo at hg ⊢; omega), h.mb.carry (fun _ _ => rfl) (fun g hg => by unfold Lo at hg ⊢; omega), by have := h.gl; omega⟩
  have k0 := ki_start w3 (w.heap.size + 3) (by omega) (F0 cb) (F1 cb)
  obtain ⟨kb, HKB⟩ : ∃ kb, Hid (kb = w.heap.size + 5) := ⟨_, rfl⟩
  have hkb : w3.heap.size + 2 = kb := by rw [HKB.out]; omega
  rw [hkb] at k0
  obtain ⟨w6, HW6⟩ : ∃ w6, Hid (w6 = ((w3.alloc (.map #[] 0)).alloc (.map #[] 0)).alloc (.cells (kcells (F0 cb) (F1 cb) (q0 w3.heap.size)) 113)) := ⟨_, rfl⟩
  rw [← HW6.out] at k0
  have B6 : Below w3.heap.size w3 w6 := by rw [HW6.out]; exact chain (chain (below_alloc w3 _) (below_alloc _ _)) (below_alloc _ _)
  have c60 := state_any k0 (0, 0) ⟨by decide, by decide⟩ (by decide)
  have HWW : Hid (w6 = (((((w.alloc (.cells #[F0 cb, F1 cb] 80)).alloc (.cells #[.int .i64 0, .int .i64 0] 76)).alloc (.cells nil4 26)).alloc (.map #[] 0)).alloc (.map #[] 0)).alloc (.cells #[F0 cb, F1 cb, .slice none 0 0, .map (some (w.heap.size + 2 + 1)), .map (some (w.heap.size + 2 + 1 + 1)), .int .i64 0, .slice none 0 0, .slice none 0 0, .slice none 0 0, .slice none 0 0] 113)) := by
    show _ = _
    rw [HW6.out, z3, HW3.out]
    rfl
  have hk5 : w.heap.size + 2 + 1 + 1 + 1 = kb := by rw [HKB.out]
  have HK5 : Hid (w.heap.size + 2 + 1 + 1 + 1 = kb) := hk5
  have HM7 : Hid (∀ e w7, StOut (w.heap.size + 3) kb (F0 cb) (F1 cb) (q0 w3.heap.size) d0 (0, 0) w6 e w7 → ∃ r q, e = .returned r ∧ ML (w.heap.size + 3) kb cb a pa b pb q { d0 with sts := [(0, 0)] } 0 w3 w7) := by
    rintro e w7 ⟨i0, sv7, sts7, rfl, hst, hor, k7, z7, o7, t7, u7, hh7, hx7⟩
    have hs7 : sts7 = [(0, 0)] := by
      rcases hor with h | ⟨_, h⟩
      · rw [h] at hst
        simp [d0] at hst
      · rw [h]; rfl
    subst hs7
    refine ⟨_, _, rfl, k7, Pl.start hA hB rfl rfl rfl rfl rfl, by simp, by simp, by simp [d0], by show (0 : Nat) ≤ _; omega, ?_⟩
    have b7 : Below (w.heap.size + 3) w6 w7 := ⟨o7, t7, u7, z7, fun g hg => hh7 g (by have := B6.size; omega) (by have := HK5.out; omega) (by show g ≠ w3.heap.size; omega) (fun e => by cases e)⟩
    rw [← z3] at b7 ⊢
    exact B6.trans b7
  have HC3 : Hid (∀ W, Below (w.heap.size + 3) w3 W → Cn (w.heap.size + 3) W cb a pa b pb ∧ W.heap[w.heap.size + 2]? = some (.cells nil4 26 (0, 0))) := fun W hb => ⟨hC3.low hb, (hb.block _ (by omega)).trans h26⟩
  have HZ3 : Hid (w3.heap.size = w.heap.size + 3) := z3
  have HB3 : Hid (Below w.heap.size w w3) := B3
  clear HW6 HW3 HKB hkb z1 z2 z3 h76 h80 hC hC3 h26 k0 B6 hk5 B3
  go_enter Try.func39, Try.ntmps39
  go_wp2_with (fail)
  rw [← HWW.out, HK5.out]
  refine c60.mono ?_
  intro e w7 hs7
  obtain ⟨r7, q7, rfl, M7⟩ := HM7.out e w7 hs7
  clear c60 hs7 HM7 HWW hm1 hm2
  go_wp2_with (fail)
  generalize hn : w.heap.size = n at *
  have HN : Hid (w.heap.size = n) := hn
  clear hn
  go_loopw [7] (fun y wr => ∃ (i : Nat) (q : Kv) (d : Kq), y = .int .i64 i ∧ i ≤ 1200 ∧ Hid (ML (n + 3) kb cb a pa b pb q d i w3 wr)) (fun y _ => 1201 - (intOf y).toNat)
  case atStart => exact ⟨0, _, _, rfl, by omega, M7⟩
  case round =>
    clear M7
    obtain ⟨i, q, d, rfl, hi, HM⟩ := hrel
    have c2 := HM.out.ki.c2
    obtain ⟨sg, sc, hsv, f1, f2⟩ := ow.form HM.out.ki.os
    rw [hsv] at c2
    have hs12 := HM.out.s1
    by_cases hend : i < d.sts.length
    · obtain ⟨g, cap, e1, hg, d1⟩ := ow.cell HM.out.ki.os (i * 2) (by rw [scs_len]; omega)
      obtain ⟨g2, cap2, e2, hg2, d2⟩ := ow.cell HM.out.ki.os (i * 2 + 1) (by rw [scs_len]; omega)
      rw [hsv] at e1 e2
      obtain ⟨rfl, rfl⟩ : sg = some ⟨g, 0, none⟩ ∧ sc = cap := by simpa using e1
      obtain ⟨rfl, rfl⟩ : g = g2 ∧ sc = cap2 := by simpa using e2
      have hsc := scs_at d.sts i hend
      rw [List.getElem?_eq_getElem (by rw [scs_len]; omega), List.getElem?_eq_getElem (by rw [scs_len]; omega)] at hsc
      rw [Option.some.inj hsc.1] at d1
      rw [Option.some.inj hsc.2] at d2
      have hin := HM.out.pl.ins d.sts[i] (List.getElem_mem hend)
      have HS : Hid (d.sts[i]? = some d.sts[i]) := List.getElem?_eq_getElem hend
      have hq2 := HM.out.s2
      have hl0 := HM.out.pl.l0
      have hl1 := HM.out.pl.l1
      have hlf := HM.out.pl.lf
      have hbs := HM.out.be.size
      have c61 := leave_any hA hB (HC3.out wr HM.out.be).1 HM.out.ki d.sts[i] hin.1 hin.2 (by omega) (by omega) ⟨by omega, by omega, by omega⟩ (by have := HZ3.out; omega)
      generalize d.sts[i] = s at *
      have HNX : Hid (∀ e w8, LvOut (n + 3) kb cb a b q d s wr e w8 → ∃ r q8 d8, e = .returned r ∧ KI (n + 3) kb (F0 cb) (F1 cb) q8 d8 w8 ∧ Pl a b d8 (i + 1) ∧ i + 1 ≤ d8.sts.length ∧ Below (n + 3) w3 w8) := by
        rintro e w8 ⟨sv, v0, v1, v2, v3, lg, gn, gp, k, sts, txs, rn, rp, t, rfl, k8, hR8, hV8, hk8, he8, b8⟩
        refine ⟨_, _, _, rfl, k8, HM.out.pl.step hA HS.out hR8 hV8 hk8 he8, ?_, HM.out.be.trans b8⟩
        have := hV8.ps.length_le
        show i + 1 ≤ sts.length
        omega
      clear e1 e2 hsc hin hl0 hl1 hlf hbs hsv
      go_wp2_with (go_at_call 59; refine c61.mono ?_; intro e w8 hs8; obtain ⟨r8, q8, d8, rfl, k8, p8, le8, b8⟩ := HNX.out e w8 hs8; have c62 := full_any k8 _ rfl; clear c61 hs8)
      have hF : fullB q8 d8 = (decide (1200 < d8.sts.length) || decide (4096 < d8.txs.length) || decide (4096 < q8.lg)) := rfl
      have HKI : Hid (KI (n + 3) kb (F0 cb) (F1 cb) q8 d8 w8) := k8
      have HPL : Hid (Pl a b d8 (i + 1)) := p8
      have HB8 : Hid (Below (n + 3) w3 w8) := b8
      by_cases hf : fullB q8 d8 = true
      · rw [hf] at c62 hF
        have h26 := (HC3.out w8 b8).2
        have HFULL : Hid (1200 < d8.sts.length ∨ 4096 < d8.txs.length ∨ ∃ t ∈ d8.txs, 4096 < t.size) := by
          have h := hF.symm
          simp only [Bool.or_eq_true, decide_eq_true_eq] at h
          rcases h with (h | h) | h
          · exact .inl h
          · exact .inr (.inl h)
          · rcases k8.lx with e | ⟨t, ht, e⟩
            · omega
            · exact .inr (.inr ⟨t, ht, by omega⟩)
        have HEND : Hid (MOut a b w (.returned (.tuple #[.agg nil4, .int .i64 80])) (w8.setRow (n + 2) nil4)) := by
          refine .inr ⟨d8, i + 1, rfl, HPL.out, le8, HFULL.out, ?_⟩
          rw [HN.out]
          exact below_setRow (HB3.out.trans (HB8.out.mono (by omega))) (by omega) _
        clear hF hf k8 p8 b8
        refine c62.mono ?_
        rintro e w9 ⟨rfl, rfl⟩
        go_wp2_with (refine wpList_store_row (by rfl) 26 (.tmp 4) (.tmp 36) (by rfl) (n + 2) nil4 (by rfl) (by rfl) 26 nil4 h26 info26 rfl (by simp [Value.oneCell']) ?_)
        exact ret26 rfl (n + 2) _ _ _ _ 80 rfl (setRow_heap _ _ _ _ _ _ h26) rfl rfl HEND.out
      · have hf2 : fullB q8 d8 = false := Bool.eq_false_iff.2 hf
        rw [hf2] at c62 hF
        have h3 : ¬ 1200 < d8.sts.length ∧ ¬ 4096 < d8.txs.length ∧ ¬ 4096 < q8.lg := by
          have h := hF.symm
          simp only [Bool.or_eq_false_iff, decide_eq_false_iff_not] at h
          exact ⟨h.1.1, h.1.2, h.2⟩
        have M8 : Hid (ML (n + 3) kb cb a pa b pb q8 d8 (i + 1) w3 w8) := ⟨k8, p8, le8, by omega, by omega, by omega, b8⟩
        clear hF hf hf2 k8 p8 b8
        refine c62.mono ?_
        rintro e w9 ⟨rfl, rfl⟩
        go_wp2_with (fail)
        go_roundw
        case rel => exact ⟨i + 1, q8, d8, by go_num, by omega, M8⟩
        case measure => simp [intOf]; omega
    · obtain rfl : i = d.sts.length := by have := HM.out.le; omega
      obtain ⟨p, v0, v1, v2, v3, hMA⟩ := ki_mat HM.out.ki HM.out.pl
      have c6 := HM.out.ki.c6
      have c7 := HM.out.ki.c7
      have c8 := HM.out.ki.c8
      have c9 := HM.out.ki.c9
      rw [v0] at c6
      rw [v1] at c7
      rw [v2] at c8
      rw [v3] at c9
      have h26 := (HC3.out wr HM.out.be).2
      have HOFF : Hid (¬ Fp kb q d (n + 2)) := fun h => by
        have := (HM.out.ki.fp h).1
        omega
      have HEND : Hid (MOut a b w (.returned (.tuple #[.agg (mv (mcOf d) p), .int .i64 0])) (wr.setRow (n + 2) (mv (mcOf d) p))) := by
        have hB9 : Below (n + 2) w3 wr := HM.out.be.mono (by omega)
        have hkk : KI (n + 3) kb (F0 cb) (F1 cb) q d (wr.setRow (n + 2) (mv (mcOf d) p)) := HM.out.ki.keep fun g hg => setRow_other _ _ _ _ (fun e => HOFF.out (by rw [← e]; exact hg))
        obtain ⟨p', u0, u1, u2, u3, hMA'⟩ := ki_mat hkk HM.out.pl
        have hpp : p' = p := by
          rw [v0] at u0
          rw [v1] at u1
          rw [v2] at u2
          rw [v3] at u3
          cases p
          cases p'
          simp at u0 u1 u2 u3 ⊢
          obtain ⟨rfl, rfl⟩ := u0
          obtain ⟨rfl, rfl⟩ := u1
          obtain ⟨rfl, rfl⟩ := u2
          obtain ⟨rfl, rfl⟩ := u3
          exact ⟨rfl, rfl, rfl, rfl, rfl, rfl, rfl, rfl⟩
        rw [hpp] at hMA'
        refine .inl ⟨d, p, rfl, hMA'.carry (fun _ _ => rfl) (fun g hg => ⟨by rw [HN.out]; omega, hg.2⟩), HM.out.pl, HM.out.s1, HM.out.s2, fun t ht => Nat.le_trans (HM.out.ki.lt t ht).2 HM.out.s3, ?_⟩
        rw [HN.out]
        exact below_setRow (HB3.out.trans (HM.out.be.mono (by omega))) (by omega) _
      have HMV : Hid (mv (mcOf d) p = #[.slice p.no (mcOf d).next.length p.nc, .slice p.po (mcOf d).put.length p.pc, .slice p.eo (mcOf d).fin.length p.ec, .slice p.xo (mcOf d).txt.length p.xc]) := rfl
      rw [HMV.out] at HEND
      clear hMA v0 v1 v2 v3 HM HOFF HMV hsv
      generalize (mcOf d).next.length = n0 at *
      generalize (mcOf d).put.length = n1 at *
      generalize (mcOf d).fin.length = n2 at *
      generalize (mcOf d).txt.length = n3 at *
      go_wp2_with (refine wpList_store_row (by rfl) 26 (.tmp 4) (.tmp 40) (by rfl) (n + 2) #[.slice p.no n0 p.nc, .slice p.po n1 p.pc, .slice p.eo n2 p.ec, .slice p.xo n3 p.xc] (by rfl) (by rfl) 26 nil4 h26 info26 rfl (by simp [Value.oneCell']) ?_)
      exact ret26 rfl (n + 2) _ _ _ _ 0 rfl (setRow_heap _ _ _ _ _ _ h26) rfl rfl HEND.out
end Go.Proofs.Ytlmodfeiphffcaa.mk

namespace Go.Proofs.Ytlmodfeiphffcaa.mk
open Go.ChangeShapes Go.WideShapes Go.ChangeAt Go.RowKit Go.Shelf Go.Maps
open tr
set_option linter.unusedVariables false

theorem load_if {P : Program} {ops : Array Oper} {rest : List Oper} {o : Oper} {a : Act} {w : World} {Q : Exit → Act → World → Prop} (hw : Region.wanted o (yielded ops a.tmps) = true) (ty : TypeId) (x : Operand) (ho : o.op = .load ty x)
    (g : Nat) (hx : a.eval x = .pointer (some ⟨g, 0, none⟩)) (t : TypeId) (cs : Array Value) (fr : Nat × Nat) (d : TypeDesc) (hg : w.heap[g]? = some (.cells cs t fr))
    (hu : P.underlying ty = some d) (hd : (match d with | .struct _ | .array _ _ => true | _ => false) = true) (hi : (P.info? ty).map (·.size) = some cs.size)
    (h : wpList P ops Q rest (a.put o.dst (.agg cs)) w) : wpList P ops Q (o :: rest) a w :=
  wpList_step fun K hK => by rw [if_pos hw]; exact wp_load_row ty x ho g hx t cs fr d hg hu hd hi (hK _ _ h)
theorem box_at (w : World) (m : Mc) (p : Mp) {o : Obj} : Box ((w.alloc (.cells (mv m p) 26)).alloc o) w.heap.size m p := (box_new w m p).later (below_alloc _ _)
set_option maxHeartbeats 4000000 in
set_option maxRecDepth 100000 in
theorem then_bad {a b : Mc} {pa pb : Mp} {w : World} (hMa : MAt (In w) w a pa) (hMb : MAt (In w) w b pb) (x : Bool) (hx : right a = x) (hbad : x = false ∨ right b = false) :
    Calls Try.prog 18 #[.agg (mv a pa), .agg (mv b pb)] w fun e w' => e = .returned (.tuple #[.agg nil4, .int .i64 120]) ∧ Below w.heap.size w w' := by
  obtain ⟨w3, HW3⟩ : ∃ w3, Hid (w3 = ((w.alloc (.cells (mv a pa) 26)).alloc (.cells (mv b pb) 26)).alloc (.cells nil4 26)) := ⟨_, rfl⟩
  have z1 : (w.alloc (.cells (mv a pa) 26)).heap.size = w.heap.size + 1 := by simp
  have z2 : ((w.alloc (.cells (mv a pa) 26)).alloc (.cells (mv b pb) 26)).heap.size = w.heap.size + 2 := by simp
  have B3 : Below w.heap.size w w3 := by rw [HW3.out]; exact chain (chain (below_alloc w _) (below_alloc _ _)) (below_alloc _ _)
  have bA : Box w3 w.heap.size a pa := by rw [HW3.out]; exact (box_at w a pa).later (below_alloc _ _)
  have bB : Box w3 (w.heap.size + 1) b pb := by
    have := (box_at (w.alloc (.cells (mv a pa) 26)) b pb (o := .cells nil4 26))
    rw [z1] at this
    rw [HW3.out]
    exact this
  have h26 : w3.heap[w.heap.size + 2]? = some (.cells nil4 26 (0, 0)) := by
    have := World.alloc_heap_new ((w.alloc (.cells (mv a pa) 26)).alloc (.cells (mv b pb) 26)) (.cells nil4 26)
    rw [z2] at this
    rw [HW3.out]
    exact this
  have c9 := right_any a x hx.symm pa w3 (hMa.later B3)
  have HB : Hid (∀ W, Below w3.heap.size w3 W → Box W (w.heap.size + 1) b pb ∧ W.heap[w.heap.size + 2]? = some (.cells nil4 26 (0, 0)) ∧ MAt (In W) W b pb) := fun W hb => ⟨bB.later hb, (hb.block _ (Array.getElem?_eq_some_iff.1 h26).1).trans h26, hMb.later (chain B3 hb)⟩
  rw [HW3.out] at c9 bA
  clear hMa hMb z1 z2 bB h26
  cases x with
  | false =>
    go_enter Try.func18, Try.ntmps18
    go_wp2_with (first | (refine wpList_load_row rfl 26 (.tmp 2) rfl w.heap.size rfl 26 (mv a pa) (0, 0) _ bA Try.underlying26 rfl info26 ?_) | (go_at_call 9; refine c9.mono ?_; rintro e w4 ⟨rfl, b4⟩; rw [← HW3.out] at b4; have h26 := (HB.out w4 b4).2.1; clear c9) | (refine wpList_store_row (by rfl) 26 (.tmp 4) (.tmp 15) (by rfl) (w.heap.size + 2) nil4 (by rfl) (by rfl) 26 nil4 h26 info26 rfl (by simp [Value.oneCell']) ?_))
    exact ret26 rfl (w.heap.size + 2) _ _ _ _ 120 rfl (setRow_heap _ _ _ _ _ _ h26) rfl rfl ⟨rfl, below_setRow (chain B3 b4) (by omega) _⟩
  | true =>
    have hb : right b = false := by
      rcases hbad with h | h
      · cases h
      · exact h
    have HR : Hid (right b = false) := hb
    clear hb hbad
    go_enter Try.func18, Try.ntmps18
    go_wp2_with (first | (refine wpList_load_row rfl 26 (.tmp 2) rfl w.heap.size rfl 26 (mv a pa) (0, 0) _ bA Try.underlying26 rfl info26 ?_) | (go_at_call 9; refine c9.mono ?_; rintro e w4 ⟨rfl, b4⟩; rw [← HW3.out] at b4; have bB4 := (HB.out w4 b4).1; have d9 := right_any b false HR.out.symm pb w4 (HB.out w4 b4).2.2; clear c9) | (refine load_if (by kernel_rfl) 26 (.tmp 3) rfl (w.heap.size + 1) rfl 26 (mv b pb) (0, 0) _ bB4 Try.underlying26 rfl info26 ?_) | (go_at_call 9; refine d9.mono ?_; rintro e w5 ⟨rfl, b5⟩; have h26 := (HB.out w5 (chain b4 b5)).2.1; clear d9) | (refine wpList_store_row (by rfl) 26 (.tmp 4) (.tmp 15) (by rfl) (w.heap.size + 2) nil4 (by rfl) (by rfl) 26 nil4 h26 info26 rfl (by simp [Value.oneCell']) ?_))
    exact ret26 rfl (w.heap.size + 2) _ _ _ _ 120 rfl (setRow_heap _ _ _ _ _ _ h26) rfl rfl ⟨rfl, below_setRow (chain (chain B3 b4) b5) (by omega) _⟩
set_option maxHeartbeats 4000000 in
set_option maxRecDepth 100000 in
theorem then_good {a b : Mc} (hA : Right a) (hB : Right b) {pa pb : Mp} {w : World} (hMa : MAt (In w) w a pa) (hMb : MAt (In w) w b pb) :
    Calls Try.prog 18 #[.agg (mv a pa), .agg (mv b pb)] w (MOut a b w) := by
  obtain ⟨w3, HW3⟩ : ∃ w3, Hid (w3 = ((w.alloc (.cells (mv a pa) 26)).alloc (.cells (mv b pb) 26)).alloc (.cells nil4 26)) := ⟨_, rfl⟩
  have z1 : (w.alloc (.cells (mv a pa) 26)).heap.size = w.heap.size + 1 := by simp
  have z2 : ((w.alloc (.cells (mv a pa) 26)).alloc (.cells (mv b pb) 26)).heap.size = w.heap.size + 2 := by simp
  have B3 : Below w.heap.size w w3 := by rw [HW3.out]; exact chain (chain (below_alloc w _) (below_alloc _ _)) (below_alloc _ _)
  have bA : Box w3 w.heap.size a pa := by rw [HW3.out]; exact (box_at w a pa).later (below_alloc _ _)
  have bB : Box w3 (w.heap.size + 1) b pb := by
    have := (box_at (w.alloc (.cells (mv a pa) 26)) b pb (o := .cells nil4 26))
    rw [z1] at this
    rw [HW3.out]
    exact this
  have h26 : w3.heap[w.heap.size + 2]? = some (.cells nil4 26 (0, 0)) := by
    have := World.alloc_heap_new ((w.alloc (.cells (mv a pa) 26)).alloc (.cells (mv b pb) 26)) (.cells nil4 26)
    rw [z2] at this
    rw [HW3.out]
    exact this
  have c9 := right_any a true (right_iff.2 hA).symm pa w3 (hMa.later B3)
  have HB : Hid (∀ W, Below w3.heap.size w3 W → Box W w.heap.size a pa ∧ Box W (w.heap.size + 1) b pb ∧ W.heap[w.heap.size + 2]? = some (.cells nil4 26 (0, 0)) ∧ MAt (In W) W a pa ∧ MAt (In W) W b pb) := fun W hb => ⟨bA.later hb, bB.later hb, (hb.block _ (Array.getElem?_eq_some_iff.1 h26).1).trans h26, hMa.later (chain B3 hb), hMb.later (chain B3 hb)⟩
  have HD9 : Hid (∀ W, MAt (In W) W b pb → Calls Try.prog 9 #[.agg (mv b pb)] W fun e w' => e = .returned (.bool true) ∧ Below W.heap.size W w') := fun W h => right_any b true (right_iff.2 hB).symm pb W h
  have HA' : Hid (Right a) := hA
  have HB' : Hid (Right b) := hB
  have bA0 := bA
  rw [HW3.out] at c9 bA0
  clear hMa hMb z1 z2 bB h26 bA
  go_enter Try.func18, Try.ntmps18
  go_wp2_with (first | (refine wpList_load_row rfl 26 (.tmp 2) rfl w.heap.size rfl 26 (mv a pa) (0, 0) _ bA0 Try.underlying26 rfl info26 ?_) | (go_at_call 9; refine c9.mono ?_; rintro e w4 ⟨rfl, b4⟩; rw [← HW3.out] at b4; have bB4 := (HB.out w4 b4).2.1; have d9 := HD9.out w4 (HB.out w4 b4).2.2.2.2; clear c9 bA0) | (refine load_if (by kernel_rfl) 26 (.tmp 3) rfl (w.heap.size + 1) rfl 26 (mv b pb) (0, 0) _ bB4 Try.underlying26 rfl info26 ?_) | (go_at_call 9; refine d9.mono ?_; rintro e w5 ⟨rfl, b5⟩; have bA5 := (HB.out w5 (chain b4 b5)).1; have bB5 := (HB.out w5 (chain b4 b5)).2.1; clear d9 bB4) | (refine wpList_load_row rfl 26 (.tmp 2) rfl w.heap.size rfl 26 (mv a pa) (0, 0) _ bA5 Try.underlying26 rfl info26 ?_) | (refine wpList_load_row rfl 26 (.tmp 3) rfl (w.heap.size + 1) rfl 26 (mv b pb) (0, 0) _ bB5 Try.underlying26 rfl info26 ?_))
  have B5 : Below w3.heap.size w3 w5 := chain b4 b5
  obtain ⟨w6, HW6⟩ : ∃ w6, Hid (w6 = w5.alloc (.cells (mv a pa ++ mv b pb) 73)) := ⟨_, rfl⟩
  have B6 : Below w5.heap.size w5 w6 := by rw [HW6.out]; exact below_alloc _ _
  have hC : Cn w6.heap.size w6 w5.heap.size a pa b pb := by
    obtain ⟨_, _, _, m1, m2⟩ := HB.out w5 B5
    have h7 : w6.heap[w5.heap.size]? = some (.cells (mv a pa ++ mv b pb) 73 (0, 0)) := by rw [HW6.out]; exact heap_alloc_new w5 _
    exact ⟨h7, m1.later B6, m2.later B6, (Array.getElem?_eq_some_iff.1 h7).1⟩
  have c41 := machine_any hA hB hC
  have HL : Hid (w.heap.size + 2 < w6.heap.size) := by
    have := (Array.getElem?_eq_some_iff.1 (HB.out w6 (chain B5 B6)).2.2.1).1
    exact this
  have hww : w5.alloc (.cells #[.slice pa.no a.next.length pa.nc, .slice pa.po a.put.length pa.pc, .slice pa.eo a.fin.length pa.ec, .slice pa.xo a.txt.length pa.xc, .slice pb.no b.next.length pb.nc, .slice pb.po b.put.length pb.pc, .slice pb.eo b.fin.length pb.ec, .slice pb.xo b.txt.length pb.xc] 73) = w6 := by rw [HW6.out]; rfl
  rw [hww]
  have HBW : Hid (Below w.heap.size w w6) := chain (chain B3 B5) B6
  have H26 : Hid (∀ W, Below w6.heap.size w6 W → W.heap[w.heap.size + 2]? = some (.cells nil4 26 (0, 0))) := fun W hb => (HB.out W (chain (chain B5 B6) hb)).2.2.1
  clear hC hww HW6 HW3 HB HD9 bA5 bB5 b4 b5 B3 B5 B6
  generalize w5.heap.size = cb at *
  refine c41.mono ?_
  intro e w7 hM7
  clear c41
  rcases hM7 with ⟨d, p, rfl, hmat, hpl, h1, h2, h3, b7⟩ | ⟨d, i, rfl, hpl, hle, hfull, b7⟩
  · have h26 := H26.out w7 b7
    have HEND : Hid (MOut a b w (.returned (.tuple #[.agg (mv (mcOf d) p), .int .i64 0])) (w7.setRow (w.heap.size + 2) (mv (mcOf d) p))) := by
      refine .inl ⟨d, p, rfl, hmat.carry (fun g hg => setRow_other _ _ _ _ (by have := HL.out; omega)) (fun g hg => ⟨Nat.le_trans HBW.out.size hg.1, by simpa using hg.2⟩), hpl, h1, h2, h3, ?_⟩
      exact below_setRow (chain HBW.out b7) (by omega) _
    clear hmat hpl h1 h2 h3 b7 H26 HBW HL
    go_wp2_with (refine wpList_store_row (by rfl) 26 (.tmp 4) (.tmp 24) (by rfl) (w.heap.size + 2) (mv (mcOf d) p) (by rfl) (by rfl) 26 nil4 h26 info26 rfl (by simp [Value.oneCell', mv]) ?_)
    exact ret26 rfl (w.heap.size + 2) _ _ _ _ 0 rfl (setRow_heap _ _ _ _ _ _ h26) rfl rfl HEND.out
  · have h26 := H26.out w7 b7
    have HEND : Hid (MOut a b w (.returned (.tuple #[.agg nil4, .int .i64 80])) (w7.setRow (w.heap.size + 2) nil4)) := .inr ⟨d, i, rfl, hpl, hle, hfull, below_setRow (chain HBW.out b7) (by omega) _⟩
    clear hpl hle hfull b7 H26 HBW HL
    go_wp2_with (refine wpList_store_row (by rfl) 26 (.tmp 4) (.tmp 24) (by rfl) (w.heap.size + 2) nil4 (by rfl) (by rfl) 26 nil4 h26 info26 rfl (by simp [Value.oneCell']) ?_)
    exact ret26 rfl (w.heap.size + 2) _ _ _ _ 80 rfl (setRow_heap _ _ _ _ _ _ h26) rfl rfl HEND.out
end Go.Proofs.Ytlmodfeiphffcaa.mk
