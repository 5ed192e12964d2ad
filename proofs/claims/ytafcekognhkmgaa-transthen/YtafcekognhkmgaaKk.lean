/-
  Over this program: what is being made, with a row more.
-/
import Derived.Test.YtafcekognhkmgaaKi
namespace Go.Proofs.Ytafcekognhkmgaa.mk
open Go.ChangeShapes Go.WideShapes Go.ChangeAt Go.RowKit Go.Shelf Go.Maps
open tr
set_option linter.unusedVariables false

theorem info23 : (Try.prog.info? 23).map (fun i => (i.zero, i.size, i.bytes)) = some (some (.slice none 0 0), 1, 24) := by kernel_rfl
section
variable {B kb : Nat} {f0 f1 : Value} {q : Kv} {d : Kq} {W W' : World}
theorem KI.push (k : KI B kb f0 f1 q d W) {ex : Nat → Prop} (hex : ∀ g, ex g → ∃ cs, W.heap[g]? = some (.cells cs 23 (0, 0)) ∨ W.heap[g]? = some (.cells cs 3 (0, 0)))
    (hh : ∀ g, g < W.heap.size → g ≠ kb → ¬ ex g → W'.heap[g]? = W.heap[g]?) :
    (W'.ownsRow B 76 2 q.sv d.sts.length (scs d.sts)) ∧ (W'.ownsRow B 9 1 q.v3 d.txs.length (svs d.txs)) ∧ (∃ D, W'.ownsMap Try.prog 76 (plainElem (H := Unit) Try.prog 3) q.nm d.sts.length D ∧ MapN kp OkS d.sts D) ∧ (∃ D, W'.ownsMap Try.prog 9 (plainElem (H := Unit) Try.prog 3) q.tm d.txs.length D ∧ MapN kt OkT d.txs D) := by
  have nex : ∀ {g : Nat} {cs : Array Value} {T : TypeId}, W.heap[g]? = some (.cells cs T (0, 0)) → T ≠ 23 → T ≠ 3 → ¬ ex g := fun hg h1 h2 he => by
    obtain ⟨cs', h | h⟩ := hex _ he
    · exact cells_ne hg h h1 rfl
    · exact cells_ne hg h h2 rfl
  have row : ∀ {e sz n : Nat} {v : Value} {xs : List Value}, W.ownsRow B e sz v n xs → e ≠ 113 → e ≠ 23 → e ≠ 3 → W'.ownsRow B e sz v n xs := fun h h1 h2 h3 => ow.keep h fun g eg => by
    obtain ⟨cs, hc⟩ := own_cells h eg
    exact hh g (ow.lt h eg).2 ((k.cells hc).2.2 h1) (nex hc h2 h3)
  have mp : ∀ {g : Nat} {es : Array MapEntry} {c : Nat}, W.heap[g]? = some (.map es c) → W'.heap[g]? = W.heap[g]? := fun hg => hh _ (Array.getElem?_eq_some_iff.1 hg).1 (fun e => by rw [e, k.box] at hg; cases hg) (fun he => by
    obtain ⟨cs', h | h⟩ := hex _ he <;> rw [hg] at h <;> cases h)
  obtain ⟨D1, m1, m2⟩ := k.mn
  obtain ⟨D2, m3, m4⟩ := k.mt
  obtain ⟨e1, c1, n1⟩ := k.nobj
  obtain ⟨e2, c2, n2⟩ := k.tobj
  exact ⟨row k.os (by decide) (by decide) (by decide), row k.o3 (by decide) (by decide) (by decide), ⟨D1, map_keep m1 (mp n1), m2⟩, ⟨D2, map_keep m3 (mp n2), m4⟩⟩
theorem mem3 {α : Type} {l m : List α} {x y : α} (h : x ∈ (l ++ [y]) ++ m) : x ∈ l ++ m ∨ x = y := by
  simp at h ⊢
  rcases h with h | h | h
  · exact .inl (.inl h)
  · exact .inr h
  · exact .inl (.inr h)
theorem mem4 {α : Type} {l m : List α} {x y : α} (h : x ∈ l ++ (m ++ [y])) : x ∈ l ++ m ∨ x = y := by
  simp at h ⊢
  rcases h with h | h | h
  · exact .inl (.inl h)
  · exact .inl (.inr h)
  · exact .inr h
theorem KI.push0 (k : KI B kb f0 f1 q d W) {v : Value} {gn : Nat} {rn : List Int} (hi : IRow W gn rn) (hB : B ≤ gn) (h2 : q.v2.ownBlock ≠ some gn)
    (hh : ∀ g, g < W.heap.size → g ≠ kb → q.v0.ownBlock ≠ some g → W'.heap[g]? = W.heap[g]?)
    (hk : W'.heap[kb]? = some (.cells (kcells f0 f1 { q with v0 := v }) 113 (0, 0)))
    (ho : W'.ownsRow B 23 1 v (d.r0 ++ [(gn, rn)]).length (rcs (d.r0 ++ [(gn, rn)])))
    (hw : v.ownBlock = q.v0.ownBlock ∨ ∀ g, v.ownBlock = some g → W.heap.size ≤ g) : KI B kb f0 f1 { q with v0 := v } { d with r0 := d.r0 ++ [(gn, rn)] } W' := by
  obtain ⟨p1, p2, p3, p4⟩ := k.push (ex := fun g => q.v0.ownBlock = some g) (fun g e => by obtain ⟨cs, h⟩ := own_cells k.o0 e; exact ⟨cs, .inl h⟩) hh
  have ir : ∀ {g : Nat} {l : List Int}, IRow W g l → IRow W' g l := fun h => h.keep (hh _ h.lt ((k.cells h).2.2 (by decide)) (fun e => ow.type k.o0 h (by decide) e.symm))
  refine ⟨hk, p1, ho, ow.keep k.o1 (fun g eg => ?_), ow.keep k.o2 (fun g eg => ?_), p2, p3, p4, fun x hx => ?_, fun x hx => ir (k.i1 x hx), k.nt, fun g eg e1 => ?_, fun x hx => ?_, k.s3, k.bk, k.bn, k.bt, fun x hx => ?_, k.ls, k.lt, k.lx⟩
  · obtain ⟨cs, hc⟩ := own_cells k.o1 eg
    exact hh g (ow.lt k.o1 eg).2 ((k.cells hc).2.2 (by decide)) (fun e => k.n01 g e eg)
  · obtain ⟨cs, hc⟩ := own_cells k.o2 eg
    exact hh g (ow.lt k.o2 eg).2 ((k.cells hc).2.2 (by decide)) (fun e => ow.type k.o0 hc (by decide) e.symm)
  · rcases List.mem_append.1 hx with h | h
    · exact ir (k.i0 x h)
    · rw [List.mem_singleton.1 h]; exact ir hi
  · rcases hw with e | e
    · exact k.n01 g (e ▸ eg) e1
    · have := e g eg
      have := (ow.lt k.o1 e1).2
      omega
  · rcases mem3 hx with h | rfl
    · exact k.n2 x h
    · exact h2
  · rcases mem3 hx with h | rfl
    · exact k.br x h
    · exact hB
theorem KI.push1 (k : KI B kb f0 f1 q d W) {v : Value} {gn : Nat} {rn : List Int} (hi : IRow W gn rn) (hB : B ≤ gn) (h2 : q.v2.ownBlock ≠ some gn)
    (hh : ∀ g, g < W.heap.size → g ≠ kb → q.v1.ownBlock ≠ some g → W'.heap[g]? = W.heap[g]?)
    (hk : W'.heap[kb]? = some (.cells (kcells f0 f1 { q with v1 := v }) 113 (0, 0)))
    (ho : W'.ownsRow B 23 1 v (d.r1 ++ [(gn, rn)]).length (rcs (d.r1 ++ [(gn, rn)])))
    (hw : v.ownBlock = q.v1.ownBlock ∨ ∀ g, v.ownBlock = some g → W.heap.size ≤ g) : KI B kb f0 f1 { q with v1 := v } { d with r1 := d.r1 ++ [(gn, rn)] } W' := by
  obtain ⟨p1, p2, p3, p4⟩ := k.push (ex := fun g => q.v1.ownBlock = some g) (fun g e => by obtain ⟨cs, h⟩ := own_cells k.o1 e; exact ⟨cs, .inl h⟩) hh
  have ir : ∀ {g : Nat} {l : List Int}, IRow W g l → IRow W' g l := fun h => h.keep (hh _ h.lt ((k.cells h).2.2 (by decide)) (fun e => ow.type k.o1 h (by decide) e.symm))
  refine ⟨hk, p1, ow.keep k.o0 (fun g eg => ?_), ho, ow.keep k.o2 (fun g eg => ?_), p2, p3, p4, fun x hx => ir (k.i0 x hx), fun x hx => ?_, k.nt, fun g eg e1 => ?_, fun x hx => ?_, k.s3, k.bk, k.bn, k.bt, fun x hx => ?_, k.ls, k.lt, k.lx⟩
  · obtain ⟨cs, hc⟩ := own_cells k.o0 eg
    exact hh g (ow.lt k.o0 eg).2 ((k.cells hc).2.2 (by decide)) (k.n01 g eg)
  · obtain ⟨cs, hc⟩ := own_cells k.o2 eg
    exact hh g (ow.lt k.o2 eg).2 ((k.cells hc).2.2 (by decide)) (fun e => ow.type k.o1 hc (by decide) e.symm)
  · rcases List.mem_append.1 hx with h | h
    · exact ir (k.i1 x h)
    · rw [List.mem_singleton.1 h]; exact ir hi
  · rcases hw with e | e
    · exact k.n01 g eg (e ▸ e1)
    · have := e g e1
      have := (ow.lt k.o0 eg).2
      omega
  · rcases mem4 hx with h | rfl
    · exact k.n2 x h
    · exact h2
  · rcases mem4 hx with h | rfl
    · exact k.br x h
    · exact hB
theorem KI.push2 (k : KI B kb f0 f1 q d W) {v : Value} {e : Nat}
    (hh : ∀ g, g < W.heap.size → g ≠ kb → q.v2.ownBlock ≠ some g → W'.heap[g]? = W.heap[g]?)
    (hk : W'.heap[kb]? = some (.cells (kcells f0 f1 { q with v2 := v }) 113 (0, 0)))
    (ho : W'.ownsRow B 3 1 v (d.fn ++ [e]).length (icl (d.fn ++ [e])))
    (hw : v.ownBlock = q.v2.ownBlock ∨ ∀ g, v.ownBlock = some g → W.heap.size ≤ g) : KI B kb f0 f1 { q with v2 := v } { d with fn := d.fn ++ [e] } W' := by
  obtain ⟨p1, p2, p3, p4⟩ := k.push (ex := fun g => q.v2.ownBlock = some g) (fun g e => by obtain ⟨cs, h⟩ := own_cells k.o2 e; exact ⟨cs, .inr h⟩) hh
  have ir : ∀ (x : Nat × List Int), x ∈ d.r0 ++ d.r1 → IRow W x.1 x.2 → IRow W' x.1 x.2 := fun x hx h => h.keep (hh _ h.lt ((k.cells h).2.2 (by decide)) (k.n2 x hx))
  refine ⟨hk, p1, ow.keep k.o0 (fun g eg => ?_), ow.keep k.o1 (fun g eg => ?_), ho, p2, p3, p4, fun x hx => ir x (List.mem_append_left _ hx) (k.i0 x hx), fun x hx => ir x (List.mem_append_right _ hx) (k.i1 x hx), k.nt, k.n01, fun x hx e1 => ?_, k.s3, k.bk, k.bn, k.bt, k.br, k.ls, k.lt, k.lx⟩
  · obtain ⟨cs, hc⟩ := own_cells k.o0 eg
    exact hh g (ow.lt k.o0 eg).2 ((k.cells hc).2.2 (by decide)) (fun e => ow.type k.o2 hc (by decide) e.symm)
  · obtain ⟨cs, hc⟩ := own_cells k.o1 eg
    exact hh g (ow.lt k.o1 eg).2 ((k.cells hc).2.2 (by decide)) (fun e => ow.type k.o2 hc (by decide) e.symm)
  · rcases hw with e2 | e2
    · exact k.n2 x hx (e2 ▸ e1)
    · have := e2 x.1 e1
      have := (k.fp (.inr (.inr (.inr (.inr (.inr (.inr (.inr (.inr ⟨x, hx, rfl⟩))))))))).2
      omega
/-- an append, and its store into a cell of the maker -/
theorem pushed {W2 : World} {v : Value} {e n : Nat} {xs : List Value} {u : Value} {g' cap' j : Nat} (k : KI B kb f0 f1 q d W) (ho : W.ownsRow B e 1 v n xs) (he : e ≠ 113)
    (h2 : W2.ownsRow B e 1 (.slice (some ⟨g', 0, none⟩) (n + 1) cap') (n + 1) (xs ++ [u])) (hg : (W.alloc (.cells #[u] e)).grownBy W2 v.ownBlock) (hw : some g' = v.ownBlock ∨ (W.alloc (.cells #[u] e)).heap.size ≤ g') :
    W2.heap[kb]? = some (.cells (kcells f0 f1 q) 113 (0, 0)) ∧ (∀ g, g < W.heap.size → g ≠ kb → v.ownBlock ≠ some g → (W2.setCell ⟨kb, j, none⟩ (.slice (some ⟨g', 0, none⟩) (n + 1) cap')).heap[g]? = W.heap[g]?) ∧ (W2.setCell ⟨kb, j, none⟩ (.slice (some ⟨g', 0, none⟩) (n + 1) cap')).ownsRow B e 1 (.slice (some ⟨g', 0, none⟩) (n + 1) cap') (n + 1) (xs ++ [u]) ∧ ((Value.slice (some ⟨g', 0, none⟩) (n + 1) cap').ownBlock = v.ownBlock ∨ ∀ g, (Value.slice (some ⟨g', 0, none⟩) (n + 1) cap').ownBlock = some g → W.heap.size ≤ g) ∧ Below B W (W2.setCell ⟨kb, j, none⟩ (.slice (some ⟨g', 0, none⟩) (n + 1) cap')) := by
  have ba := below_alloc W (.cells #[u] e)
  have x2 : W2.heap[kb]? = some (.cells (kcells f0 f1 q) 113 (0, 0)) := (hg.block kb (Nat.lt_of_lt_of_le k.kl ba.size) (ow.type ho k.box he.symm)).trans ((ba.block kb k.kl).trans k.box)
  refine ⟨x2, fun g h1 h3 h4 => ?_, ow.keep h2 fun g eg => Below.heap_setCell _ _ _ _ (fun e => by have e' : g = kb := e; subst e'; exact ow.type h2 x2 he.symm eg.symm), ?_, ?_⟩
  · rw [Below.heap_setCell _ _ _ _ h3, hg.block g (Nat.lt_of_lt_of_le h1 ba.size) (fun e => h4 e.symm), ba.block g h1]
  · rcases hw with e | e
    · exact .inl e
    · refine .inr fun g eg => ?_
      simp [Value.ownBlock] at eg
      have := ba.size
      omega
  · have hB : B ≤ W.heap.size := Nat.le_trans k.bk (Nat.le_of_lt k.kl)
    exact (((Below.refl B W).trans (ba.mono hB)).grown hg (Nat.le_trans hB ba.size) (fun g eg => (ow.lt ho eg).1)).setCell (p := ⟨kb, j, none⟩) k.bk _
end
end Go.Proofs.Ytafcekognhkmgaa.mk
