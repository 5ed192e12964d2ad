/-
  Plain: a hash as three lists of numbers, the place of a key, which hash may be, what one tells; and such a hash in memory.
-/
import Derived.Test.YtfpkjgalokbkcaaIa
import Derived.Laws.IdiomArrays
import Derived.Deep.Slices
import Derived.ChangeOld
import Derived.OpenShut
namespace Go.Proofs.Ytfpkjgalokbkcaa.hs
open Go.ChangeShapes Go.WideShapes Go.ChangeAt Go.RowKit
set_option linter.unusedVariables false

theorem below_alloc (w : World) (o : Obj) : Below w.heap.size w (w.alloc o) := (Below.refl _ _).alloc (Nat.le_refl _) o
theorem chain {w w1 w2 : World} (h1 : Below w.heap.size w w1) (h2 : Below w1.heap.size w1 w2) : Below w.heap.size w w2 := h1.trans (h2.mono h1.size)
theorem below_drewN {B : Nat} {a w : World} (h : Below B a w) (n : Nat) : Below B a (w.drewN n) := ⟨h.os, h.tape, h.output, h.size, h.block⟩

structure Hh where
  seeds : List Nat
  keys : List Nat
  vals : List Nat
/-- the place at which halves end -/
def half (ks : List Nat) (k lo hi : Nat) : Nat :=
  if lo < hi then (if ks.getD ((lo + hi) / 2) 0 < k then half ks k ((lo + hi) / 2 + 1) hi else half ks k lo ((lo + hi) / 2)) else lo
termination_by hi - lo
theorem half_end (ks : List Nat) (k lo hi : Nat) (h : ¬ lo < hi) : half ks k lo hi = lo := by rw [half, if_neg h]
theorem half_up (ks : List Nat) (k lo hi : Nat) (h : lo < hi) (h2 : ks.getD ((lo + hi) / 2) 0 < k) : half ks k lo hi = half ks k ((lo + hi) / 2 + 1) hi := by rw [half, if_pos h, if_pos h2]
theorem half_down (ks : List Nat) (k lo hi : Nat) (h : lo < hi) (h2 : ¬ ks.getD ((lo + hi) / 2) 0 < k) : half ks k lo hi = half ks k lo ((lo + hi) / 2) := by rw [half, if_pos h, if_neg h2]
theorem half_le (ks : List Nat) (k : Nat) : ∀ (d lo hi : Nat), hi - lo ≤ d → lo ≤ hi → half ks k lo hi ≤ hi := by
  intro d
  induction d with
  | zero => intro lo hi h1 h2; rw [half_end _ _ _ _ (by omega)]; exact h2
  | succ d ih =>
    intro lo hi h1 h2
    by_cases h : lo < hi
    · by_cases h3 : ks.getD ((lo + hi) / 2) 0 < k
      · rw [half_up _ _ _ _ h h3]; exact ih _ _ (by omega) (by omega)
      · rw [half_down _ _ _ _ h h3]; exact Nat.le_trans (ih _ _ (by omega) (by omega)) (by omega)
    · rw [half_end _ _ _ _ h]; exact h2
/-- each is above the one ahead -/
def Rise (ks : List Nat) : Prop := ∀ i, i + 1 < ks.length → ks.getD i 0 < ks.getD (i + 1) 0
theorem Rise.lt {ks : List Nat} (h : Rise ks) : ∀ (d i : Nat), i + d + 1 < ks.length → ks.getD i 0 < ks.getD (i + d + 1) 0 := by
  intro d
  induction d with
  | zero => intro i hi; exact h i hi
  | succ d ih => intro i hi; exact Nat.lt_trans (ih i (by omega)) (h (i + d + 1) hi)
theorem Rise.lt' {ks : List Nat} (h : Rise ks) {i j : Nat} (hij : i < j) (hj : j < ks.length) : ks.getD i 0 < ks.getD j 0 := by
  obtain ⟨d, rfl⟩ : ∃ d, j = i + d + 1 := ⟨j - i - 1, by omega⟩
  exact h.lt d i hj
theorem half_finds {ks : List Nat} (h : Rise ks) {i : Nat} (hil : i < ks.length) : ∀ (d lo hi : Nat), hi - lo ≤ d → lo ≤ i → i ≤ hi → hi ≤ ks.length → half ks (ks.getD i 0) lo hi = i := by
  intro d
  induction d with
  | zero => intro lo hi h1 h2 h3 h4; rw [half_end _ _ _ _ (by omega)]; omega
  | succ d ih =>
    intro lo hi h1 h2 h3 h4
    by_cases hlt : lo < hi
    · by_cases h5 : ks.getD ((lo + hi) / 2) 0 < ks.getD i 0
      · rw [half_up _ _ _ _ hlt h5]
        refine ih _ _ (by omega) ?_ h3 h4
        refine Nat.lt_of_not_le fun hc => ?_
        rcases Nat.lt_or_eq_of_le hc with hc | hc
        · exact absurd (h.lt' hc (by omega)) (by omega)
        · rw [hc] at h5; omega
      · rw [half_down _ _ _ _ hlt h5]
        refine ih _ _ (by omega) h2 ?_ (by omega)
        refine Nat.le_of_not_lt fun hc => h5 (h.lt' hc hil)
    · rw [half_end _ _ _ _ hlt]; omega

def place (h : Hh) (k : Nat) : Nat := if h.seeds.length = 0 then half h.keys k 0 h.keys.length else mix (h.seeds.getD (mix 0 k % h.seeds.length) 0) k % h.keys.length
theorem place_le (h : Hh) (k : Nat) (hn : 0 < h.keys.length) : place h k ≤ h.keys.length := by
  unfold place
  split
  · exact half_le _ _ _ _ _ (Nat.le_refl _) (by omega)
  · exact Nat.le_of_lt (Nat.mod_lt _ hn)
/-- each key stands at its place -/
def Home (h : Hh) : Prop := ∀ i, i < h.keys.length → place h (h.keys.getD i 0) = i
theorem Rise.home {h : Hh} (hr : Rise h.keys) (hs : h.seeds.length = 0) : Home h := fun i hi => by
  unfold place
  rw [if_pos hs]
  exact half_finds hr hi _ _ _ (Nat.le_refl _) (by omega) (by omega) (Nat.le_refl _)
/-- it may be -/
def Good (h : Hh) : Prop := h.keys.length ≤ 4096 ∧ h.seeds.length ≤ 4096 ∧ h.vals.length = h.keys.length ∧ (h.seeds.length = 0 → Rise h.keys) ∧ (h.seeds.length ≠ 0 → 0 < h.keys.length ∧ Home h)
noncomputable instance (h : Hh) : Decidable (Good h) := Classical.propDecidable _
noncomputable def good (h : Hh) : Bool := decide (Good h)
theorem good_yes {h : Hh} (hg : Good h) : good h = true := by unfold good; exact decide_eq_true hg
theorem good_no {h : Hh} (hg : ¬ Good h) : good h = false := by unfold good; exact decide_eq_false hg
/-- what one tells of a key -/
def getB (h : Hh) (k : Nat) : Bool := if h.keys.length = 0 ∨ h.vals.length ≠ h.keys.length then false else decide (place h k < h.keys.length ∧ h.keys.getD (place h k) 0 = k)
def getV (h : Hh) (k : Nat) : Nat := if getB h k = true then h.vals.getD (place h k) 0 else 0
theorem getB_iff {h : Hh} {k : Nat} : getB h k = true ↔ h.keys.length ≠ 0 ∧ h.vals.length = h.keys.length ∧ place h k < h.keys.length ∧ h.keys.getD (place h k) 0 = k := by
  unfold getB
  split
  · rename_i hh
    constructor
    · intro hc; cases hc
    · rintro ⟨h1, h2, _⟩; rcases hh with hh | hh
      · exact absurd hh h1
      · exact absurd h2 hh
  · rename_i hh
    rw [decide_eq_true_iff]
    constructor
    · rintro ⟨h1, h2⟩; exact ⟨fun e => hh (.inl e), Decidable.byContradiction fun e => hh (.inr e), h1, h2⟩
    · rintro ⟨_, _, h1, h2⟩; exact ⟨h1, h2⟩
theorem getV_yes {h : Hh} {k : Nat} (hb : getB h k = true) : getV h k = h.vals.getD (place h k) 0 := by unfold getV; rw [if_pos hb]
theorem getV_no {h : Hh} {k : Nat} (hb : getB h k = false) : getV h k = 0 := by unfold getV; rw [if_neg (by rw [hb]; decide)]

/-! in memory -/
abbrev In (w : World) (b : Nat) : Prop := b < w.heap.size
/-- a row of one cell each, in blocks of which P is said -/
structure Row {α : Type} (P : Nat → Prop) (w : World) (g : α → Value) (o : Option Addr) (cap : Nat) (l : List α) : Prop where
  fit : l.length ≤ cap
  top : cap ≤ 9223372036854775807
  lie : ∀ i (h : i < l.length), ∃ b off, o = some ⟨b, off, none⟩ ∧ P b ∧ w.cell? ⟨b, off + i, none⟩ = some (g l[i])
theorem Row.carry {α : Type} {P Q : Nat → Prop} {w w' : World} {g : α → Value} {o : Option Addr} {cap : Nat} {l : List α} (h : Row P w g o cap l) (hk : ∀ b, P b → w'.heap[b]? = w.heap[b]?) (hq : ∀ b, P b → Q b) : Row Q w' g o cap l :=
  ⟨h.fit, h.top, fun i hi => by
    obtain ⟨b, off, e, hp, hc⟩ := h.lie i hi
    exact ⟨b, off, e, hq b hp, by simp only [World.cell?, hk b hp] at hc ⊢; exact hc⟩⟩
theorem Row.later {α : Type} {w w' : World} {g : α → Value} {o : Option Addr} {cap : Nat} {l : List α} (h : Row (In w) w g o cap l) (b : Below w.heap.size w w') : Row (In w') w' g o cap l :=
  h.carry (fun g hg => b.block g hg) (fun g hg => Nat.lt_of_lt_of_le hg b.size)
abbrev qv (x : Nat) : Value := .int .u64 (x : Int)
abbrev dv (x : Nat) : Value := .int .u32 (x : Int)
abbrev hv16 (x : Nat) : Value := .int .u16 (x : Int)
theorem getD_at {l : List Nat} {i : Nat} (h : i < l.length) : l[i] = l.getD i 0 := by simp [List.getD, h]
theorem Row.at {P : Nat → Prop} {w : World} {g : Nat → Value} {o : Option Addr} {cap : Nat} {l : List Nat} (h : Row P w g o cap l) {i : Nat} (hi : i < l.length) : ∃ b off, o = some ⟨b, off, none⟩ ∧ P b ∧ w.cell? ⟨b, off + i, none⟩ = some (g (l.getD i 0)) := by
  obtain ⟨b, off, e, hp, hc⟩ := h.lie i hi
  rw [getD_at hi] at hc
  exact ⟨b, off, e, hp, hc⟩
theorem getD_lt {l : List Nat} {M : Nat} (h : ∀ x ∈ l, x < M) (hM : 0 < M) (i : Nat) : l.getD i 0 < M := by
  by_cases hi : i < l.length
  · rw [← getD_at hi]; exact h _ (List.getElem_mem hi)
  · simp [List.getD, hi]; exact hM
structure Hp where
  so : Option Addr
  sc : Nat
  ko : Option Addr
  kc : Nat
  vo : Option Addr
  vc : Nat
abbrev hv (h : Hh) (p : Hp) : Array Value := #[.slice p.so h.seeds.length p.sc, .slice p.ko h.keys.length p.kc, .slice p.vo h.vals.length p.vc]
structure HAt (P : Nat → Prop) (w : World) (h : Hh) (p : Hp) : Prop where
  rs : Row P w dv p.so p.sc h.seeds
  rk : Row P w qv p.ko p.kc h.keys
  rv : Row P w qv p.vo p.vc h.vals
  ds : ∀ x ∈ h.seeds, x < 4294967296
  dk : ∀ x ∈ h.keys, x < 18446744073709551616
  dv : ∀ x ∈ h.vals, x < 18446744073709551616
theorem HAt.carry {P Q : Nat → Prop} {w w' : World} {m : Hh} {p : Hp} (h : HAt P w m p) (hk : ∀ b, P b → w'.heap[b]? = w.heap[b]?) (hq : ∀ b, P b → Q b) : HAt Q w' m p :=
  ⟨h.rs.carry hk hq, h.rk.carry hk hq, h.rv.carry hk hq, h.ds, h.dk, h.dv⟩
theorem HAt.later {w w' : World} {m : Hh} {p : Hp} (h : HAt (In w) w m p) (b : Below w.heap.size w w') : HAt (In w') w' m p :=
  h.carry (fun k hk => b.block k hk) (fun k hk => Nat.lt_of_lt_of_le hk b.size)
def Box (w : World) (g : Nat) (m : Hh) (p : Hp) : Prop := w.heap[g]? = some (.cells (hv m p) 25 (0, 0))
section
variable {w w' : World} {g : Nat} {m : Hh} {p : Hp}
theorem Box.lt (h : Box w g m p) : g < w.heap.size := (Array.getElem?_eq_some_iff.1 h).1
theorem Box.later (h : Box w g m p) (b : Below w.heap.size w w') : Box w' g m p := by unfold Box; rw [b.block g h.lt]; exact h
theorem Box.c0 (h : Box w g m p) : w.cell? ⟨g, 0, none⟩ = some (.slice p.so m.seeds.length p.sc) := by rw [Lib.cell_of_heap h]; rfl
theorem Box.c1 (h : Box w g m p) : w.cell? ⟨g, 1, none⟩ = some (.slice p.ko m.keys.length p.kc) := by rw [Lib.cell_of_heap h]; rfl
theorem Box.c2 (h : Box w g m p) : w.cell? ⟨g, 2, none⟩ = some (.slice p.vo m.vals.length p.vc) := by rw [Lib.cell_of_heap h]; rfl
end
theorem box_new (w : World) (m : Hh) (p : Hp) : Box (w.alloc (.cells (hv m p) 25)) w.heap.size m p := heap_alloc_new w _
theorem info25 : (Try.prog.info? 25).map (·.size) = some 3 := by kernel_rfl

section
variable {H : Type} {enc : TypeId × Value → H} {W : World} {sp : Nat → Bool} {held : Bool}
theorem row_of {α : Type} [Inhabited α] (g : α → Value) (Pr : α → Prop) {t e : TypeId} (ht : Try.prog.underlying t = some (.slice e)) (hc : Try.prog.cellsOf e = 1)
    (dec : ∀ n V y, DataW.trod enc Try.prog W 0 sp held n e [V] = some y → ∃ x, V = g x ∧ Pr x) {fuel : Nat} {cs : List Value} {x : DataW H × List MemPlace} (h : DataW.trod enc Try.prog W 0 sp held fuel t cs = some x) :
    ∃ (o : Option Addr) (cap : Nat) (l : List α), cs = [.slice o l.length cap] ∧ Row (In W) W g o cap l ∧ (∀ x ∈ l, Pr x) ∧ (l = [] ∨ ∃ es sp, x.1 = .slice es sp ∧ es.length = l.length) := by
  rcases Deep.open_slice1 ht hc h with ⟨rfl, _⟩ | ⟨a, len, cap, m, n, V, D, Pl, rfl, hb, hl, hm, hmm, hxx, hV⟩
  · exact ⟨none, 0, [], rfl, ⟨Nat.le_refl _, by omega, fun i hi => by simp at hi⟩, by simp, .inl rfl⟩
  · have hlm : len ≤ m := by rw [hmm]; split <;> omega
    obtain ⟨f, hf⟩ := Deep.choose_lt (α := α) (p := fun i x => V i = g x ∧ Pr x) (fun i (hi : i < len) => dec n (V i) _ (hV i (by omega)).2)
    have hln : ((List.range len).map f).length = len := by simp
    unfold maxLen at hm
    refine ⟨some a, cap, (List.range len).map f, by rw [hln], ⟨by rw [hln]; exact hl, hm, fun i hi => ?_⟩, fun x hx => ?_, .inr ⟨_, _, by rw [hxx], by simp⟩⟩
    · rw [hln] at hi
      obtain ⟨b, off, spot⟩ := a
      have h1 := (hV i (by omega)).1
      have hspot : spot = none := by simpa [Addr.add] using World.cell?_spot (hV 0 (by omega)).1
      subst hspot
      have hadd : (⟨b, off, none⟩ : Addr).add i = ⟨b, off + i, none⟩ := by simp [Addr.add]
      rw [hadd] at h1
      refine ⟨b, off, rfl, block_lt_of_cell h1, ?_⟩
      rw [h1, (hf i hi).1]
      simp
    · obtain ⟨i, hi, rfl⟩ := List.mem_map.1 hx
      exact (hf i (List.mem_range.1 hi)).2
theorem u64_range {z : Int} (h : (Lit.int .u64 z).wf = true) : 0 ≤ z ∧ z < 18446744073709551616 := by
  simp [Lit.wf] at h
  have h1 : IntKind.u64.min = 0 := by kernel_rfl
  have h2 : IntKind.u64.max = 18446744073709551615 := by kernel_rfl
  rw [h1, h2] at h
  omega
theorem u32_range {z : Int} (h : (Lit.int .u32 z).wf = true) : 0 ≤ z ∧ z < 4294967296 := by
  simp [Lit.wf] at h
  have h1 : IntKind.u32.min = 0 := by kernel_rfl
  have h2 : IntKind.u32.max = 4294967295 := by kernel_rfl
  rw [h1, h2] at h
  omega
theorem u16_range {z : Int} (h : (Lit.int .u16 z).wf = true) : 0 ≤ z ∧ z < 65536 := by
  simp [Lit.wf] at h
  have h1 : IntKind.u16.min = 0 := by kernel_rfl
  have h2 : IntKind.u16.max = 65535 := by kernel_rfl
  rw [h1, h2] at h
  omega
theorem nums_of {fuel : Nat} {cs : List Value} {x : DataW H × List MemPlace} (h : DataW.trod enc Try.prog W 0 sp held fuel 23 cs = some x) :
    ∃ (o : Option Addr) (cap : Nat) (l : List Nat), cs = [.slice o l.length cap] ∧ Row (In W) W qv o cap l ∧ (∀ x ∈ l, x < 18446744073709551616) ∧ (l = [] ∨ ∃ es sp, x.1 = .slice es sp ∧ es.length = l.length) :=
  row_of qv (fun x => x < 18446744073709551616) Try.underlying23 (by kernel_rfl) (fun n V y h => by
    obtain ⟨z, e, h1, h2⟩ := DataW.trod_int Try.underlying27 h
    simp at e
    have h3 := u64_range h2
    exact ⟨z.toNat, by rw [e]; show _ = Value.int _ ((z.toNat : Nat) : Int); rw [Int.toNat_of_nonneg h3.1], by omega⟩) h
theorem seeds_of {fuel : Nat} {cs : List Value} {x : DataW H × List MemPlace} (h : DataW.trod enc Try.prog W 0 sp held fuel 22 cs = some x) :
    ∃ (o : Option Addr) (cap : Nat) (l : List Nat), cs = [.slice o l.length cap] ∧ Row (In W) W dv o cap l ∧ (∀ x ∈ l, x < 4294967296) ∧ (l = [] ∨ ∃ es sp, x.1 = .slice es sp ∧ es.length = l.length) :=
  row_of dv (fun x => x < 4294967296) Try.underlying22 (by kernel_rfl) (fun n V y h => by
    obtain ⟨z, e, h1, h2⟩ := DataW.trod_int Try.underlying26 h
    simp at e
    have h3 := u32_range h2
    exact ⟨z.toNat, by rw [e]; show _ = Value.int _ ((z.toNat : Nat) : Int); rw [Int.toNat_of_nonneg h3.1], by omega⟩) h
theorem steps_of {fuel : Nat} {cs : List Value} {x : DataW H × List MemPlace} (h : DataW.trod enc Try.prog W 0 sp held fuel 43 cs = some x) :
    ∃ (o : Option Addr) (cap : Nat) (l : List Nat), cs = [.slice o l.length cap] ∧ Row (In W) W hv16 o cap l ∧ (∀ x ∈ l, x < 65536) ∧ (l = [] ∨ ∃ es sp, x.1 = .slice es sp ∧ es.length = l.length) :=
  row_of hv16 (fun x => x < 65536) Try.underlying43 (by kernel_rfl) (fun n V y h => by
    obtain ⟨z, e, h1, h2⟩ := DataW.trod_int Try.underlying44 h
    simp at e
    have h3 := u16_range h2
    exact ⟨z.toNat, by rw [e]; show _ = Value.int _ ((z.toNat : Nat) : Int); rw [Int.toNat_of_nonneg h3.1], by omega⟩) h
set_option maxRecDepth 100000 in
theorem open25 {base : Nat} {v : Value} {d : DataW H} {q : List MemPlace} (hok : Value.okWide Try.prog W .any base 25 v) (h : DataW.Trod enc Try.prog W 0 (fun _ => true) true 25 v d q) :
    ∃ (m : Hh) (p : Hp), v = .agg (hv m p) ∧ HAt (In W) W m p ∧ ((d.weights Try.prog 25).all (· ≤ reachBytes) = true → m.keys.length * 8 ≤ 140737488351232) := by
  unfold Value.okWide at hok
  rw [Try.underlying25] at hok
  obtain ⟨cs, rfl, _⟩ := hok
  obtain ⟨fuel, hf⟩ := h
  obtain ⟨xs, n, hfu, hx, hl, hlen, hf⟩ := DataW.trod_struct Try.underlying25 hf
  have c25 : Try.prog.cellsOf 25 = 3 := by kernel_rfl
  have c22 : Try.prog.cellsOf 22 = 1 := by kernel_rfl
  have c23 : Try.prog.cellsOf 23 = 1 := by kernel_rfl
  rw [c25] at hl
  have hsz : cs.size = 3 := by simpa [Value.cells] using hl
  match xs, hlen with
  | [y0, y1, y2], _ =>
    have f0 : DataW.trod enc Try.prog W 0 _ _ n 22 (List.take (Try.prog.cellsOf 22) (List.drop 0 _)) = some y0 := hf 0 _ rfl
    have f1 : DataW.trod enc Try.prog W 0 _ _ n 23 (List.take (Try.prog.cellsOf 23) (List.drop 1 _)) = some y1 := hf 1 _ rfl
    have f2 : DataW.trod enc Try.prog W 0 _ _ n 23 (List.take (Try.prog.cellsOf 23) (List.drop 2 _)) = some y2 := hf 2 _ rfl
    rw [c22] at f0
    rw [c23] at f1 f2
    obtain ⟨o0, p0, l0, e0, r0, d0, x0⟩ := seeds_of f0
    obtain ⟨o1, p1, l1, e1, r1, d1, x1⟩ := nums_of f1
    obtain ⟨o2, p2, l2, e2, r2, d2, x2⟩ := nums_of f2
    have g0 := congrArg (·[0]?) e0
    have g1 := congrArg (·[0]?) e1
    have g2 := congrArg (·[0]?) e2
    simp [Value.cells] at g0
    simp [Value.cells, List.getElem?_drop] at g1 g2
    refine ⟨⟨l0, l1, l2⟩, ⟨o0, p0, o1, p1, o2, p2⟩, ?_, ⟨r0, r1, r2, d0, d1, d2⟩, ?_⟩
    rotate_left
    · intro hw
      simp only [Prod.mk.injEq] at hx
      rw [hx.1] at hw
      rcases x1 with x1 | ⟨es, spr, x1, x2⟩
      · rw [x1]; simp
      · have hm : (es.length + spr.length) * Try.prog.bytesOf 27 ∈ (DataW.agg (List.map (fun x : DataW H × List MemPlace => x.1) [y0, y1, y2])).weights Try.prog 25 := by
          simp [DataW.weights, Try.underlying25, DataW.weightsEach, x1, Try.underlying23]
        have := of_decide_eq_true (List.all_eq_true.1 hw _ hm)
        rw [show Try.prog.bytesOf 27 = 8 by kernel_rfl, x2] at this
        simp only [reachBytes] at this
        show l1.length * 8 ≤ _
        omega
    congr 1
    apply Array.ext_getElem?
    intro i
    match i with
    | 0 => rw [g0]; rfl
    | 1 => rw [g1]; rfl
    | 2 => rw [g2]; rfl
    | (k + 3) => rw [Array.getElem?_eq_none (by omega), Array.getElem?_eq_none (by simp)]
end
end Go.Proofs.Ytfpkjgalokbkcaa.hs
