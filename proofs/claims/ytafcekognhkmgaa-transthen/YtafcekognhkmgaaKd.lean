/-
  Over this program: what is being made (maker[pair]) in memory, and what is kept and changed of it.
-/
import Derived.Test.YtafcekognhkmgaaKa
import Derived.Test.YtafcekognhkmgaaTq
import Derived.Maps.OwnSet
import Derived.Maps.OwnIn
import Derived.DeepKeys4
import Derived.MapViews
namespace Go.Proofs.Ytafcekognhkmgaa.mk
open Go.ChangeShapes Go.WideShapes Go.ChangeAt Go.RowKit Go.Shelf Go.Maps
open tr
set_option linter.unusedVariables false

/-- a state: two numbers -/
abbrev St := Nat × Nat
def sc (s : St) : List Value := [.int .i64 (s.1 : Int), .int .i64 (s.2 : Int)]
def scs (l : List St) : List Value := l.flatMap sc
theorem scs_len (l : List St) : (scs l).length = l.length * 2 := by
  induction l with
  | nil => rfl
  | cons s l ih => simp only [scs, List.flatMap_cons, List.length_append] at ih ⊢; rw [ih]; simp [sc]; omega
theorem scs_one (l : List St) (s : St) : scs (l ++ [s]) = scs l ++ sc s := by simp [scs]
theorem scs_at (l : List St) (i : Nat) (h : i < l.length) : (scs l)[i * 2]? = some (.int .i64 (l[i].1 : Int)) ∧ (scs l)[i * 2 + 1]? = some (.int .i64 (l[i].2 : Int)) := by
  induction l generalizing i with
  | nil => simp at h
  | cons s l ih =>
    cases i with
    | zero => exact ⟨rfl, rfl⟩
    | succ i =>
      have := ih i (by simpa using h)
      have e1 : (i + 1) * 2 = i * 2 + 1 + 1 := by omega
      rw [e1]
      exact this
def svs (l : List ByteArray) : List Value := l.map Value.string
def rcs (l : List (Nat × List Int)) : List Value := l.map fun x => .slice (some ⟨x.1, 0, none⟩) 256 256
/-- what a map of numbers holds -/
structure MapN {κ : Type} (key : κ → Lit) (Ok : κ → Prop) (l : List κ) (D : DataW Unit) : Prop where
  has : ∀ k, Ok k → (Maps.has D (key k) = true ↔ k ∈ l)
  at' : ∀ (i : Nat) k, l[i]? = some k → D.atKey (key k) (.lit (.int .i64 0)) = .lit (.int .i64 (i : Int))
theorem mapN_nil {κ : Type} (key : κ → Lit) (Ok : κ → Prop) : MapN key Ok [] (.map []) := ⟨fun k _ => ⟨fun h => (by cases h), fun h => (by cases h)⟩, fun i k h => by simp at h⟩
theorem MapN.put {κ : Type} {key : κ → Lit} {Ok : κ → Prop} {l : List κ} {D : DataW Unit} (h : MapN key Ok l D) (hT : Tidy D) (inj : ∀ x y, Ok x → Ok y → key x = key y → x = y) (hl : ∀ x ∈ l, Ok x) {k : κ} (hk : Ok k) (hlit : WideAt.IsKeyLit (key k)) (hn : k ∉ l) : MapN key Ok (l ++ [k]) (D.put (key k) (.lit (.int .i64 (l.length : Int)))) := by
  refine ⟨fun x hx => ?_, fun i x hi => ?_⟩
  · by_cases e : x = k
    · subst e
      rw [has_put_same hT.isMap hlit]
      simp
    · rw [has_put_other (fun e2 => e (inj x k hx hk e2)), h.has x hx]
      simp [e]
  · by_cases h2 : i < l.length
    · rw [List.getElem?_append_left h2] at hi
      have hm := List.mem_of_getElem? hi
      rw [atKey_put_other (fun e2 => hn (by rw [← inj x k (hl x hm) hk e2]; exact hm))]
      exact h.at' i x hi
    · have h3 := (List.getElem?_eq_some_iff.1 hi).1
      have e : i = l.length := by simp at h3; omega
      subst e
      rw [List.getElem?_append_right (Nat.le_refl _)] at hi
      simp at hi
      subst hi
      rw [atKey_put_same hT.isMap hlit]

theorem laidOut : laidOutB Try.prog = true := by kernel_rfl
theorem wide76 : (match Try.prog.underlying 76 with | some (.array _ _) | some (.struct _) => true | _ => false) = true := by rw [Try.underlying76]
set_option maxRecDepth 100000 in
theorem law76 : Keyed Try.prog 76 := Keyed.of_law (deep_law_laid laidOut (m := 2) (by omega) (of_decide_eq_true (by kernel_rfl)) (by kernel_rfl) wide76)
theorem law9 : Keyed Try.prog 9 := string_keyed Try.underlying9
theorem zero3 (w : World) : (zeroValue 3).run Try.prog w = .ok (.int .i64 0) w := by kernel_rfl
def OkS (s : St) : Prop := s.1 ≤ 1000000 ∧ s.2 ≤ 1000000
def OkT (t : ByteArray) : Prop := t.size ≤ 100000000
def kp (s : St) : Lit := (DataW.agg (H := Unit) [.lit (.int .i64 (s.1 : Int)), .lit (.int .i64 (s.2 : Int))]).asKey
def kt (t : ByteArray) : Lit := .string t.data.toList
set_option maxRecDepth 100000 in
theorem key76 (s : St) (h : OkS s) : keyOf Try.prog 76 (.agg #[.int .i64 (s.1 : Int), .int .i64 (s.2 : Int)]) = some (kp s) := by
  have hf : (Value.agg #[.int .i64 (s.1 : Int), .int .i64 (s.2 : Int)]).formed Try.prog 76 = true := by
    have : Try.prog.cellsOf 76 = 2 := by kernel_rfl
    simp [Value.formed, Try.underlying76, this]
  have hd : DataW.Trod (H := Unit) (fun _ => ()) Try.prog (default : World) 0 (fun _ => true) true 76 (.agg #[.int .i64 (s.1 : Int), .int .i64 (s.2 : Int)]) (.agg [.lit (.int .i64 (s.1 : Int)), .lit (.int .i64 (s.2 : Int))]) [] := by
    refine ⟨2, ?_⟩
    have c76 : Try.prog.cellsOf 76 = 2 := by kernel_rfl
    have c3 : Try.prog.cellsOf 3 = 1 := by kernel_rfl
    simp [Value.cells, DataW.trod, Try.underlying76, Try.underlying3, c76, c3, WalkArith.wf_i64 (show -9223372036854775808 ≤ (s.1 : Int) ∧ (s.1 : Int) ≤ 9223372036854775807 by have := h.1; omega), WalkArith.wf_i64 (show -9223372036854775808 ≤ (s.2 : Int) ∧ (s.2 : Int) ≤ 9223372036854775807 by have := h.2; omega)]
  obtain ⟨h, _⟩ := keyOf_asKey (by kernel_rfl) wide76 hf hd
  exact h
theorem kp_inj (s r : St) (hs : OkS s) (hr : OkS r) (h : kp s = kp r) : s = r := by
  have h1 := key76 s hs
  have h2 := key76 r hr
  rw [h] at h1
  have := law76.inj h1 h2
  obtain ⟨a, b⟩ := s
  obtain ⟨c, d⟩ := r
  simp at this
  simp only [Prod.mk.injEq]
  omega
theorem key9 (t : ByteArray) (h : OkT t) : keyOf Try.prog 9 (.string t) = some (kt t) := Go.WideMaps.keyOf_string_mk (P := Try.prog) Try.underlying9 (by unfold OkT at h; unfold maxLen; omega)
theorem kt_inj (s t : ByteArray) (hs : OkT s) (ht : OkT t) (h : kt s = kt t) : s = t := by
  apply ByteArray.ext
  exact Array.toList_inj.1 (Lit.string.inj h)

structure Kv where
  sv : Value
  nm : Nat
  tm : Nat
  lg : Nat
  v0 : Value
  v1 : Value
  v2 : Value
  v3 : Value
structure Kq where
  sts : List St
  txs : List ByteArray
  r0 : List (Nat × List Int)
  r1 : List (Nat × List Int)
  fn : List Nat
def kcells (f0 f1 : Value) (q : Kv) : Array Value := #[f0, f1, q.sv, .map (some q.nm), .map (some q.tm), .int .i64 (q.lg : Int), q.v0, q.v1, q.v2, q.v3]
structure KI (B kb : Nat) (f0 f1 : Value) (q : Kv) (d : Kq) (W : World) : Prop where
  box : W.heap[kb]? = some (.cells (kcells f0 f1 q) 113 (0, 0))
  os : W.ownsRow B 76 2 q.sv d.sts.length (scs d.sts)
  o0 : W.ownsRow B 23 1 q.v0 d.r0.length (rcs d.r0)
  o1 : W.ownsRow B 23 1 q.v1 d.r1.length (rcs d.r1)
  o2 : W.ownsRow B 3 1 q.v2 d.fn.length (icl d.fn)
  o3 : W.ownsRow B 9 1 q.v3 d.txs.length (svs d.txs)
  mn : ∃ D, W.ownsMap Try.prog 76 (plainElem (H := Unit) Try.prog 3) q.nm d.sts.length D ∧ MapN kp OkS d.sts D
  mt : ∃ D, W.ownsMap Try.prog 9 (plainElem (H := Unit) Try.prog 3) q.tm d.txs.length D ∧ MapN kt OkT d.txs D
  i0 : ∀ x ∈ d.r0, IRow W x.1 x.2
  i1 : ∀ x ∈ d.r1, IRow W x.1 x.2
  nt : q.nm ≠ q.tm
  n01 : ∀ g, q.v0.ownBlock = some g → q.v1.ownBlock ≠ some g
  n2 : ∀ x ∈ d.r0 ++ d.r1, q.v2.ownBlock ≠ some x.1
  s3 : ∀ g, q.sv.ownBlock = some g → q.v3.ownBlock ≠ some g
  bk : B ≤ kb
  bn : B ≤ q.nm
  bt : B ≤ q.tm
  br : ∀ x ∈ d.r0 ++ d.r1, B ≤ x.1
  ls : ∀ s ∈ d.sts, OkS s
  lt : ∀ t ∈ d.txs, OkT t ∧ t.size ≤ q.lg
  lx : q.lg = 0 ∨ ∃ t ∈ d.txs, t.size = q.lg
section
variable {B kb : Nat} {f0 f1 : Value} {q : Kv} {d : Kq} {W W' : World}
theorem KI.kl (k : KI B kb f0 f1 q d W) : kb < W.heap.size := (Array.getElem?_eq_some_iff.1 k.box).1
theorem KI.nobj (k : KI B kb f0 f1 q d W) : ∃ es clock, W.heap[q.nm]? = some (.map es clock) := by
  obtain ⟨D, ⟨es, clock, hb, _⟩, _⟩ := k.mn
  exact ⟨es, clock, hb⟩
theorem KI.tobj (k : KI B kb f0 f1 q d W) : ∃ es clock, W.heap[q.tm]? = some (.map es clock) := by
  obtain ⟨D, ⟨es, clock, hb, _⟩, _⟩ := k.mt
  exact ⟨es, clock, hb⟩
theorem map_keep {K : Nat} {m n : Nat} {D : DataW Unit} (hm : W.ownsMap Try.prog K (plainElem (H := Unit) Try.prog 3) m n D) (e : W'.heap[m]? = W.heap[m]?) : W'.ownsMap Try.prog K (plainElem (H := Unit) Try.prog 3) m n D := by
  obtain ⟨es, clock, hb, hr⟩ := hm
  exact ⟨es, clock, e.trans hb, hr⟩
theorem own_ne {e1 e2 s1 s2 n1 n2 : Nat} {v1 v2 : Value} {x1 x2 : List Value} (h1 : W.ownsRow B e1 s1 v1 n1 x1) (h2 : W.ownsRow B e2 s2 v2 n2 x2) (hne : e1 ≠ e2) (g : Nat) (hg : v1.ownBlock = some g) : v2.ownBlock ≠ some g := by
  rcases h1.2 with ⟨rfl, _⟩ | ⟨gg, cap, cur, rfl, _, hgg, _⟩
  · cases hg
  · cases hg
    exact fun e => ow.type h2 hgg hne e.symm
/-- the blocks that belong to it -/
def Fp (kb : Nat) (q : Kv) (d : Kq) (g : Nat) : Prop := g = kb ∨ g = q.nm ∨ g = q.tm ∨ q.sv.ownBlock = some g ∨ q.v0.ownBlock = some g ∨ q.v1.ownBlock = some g ∨ q.v2.ownBlock = some g ∨ q.v3.ownBlock = some g ∨ ∃ x ∈ d.r0 ++ d.r1, x.1 = g
theorem KI.fp (k : KI B kb f0 f1 q d W) {g : Nat} (h : Fp kb q d g) : B ≤ g ∧ g < W.heap.size := by
  rcases h with rfl | rfl | rfl | h | h | h | h | h | ⟨x, hx, rfl⟩
  · exact ⟨k.bk, k.kl⟩
  · obtain ⟨es, c, h⟩ := k.nobj; exact ⟨k.bn, (Array.getElem?_eq_some_iff.1 h).1⟩
  · obtain ⟨es, c, h⟩ := k.tobj; exact ⟨k.bt, (Array.getElem?_eq_some_iff.1 h).1⟩
  · exact ow.lt k.os h
  · exact ow.lt k.o0 h
  · exact ow.lt k.o1 h
  · exact ow.lt k.o2 h
  · exact ow.lt k.o3 h
  · refine ⟨k.br x hx, ?_⟩
    rcases List.mem_append.1 hx with h | h
    · exact (k.i0 x h).lt
    · exact (k.i1 x h).lt
theorem KI.keep (k : KI B kb f0 f1 q d W) (hh : ∀ g, Fp kb q d g → W'.heap[g]? = W.heap[g]?) : KI B kb f0 f1 q d W' := by
  obtain ⟨D1, m1, m2⟩ := k.mn
  obtain ⟨D2, m3, m4⟩ := k.mt
  exact ⟨(hh kb (.inl rfl)).trans k.box, ow.keep k.os fun g e => hh g (.inr (.inr (.inr (.inl e)))), ow.keep k.o0 fun g e => hh g (.inr (.inr (.inr (.inr (.inl e))))), ow.keep k.o1 fun g e => hh g (.inr (.inr (.inr (.inr (.inr (.inl e)))))), ow.keep k.o2 fun g e => hh g (.inr (.inr (.inr (.inr (.inr (.inr (.inl e))))))), ow.keep k.o3 fun g e => hh g (.inr (.inr (.inr (.inr (.inr (.inr (.inr (.inl e)))))))), ⟨D1, map_keep m1 (hh _ (.inr (.inl rfl))), m2⟩, ⟨D2, map_keep m3 (hh _ (.inr (.inr (.inl rfl)))), m4⟩,
    fun x hx => (k.i0 x hx).keep (hh _ (.inr (.inr (.inr (.inr (.inr (.inr (.inr (.inr ⟨x, List.mem_append_left _ hx, rfl⟩))))))))), fun x hx => (k.i1 x hx).keep (hh _ (.inr (.inr (.inr (.inr (.inr (.inr (.inr (.inr ⟨x, List.mem_append_right _ hx, rfl⟩))))))))), k.nt, k.n01, k.n2, k.s3, k.bk, k.bn, k.bt, k.br, k.ls, k.lt, k.lx⟩
theorem KI.later (k : KI B kb f0 f1 q d W) (c : Below W.heap.size W W') : KI B kb f0 f1 q d W' := k.keep fun g hg => c.block g (k.fp hg).2
/-- what is not cells of the type 113, no map, and no row of this type -/
theorem KI.cells (k : KI B kb f0 f1 q d W) {g : Nat} {cs : Array Value} {T : TypeId} {fr : Nat × Nat} (hg : W.heap[g]? = some (.cells cs T fr)) : g ≠ q.nm ∧ g ≠ q.tm ∧ (T ≠ 113 → g ≠ kb) := by
  obtain ⟨e1, c1, h1⟩ := k.nobj
  obtain ⟨e2, c2, h2⟩ := k.tobj
  refine ⟨fun e => ?_, fun e => ?_, fun hT e => ?_⟩
  · rw [e, h1] at hg; cases hg
  · rw [e, h2] at hg; cases hg
  · rw [e, k.box] at hg
    cases hg
    exact hT rfl
theorem own_cells {e sz n : Nat} {v : Value} {xs : List Value} (h : W.ownsRow B e sz v n xs) {g : Nat} (hg : v.ownBlock = some g) : ∃ cs, W.heap[g]? = some (.cells cs e (0, 0)) := by
  rcases h.2 with ⟨rfl, _⟩ | ⟨gg, cap, cur, rfl, _, hgg, _⟩
  · cases hg
  · cases hg; exact ⟨_, hgg⟩
end
end Go.Proofs.Ytafcekognhkmgaa.mk
