/-
  Texts put together: Contracts over this program: any number of stages in a slice; ir.inOrder. Contracts over this program: ir.inOrder at any number of stages. Contracts over this program: ir.Right at any number of stages.
-/
import Derived.Test.YtmmlibehihknbaaM29
import Derived.Test.YtmmlibehihknbaaM21
namespace Go.Proofs.Ytmmlibehihknbaa.ir
open Go.ChangeShapes Go.WideShapes Go.ChangeAt Go.RowKit
open mg (Row iv IntsV chain below_alloc Mg Mgs)
open tr (Mc Mp mv MAt)
set_option linter.unusedVariables false
set_option maxRecDepth 100000

/-- a stage and its machine -/
structure Sm where
  g : Sg
  p : Sp
  m : Mc
  q : Mp
structure SmAt (w : World) (x : Sm) : Prop where
  s : SgAt w x.g x.p
  e : x.g.mc = (mv x.m x.q).toList
  m : MAt (tr.In w) w x.m x.q
theorem SmAt.later {w w' : World} {x : Sm} (h : SmAt w x) (b : Below w.heap.size w w') : SmAt w' x := ⟨h.s.later b, h.e, h.m.later b⟩
/-- stages in a slice -/
structure Gs (w : World) (o : Option Addr) (cap : Nat) (l : List Sm) : Prop where
  fit : l.length ≤ cap
  top : cap ≤ 9223372036854775807
  lie : ∀ i (h : i < l.length), ∃ b off, o = some ⟨b, off, none⟩ ∧ b < w.heap.size ∧ w.rangeAt b (off + i * 523) (svL l[i].g l[i].p) ∧ SmAt w l[i]
theorem Gs.later {w w' : World} {o : Option Addr} {cap : Nat} {l : List Sm} (h : Gs w o cap l) (k : Below w.heap.size w w') : Gs w' o cap l :=
  ⟨h.fit, h.top, fun i hi => by
    obtain ⟨b, off, e, hb, hr, hs⟩ := h.lie i hi
    exact ⟨b, off, e, Nat.lt_of_lt_of_le hb k.size, range_later hr hb k, hs.later k⟩⟩
theorem Gs.row {w : World} {o : Option Addr} {cap : Nat} {l : List Sm} (h : Gs w o cap l) (hl : 0 < l.length) : ∃ b off, o = some ⟨b, off, none⟩ ∧ b < w.heap.size ∧ ∀ i (h : i < l.length), w.rangeAt b (off + i * 523) (svL l[i].g l[i].p) ∧ SmAt w l[i] := by
  obtain ⟨b, off, e, hb, _⟩ := h.lie 0 hl
  refine ⟨b, off, e, hb, fun i hi => ?_⟩
  obtain ⟨b', off', e', _, hr, hs⟩ := h.lie i hi
  rw [e] at e'
  simp at e'
  obtain ⟨rfl, rfl⟩ := e'
  exact ⟨hr, hs⟩
def kindN (l : List Sm) (i : Nat) : Int := (l[i]?.map (·.g.kind)).getD 0
theorem kindN_at {l : List Sm} {i : Nat} (h : i < l.length) : kindN l i = l[i].g.kind := by unfold kindN; rw [List.getElem?_eq_getElem h]; rfl
def maps (l : List Sm) (k : Nat) : Bool := (List.range k).all fun i => decide (kindN l i = 1)
def ends (l : List Sm) (k : Nat) : Bool := decide (kindN l k = 2) && decide (kindN l (k + 1) = 3) && decide (kindN l (k + 2) = 4)
def orderedL (l : List Sm) : Bool := decide (3 ≤ l.length) && decide (l.length ≤ 7) && (maps l (l.length - 3) && ends l (l.length - 3))
theorem mapsU {l : List Sm} {k : Nat} (h : ∀ j, j < k → kindN l j = 1) : maps l k = true := by
  unfold maps
  simp
  exact h
theorem mapsN {l : List Sm} {k i : Nat} (hi : i < k) (h : kindN l i ≠ 1) : maps l k = false := by
  unfold maps
  rw [List.all_eq_false]
  exact ⟨i, by simpa using hi, by simpa using h⟩
theorem order_few (o : Option Addr) (cap : Nat) (l : List Sm) (w : World) (hl : ¬ (3 ≤ l.length ∧ l.length ≤ 7)) (hc : l.length ≤ 9223372036854775807) : Calls Try.prog 16 #[.slice o l.length cap] w fun e w' => e = .returned (.bool (orderedL l)) ∧ Below w.heap.size w w' := by
  have HR := (show Hid (orderedL l = false) from by
    show _ = _
    unfold orderedL
    by_cases h : 3 ≤ l.length
    · rw [decide_eq_false (p := l.length ≤ 7) (by omega)]; simp
    · rw [decide_eq_false h]; simp)
  have hB : Below w.heap.size w (w.alloc (.cells #[.int .i64 2, .int .i64 3, .int .i64 4] 72)) := below_alloc w _
  rw [HR.out]
  generalize l.length = n at *
  by_cases h : n < 3
  · have f1 : (n : Int) - 3 < 0 := by omega
    have f2 : decide ((n : Int) - 3 < 0) = true := decide_eq_true f1
    go_enter Try.func16, Try.ntmps16
    go_wp2_with (fail)
    go_ret
    exact ⟨rfl, hB⟩
  · have f1 : ¬ (n : Int) - 3 < 0 := by omega
    have f2 : decide ((n : Int) - 3 < 0) = false := decide_eq_false f1
    have f3 : (4 : Int) < (n : Int) - 3 := by omega
    have f4 : decide ((4 : Int) < (n : Int) - 3) = true := decide_eq_true f3
    go_enter Try.func16, Try.ntmps16
    go_wp2_with (fail)
    go_ret
    exact ⟨rfl, hB⟩
end Go.Proofs.Ytmmlibehihknbaa.ir

namespace Go.Proofs.Ytmmlibehihknbaa.ir
open Go.ChangeShapes Go.WideShapes Go.ChangeAt Go.RowKit
open mg (Row iv IntsV chain below_alloc Mg Mgs)
open tr (Mc Mp mv MAt)
set_option linter.unusedVariables false
set_option maxRecDepth 100000

/-- the i-th stage as it lies -/
def LiesAt (w : World) (b off : Nat) (l : List Sm) (n : Nat) : Prop := ∀ i, i < n → ∃ g p, SgAt w g p ∧ w.rangeAt b (off + i * 523) (svL g p) ∧ g.kind = kindN l i
theorem lies_of {w : World} {b off cap : Nat} {l : List Sm} (h : Gs w (some ⟨b, off, none⟩) cap l) : LiesAt w b off l l.length := fun i hi => by
  obtain ⟨b', off', e, _, hr, hs⟩ := h.lie i hi
  simp at e
  obtain ⟨rfl, rfl⟩ := e
  exact ⟨l[i].g, l[i].p, hs.s, hr, (kindN_at hi).symm⟩
set_option maxHeartbeats 4000000 in
theorem order_many (b off cap k : Nat) (hk : k ≤ 4) (l : List Sm) (hl : l.length = k + 3) (w : World) (h : Gs w (some ⟨b, off, none⟩) cap l) : Calls Try.prog 16 #[.slice (some ⟨b, off, none⟩) (k + 3) cap] w fun e w' => e = .returned (.bool (maps l k && ends l k)) ∧ Below w.heap.size w w' := by
  have hc1 := h.fit
  have hc2 := h.top
  rw [hl] at hc1
  have HS := (show Hid (∀ W, Below w.heap.size w W → LiesAt W b off l (k + 3)) from fun W k' => by
    have := lies_of (h.later k')
    rwa [hl] at this)
  obtain ⟨r, hr⟩ : ∃ r, r = (maps l k && ends l k) := ⟨_, rfl⟩
  have HR := (show Hid (r = (maps l k && ends l k)) from hr)
  rw [← hr]
  have hB : Below w.heap.size w (w.alloc (.cells #[.int .i64 2, .int .i64 3, .int .i64 4] 72)) := below_alloc w _
  have hX : (w.alloc (.cells #[.int .i64 2, .int .i64 3, .int .i64 4] 72)).heap[w.heap.size]? = some (.cells #[.int .i64 2, .int .i64 3, .int .i64 4] 72 (0, 0)) := World.alloc_heap_new w _
  have hXl : w.heap.size < (w.alloc (.cells #[.int .i64 2, .int .i64 3, .int .i64 4] 72)).heap.size := by simp
  obtain ⟨Z, hZ⟩ : ∃ Z, Z = z39.toArray := ⟨_, rfl⟩
  have hzero : ∀ w, (zeroValue 39).run Try.prog w = .ok (.agg Z) w := by rw [hZ]; exact zero39
  have hzs : Z.size = 523 := by rw [hZ, List.size_toArray]; exact z39_len
  have f0 : ((k + 3 : Nat) : Int) - 3 = (k : Int) := by omega
  clear h hr hZ hl
  go_enter Try.func16, Try.ntmps16
  go_wp2_with (fail)
  generalize w.alloc (.cells #[.int .i64 2, .int .i64 3, .int .i64 4] 72) = w1 at *
  have HX := (show Hid (∀ W, Below w1.heap.size w1 W → W.heap[w.heap.size]? = some (.cells #[.int .i64 2, .int .i64 3, .int .i64 4] 72 (0, 0))) from fun W b => (b.block _ hXl).trans hX)
  have HB := (show Hid (Below w.heap.size w w1) from hB)
  clear hB hX
  go_loopw [23] (fun y wr => ∃ i : Nat, y = .int .i64 (i : Int) ∧ i ≤ k ∧ Hid (∀ j, j < i → kindN l j = 1) ∧ Hid (Below w1.heap.size w1 wr)) (fun y _ => k - (intOf y).toNat)
  case atStart => exact ⟨0, rfl, by omega, fun j hj => by omega, Below.refl _ _⟩
  case round =>
    obtain ⟨i, rfl, hi, HA, HBr⟩ := hrel
    have HBw := (show Hid (Below w.heap.size w wr) from chain HB.out HBr.out)
    by_cases hend : i < k
    · obtain ⟨g, p, hs, hrg, hkd⟩ := HS.out wr HBw.out i (by omega)
      obtain ⟨W3, hW3, hbx, b3⟩ := stage_new wr Z hs
      have hl1 := info39c hs
      have hl2 := info39a hs
      have hone := hs.all
      have hold : Z.size = (svL g p).toArray.size := by rw [hzs, List.size_toArray, hs.len]
      have q0 := hbx.kind
      rw [hkd] at q0
      have HB3 := (show Hid (Below w1.heap.size w1 W3) from chain HBr.out b3)
      have hnew := World.alloc_heap_new wr (.cells Z 39)
      generalize hCL : svL g p = CL at *
      clear hs b3 hCL hkd hbx
      by_cases he : kindN l i = 1
      · have HN := (show Hid (∀ j, j < i + 1 → kindN l j = 1) from fun j hj => by
          by_cases e : j = i
          · subst e; exact he
          · exact HA.out j (by omega))
        rw [he] at q0
        clear HA he
        go_wp2_with (first | (refine wpList_load_mid rfl 39 (.tmp 25) rfl b (off + i * 523) rfl CL _ hrg Try.underlying39 rfl hl1 ?_) | (refine wpList_store_row rfl 39 (.tmp 6) (.tmp 26) rfl wr.heap.size CL.toArray rfl rfl 39 Z hnew hl2 hold hone ?_; rw [hW3]))
        go_roundw
        case rel => exact ⟨i + 1, by go_num, by omega, HN, HB3⟩
        case measure => simp [intOf]; omega
      · have HF := (show Hid (r = false) from by show _ = _; rw [HR.out, mapsN hend he]; rfl)
        generalize kindN l i = x at *
        have hne : (x == 1) = false := beq_eq_false_iff_ne.2 he
        clear HA
        go_wp2_with (first | (refine wpList_load_mid rfl 39 (.tmp 25) rfl b (off + i * 523) rfl CL _ hrg Try.underlying39 rfl hl1 ?_) | (refine wpList_store_row rfl 39 (.tmp 6) (.tmp 26) rfl wr.heap.size CL.toArray rfl rfl 39 Z hnew hl2 hold hone ?_; rw [hW3]))
        go_ret
        exact ⟨by rw [HF.out]; rfl, chain HB.out HB3.out⟩
    · obtain rfl : i = k := by omega
      have HM := (show Hid (maps l i = true) from mapsU HA.out)
      have hc0 := Lib.cell_of_heap (HX.out wr HBr.out)
      have k0 : wr.cell? ⟨w.heap.size, 0, none⟩ = some (.int .i64 2) := by rw [hc0]; rfl
      have k1 : wr.cell? ⟨w.heap.size, 1, none⟩ = some (.int .i64 3) := by rw [hc0]; rfl
      have k2 : wr.cell? ⟨w.heap.size, 2, none⟩ = some (.int .i64 4) := by rw [hc0]; rfl
      clear HA hc0
      go_wp2_with (fail)
      obtain ⟨wp, rfl⟩ : ∃ wp, wp = wr := ⟨wr, rfl⟩
      go_loopw [32] (fun y wr => ∃ j : Nat, y = .int .i64 (j : Int) ∧ j ≤ 3 ∧ Hid (∀ n, n < j → kindN l (i + n) = (n : Int) + 2) ∧ wr = wp) (fun y _ => 3 - (intOf y).toNat)
      case atStart => exact ⟨0, rfl, by omega, fun j hj => by omega, rfl⟩
      case round =>
        obtain ⟨j, rfl, hj, HA, rfl⟩ := hrel
        by_cases hend2 : j < 3
        · obtain ⟨g, p, hs, hrg, hkd⟩ := HS.out wr HBw.out (i + j) (by omega)
          have hcell := kind_of hrg
          rw [hkd] at hcell
          have hx := fun W => idx64 j hend2 W
          clear hs hrg hkd
          by_cases he : kindN l (i + j) = (j : Int) + 2
          · have HN := (show Hid (∀ n, n < j + 1 → kindN l (i + n) = (n : Int) + 2) from fun n hn => by
              by_cases e : n = j
              · subst e; exact he
              · exact HA.out n (by omega))
            rw [he] at hcell
            clear HA he k0 k1 k2
            go_wp2_with (fail)
            refine ⟨⟨j + 1, by go_num, by omega, HN, trivial⟩, by simp [intOf]; omega⟩
          · have HF := (show Hid (r = false) from by
              show _ = _
              rw [HR.out]
              unfold ends
              match j, hend2 with
              | 0, _ => simp at he; simp [he]
              | 1, _ => simp at he; simp; omega
              | 2, _ => simp at he; simp; omega)
            generalize kindN l (i + j) = x at *
            have hne : (x == (j : Int) + 2) = false := beq_eq_false_iff_ne.2 he
            clear HA k0 k1 k2
            go_wp2_with (fail)
            go_ret
            exact ⟨by rw [HF.out]; rfl, HBw.out⟩
        · obtain rfl : j = 3 := by omega
          have HT := (show Hid (r = true) from by
            show _ = _
            rw [HR.out, HM.out]
            have a0 := HA.out 0 (by omega)
            have a1 := HA.out 1 (by omega)
            have a2 := HA.out 2 (by omega)
            simp at a0 a1 a2
            simp [ends, a0, a1, a2])
          clear HA k0 k1 k2
          go_wp2_with (fail)
          go_ret
          exact ⟨by rw [HT.out]; rfl, HBw.out⟩
end Go.Proofs.Ytmmlibehihknbaa.ir

namespace Go.Proofs.Ytmmlibehihknbaa.ir
open Go.ChangeShapes Go.WideShapes Go.ChangeAt Go.RowKit
open mg (Row iv IntsV chain below_alloc Mg Mgs)
open tr (Mc Mp mv MAt)
set_option linter.unusedVariables false
set_option maxRecDepth 100000

theorem order_all (o : Option Addr) (cap : Nat) (l : List Sm) (w : World) (h : Gs w o cap l) : Calls Try.prog 16 #[.slice o l.length cap] w fun e w' => e = .returned (.bool (orderedL l)) ∧ Below w.heap.size w w' := by
  by_cases hl : 3 ≤ l.length ∧ l.length ≤ 7
  · obtain ⟨b, off, rfl, _, _⟩ := h.row (by omega)
    obtain ⟨k, hk⟩ : ∃ k, l.length = k + 3 := ⟨l.length - 3, by omega⟩
    have e : orderedL l = (maps l k && ends l k) := by
      unfold orderedL
      rw [decide_eq_true hl.1, decide_eq_true hl.2, show l.length - 3 = k by omega]
      rfl
    rw [e, hk]
    exact order_many b off cap k (by omega) l hk w h
  · exact order_few o cap l w hl (by have := h.fit; have := h.top; omega)
def mayOf (x : Sm) : Bool := if x.g.kind = 1 then tr.right x.m else if x.g.kind = 2 then df.right x.g.d else if x.g.kind = 3 then decide (hp.newE x.g.ms x.g.dr = 0) else areIds x.g.bf && areIds x.g.af
def rightL (l : List Sm) : Bool := orderedL l && l.all mayOf
theorem kinds_of {l : List Sm} (h : orderedL l = true) (i : Nat) (hi : i < l.length) : l[i].g.kind = 1 ∨ l[i].g.kind = 2 ∨ l[i].g.kind = 3 ∨ l[i].g.kind = 4 := by
  unfold orderedL at h
  simp only [Bool.and_eq_true, decide_eq_true_eq] at h
  obtain ⟨⟨h1, h2⟩, h3, h4⟩ := h
  unfold maps at h3
  unfold ends at h4
  simp at h3 h4
  obtain ⟨⟨e0, e1⟩, e2⟩ := h4
  rw [← kindN_at hi]
  by_cases a : i < l.length - 3
  · exact .inl (h3 i a)
  · by_cases b : i = l.length - 3
    · rw [b]; exact .inr (.inl e0)
    · by_cases c : i = l.length - 3 + 1
      · rw [c]; exact .inr (.inr (.inl e1))
      · have : i = l.length - 3 + 2 := by omega
        rw [this]; exact .inr (.inr (.inr e2))
theorem meth66 (v : Value) (W : World) : Sem.run Try.prog (method 288 74 v "fretsaw/ir.may") W = .ok (59, v) W := by kernel_rfl
theorem call45 (a : Array Value) (W : World) : Sem.run Try.prog (callFunc 59 a) W = .ok (.enter 59 a) W := by kernel_rfl
theorem may_is1 (x : Sm) (hk : x.g.kind = 1) (w : World) (h : SmAt w x) : MayIs x.g x.p 74 59 (.agg (mv x.m x.q)) (tr.right x.m) w := fun W b => ⟨by
  have := step1 x.g x.p hk W (h.later b).s
  rw [h.e] at this
  exact this, may1 x.m x.q _ rfl W (h.later b).m⟩
/-- a stage in the slice: its value, whether it may be -/
theorem may_any {w : World} {x : Sm} (h : SmAt w x) (hk : x.g.kind = 1 ∨ x.g.kind = 2 ∨ x.g.kind = 3 ∨ x.g.kind = 4) : ∃ T f v, MayIs x.g x.p T f v (mayOf x) w ∧ (∀ W, Sem.run Try.prog (method 288 T v "fretsaw/ir.may") W = .ok (f, v) W) ∧ (∀ a W, Sem.run Try.prog (callFunc f a) W = .ok (.enter f a) W) := by
  rcases hk with e | e | e | e
  · exact ⟨74, 59, _, by unfold mayOf; rw [if_pos e]; exact may_is1 x e w h, fun W => meth66 _ W, fun a W => call45 a W⟩
  · exact ⟨76, 68, _, by unfold mayOf; rw [if_neg (by omega), if_pos e]; exact may_is2 x.g x.p e w h.s, fun W => meth68 _ W, fun a W => call54 a W⟩
  · exact ⟨78, 84, _, by unfold mayOf; rw [if_neg (by omega), if_neg (by omega), if_pos e]; exact may_is3 x.g x.p e w h.s, fun W => meth70 _ W, fun a W => call70 a W⟩
  · exact ⟨80, 125, _, by unfold mayOf; rw [if_neg (by omega), if_neg (by omega), if_neg (by omega)]; exact may_is4 x.g x.p e w h.s, fun W => meth72 _ W, fun a W => call111 a W⟩
set_option maxHeartbeats 1000000 in
theorem right_all (o : Option Addr) (cap : Nat) (l : List Sm) (w : World) (h : Gs w o cap l) : Calls Try.prog 6 #[.slice o l.length cap] w fun e w' => e = .returned (.bool (rightL l)) ∧ Below w.heap.size w w' := by
  have c12 := order_all o cap l w h
  cases ho : orderedL l
  · rw [ho] at c12
    have HR := (show Hid (rightL l = false) from by show _ = _; unfold rightL; rw [ho]; rfl)
    rw [HR.out]
    clear h ho
    go_enter Try.func6, Try.ntmps6
    go_wp2_with (fail)
    go_at_call 16
    refine c12.mono ?_
    rintro e w1 ⟨rfl, b1⟩
    clear c12
    go_wp2_with (fail)
    go_ret
    exact ⟨rfl, b1⟩
  · rw [ho] at c12
    have h3 : 3 ≤ l.length := by
      unfold orderedL at ho
      simp at ho
      exact ho.1.1
    obtain ⟨b, off, rfl, hb, hrow⟩ := h.row (by omega)
    clear hrow
    have hc1 := h.fit
    have hc2 := h.top
    have HS := (show Hid (∀ W, Below w.heap.size w W → ∀ i (hi : i < l.length), W.rangeAt b (off + i * 523) (svL l[i].g l[i].p) ∧ SmAt W l[i]) from fun W k i hi => by
      obtain ⟨b', off', e, _, hr, hs⟩ := (h.later k).lie i hi
      simp at e
      obtain ⟨rfl, rfl⟩ := e
      exact ⟨hr, hs⟩)
    have HK := (show Hid (∀ i (hi : i < l.length), l[i].g.kind = 1 ∨ l[i].g.kind = 2 ∨ l[i].g.kind = 3 ∨ l[i].g.kind = 4) from fun i hi => kinds_of ho i hi)
    obtain ⟨r, hr⟩ : ∃ r, r = rightL l := ⟨_, rfl⟩
    have HR := (show Hid (r = l.all mayOf) from by show _ = _; rw [hr]; unfold rightL; rw [ho]; rfl)
    rw [← hr]
    clear h hr ho
    obtain ⟨Z, hZ⟩ : ∃ Z, Z = z39.toArray := ⟨_, rfl⟩
    have hzero : ∀ w, (zeroValue 39).run Try.prog w = .ok (.agg Z) w := by rw [hZ]; exact zero39
    have hzs : Z.size = 523 := by rw [hZ, List.size_toArray]; exact z39_len
    clear hZ
    obtain ⟨n, hn⟩ : ∃ n, n = l.length := ⟨_, rfl⟩
    rw [← hn] at c12 hc1 h3 ⊢
    have HNL := (show Hid (n = l.length) from hn)
    clear hn
    go_enter Try.func6, Try.ntmps6
    go_wp2_with (fail)
    go_at_call 16
    refine c12.mono ?_
    rintro e w1 ⟨rfl, b1⟩
    have HB1 := (show Hid (Below w.heap.size w w1) from b1)
    clear c12 b1
    go_wp2_with (fail)
    go_loopw [10] (fun y wr => ∃ i : Nat, y = .int .i64 (i : Int) ∧ i ≤ n ∧ Hid (∀ j (hj : j < l.length), j < i → mayOf l[j] = true) ∧ Hid (Below w.heap.size w wr)) (fun y _ => n - (intOf y).toNat)
    case atStart => exact ⟨0, rfl, by omega, fun j hj h => by omega, HB1⟩
    case round =>
      obtain ⟨i, rfl, hi, HU, HB⟩ := hrel
      by_cases hend : i < n
      · have hil : i < l.length := by rw [← HNL.out]; exact hend
        obtain ⟨hrg, hsm⟩ := HS.out wr HB.out i hil
        obtain ⟨T, f, v, hm, hme, hcf⟩ := may_any hsm (HK.out i hil)
        have hs := hsm.s
        obtain ⟨W3, hW3, hbx, b3⟩ := stage_new wr Z hs
        have hl1 := info39c hs
        have hl2 := info39a hs
        have hone := hs.all
        have hold : Z.size = (svL l[i].g l[i].p).toArray.size := by rw [hzs, List.size_toArray, hs.len]
        obtain ⟨x, hx⟩ : ∃ x, x = mayOf l[i] := ⟨_, rfl⟩
        rw [← hx] at hm
        have HX := (show Hid (MayIs l[i].g l[i].p T f v x wr) from hm)
        have c13 := (hm W3 b3).1
        have HB3 := (show Hid (Below wr.heap.size wr W3) from b3)
        unfold SBox at hbx
        have hnew := World.alloc_heap_new wr (.cells Z 39)
        have HN := (show Hid (x = true → ∀ j (hj : j < l.length), j < i + 1 → mayOf l[j] = true) from fun e j hj hj2 => by
          by_cases q : j = i
          · subst q; rw [← hx]; exact e
          · exact HU.out j hj (by omega))
        have HF0 := (show Hid (x = false → l.all mayOf = false) from fun e => by
          rw [List.all_eq_false]
          exact ⟨l[i], List.getElem_mem _, by rw [← hx, e]; simp⟩)
        generalize hCL : svL l[i].g l[i].p = CL at *
        clear hs hsm hm b3 hx HU hCL
        go_wp2_with (first | (refine wpList_load_mid rfl 39 (.tmp 12) rfl b (off + i * 523) rfl CL _ hrg Try.underlying39 rfl hl1 ?_) | (refine wpList_store_row rfl 39 (.tmp 4) (.tmp 13) rfl wr.heap.size CL.toArray rfl rfl 39 Z hnew hl2 hold hone ?_; rw [hW3]) | (refine wpList_load_row rfl 39 (.tmp 4) rfl wr.heap.size rfl 39 CL.toArray (0, 0) _ hbx Try.underlying39 rfl hl2 ?_))
        go_at_call 17
        refine c13.mono ?_
        rintro e w4 ⟨rfl, b4⟩
        have c := (HX.out w4 (chain HB3.out b4)).2
        have HB4 := (show Hid (Below wr.heap.size wr w4) from chain HB3.out b4)
        clear c13 hrg hbx hl1 hl2 hone hold hW3 b4 hnew
        go_wp2_with (fail)
        refine c.mono ?_
        rintro e w5 ⟨rfl, b5⟩
        have HB5 := (show Hid (Below w.heap.size w w5) from chain HB.out (chain HB4.out b5))
        clear c b5 hme hcf
        cases x
        · go_wp2_with (fail)
          go_ret
          exact ⟨by rw [HR.out, HF0.out (by trivial)]; rfl, HB5.out⟩
        · go_wp2_with (fail)
          go_roundw
          case rel => exact ⟨i + 1, by go_num, by omega, HN.out (by trivial), HB5⟩
          case measure => simp [intOf]; omega
      · have HT := (show Hid (r = true) from by
          show _ = _
          rw [HR.out, List.all_eq_true]
          intro y hy
          obtain ⟨j, hj, rfl⟩ := List.mem_iff_getElem.1 hy
          exact HU.out j hj (by have := HNL.out; omega))
        clear HU
        obtain rfl : i = n := by omega
        go_wp2_with (fail)
        go_ret
        exact ⟨by rw [HT.out]; rfl, HB.out⟩
end Go.Proofs.Ytmmlibehihknbaa.ir
