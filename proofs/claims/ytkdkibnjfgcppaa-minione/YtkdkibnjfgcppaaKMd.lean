/-
  Contracts over this program: number[way]: the numbers that are kept for what was seen.
-/
import Derived.Test.YtkdkibnjfgcppaaRows
import Derived.Test.YtkdkibnjfgcppaaM00
import Derived.WalkKit
import Derived.ChangeAt
import Derived.Below
import Derived.Lib.OthersKept
import Derived.Laws.Rows
import Derived.WalkLawsBesides
import Derived.Deep.QuietTactic
import Derived.Deep.RegionHeld3
import Derived.WalkSmall
import Derived.BigQuiet
import Derived.SizedLaws
import Derived.OwnWalk
import Derived.Maps.AppendAt
import Derived.Laws.OwnMore
import Derived.Shelf.Abstract
import Derived.Deep.RegionLaw
import Derived.Maps.OwnSet
import Derived.Maps.OwnIn
import Derived.DeepKeys4
import Derived.MapViews
namespace Go.Proofs.Ytkdkibnjfgcppaa.mi
open Go.ChangeShapes Go.WideShapes Go.ChangeAt Go.RowKit Go.Shelf Go.Maps
set_option linter.unusedVariables false

theorem below_alloc (w : World) (o : Obj) : Below w.heap.size w (w.alloc o) := (Below.refl _ _).alloc (Nat.le_refl _) o
theorem chain {w w1 w2 : World} (h1 : Below w.heap.size w w1) (h2 : Below w1.heap.size w1 w2) : Below w.heap.size w w2 := h1.trans (h2.mono h1.size)
theorem below_drewN {B : Nat} {a w : World} (h : Below B a w) (n : Nat) : Below B a (w.drewN n) := ⟨h.os, h.tape, h.output, h.size, h.block⟩

/-- what a map of numbers holds: what was seen, in the order of first sight -/
structure MapN {κ : Type} (key : κ → Lit) (Ok : κ → Prop) (l : List κ) (D : DataW Unit) : Prop where
  has : ∀ k, Ok k → (Maps.has D (key k) = true ↔ k ∈ l)
  at' : ∀ (i : Nat) k, l[i]? = some k → D.atKey (key k) (.lit (.int .i64 0)) = .lit (.int .i64 (i : Int))
  sz : Maps.size D = l.length
  ok : ∀ x ∈ l, Ok x
theorem mapN_nil {κ : Type} (key : κ → Lit) (Ok : κ → Prop) : MapN key Ok [] (.map []) := ⟨fun k _ => ⟨fun h => (by cases h), fun h => (by cases h)⟩, fun i k h => by simp at h, rfl, fun x h => by simp at h⟩
theorem MapN.put {κ : Type} {key : κ → Lit} {Ok : κ → Prop} {l : List κ} {D : DataW Unit} (h : MapN key Ok l D) (hT : Tidy D) (inj : ∀ x y, Ok x → Ok y → key x = key y → x = y) {k : κ} (hk : Ok k) (hlit : WideAt.IsKeyLit (key k)) (hn : k ∉ l) : MapN key Ok (l ++ [k]) (D.put (key k) (.lit (.int .i64 (l.length : Int)))) := by
  refine ⟨fun x hx => ?_, fun i x hi => ?_, ?_, fun x hx => ?_⟩
  · by_cases e : x = k
    · subst e
      rw [has_put_same hT.isMap hlit]
      simp
    · rw [has_put_other (fun e2 => e (inj x k hx hk e2)), h.has x hx]
      simp [e]
  · by_cases h2 : i < l.length
    · rw [List.getElem?_append_left h2] at hi
      have hm := List.mem_of_getElem? hi
      rw [atKey_put_other (fun e2 => hn (by rw [← inj x k (h.ok x hm) hk e2]; exact hm))]
      exact h.at' i x hi
    · have h3 := (List.getElem?_eq_some_iff.1 hi).1
      have e : i = l.length := by simp at h3; omega
      subst e
      rw [List.getElem?_append_right (Nat.le_refl _)] at hi
      simp at hi
      subst hi
      rw [atKey_put_same hT.isMap hlit]
  · rw [size_put hT, h.sz, if_neg (fun hc => hn ((h.has k hk).1 hc))]
    simp
  · rcases List.mem_append.1 hx with hx | hx
    · exact h.ok x hx
    · rw [List.mem_singleton.1 hx]; exact hk

theorem laidOut : laidOutB Try.prog = true := by kernel_rfl
theorem zero3 (w : World) : (zeroValue 3).run Try.prog w = .ok (.int .i64 0) w := by kernel_rfl
theorem map_keep {K : Nat} {W W' : World} {m n : Nat} {D : DataW Unit} (hm : W.ownsMap Try.prog K (plainElem (H := Unit) Try.prog 3) m n D) (e : W'.heap[m]? = W.heap[m]?) : W'.ownsMap Try.prog K (plainElem (H := Unit) Try.prog 3) m n D := by
  obtain ⟨es, clock, hb, hr⟩ := hm
  exact ⟨es, clock, e.trans hb, hr⟩

/-! keys of two numbers -/
abbrev St := Nat × Int
theorem wide119 : (match Try.prog.underlying 119 with | some (.array _ _) | some (.struct _) => true | _ => false) = true := by rw [Try.underlying119]
set_option maxRecDepth 100000 in
theorem law119 : Keyed Try.prog 119 := Keyed.of_law (deep_law_laid laidOut (m := 2) (by omega) (of_decide_eq_true (by kernel_rfl)) (by kernel_rfl) wide119)
def OkS (s : St) : Prop := s.1 ≤ 1000000 ∧ -1 ≤ s.2 ∧ s.2 ≤ 1000000
abbrev sva (s : St) : Value := .agg #[.int .i64 (s.1 : Int), .int .i64 s.2]
def kp (s : St) : Lit := (DataW.agg (H := Unit) [.lit (.int .i64 (s.1 : Int)), .lit (.int .i64 s.2)]).asKey
set_option maxRecDepth 100000 in
theorem key119 (s : St) (h : OkS s) : keyOf Try.prog 119 (sva s) = some (kp s) := by
  have hf : (sva s).formed Try.prog 119 = true := by
    have : Try.prog.cellsOf 119 = 2 := by kernel_rfl
    simp [Value.formed, Try.underlying119, this]
  have hd : DataW.Trod (H := Unit) (fun _ => ()) Try.prog (default : World) 0 (fun _ => true) true 119 (sva s) (.agg [.lit (.int .i64 (s.1 : Int)), .lit (.int .i64 s.2)]) [] := by
    refine ⟨2, ?_⟩
    have c76 : Try.prog.cellsOf 119 = 2 := by kernel_rfl
    have c3 : Try.prog.cellsOf 3 = 1 := by kernel_rfl
    simp [Value.cells, DataW.trod, Try.underlying119, Try.underlying3, c76, c3, WalkArith.wf_i64 (show -9223372036854775808 ≤ (s.1 : Int) ∧ (s.1 : Int) ≤ 9223372036854775807 by have := h.1; omega), WalkArith.wf_i64 (show -9223372036854775808 ≤ s.2 ∧ s.2 ≤ 9223372036854775807 by have := h.2; omega)]
  obtain ⟨h, _⟩ := keyOf_asKey (by kernel_rfl) wide119 hf hd
  exact h
theorem kp_inj (s r : St) (hs : OkS s) (hr : OkS r) (h : kp s = kp r) : s = r := by
  have h1 := key119 s hs
  have h2 := key119 r hr
  rw [h] at h1
  have := law119.inj h1 h2
  obtain ⟨a, b⟩ := s
  obtain ⟨c, d⟩ := r
  simp at this
  simp only [Prod.mk.injEq]
  omega
/-- the numbers that ways have -/
def Nb (W : World) (m : Nat) (l : List St) : Prop := ∃ D, W.ownsMap Try.prog 119 (plainElem (H := Unit) Try.prog 3) m l.length D ∧ MapN kp OkS l D
theorem Nb.keep {W W' : World} {m : Nat} {l : List St} (h : Nb W m l) (e : W'.heap[m]? = W.heap[m]?) : Nb W' m l := by
  obtain ⟨D, h1, h2⟩ := h
  exact ⟨D, map_keep h1 e, h2⟩
theorem Nb.obj {W : World} {m : Nat} {l : List St} (h : Nb W m l) : ∃ es clock, W.heap[m]? = some (.map es clock) := by
  obtain ⟨D, ⟨es, clock, hb, _⟩, _⟩ := h
  exact ⟨es, clock, hb⟩
theorem Nb.lt {W : World} {m : Nat} {l : List St} (h : Nb W m l) : m < W.heap.size := by
  obtain ⟨es, c, h⟩ := h.obj
  exact (Array.getElem?_eq_some_iff.1 h).1
def NbOut (m : Nat) (l : List St) (s : St) (W : World) (e : Ending) (W' : World) : Prop :=
  ∃ (i : Nat) (l' : List St), e = .returned (.int .i64 (i : Int)) ∧ l'[i]? = some s ∧ (l' = l ∨ (s ∉ l ∧ l' = l ++ [s])) ∧ Nb W' m l' ∧ W.grownBy W' (some m)
theorem look116 {W : World} {m n : Nat} {D : DataW Unit} (hown : W.ownsMap Try.prog 119 (plainElem (H := Unit) Try.prog 3) m n D) (s : St) (hs : OkS s) :
    ∃ c : Int, (Instr.lookup 116 (.map (some m)) (.agg #[.int .i64 (s.1 : Int), .int .i64 s.2]) true).run Try.prog W = .ok (.tuple #[.int .i64 c, .bool (Maps.has D (kp s))]) W ∧ D.atKey (kp s) (.lit (.int .i64 0)) = .lit (.int .i64 c) := by
  obtain ⟨v, ps, hrun, hv⟩ := hown.look_ok law119 Try.underlying116 (zero3 W) (plainElem_int Try.underlying3 (by decide)) (key119 s hs)
  obtain ⟨c, rfl, hc, hwc⟩ := plainElem_int_inv Try.underlying3 hv
  exact ⟨c, hrun, congrArg Prod.fst hc⟩
set_option maxHeartbeats 4000000 in
set_option maxRecDepth 100000 in
theorem number_any {m : Nat} {l : List St} {W : World} (k : Nb W m l) (s : St) (hs : OkS s) (hn : l.length ≤ 900000) :
    Calls Try.prog 63 #[.map (some m), .agg #[.int .i64 (s.1 : Int), .int .i64 s.2]] W (NbOut m l s W) := by
  obtain ⟨wA, HWA⟩ : ∃ wA, Hid (wA = W.alloc (.cells #[.int .i64 (s.1 : Int), .int .i64 s.2] 119)) := ⟨_, rfl⟩
  have B0 : Below W.heap.size W wA := by rw [HWA.out]; exact below_alloc W _
  have hA3 : wA.heap[W.heap.size]? = some (.cells #[.int .i64 (s.1 : Int), .int .i64 s.2] 119 (0, 0)) := by rw [HWA.out]; exact heap_alloc_new W _
  have a0 : wA.cell? ⟨W.heap.size, 0, none⟩ = some (.int .i64 (s.1 : Int)) := by rw [Lib.cell_of_heap hA3]; rfl
  have a1 : wA.cell? ⟨W.heap.size, 1, none⟩ = some (.int .i64 s.2) := by rw [Lib.cell_of_heap hA3]; rfl
  have kA := k.keep (B0.block m k.lt)
  have hml := k.lt
  obtain ⟨D, hD, hMN⟩ := kA
  have hlk := fun n => look116 (W := wA.drewN n) (map_keep (W := wA) (W' := wA.drewN n) hD rfl) s hs
  obtain ⟨c, _, hc⟩ := hlk 0
  have hlk2 : ∀ n, (Instr.lookup 116 (.map (some m)) (.agg #[.int .i64 (s.1 : Int), .int .i64 s.2]) true).run Try.prog (wA.drewN n) = .ok (.tuple #[.int .i64 c, .bool (Maps.has D (kp s))]) (wA.drewN n) := fun n => by
    obtain ⟨c', h1, h2⟩ := hlk n
    rw [hc] at h2
    simp only [DataW.lit.injEq, Lit.int.injEq, true_and] at h2
    rw [h1, h2]
  by_cases hin : s ∈ l
  · obtain ⟨i, hi⟩ := List.mem_iff_getElem?.1 hin
    have hci := hMN.at' i _ hi
    rw [hc] at hci
    simp only [DataW.lit.injEq, Lit.int.injEq, true_and] at hci
    subst hci
    have HI := (show Hid _ from hi)
    rw [(hMN.has _ hs).2 hin] at hlk2
    have HN := (show Hid (Nb wA m l) from ⟨D, hD, hMN⟩)
    clear hlk hc hin hi k hD hMN
    go_enter Try.func63, Try.ntmps63
    go_wp2_with (fail)
    rw [← HWA.out]
    clear HWA
    have h0 := hlk2 0
    rw [show wA.drewN 0 = wA from rfl] at h0
    rw [h0]
    go_wp2_with (fail)
    go_ret
    exact ⟨i, l, rfl, HI.out, .inl rfl, HN.out.keep rfl, B0.os, B0.tape, B0.output, B0.size, fun g hg _ => B0.block g hg⟩
  · rw [show Maps.has D (kp s) = false from Bool.eq_false_iff.2 (fun h => hin ((hMN.has _ hs).1 h))] at hlk2
    have HNI := (show Hid _ from hin)
    have HMN := (show Hid _ from hMN)
    have HD : Hid (wA.ownsMap Try.prog 119 (plainElem (H := Unit) Try.prog 3) m l.length D) := hD
    have HTD : Hid (Tidy D) := hD.tidy law119
    have hkey := key119 s hs
    have HSS := (show Hid _ from hs)
    have hln : ∀ n ty, (Builtin.len_ #[116] ty #[.map (some m)]).run Try.prog (wA.drewN n) = .ok (.int .i64 (l.length : Int)) (wA.drewN n) := fun n ty => by
      rw [(map_keep (W := wA) (W' := wA.drewN n) hD rfl).len Try.underlying116 ty, hMN.sz]
    clear hlk hc hin k hD hMN hs
    go_enter Try.func63, Try.ntmps63
    go_wp2_with (fail)
    rw [← HWA.out]
    clear HWA
    have h0 := hlk2 0
    rw [show wA.drewN 0 = wA from rfl] at h0
    rw [h0]
    go_wp2_with (fail)
    have h1 := hln 0 3
    rw [show wA.drewN 0 = wA from rfl] at h1
    rw [h1]
    go_wp2_with (fail)
    obtain ⟨w2, hrun, hD2, hg2⟩ := HD.out.update law119 Try.underlying116 (by unfold maxLen; omega) hkey (plainElem_int (a := (l.length : Int)) Try.underlying3 (WalkArith.wf_i64 (by omega)))
    have hm2 := HMN.out.put HTD.out kp_inj HSS.out (law119.key hkey) HNI.out
    rw [hrun]
    go_wp2_with (fail)
    go_ret
    refine ⟨l.length, l ++ [s], rfl, by simp, .inr ⟨HNI.out, rfl⟩, ⟨_, ?_, hm2⟩, ?_⟩
    · rw [List.length_append]
      exact hD2
    · exact ⟨hg2.os.trans B0.os, hg2.tape.trans B0.tape, hg2.output.trans B0.output, Nat.le_trans B0.size hg2.size, fun g hg hne => (hg2.block g (Nat.lt_of_lt_of_le hg B0.size) hne).trans (B0.block g hg)⟩
end Go.Proofs.Ytkdkibnjfgcppaa.mi
