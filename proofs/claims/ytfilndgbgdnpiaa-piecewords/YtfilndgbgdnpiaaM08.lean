/-
  Texts put together: Contracts over this program: whether a byte is in a set, a set and a byte (set.Has, the document's Has). Contracts over this program: what is reached from a crowd over a byte is added to another one (crowd.step). Contracts over this program: what is reached over Free edges (nfa.Free), the walk. Contracts over this program: two crowds and a row beside one another.
-/
import Derived.Test.YtfilndgbgdnpiaaRows
import Derived.Test.YtfilndgbgdnpiaaKSets
import Derived.Laws.BitsAllLaws
import Derived.Laws.Rows
import Derived.Lib.Builder
import Derived.WalkKit
import Derived.ProofKit
import Derived.OpenShut
import Derived.Test.YtfilndgbgdnpiaaM07
namespace Go.Proofs.Ytfilndgbgdnpiaa.st
open Go.ChangeShapes Go.WideShapes Go.ChangeAt Go.RowKit
set_option linter.unusedVariables false

theorem chain {w w1 w2 : World} (h1 : Below w.heap.size w w1) (h2 : Below w1.heap.size w1 w2) : Below w.heap.size w w2 := h1.trans (h2.mono h1.size)

theorem bit_and (x m : Nat) (hx : x < 18446744073709551616) : (bits .and .u64 ((x : Int) / 2 ^ m) 1 == 1) = x.testBit m := by
  have h1 : ((x : Int) / 2 ^ m) = ((x / 2 ^ m : Nat) : Int) := by simp
  have h2 := u64_and_nat (x / 2 ^ m) 1 (Nat.lt_of_le_of_lt (Nat.div_le_self _ _) hx) (by omega)
  rw [h1, show ((1 : Nat) : Int) = (1 : Int) from rfl] at *
  rw [h2, Nat.and_one_is_mod, Nat.testBit_eq_decide_div_mod_eq]
  generalize x / 2 ^ m = y
  by_cases h : y % 2 = 1
  · rw [h]; rfl
  · have : y % 2 = 0 := by omega
    rw [this]; rfl
theorem bit_mod (x m : Nat) : (((x : Int) / 2 ^ m).tmod 2 == 1) = x.testBit m := by
  have h1 : ((x : Int) / 2 ^ m) = ((x / 2 ^ m : Nat) : Int) := by simp
  rw [h1, Nat.testBit_eq_decide_div_mod_eq]
  generalize x / 2 ^ m = y
  rw [Int.tmod_eq_emod_of_nonneg (by omega)]
  by_cases h : y % 2 = 1
  · rw [show ((y : Int) % 2) = 1 from by omega, h]; rfl
  · rw [show ((y : Int) % 2) = 0 from by omega, show y % 2 = 0 from by omega]; rfl
theorem bit_or (x m : Nat) (hx : x < 18446744073709551616) (hm : m < 64) : bits .or .u64 (x : Int) (IntKind.u64.wrap (2 ^ m)) = ((x ||| 2 ^ m : Nat) : Int) := by
  have hp : (2 : Nat) ^ m < 18446744073709551616 := Nat.lt_of_lt_of_le (Nat.pow_lt_pow_right (by omega) hm) (by decide)
  have h1 : IntKind.u64.wrap (2 ^ m) = ((2 ^ m : Nat) : Int) := by
    have e : ((2 : Int) ^ m) = ((2 ^ m : Nat) : Int) := by simp
    rw [e, IntKind.wrap_u64]
    generalize 2 ^ m = y at *
    omega
  rw [h1]
  exact u64_or_nat _ _ hx hp

theorem quarter (n : Nat) (h : n < 256) : n / 64 = 0 ∨ n / 64 = 1 ∨ n / 64 = 2 ∨ n / 64 = 3 := by omega

def HasIs (q : Q4) (n : Nat) (r : Bool) : Prop := ∀ w, Calls Try.prog 56 #[.agg #[.int .u64 q.a, .int .u64 q.b, .int .u64 q.c, .int .u64 q.d], .int .u8 n] w fun e w' => e = .returned (.bool r) ∧ Below w.heap.size w w'
def RHasIs (q : Q4) (n : Nat) (r : Bool) : Prop := ∀ w, Calls Try.prog 57 #[.agg #[.int .u64 q.a, .int .u64 q.b, .int .u64 q.c, .int .u64 q.d], .int .u8 n] w fun e w' => e = .returned (.bool r) ∧ Below w.heap.size w w'

set_option maxRecDepth 100000 in
theorem has_any (q : Q4) (hq : Fits q) (n : Nat) (hn : n < 256) (r : Bool) (hr : r = has q n) : HasIs q n r := by
  intro w
  have HR : Hid (r = has q n) := hr
  clear hr
  obtain ⟨m, hm, hm64⟩ : ∃ m : Nat, n % 64 = m ∧ m < 64 := ⟨_, rfl, by omega⟩
  have e2 : ((n : Int) % 64) = m := by omega
  rcases quarter n hn with h | h | h | h
  · have e1 : ((n : Int) / 64) = 0 := by omega
    have e3 := bit_and q.a m hq.a
    have HB : Hid (q.a.testBit m = r) := by show _ = _; rw [HR.out]; unfold has; rw [h, hm]; rfl
    clear h hm HR hn
    go_enter Try.func56, Try.ntmps56
    go_wp2
    go_ret
    exact ⟨by rw [← HB.out]; rfl, (Below.refl _ _).alloc (Nat.le_refl _) _⟩
  · have e1 : ((n : Int) / 64) = 1 := by omega
    have e3 := bit_and q.b m hq.b
    have HB : Hid (q.b.testBit m = r) := by show _ = _; rw [HR.out]; unfold has; rw [h, hm]; rfl
    clear h hm HR hn
    go_enter Try.func56, Try.ntmps56
    go_wp2
    go_ret
    exact ⟨by rw [← HB.out]; rfl, (Below.refl _ _).alloc (Nat.le_refl _) _⟩
  · have e1 : ((n : Int) / 64) = 2 := by omega
    have e3 := bit_and q.c m hq.c
    have HB : Hid (q.c.testBit m = r) := by show _ = _; rw [HR.out]; unfold has; rw [h, hm]; rfl
    clear h hm HR hn
    go_enter Try.func56, Try.ntmps56
    go_wp2
    go_ret
    exact ⟨by rw [← HB.out]; rfl, (Below.refl _ _).alloc (Nat.le_refl _) _⟩
  · have e1 : ((n : Int) / 64) = 3 := by omega
    have e3 := bit_and q.d m hq.d
    have HB : Hid (q.d.testBit m = r) := by show _ = _; rw [HR.out]; unfold has; rw [h, hm]; rfl
    clear h hm HR hn
    go_enter Try.func56, Try.ntmps56
    go_wp2
    go_ret
    exact ⟨by rw [← HB.out]; rfl, (Below.refl _ _).alloc (Nat.le_refl _) _⟩

set_option maxRecDepth 100000 in
theorem rhas_any (q : Q4) (hq : Fits q) (n : Nat) (hn : n < 256) (r : Bool) (hr : r = has q n) : RHasIs q n r := by
  intro w
  have HR : Hid (r = has q n) := hr
  clear hr
  obtain ⟨m, hm, hm64⟩ : ∃ m : Nat, n % 64 = m ∧ m < 64 := ⟨_, rfl, by omega⟩
  have e2 : ((n : Int) % 64) = m := by omega
  rcases quarter n hn with h | h | h | h
  · have e1 : ((n : Int) / 64) = 0 := by omega
    have e3 := bit_mod q.a m
    have HB : Hid (q.a.testBit m = r) := by show _ = _; rw [HR.out]; unfold has; rw [h, hm]; rfl
    clear h hm HR hn
    go_enter Try.func57, Try.ntmps57
    go_wp2
    go_ret
    exact ⟨by rw [← HB.out]; rfl, (Below.refl _ _).alloc (Nat.le_refl _) _⟩
  · have e1 : ((n : Int) / 64) = 1 := by omega
    have e3 := bit_mod q.b m
    have HB : Hid (q.b.testBit m = r) := by show _ = _; rw [HR.out]; unfold has; rw [h, hm]; rfl
    clear h hm HR hn
    go_enter Try.func57, Try.ntmps57
    go_wp2
    go_ret
    exact ⟨by rw [← HB.out]; rfl, (Below.refl _ _).alloc (Nat.le_refl _) _⟩
  · have e1 : ((n : Int) / 64) = 2 := by omega
    have e3 := bit_mod q.c m
    have HB : Hid (q.c.testBit m = r) := by show _ = _; rw [HR.out]; unfold has; rw [h, hm]; rfl
    clear h hm HR hn
    go_enter Try.func57, Try.ntmps57
    go_wp2
    go_ret
    exact ⟨by rw [← HB.out]; rfl, (Below.refl _ _).alloc (Nat.le_refl _) _⟩
  · have e1 : ((n : Int) / 64) = 3 := by omega
    have e3 := bit_mod q.d m
    have HB : Hid (q.d.testBit m = r) := by show _ = _; rw [HR.out]; unfold has; rw [h, hm]; rfl
    clear h hm HR hn
    go_enter Try.func57, Try.ntmps57
    go_wp2
    go_ret
    exact ⟨by rw [← HB.out]; rfl, (Below.refl _ _).alloc (Nat.le_refl _) _⟩
end Go.Proofs.Ytfilndgbgdnpiaa.st

namespace Go.Proofs.Ytfilndgbgdnpiaa.nf
open Go.RowKit Go.Shelf
set_option linter.unusedVariables false
attribute [local go_sem] Oper.semAt_some
open df (Kp Owns Row iv In IntsV)

def setOf (e : Ed) : st.Q4 := ⟨e.a, e.b, e.c, e.d⟩
def hasE (e : Ed) (b : Nat) : Bool := st.has (setOf e) b
def addB (b : Nat) (st : List Int × List Int) (e : Ed) : List Int × List Int := if e.free = false ∧ hasE e b = true then addE st e.to else st
def addBs (b : Nat) (es : List Ed) (st : List Int × List Int) : List Int × List Int := es.foldl (addB b) st
theorem addBs_snoc (b : Nat) (es : List Ed) (e : Ed) (st : List Int × List Int) : addBs b (es ++ [e]) st = addB b (addBs b es st) e := by unfold addBs; rw [List.foldl_append]; rfl
def stepL (L : List Ed) (b : Nat) (l : List Int) (st : List Int × List Int) : List Int × List Int := l.foldl (fun st s => addBs b (chainOf L L.length s) st) st
theorem stepL_snoc (L : List Ed) (b : Nat) (l : List Int) (s : Int) (st : List Int × List Int) : stepL L b (l ++ [s]) st = addBs b (chainOf L L.length s) (stepL L b l st) := by unfold stepL; rw [List.foldl_append]; rfl
theorem fits_of {e : Ed} (h : Fits e) : st.Fits (setOf e) := ⟨h.1, h.2.1, h.2.2.1, h.2.2.2⟩
/-- a crowd that is only read -/
structure Here (X : Nat → Prop) (W : World) (c : Nat) (l : List Int) : Prop where
  lie : ∃ v0 ga ca v2, W.heap[c]? = some (.cells #[v0, .slice ga l.length ca, v2] 76 (0, 0)) ∧ Row X W iv ga ca l
  pc : X c
theorem Here.carry {X : Nat → Prop} {W W' : World} {c : Nat} {l : List Int} (h : Here X W c l) (k : Kp X W W') : Here X W' c l := by
  obtain ⟨v0, ga, ca, v2, h1, h2⟩ := h.lie
  exact ⟨⟨v0, ga, ca, v2, (k.2 c h.pc).trans h1, h2.carry k.2 (fun _ => id)⟩, h.pc⟩
def StepIs (x : Nfa) (n : Nat) (b : Nat) : Prop := ∀ (X : Nat → Prop) (B c1 c sb : Nat) (l l2 q2 : List Int) (o : Option Addr) (cap fb nb : Nat) (W : World), Cr X W B c sb n l2 q2 → Here X W c1 l → (∀ t ∈ l, 0 ≤ t ∧ t < (n : Int)) → WebAt X W x.edges n o cap fb nb →
    Calls Try.prog 35 #[.pointer (some ⟨c1, 0, none⟩), webV o x.edges.length cap n fb nb, .int .u8 (b : Int), .pointer (some ⟨c, 0, none⟩)] W fun e W' => (∃ v, e = .returned v) ∧ Cr X W' B c sb n (stepL x.edges b l (l2, q2)).1 (stepL x.edges b l (l2, q2)).2 ∧ Moved X B W W'
set_option maxRecDepth 100000 in
set_option maxHeartbeats 4000000 in
theorem step_in (x : Nfa) (n : Nat) (hn : n ≤ 2000) (hm : x.edges.length ≤ 16000) (hto : ∀ e ∈ x.edges, (0 ≤ e.to ∧ e.to < (n : Int)) ∧ Fits e) (b : Nat) (hb : b < 256) (X : Nat → Prop) (B c1 c sb : Nat) (l l2 q2 : List Int) (o : Option Addr) (cap fb nb : Nat) (W : World) (hC : Cr X W B c sb n l2 q2) (hH : Here X W c1 l) (hl : ∀ t ∈ l, 0 ≤ t ∧ t < (n : Int)) (hW : WebAt X W x.edges n o cap fb nb) :
    CallsIn Fence.wide 6 Try.prog 35 #[.pointer (some ⟨c1, 0, none⟩), webV o x.edges.length cap n fb nb, .int .u8 (b : Int), .pointer (some ⟨c, 0, none⟩)] W fun e W' => (∃ v, e = .returned v) ∧ Cr X W' B c sb n (stepL x.edges b l (l2, q2)).1 (stepL x.edges b l (l2, q2)).2 ∧ Moved X B W W' := by
  have hB : B ≤ W.heap.size := by obtain ⟨m, va, vw, k, _⟩ := hC.lie; exact k.size
  have hXl : ∀ b, X b → b < W.heap.size := hW.lt
  obtain ⟨W2, hW2⟩ : ∃ W2, W2 = ((W.alloc (.cells #[.slice o x.edges.length cap, .slice (some ⟨fb, 0, none⟩) n n, .slice (some ⟨nb, 0, none⟩) x.edges.length x.edges.length] 70)).alloc (.cells #[.int .u8 (b : Int)] 5)).alloc (.cells #[.pointer (some ⟨c, 0, none⟩)] 72) := ⟨_, rfl⟩
  have sz : W2.heap.size = W.heap.size + 1 + 1 + 1 := by rw [hW2]; simp
  have B2 : Below W.heap.size W W2 := by rw [hW2]; exact (((Below.refl _ W).alloc (Nat.le_refl _) _).alloc (by simp) _).alloc (by simp; omega) _
  have M0 : Moved X B W W2 := moved_of B2 hXl hB
  have t3 := three W.heap (.cells #[.slice o x.edges.length cap, .slice (some ⟨fb, 0, none⟩) n n, .slice (some ⟨nb, 0, none⟩) x.edges.length x.edges.length] 70) (.cells #[.int .u8 (b : Int)] 5) (.cells #[.pointer (some ⟨c, 0, none⟩)] 72)
  have Q2 : WBox W2 W.heap.size o x.edges.length cap n fb nb := by rw [hW2]; exact t3.1
  have Y2 : Boxed W2 (W.heap.size + 1) 5 (.int .u8 (b : Int)) := by rw [hW2]; exact t3.2.1
  have P2 : Boxed W2 (W.heap.size + 1 + 1) 72 (.pointer (some ⟨c, 0, none⟩)) := by rw [hW2]; exact t3.2.2
  obtain ⟨X', hX'⟩ : ∃ X' : Nat → Prop, X' = fun b => X b ∨ (W.heap.size ≤ b ∧ b < W.heap.size + 1 + 1 + 1) := ⟨_, rfl⟩
  have hXX : ∀ b, X b → X' b := fun b hb => by rw [hX']; exact .inl hb
  have hXq : X' W.heap.size := by rw [hX']; exact .inr (by omega)
  have hXy : X' (W.heap.size + 1) := by rw [hX']; exact .inr (by omega)
  have hXp : X' (W.heap.size + 1 + 1) := by rw [hX']; exact .inr (by omega)
  have hX'l : ∀ b, X' b → b < W2.heap.size := fun b hb => by
    rw [hX'] at hb
    rcases hb with h | h
    · have := hXl b h; omega
    · omega
  have C2 : Cr X' W2 B c sb n l2 q2 := hC.more B2 (fun b hb => by
    rw [hX'] at hb
    rcases hb with h | h
    · exact .inl h
    · exact .inr (by omega))
  have V2 : WebAt X' W2 x.edges n o cap fb nb := by
    have V := hW.carry (Kp.below B2 B2.size hXl)
    exact ⟨V.fit, V.top, fun i hi => by obtain ⟨b, off, e, hp, hc⟩ := V.lie i hi; exact ⟨b, off, e, hXX b hp, hc⟩, V.fr, V.nr, hXX _ V.pf, hXX _ V.pn, hX'l⟩
  have H2 : Here X' W2 c1 l := by
    obtain ⟨v0, ga, ca, v2, h1, h2⟩ := (hH.carry (Kp.below B2 B2.size hXl)).lie
    exact ⟨⟨v0, ga, ca, v2, h1, h2.carry (fun _ _ => rfl) hXX⟩, hXX _ hH.pc⟩
  have hB2 : B ≤ W2.heap.size := by omega
  obtain ⟨v0, ga, ca, v2, hblk, hrow⟩ := H2.lie
  have k1 : W2.cell? ⟨c1, 1, none⟩ = some (.slice ga l.length ca) := by rw [Lib.cell_of_heap hblk]; rfl
  have hfit := hrow.fit
  have htop := hrow.top
  have HROW := (show Hid (Row X' W2 iv ga ca l) from hrow)
  have HRG := (show Hid (∀ t ∈ l, 0 ≤ t ∧ t < (n : Int)) from hl)
  have k1' := k1
  rw [hW2] at k1'
  clear hX' t3 hrow hblk hl
  refine callsIn_of_wp_marks Try.func35 rfl trivial ?_ rfl
  simp only [Try.ntmps35, List.size_toArray, List.length_cons, List.length_nil, Nat.reduceAdd, Nat.reduceSub, Array.replicate_succ, Array.replicate_zero, List.push_toArray, List.append_toArray, List.nil_append, List.cons_append]
  gi_wp2
  rw [← hW2]
  clear hW2 k1 k1'
  refine wpIn_loop_ghost (fun k a w => ∃ (i : Nat) (ds : List Nat) (u9 u10 u17 u18 u19 u20 u21 u22 u23 u24 u25 u26 u27 u28 u29 u30 u31 u32 u33 u34 u35 u36 u37 : Value), k = l.length - i ∧ i ≤ l.length ∧ a = { tmps := #[.pointer (some ⟨c1, 0, none⟩), webV o x.edges.length cap n fb nb, .int .u8 (b : Int), .pointer (some ⟨c, 0, none⟩), undef, .pointer (some ⟨W.heap.size, 0, none⟩), .pointer (some ⟨W.heap.size + 1, 0, none⟩), .pointer (some ⟨W.heap.size + 1 + 1, 0, none⟩), undef, u9, u10, .pointer (some ⟨c1, 0, none⟩), .pointer (some ⟨c1, 0, none⟩), .pointer (some ⟨c1, 1, none⟩), .slice ga l.length ca, .int .i64 (l.length : Int), .int .i64 (i : Int), u17, u18, u19, u20, u21, u22, u23, u24, u25, u26, u27, u28, u29, u30, u31, u32, u33, u34, u35, u36, u37], defers := ds.map mark } ∧ Cr X' w B c sb n (stepL x.edges b (l.take i) (l2, q2)).1 (stepL x.edges b (l.take i) (l2, q2)).2 ∧ Moved X' B W2 w ∧ Marks W2.heap.size ds w) l.length ⟨0, [], undef, undef, undef, undef, undef, undef, undef, undef, undef, undef, undef, undef, undef, undef, undef, undef, undef, undef, undef, undef, undef, undef, undef, by omega, by omega, rfl, C2, Moved.refl _ _ _, ⟨List.nodup_nil, by simp⟩⟩ ?_
  rintro k a w ⟨i, ds, u9, u10, u17, u18, u19, u20, u21, u22, u23, u24, u25, u26, u27, u28, u29, u30, u31, u32, u33, u34, u35, u36, u37, rfl, hil, rfl, hC1, hM1, hD1⟩
  by_cases hend : i < l.length
  · obtain ⟨rb, roff, rfl, hprb, hrc⟩ := HROW.out.lie i hend
    have hrc2 : w.cell? ⟨rb, roff + i, none⟩ = some (.int .i64 l[i]) := by have h := hM1.kp.2 rb hprb; simp only [World.cell?, h] at hrc ⊢; exact hrc
    have htk := List.take_succ_eq_append_getElem hend
    have hrg := HRG.out l[i] (List.getElem_mem hend)
    obtain ⟨s, hs⟩ : ∃ s : Nat, l[i] = (s : Int) := ⟨l[i].toNat, by omega⟩
    rw [hs] at hrc2 hrg htk
    have hsn : s < n := by omega
    have HSN : Hid (stepL x.edges b (l.take (i + 1)) (l2, q2) = addBs b (chainOf x.edges x.edges.length (s : Int)) (stepL x.edges b (l.take i) (l2, q2))) := by show _ = _; rw [htk, stepL_snoc]
    clear hs htk hrc hrg
    generalize stepL x.edges b (l.take i) (l2, q2) = S0 at *
    have q3 : WBox w W.heap.size o x.edges.length cap n fb nb := (hM1.kp.2 _ hXq).trans Q2
    have e0 := q3.c0
    have e1 := q3.c1
    have e2 := q3.c2
    have V3 := V2.carry hM1.kp
    have hfrom := fun W => from_in o x.edges.length cap n fb nb (s : Int) W
    gi_wp2_with (refine ⟨trivial, ?_⟩; gi_at_call 55; refine (callsIn_wide.2 (hfrom _)).mono ?_; rintro e w4 ⟨rfl, rfl⟩)
    have hsz3 : W2.heap.size ≤ w.heap.size := hM1.kp.1
    obtain ⟨W4, hW4⟩ : ∃ W4, W4 = (w.alloc (.cells #[.slice o x.edges.length cap, .slice (some ⟨fb, 0, none⟩) n n, .slice (some ⟨nb, 0, none⟩) x.edges.length x.edges.length] 70)).alloc (.cells #[.int .i64 (s : Int)] 3) := ⟨_, rfl⟩
    have sz4 : W4.heap.size = w.heap.size + 1 + 1 := by rw [hW4]; simp
    have B4 : Below w.heap.size w W4 := by rw [hW4]; exact ((Below.refl _ w).alloc (Nat.le_refl _) _).alloc (by simp) _
    have G4 : WBox W4 w.heap.size o x.edges.length cap n fb nb := by rw [hW4]; exact (Below.heap_alloc _ _ _ (by simp)).trans (World.alloc_heap_new w _)
    have S4 : Boxed W4 (w.heap.size + 1) 3 (.int .i64 (s : Int)) := by
      rw [hW4]
      have := Boxed.new (w.alloc (.cells #[.slice o x.edges.length cap, .slice (some ⟨fb, 0, none⟩) n n, .slice (some ⟨nb, 0, none⟩) x.edges.length x.edges.length] 70)) 3 (.int .i64 (s : Int))
      rwa [World.size_alloc] at this
    have hX3 : ∀ b, X' b → b < w.heap.size := fun b hb => Nat.lt_of_lt_of_le (hX'l b hb) hsz3
    have MM4 : Moved X' B w W4 := moved_of B4 hX3 (by omega)
    obtain ⟨Y, hY⟩ : ∃ Y : Nat → Prop, Y = fun b => X' b ∨ b = w.heap.size := ⟨_, rfl⟩
    have hXY : ∀ b, X' b → Y b := fun b hb => by rw [hY]; exact .inl hb
    have hYg : Y w.heap.size := by rw [hY]; exact .inr rfl
    have hYl : ∀ b, Y b → b < W4.heap.size := fun b hb => by
      rw [hY] at hb
      rcases hb with h | h
      · have := hX3 b h; omega
      · omega
    have C4 : Cr Y W4 B c sb n S0.1 S0.2 := hC1.more B4 (fun b hb => by
      rw [hY] at hb
      rcases hb with h | h
      · exact .inl h
      · exact .inr (by omega))
    have V4 : WebAt Y W4 x.edges n o cap fb nb := by
      have V := V3.carry (Kp.below B4 B4.size hX3)
      exact ⟨V.fit, V.top, fun i hi => by obtain ⟨b, off, e, hp, hc⟩ := V.lie i hi; exact ⟨b, off, e, hXY b hp, hc⟩, V.fr, V.nr, hXY _ V.pf, hXY _ V.pn, hYl⟩
    have P4 : Boxed W4 (W.heap.size + 1 + 1) 72 (.pointer (some ⟨c, 0, none⟩)) := (MM4.kp.2 _ hXp).trans ((hM1.kp.2 _ hXp).trans P2)
    have Y4 : Boxed W4 (W.heap.size + 1) 5 (.int .u8 (b : Int)) := (MM4.kp.2 _ hXy).trans ((hM1.kp.2 _ hXy).trans Y2)
    have hB4 : B ≤ W4.heap.size := by omega
    rw [← hW4]
    clear hW4 hY e0 e1 e2
    refine wpIn_rangeFunc_ownH (α := { e : Ed // (0 ≤ e.to ∧ e.to < (n : Int)) ∧ Fits e }) rfl (by omega) (gf := 76) (lb := #[.pointer (some ⟨w.heap.size, 0, none⟩), .pointer (some ⟨w.heap.size + 1, 0, none⟩)]) rfl trivial (enters_of Try.func76 (by kernel_rfl) rfl)
      (from_stops (Q := fun e => (0 ≤ e.to ∧ e.to < (n : Int)) ∧ Fits e) Y w.heap.size (w.heap.size + 1) x.edges n s hsn hm o cap fb nb hto W4 V4 G4 hYg S4) (fun h k => h.trans k) (Kp.book hYl) (Below.refl _ _) (fun _ => rfl)
      (fun pre V => Cr Y V B c sb n (addBs b (esOf pre) S0).1 (addBs b (esOf pre) S0).2 ∧ Moved Y B W4 V)
      (fun _ _ _ => False)
      (OwnFrom.and (Cr.own _) (moved_own hYl hB4 (Nat.le_refl _)))
      (fun _ _ _ _ _ hs _ _ => hs)
      ⟨C4, Moved.refl _ _ _⟩
      (fun y a' V => ∃ Bx, V.heap[Bx]? = some (.cells #[.int .i64 y.1.fr, .int .i64 y.1.to, .bool y.1.free, .int .u64 y.1.a, .int .u64 y.1.b, .int .u64 y.1.c, .int .u64 y.1.d] 68 (0, 0)) ∧ a' = { tmps := #[.pointer (some ⟨c1, 0, none⟩), webV o x.edges.length cap n fb nb, .int .u8 (b : Int), .pointer (some ⟨c, 0, none⟩), undef, .pointer (some ⟨W.heap.size, 0, none⟩), .pointer (some ⟨W.heap.size + 1, 0, none⟩), .pointer (some ⟨W.heap.size + 1 + 1, 0, none⟩), undef, .int .i64 (s : Int), .pointer (some ⟨Bx, 0, none⟩), .pointer (some ⟨c1, 0, none⟩), .pointer (some ⟨c1, 0, none⟩), .pointer (some ⟨c1, 1, none⟩), .slice (some ⟨rb, roff, none⟩) l.length ca, .int .i64 (l.length : Int), .int .i64 (i : Int), .bool true, .pointer (some ⟨rb, roff + i, none⟩), .int .i64 (s : Int), webV o x.edges.length cap n fb nb, .int .i64 (s : Int), .func (.func 76) #[] #[.pointer (some ⟨w.heap.size, 0, none⟩), .pointer (some ⟨w.heap.size + 1, 0, none⟩)], edV y.1, u24, u25, u26, u27, u28, u29, u30, u31, u32, u33, u34, u35, u36, u37], defers := [] })
      (fun y a' _ V V' row hs hg hr => by
        obtain ⟨Bx, h1, h2⟩ := hs
        exact ⟨Bx, (hg.block Bx (Array.getElem?_eq_some_iff.1 h1).1 (fun e => by obtain ⟨_, o', ho', hn'⟩ := hr Bx e.symm; rw [h1] at ho'; cases ho'; cases hn')).trans h1, h2⟩)
      ?assign ?body ?done ?stop
    case assign =>
      rintro lo pre y V KK ⟨hC, hM⟩ hKK
      have hVl : ∀ b, Y b → b < V.heap.size := fun b hb => Nat.lt_of_lt_of_le (hYl b hb) hM.kp.1
      have hBV : B ≤ V.heap.size := Nat.le_trans hB4 hM.kp.1
      gi_wp2
      have mv := (Moved.refl Y B V).alloc hVl hBV (.cells #[.int .i64 y.1.fr, .int .i64 y.1.to, .bool y.1.free, .int .u64 y.1.a, .int .u64 y.1.b, .int .u64 y.1.c, .int .u64 y.1.d] 68)
      exact hKK _ _ (mv.ot.from _) mv.kp ⟨hC.later (below_alloc _ _), hM.trans mv⟩ ⟨V.heap.size, World.alloc_heap_new V _, rfl⟩
    case body =>
      rintro lo pre y a' V hlo ⟨r, hr⟩ ⟨hC, hM⟩ ⟨Bx, hbx, rfl⟩ hlt
      have hVl : ∀ b, Y b → b < V.heap.size := fun b hb => Nat.lt_of_lt_of_le (hYl b hb) hM.kp.1
      have hBV : B ≤ V.heap.size := Nat.le_trans hB4 hM.kp.1
      have d1 : V.cell? ⟨Bx, 1, none⟩ = some (.int .i64 y.1.to) := by rw [Lib.cell_of_heap hbx]; rfl
      have d2 : V.cell? ⟨Bx, 2, none⟩ = some (.bool y.1.free) := by rw [Lib.cell_of_heap hbx]; rfl
      have d3 : V.cell? ⟨Bx, 3, none⟩ = some (.int .u64 y.1.a) := by rw [Lib.cell_of_heap hbx]; rfl
      have d4 : V.cell? ⟨Bx, 4, none⟩ = some (.int .u64 y.1.b) := by rw [Lib.cell_of_heap hbx]; rfl
      have d5 : V.cell? ⟨Bx, 5, none⟩ = some (.int .u64 y.1.c) := by rw [Lib.cell_of_heap hbx]; rfl
      have d6 : V.cell? ⟨Bx, 6, none⟩ = some (.int .u64 y.1.d) := by rw [Lib.cell_of_heap hbx]; rfl
      have hbl : Bx < V.heap.size := (Array.getElem?_eq_some_iff.1 hbx).1
      have pV : Boxed V (W.heap.size + 1 + 1) 72 (.pointer (some ⟨c, 0, none⟩)) := (hM.kp.2 _ (hXY _ hXp)).trans P4
      have yV : Boxed V (W.heap.size + 1) 5 (.int .u8 (b : Int)) := (hM.kp.2 _ (hXY _ hXy)).trans Y4
      have pcV := pV.cell
      have ycV := yV.cell
      obtain ⟨y, hy0, hyf⟩ := y
      obtain ⟨hy1, hy2⟩ := hy0
      dsimp only at *
      have HSN2 : Hid (addBs b (esOf (pre ++ [⟨y, ⟨hy1, hy2⟩, hyf⟩])) S0 = addB b (addBs b (esOf pre) S0) y) := by show _ = _; rw [esOf_snoc]; exact addBs_snoc _ _ _ _
      obtain ⟨s2, hs2⟩ : ∃ s2 : Nat, y.to = (s2 : Int) := ⟨y.to.toNat, by omega⟩
      cases hf : y.free with
      | true =>
        rw [hf] at d2
        have e1 : Hid (addBs b (esOf (pre ++ [⟨y, ⟨hy1, hy2⟩, hyf⟩])) S0 = addBs b (esOf pre) S0) := by show _ = _; rw [HSN2.out]; unfold addB; rw [if_neg (by rw [hf]; simp)]
        clear hs2 hf HSN2
        gi_wp2
        skip
        refine ⟨trivial, ?_⟩
        gi_wp2
        exact ⟨KeepsFrom.refl _ _, ⟨Nat.le_refl _, fun _ _ => rfl⟩, by rw [e1.out]; exact hC, hM⟩
      | false =>
        rw [hf] at d2
        have h48 := st.has_any (setOf y) (fits_of hyf) b hb _ rfl
        unfold st.HasIs setOf at h48
        dsimp only at h48
        cases hh : hasE y b with
        | false =>
          have hh2 : st.has ⟨y.a, y.b, y.c, y.d⟩ b = false := hh
          rw [hh2] at h48
          have e1 : Hid (addBs b (esOf (pre ++ [⟨y, ⟨hy1, hy2⟩, hyf⟩])) S0 = addBs b (esOf pre) S0) := by show _ = _; rw [HSN2.out]; unfold addB; rw [if_neg (by rw [hh]; simp)]
          clear hs2 hf HSN2 hh hh2
          gi_wp2_with (refine ⟨trivial, ?_⟩; gi_at_call 56; refine (CallsIn.inRound lo (callsIn_wide.2 (h48 _))).mono ?_; rintro e V1 ⟨rfl, b1⟩)
          have mv := moved_of (X := Y) b1 hVl hBV
          exact ⟨mv.ot.from _, mv.kp, by rw [e1.out]; exact hC.later b1, hM.trans mv⟩
        | true =>
          have hh2 : st.has ⟨y.a, y.b, y.c, y.d⟩ b = true := hh
          rw [hh2] at h48
          have e1 : Hid (addBs b (esOf (pre ++ [⟨y, ⟨hy1, hy2⟩, hyf⟩])) S0 = addE (addBs b (esOf pre) S0) (s2 : Int)) := by show _ = _; rw [HSN2.out]; unfold addB; rw [if_pos ⟨hf, hh⟩, hs2]
          have hadd := add_any Y B c sb n hn (addBs b (esOf pre) S0).1 (addBs b (esOf pre) S0).2 s2 (by omega)
          unfold AddIs at hadd
          rw [hs2] at d1
          clear hs2 hf HSN2 hh hh2
          gi_wp2_with (first | (refine ⟨trivial, ?_⟩; gi_at_call 56; refine (CallsIn.inRound lo (callsIn_wide.2 (h48 _))).mono ?_; rintro e V1 ⟨rfl, b1⟩; have hC1' := hC.later b1; have g1 := (b1.cell (p := ⟨W.heap.size + 1 + 1, 0, none⟩) pV.lt).trans pcV; have g2 := (b1.cell (p := ⟨Bx, 1, none⟩) hbl).trans d1) | (refine ⟨trivial, ?_⟩; gi_at_call 33; refine (CallsIn.inRound lo (callsIn_wide.2 (hadd _ hC1'))).mono ?_; rintro e V2 ⟨⟨v, rfl⟩, hC2, hM2⟩))
          have mv := (moved_of (X := Y) b1 hVl hBV).trans hM2
          exact ⟨mv.ot.from _, mv.kp, by rw [e1.out]; exact hC2, hM.trans mv⟩
    case done =>
      rintro D ys V hD hS ⟨hC, hM⟩ hK
      have hS2 : esOf ys = chainOf x.edges x.edges.length (s : Int) := hS
      rw [hS2, ← HSN.out] at hC
      have mv : Moved X' B w V := MM4.trans (hM.less hXY)
      have D5 : Marks W2.heap.size (D :: ds) V := by
        have h := hD1.moved mv
        refine ⟨List.nodup_cons.2 ⟨fun hin => ?_, h.nd⟩, fun D' hD' => ?_⟩
        · have h1 := (hD1.at' D hin).2
          have h2 := (Array.getElem?_eq_some_iff.1 h1).1
          omega
        · rcases List.mem_cons.1 hD' with rfl | h1
          · exact ⟨by omega, hK⟩
          · exact h.at' D' h1
      gi_wp2
      exact ⟨l.length - (i + 1), by omega, i + 1, D :: ds, _, _, _, _, _, _, _, _, _, _, _, _, _, _, _, _, _, _, _, _, _, _, _, rfl, by omega, rfl, hC.less hXY, hM1.trans mv, D5⟩
    case stop =>
      rintro D cc pre V _ _ h _
      exact h.elim
  · have ei : l.take i = l := List.take_of_length_le (by omega)
    rw [ei] at hC1
    clear ei
    gi_wp2
    refine leave_marks (N := W2.heap.size) (fun W' => Cr X' W' B c sb n (stepL x.edges b l (l2, q2)).1 (stepL x.edges b l (l2, q2)).2 ∧ Moved X' B W2 W') (fun V D hV hD hd => ?_) (fun V hV => ?_) ds w hD1 ⟨hC1, hM1⟩
    · exact ⟨Cr.own (N := W2.heap.size) (fun _ : Unit => stepL x.edges b l (l2, q2)) () V _ (some D) hV.1 (grownBy_putObj' V D _) (fun r e => by cases e; exact ⟨hD, _, hd, rfl⟩), moved_own hX'l hB2 (Nat.le_refl _) () V _ (some D) hV.2 (grownBy_putObj' V D _) (fun r e => by cases e; exact ⟨hD, _, hd, rfl⟩)⟩
    · exact ⟨_, results_none rfl _ _ _, ⟨_, rfl⟩, hV.1.less hXX, M0.trans (hV.2.less hXX)⟩
theorem step_any (x : Nfa) (n : Nat) (hn : n ≤ 2000) (hm : x.edges.length ≤ 16000) (hto : ∀ e ∈ x.edges, (0 ≤ e.to ∧ e.to < (n : Int)) ∧ Fits e) (b : Nat) (hb : b < 256) : StepIs x n b := fun X B c1 c sb l l2 q2 o cap fb nb W hC hH hl hW => callsIn_wide.1 (step_in x n hn hm hto b hb X B c1 c sb l l2 q2 o cap fb nb W hC hH hl hW)
end Go.Proofs.Ytfilndgbgdnpiaa.nf

namespace Go.Proofs.Ytfilndgbgdnpiaa.nf
open Go.RowKit Go.Shelf
set_option linter.unusedVariables false
open df (Kp Owns Row iv In IntsV)

def FreeIs (f : Nat) (x : Nfa) (l L : List Int) : Prop := ∀ o cap lo lcap w, Eds w o cap x.edges → Row (In w) w iv lo lcap l → Calls Try.prog f #[nfaV x.n x.s x.e o x.edges.length cap, .slice lo l.length lcap] w fun e w' => ∃ v, e = .returned v ∧ IntsV w' v L ∧ Below w.heap.size w w'
set_option maxHeartbeats 1000000 in
theorem free_no (x : Nfa) (l : List Int) (h : right x = false) : FreeIs 63 x l [] := by
  intro o cap lo lcap w hE hL
  have b0 := box_new w x.n x.s x.e o x.edges.length cap
  have h11 := right_any x false h.symm o cap _ (hE.later (below_alloc w (.cells #[.int .i64 x.n, .int .i64 x.s, .int .i64 x.e, .slice o x.edges.length cap] 31)))
  go_enter Try.func63, Try.ntmps63
  go_wp2_with (go_at_call 30; refine h11.mono ?_; rintro e w2 ⟨rfl, b2⟩)
  go_ret
  exact ⟨_, rfl, ⟨none, 0, rfl, Nat.le_refl _, by omega, fun i hi => by simp at hi⟩, chain (below_alloc _ _) b2⟩
theorem eds_keep {w W : World} {o : Option Addr} {cap : Nat} {l : List Ed} (h : Eds w o cap l) (hk : ∀ b, b < w.heap.size → W.heap[b]? = w.heap[b]?) (hs : w.heap.size ≤ W.heap.size) : Eds W o cap l :=
  ⟨h.fit, h.top, fun i hi => by
    obtain ⟨k, off, h1, h2, h3⟩ := h.lie i hi
    exact ⟨k, off, h1, Nat.lt_of_lt_of_le h2 hs, h3.same (hk k h2)⟩⟩
theorem more_of {N A C fb nb : Nat} (h1 : fb < C) (h2 : nb < C) (h3 : A ≤ fb) (h4 : A ≤ nb) : ∀ b, (b < N ∨ b = fb ∨ b = nb) → b < N ∨ (A ≤ b ∧ b < C) := by
  rintro b (h | h | h)
  · exact .inl h
  · exact .inr (by omega)
  · exact .inr (by omega)
theorem web_of {w W : World} {o : Option Addr} {cap n fb nb N : Nat} {l : List Ed} (h : Eds w o cap l) (hk : ∀ b, b < w.heap.size → W.heap[b]? = w.heap[b]?) (hN : w.heap.size ≤ N) (rf : IRow W fb (firsts l n l.length)) (rn : IRow W nb (nexts l l.length)) (hW : N ≤ W.heap.size) :
    WebAt (fun b => b < N ∨ b = fb ∨ b = nb) W l n o cap fb nb :=
  ⟨h.fit, h.top, fun i hi => by
    obtain ⟨k, off, h1, h2, h3⟩ := h.lie i hi
    exact ⟨k, off, h1, .inl (Nat.lt_of_lt_of_le h2 hN), h3.same (hk k h2)⟩, rf, rn, .inr (.inl rfl), .inr (.inr rfl), fun b hb => by
    rcases hb with h | h | h
    · omega
    · rw [h]; exact rf.lt
    · rw [h]; exact rn.lt⟩
end Go.Proofs.Ytfilndgbgdnpiaa.nf

namespace Go.Proofs.Ytfilndgbgdnpiaa.nf
open Go.RowKit Go.Shelf
set_option linter.unusedVariables false
open df (Kp Owns Row iv In IntsV)

def Fp (c sb : Nat) (va vw : Value) (b : Nat) : Prop := b = c ∨ b = sb ∨ some b = va.ownBlock ∨ some b = vw.ownBlock
/-- what a crowd keeps off: the rest, the other crowd's blocks, the row's block -/
def Off (X : Nat → Prop) (c sb : Nat) (va vw v : Value) (b : Nat) : Prop := X b ∨ Fp c sb va vw b ∨ some b = v.ownBlock
structure Mks (n : Nat) (m : List Bool) (l q : List Int) : Prop where
  ok : ∀ i, i < n → m[i]? = some (decide ((i : Int) ∈ l))
  nd : l.Nodup
  rg : ∀ t ∈ l, 0 ≤ t ∧ t < (n : Int)
  ql : q.length ≤ l.length
structure Pair (X : Nat → Prop) (W : World) (B c1 s1 c2 s2 n : Nat) (l1 q1 l2 q2 : List Int) (v : Value) (es : List Int) : Prop where
  lie : ∃ m1 a1 w1 m2 a2 w2, Crowd (Off X c2 s2 a2 w2 v) W B c1 s1 n m1 a1 w1 l1 q1 ∧ Crowd (Off X c1 s1 a1 w1 v) W B c2 s2 n m2 a2 w2 l2 q2 ∧ Mks n m1 l1 q1 ∧ Mks n m2 l2 q2
  row : Owns W B v es
  ap : ∀ b, X b → some b ≠ v.ownBlock
theorem Pair.swap {X : Nat → Prop} {W : World} {B c1 s1 c2 s2 n : Nat} {l1 q1 l2 q2 : List Int} {v : Value} {es : List Int} (h : Pair X W B c1 s1 c2 s2 n l1 q1 l2 q2 v es) : Pair X W B c2 s2 c1 s1 n l2 q2 l1 q1 v es := by
  obtain ⟨m1, a1, w1, m2, a2, w2, k1, k2, h1, h2⟩ := h.lie
  exact ⟨⟨m2, a2, w2, m1, a1, w1, k2, k1, h2, h1⟩, h.row, h.ap⟩
theorem Crowd.off {X Y : Nat → Prop} {W : World} {B c sb n : Nat} {m : List Bool} {va vw : Value} {l q : List Int} (h : Crowd X W B c sb n m va vw l q) (hy : ∀ b, Y b → b < W.heap.size ∧ b ≠ c ∧ b ≠ sb ∧ some b ≠ va.ownBlock ∧ some b ≠ vw.ownBlock) : Crowd Y W B c sb n m va vw l q :=
  ⟨h.blk, h.seen, h.ml, h.all, h.wait, h.two, h.bc, h.bs, hy⟩
theorem Crowd.fp_lt {X : Nat → Prop} {W : World} {B c sb n : Nat} {m : List Bool} {va vw : Value} {l q : List Int} (h : Crowd X W B c sb n m va vw l q) {b : Nat} (hb : Fp c sb va vw b) : b < W.heap.size := by
  rcases hb with rfl | rfl | e | e
  · exact h.lt
  · exact h.seen.lt
  · exact own_lt h.all e.symm
  · exact own_lt h.wait e.symm
theorem own_row {W : World} {B : Nat} {g : Option Addr} {k cap : Nat} {l : List Int} {P : Nat → Prop} (h : Owns W B (.slice g k cap) l) (hp : ∀ b, some b = (Value.slice g k cap).ownBlock → P b) : Row P W iv g cap l := by
  obtain ⟨e1, e2, e3⟩ := own_cap h
  refine ⟨e2, e3, fun i hi => ?_⟩
  obtain ⟨b, rfl, hc, hb⟩ := own_cell h i hi
  exact ⟨b, 0, rfl, hp b rfl, by rw [Nat.zero_add]; exact hc⟩
/-- a pair's first crowd may be worked on -/
theorem Pair.op {X : Nat → Prop} {W : World} {B c1 s1 c2 s2 n : Nat} {l1 q1 l2 q2 : List Int} {v : Value} {es : List Int} (h : Pair X W B c1 s1 c2 s2 n l1 q1 l2 q2 v es) :
    ∃ X1 : Nat → Prop, (∀ b, X b → X1 b) ∧ (∀ b, X1 b → b < W.heap.size) ∧ Cr X1 W B c1 s1 n l1 q1 ∧ Here X1 W c2 l2 ∧ ∀ W' l1' q1', Cr X1 W' B c1 s1 n l1' q1' → Moved X1 B W W' → Pair X W' B c1 s1 c2 s2 n l1' q1' l2 q2 v es := by
  obtain ⟨m1, a1, w1, m2, a2, w2, k1, k2, h1, h2⟩ := h.lie
  refine ⟨Off X c2 s2 a2 w2 v, fun b hb => .inl hb, fun b hb => (k1.ap b hb).1, ⟨⟨m1, a1, w1, k1, h1.ok⟩, h1.nd, h1.rg, h1.ql⟩, ?_, ?_⟩
  · obtain ⟨ga, ca, rfl⟩ := df.own_slice k2.all
    exact ⟨⟨_, ga, ca, w2, k2.blk, own_row k2.all (fun b hb => .inr (.inl (.inr (.inr (.inl hb)))))⟩, .inr (.inl (.inl rfl))⟩
  · intro W' l1' q1' hC hM
    obtain ⟨m, va, vw, K, hk⟩ := hC.lie
    have hsz := hM.kp.1
    have key : ∀ (v : Value) (l : List Int), Owns W B v l → (∀ b, some b = v.ownBlock → W'.heap[b]? = W.heap[b]?) → Owns W' B v l := fun v l ho hn => by
      refine ⟨ho.1, ?_⟩
      rcases ho.2 with h | ⟨g, cap, cur, rfl, hb, hg, hr⟩
      · exact .inl h
      · exact .inr ⟨g, cap, cur, rfl, hb, (hn g rfl).trans hg, hr⟩
    have k2' : Crowd (Off X c1 s1 a1 w1 v) W' B c2 s2 n m2 a2 w2 l2 q2 := k2.keep hsz (hM.kp.2 _ (.inr (.inl (.inl rfl)))) (hM.kp.2 _ (.inr (.inl (.inr (.inl rfl))))) (fun g e => hM.kp.2 _ (.inr (.inl (.inr (.inr (.inl e.symm)))))) (fun g e => hM.kp.2 _ (.inr (.inl (.inr (.inr (.inr e.symm))))))
    refine ⟨⟨m, va, vw, m2, a2, w2, K, k2'.off ?_, ⟨hk, hC.nd, hC.rg, hC.ql⟩, h2⟩, key v es h.row (fun b hb => hM.kp.2 b (.inr (.inr hb))), h.ap⟩
    intro b hb
    rcases hb with hb | hb | hb
    · exact k2'.ap b (.inl hb)
    · refine ⟨K.fp_lt hb, ?_⟩
      have f1 := K.ap c2 (.inr (.inl (.inl rfl)))
      have f2 := K.ap s2 (.inr (.inl (.inr (.inl rfl))))
      have f3 : ∀ b, some b = a2.ownBlock → b ≠ c1 ∧ b ≠ s1 ∧ some b ≠ va.ownBlock ∧ some b ≠ vw.ownBlock := fun b hb => (K.ap b (.inr (.inl (.inr (.inr (.inl hb)))))).2
      have f4 : ∀ b, some b = w2.ownBlock → b ≠ c1 ∧ b ≠ s1 ∧ some b ≠ va.ownBlock ∧ some b ≠ vw.ownBlock := fun b hb => (K.ap b (.inr (.inl (.inr (.inr (.inr hb)))))).2
      rcases hb with rfl | rfl | e | e
      · exact ⟨Ne.symm f1.2.1, Ne.symm f2.2.1, fun e => (f3 _ e).1 rfl, fun e => (f4 _ e).1 rfl⟩
      · exact ⟨Ne.symm f1.2.2.1, Ne.symm f2.2.2.1, fun e => (f3 _ e).2.1 rfl, fun e => (f4 _ e).2.1 rfl⟩
      · exact ⟨fun h => f1.2.2.2.1 (by rw [← h]; exact e), fun h => f2.2.2.2.1 (by rw [← h]; exact e), fun h => (f3 _ h).2.2.1 e, fun h => (f4 _ h).2.2.1 e⟩
      · exact ⟨fun h => f1.2.2.2.2 (by rw [← h]; exact e), fun h => f2.2.2.2.2 (by rw [← h]; exact e), fun h => (f3 _ h).2.2.2 e, fun h => (f4 _ h).2.2.2 e⟩
    · exact k2'.ap b (.inr (.inr hb))
theorem Pair.later {X : Nat → Prop} {W W' : World} {B c1 s1 c2 s2 n : Nat} {l1 q1 l2 q2 : List Int} {v : Value} {es : List Int} (h : Pair X W B c1 s1 c2 s2 n l1 q1 l2 q2 v es) (b : Below W.heap.size W W') : Pair X W' B c1 s1 c2 s2 n l1 q1 l2 q2 v es := by
  obtain ⟨m1, a1, w1, m2, a2, w2, k1, k2, h1, h2⟩ := h.lie
  refine ⟨⟨m1, a1, w1, m2, a2, w2, k1.later b, k2.later b, h1, h2⟩, ?_, h.ap⟩
  refine ⟨h.row.1, ?_⟩
  rcases h.row.2 with h | ⟨g, cap, cur, rfl, hb, hg, hr⟩
  · exact .inl h
  · exact .inr ⟨g, cap, cur, rfl, hb, (b.block g (Array.getElem?_eq_some_iff.1 hg).1).trans hg, hr⟩
theorem Pair.put {X : Nat → Prop} {W W' : World} {B c1 s1 c2 s2 n : Nat} {l1 q1 l2 q2 : List Int} {v : Value} {es es' : List Int} {g' k' cap' : Nat} (h : Pair X W B c1 s1 c2 s2 n l1 q1 l2 q2 v es) (ho : Owns W' B (.slice (some ⟨g', 0, none⟩) k' cap') es') (hg : W.grownBy W' v.ownBlock) (hw : some g' = v.ownBlock ∨ W.heap.size ≤ g') : Pair X W' B c1 s1 c2 s2 n l1 q1 l2 q2 (.slice (some ⟨g', 0, none⟩) k' cap') es' := by
  obtain ⟨m1, a1, w1, m2, a2, w2, k1, k2, h1, h2⟩ := h.lie
  have hsz : W.heap.size ≤ W'.heap.size := hg.size
  have hlt : g' < W'.heap.size := own_lt ho rfl
  have one : ∀ {Y Z : Nat → Prop} {c sb : Nat} {m : List Bool} {a u : Value} {l q : List Int}, Crowd Y W B c sb n m a u l q → (∀ b, some b = v.ownBlock → Y b) → (∀ b, Z b → Y b ∨ b = g') → Crowd Z W' B c sb n m a u l q := by
    intro Y Z c sb m a u l q k hv hz
    have fp : ∀ b, Fp c sb a u b → some b ≠ v.ownBlock := fun b hb e => by
      have := k.ap b (hv b e)
      rcases hb with r | r | r | r
      · exact this.2.1 r
      · exact this.2.2.1 r
      · exact this.2.2.2.1 r
      · exact this.2.2.2.2 r
    have k' : Crowd Y W' B c sb n m a u l q := k.keep hsz (hg.block c k.lt (fp _ (.inl rfl))) (hg.block sb k.seen.lt (fp _ (.inr (.inl rfl)))) (fun g e => hg.block g (own_lt k.all e) (fp _ (.inr (.inr (.inl e.symm))))) (fun g e => hg.block g (own_lt k.wait e) (fp _ (.inr (.inr (.inr e.symm)))))
    refine k'.off fun b hb => ?_
    rcases hz b hb with h | rfl
    · exact k'.ap b h
    · rcases hw with e | e
      · exact k'.ap b (hv b e)
      · have f := fun hb => k.fp_lt (b := b) hb
        exact ⟨hlt, fun h => by have := f (.inl h); omega, fun h => by have := f (.inr (.inl h)); omega, fun h => by have := f (.inr (.inr (.inl h))); omega, fun h => by have := f (.inr (.inr (.inr h))); omega⟩
  refine ⟨⟨m1, a1, w1, m2, a2, w2, one k1 (fun b hb => .inr (.inr hb)) ?_, one k2 (fun b hb => .inr (.inr hb)) ?_, h1, h2⟩, ho, fun b hb e => ?_⟩
  · rintro b (hb | hb | hb)
    · exact .inl (.inl hb)
    · exact .inl (.inr (.inl hb))
    · exact .inr (by simpa [Value.ownBlock] using hb)
  · rintro b (hb | hb | hb)
    · exact .inl (.inl hb)
    · exact .inl (.inr (.inl hb))
    · exact .inr (by simpa [Value.ownBlock] using hb)
  · have e' : b = g' := by simpa [Value.ownBlock] using e
    rcases hw with r | r
    · exact h.ap b hb (by rw [e']; exact r)
    · have := (k1.ap b (.inl hb)).1
      omega
theorem owns_lower {W : World} {B B' : Nat} {v : Value} {l : List Int} (h : Owns W B v l) (hB : B' ≤ B) : Owns W B' v l := by
  refine ⟨h.1, ?_⟩
  rcases h.2 with h | ⟨g, cap, cur, rfl, hb, hg, hr⟩
  · exact .inl h
  · exact .inr ⟨g, cap, cur, rfl, by omega, hg, hr⟩
theorem Pair.mk2 {W W' : World} {N c1 s1 c2 s2 n : Nat} (hN : N ≤ W.heap.size) (h1 : Cr (fun b => b < N) W N c1 s1 n [] []) (h2 : Cr (fun b => b < W.heap.size) W' W.heap.size c2 s2 n [] []) (b : Below W.heap.size W W') : Pair (fun b => b < N) W' N c1 s1 c2 s2 n [] [] [] [] (.slice none 0 0) [] := by
  obtain ⟨m1, a1, w1, k1, e1⟩ := h1.lie
  obtain ⟨m2, a2, w2, k2, e2⟩ := h2.lie
  have low : ∀ b, Fp c2 s2 a2 w2 b → W.heap.size ≤ b := fun b hb => by
    rcases hb with rfl | rfl | e | e
    · exact k2.bc
    · exact k2.bs
    · exact df.own_ge k2.all _ e.symm
    · exact df.own_ge k2.wait _ e.symm
  have k1' := k1.later b
  have k2' : Crowd (fun b => b < W.heap.size) W' N c2 s2 n m2 a2 w2 [] [] := ⟨k2.blk, k2.seen, k2.ml, owns_lower k2.all hN, owns_lower k2.wait hN, k2.two, Nat.le_trans hN k2.bc, Nat.le_trans hN k2.bs, k2.ap⟩
  refine ⟨⟨m1, a1, w1, m2, a2, w2, k1'.off fun b hb => ?_, k2'.off fun b hb => ?_, ⟨e1, h1.nd, h1.rg, h1.ql⟩, ⟨e2, h2.nd, h2.rg, h2.ql⟩⟩, World.ownsRow_nil _ _ _ _, fun b hb e => by cases e⟩
  · rcases hb with hb | hb | hb
    · exact k1'.ap b hb
    · have := low b hb
      have f := fun hb => k1.fp_lt (b := b) hb
      exact ⟨k2.fp_lt hb, fun h => by have := f (.inl h); omega, fun h => by have := f (.inr (.inl h)); omega, fun h => by have := f (.inr (.inr (.inl h))); omega, fun h => by have := f (.inr (.inr (.inr h))); omega⟩
    · cases hb
  · rcases hb with hb | hb | hb
    · exact k2'.ap b (by show b < W.heap.size; have : b < N := hb; omega)
    · exact k2'.ap b (k1.fp_lt hb)
    · cases hb
theorem WebAt.up {P Q : Nat → Prop} {W : World} {l : List Ed} {n : Nat} {o : Option Addr} {cap fb nb : Nat} (h : WebAt P W l n o cap fb nb) (hq : ∀ b, P b → Q b) (hl : ∀ b, Q b → b < W.heap.size) : WebAt Q W l n o cap fb nb :=
  ⟨h.fit, h.top, fun i hi => by obtain ⟨b, off, e, hp, hc⟩ := h.lie i hi; exact ⟨b, off, e, hq b hp, hc⟩, h.fr, h.nr, hq _ h.pf, hq _ h.pn, hl⟩

theorem WebAt.at' {N : Nat} {W W' : World} {l : List Ed} {n : Nat} {o : Option Addr} {cap fb nb : Nat} (h : WebAt (fun b => b < N) W l n o cap fb nb) (b : Below N W W') : WebAt (fun b => b < N) W' l n o cap fb nb := h.carry ⟨b.size, fun k hk => b.block k hk⟩

/-! what an nfa takes -/
def Over (x : Nfa) (b : Nat) (S : Int → Prop) (t : Int) : Prop := ∃ e ∈ x.edges, e.free = false ∧ hasE e b = true ∧ e.to = t ∧ S e.fr
/-- where it may be, over nothing yet, before the j-th byte -/
def Base (x : Nfa) (d : Nat → Nat) (at' : Nat) : Nat → Int → Prop
  | 0 => fun t => t = x.s
  | j + 1 => Over x (d (at' + j)) (Reach x (Base x d at' j))
structure IsRuns (x : Nfa) (d : Nat → Nat) (at' len : Nat) (L : List Int) : Prop where
  up : L.Pairwise (· < ·)
  mem : ∀ t, t ∈ L ↔ ∃ j, at' + j ≤ len ∧ t = ((at' + j : Nat) : Int) ∧ Reach x (Base x d at' j) x.e
structure SoFar (x : Nfa) (d : Nat → Nat) (at' k : Nat) (L : List Int) : Prop where
  up : L.Pairwise (· < ·)
  mem : ∀ t, t ∈ L ↔ ∃ j, j < k ∧ t = ((at' + j : Nat) : Int) ∧ Reach x (Base x d at' j) x.e
  len : L.length ≤ k
theorem SoFar.zero (x : Nfa) (d : Nat → Nat) (at' : Nat) : SoFar x d at' 0 [] := ⟨List.Pairwise.nil, fun t => by simp, Nat.le_refl _⟩
theorem SoFar.no {x : Nfa} {d : Nat → Nat} {at' k : Nat} {L : List Int} (h : SoFar x d at' k L) (hn : ¬ Reach x (Base x d at' k) x.e) : SoFar x d at' (k + 1) L :=
  ⟨h.up, fun t => (h.mem t).trans ⟨fun ⟨j, a, b, c⟩ => ⟨j, by omega, b, c⟩, fun ⟨j, a, b, c⟩ => ⟨j, by
    rcases Nat.lt_or_ge j k with h | h
    · exact h
    · have : j = k := by omega
      subst this; exact absurd c hn, b, c⟩⟩, Nat.le_succ_of_le h.len⟩
theorem SoFar.yes {x : Nfa} {d : Nat → Nat} {at' k : Nat} {L : List Int} (h : SoFar x d at' k L) (hn : Reach x (Base x d at' k) x.e) : SoFar x d at' (k + 1) (L ++ [((at' + k : Nat) : Int)]) := by
  refine ⟨List.pairwise_append.2 ⟨h.up, List.pairwise_singleton _ _, fun a ha b hb => ?_⟩, fun t => ?_, by have := h.len; simp; omega⟩
  · obtain ⟨j, h1, h2, _⟩ := (h.mem a).1 ha
    rw [List.mem_singleton.1 hb, h2]
    omega
  · rw [List.mem_append, List.mem_singleton, h.mem t]
    constructor
    · rintro (⟨j, a, b, c⟩ | e)
      · exact ⟨j, by omega, b, c⟩
      · exact ⟨k, by omega, e, hn⟩
    · rintro ⟨j, a, b, c⟩
      rcases Nat.lt_or_ge j k with h | h
      · exact .inl ⟨j, h, b, c⟩
      · have : j = k := by omega
        subst this; exact .inr b
theorem reach_none {x : Nfa} {P : Int → Prop} (h : ∀ t, ¬ P t) (t : Int) : ¬ Reach x P t := fun r => r.least (Q := fun _ => False) h (fun _ _ _ h => h)
theorem base_none {x : Nfa} {d : Nat → Nat} {at' k : Nat} (h : ∀ t, ¬ Base x d at' k t) : ∀ i t, ¬ Base x d at' (k + i) t
  | 0, t => h t
  | i + 1, t => fun ⟨e, _, _, _, _, r⟩ => reach_none (base_none h i) _ r
theorem SoFar.none {x : Nfa} {d : Nat → Nat} {at' k len : Nat} {L : List Int} (h : SoFar x d at' k L) (hk : at' + k ≤ len + 1) (hn : ∀ t, ¬ Base x d at' k t) : IsRuns x d at' len L :=
  ⟨h.up, fun t => (h.mem t).trans ⟨fun ⟨j, a, b, c⟩ => ⟨j, by omega, b, c⟩, fun ⟨j, a, b, c⟩ => ⟨j, by
    rcases Nat.lt_or_ge j k with h | h
    · exact h
    · obtain ⟨i, rfl⟩ := Nat.exists_eq_add_of_le h
      exact absurd c (reach_none (base_none hn i) _), b, c⟩⟩⟩
theorem SoFar.all {x : Nfa} {d : Nat → Nat} {at' k len : Nat} {L : List Int} (h : SoFar x d at' k L) (hk : at' + k = len + 1) : IsRuns x d at' len L :=
  ⟨h.up, fun t => (h.mem t).trans ⟨fun ⟨j, a, b, c⟩ => ⟨j, by omega, b, c⟩, fun ⟨j, a, b, c⟩ => ⟨j, by omega, b, c⟩⟩⟩
theorem addBs_mem (b : Nat) (es : List Ed) : ∀ st : List Int × List Int, st.1 = st.2 → (addBs b es st).1 = (addBs b es st).2 ∧ ∀ t, t ∈ (addBs b es st).1 ↔ t ∈ st.1 ∨ ∃ e ∈ es, e.free = false ∧ hasE e b = true ∧ e.to = t := by
  induction es with
  | nil => intro st h; exact ⟨h, fun t => by simp [addBs]⟩
  | cons e es ih =>
    intro st h
    have h1 : (addB b st e).1 = (addB b st e).2 := by
      unfold addB addE
      split
      · split
        · exact h
        · simp [h]
      · exact h
    obtain ⟨i1, i2⟩ := ih (addB b st e) h1
    refine ⟨i1, fun t => (i2 t).trans ?_⟩
    have h2 : ∀ t, t ∈ (addB b st e).1 ↔ t ∈ st.1 ∨ (e.free = false ∧ hasE e b = true ∧ e.to = t) := by
      intro t
      unfold addB addE
      split
      · next hh =>
        split
        · next hm => exact ⟨.inl, fun r => r.elim id (fun ⟨_, _, r⟩ => r ▸ hm)⟩
        · simp [hh.1, hh.2]; exact ⟨fun r => r.imp id Eq.symm, fun r => r.imp id Eq.symm⟩
      · next hh => exact ⟨.inl, fun r => r.elim id (fun ⟨a, b, _⟩ => absurd ⟨a, b⟩ hh)⟩
    rw [h2]
    constructor
    · rintro ((h | h) | ⟨e', m, h⟩)
      · exact .inl h
      · exact .inr ⟨e, List.mem_cons_self, h⟩
      · exact .inr ⟨e', List.mem_cons_of_mem _ m, h⟩
    · rintro (h | ⟨e', m, h⟩)
      · exact .inl (.inl h)
      · rcases List.mem_cons.1 m with rfl | m
        · exact .inl (.inr h)
        · exact .inr ⟨e', m, h⟩
theorem stepL_mem (L : List Ed) (b : Nat) (l : List Int) : ∀ st : List Int × List Int, st.1 = st.2 → (stepL L b l st).1 = (stepL L b l st).2 ∧ ∀ t, t ∈ (stepL L b l st).1 ↔ t ∈ st.1 ∨ ∃ e ∈ L, e.free = false ∧ hasE e b = true ∧ e.to = t ∧ e.fr ∈ l := by
  induction l with
  | nil => intro st h; exact ⟨h, fun t => by simp [stepL]⟩
  | cons s l ih =>
    intro st h
    obtain ⟨a1, a2⟩ := addBs_mem b (chainOf L L.length s) st h
    obtain ⟨i1, i2⟩ := ih _ a1
    refine ⟨i1, fun t => (i2 t).trans ?_⟩
    rw [a2]
    constructor
    · rintro ((h | ⟨e, m, h1, h2, h3⟩) | ⟨e, m, h1, h2, h3, h4⟩)
      · exact .inl h
      · obtain ⟨m1, m2⟩ := (mem_chain L s e L.length (Nat.le_refl _)).1 m
        exact .inr ⟨e, List.mem_of_mem_take m1, h1, h2, h3, by rw [m2]; exact List.mem_cons_self⟩
      · exact .inr ⟨e, m, h1, h2, h3, List.mem_cons_of_mem _ h4⟩
    · rintro (h | ⟨e, m, h1, h2, h3, h4⟩)
      · exact .inl (.inl h)
      · rcases List.mem_cons.1 h4 with h4 | h4
        · exact .inl (.inr ⟨e, (mem_chain L s e L.length (Nat.le_refl _)).2 ⟨by rw [List.take_length]; exact m, h4⟩, h1, h2, h3⟩)
        · exact .inr ⟨e, m, h1, h2, h3, h4⟩
end Go.Proofs.Ytfilndgbgdnpiaa.nf
