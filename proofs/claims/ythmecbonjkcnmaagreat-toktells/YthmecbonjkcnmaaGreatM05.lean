/-
  Texts put together: Contracts over this program: the last place to which the nfa takes the text from the next piece's beginning on (tok.walk.longest). Contracts over this program: the next piece of a text (tok.walk.piece). Over this program: rows of edges by the state from which they go, as a walk is made (tok.newWalk).
-/
import Derived.Test.YthmecbonjkcnmaaGreatKKg
import Derived.Laws.Tables
import Derived.Deep.OwnRows
namespace Go.Proofs.YthmecbonjkcnmaaGreat.wk
open Go.ChangeShapes Go.WideShapes Go.ChangeAt Go.RowKit
open nb (Cf Rl Pa)
open nf (Ed Eds EdAt)
set_option linter.unusedVariables false
set_option maxRecDepth 100000

theorem Ch.fresh {X : Wd} {ob : Option Nat} {W W' W'' : World} (h : Ch X none W W') (k : Ch X ob W' W'') (hn : ∀ g, ob = some g → W.heap.size ≤ g) : Ch X none W W'' :=
  ⟨k.os.trans h.os, k.tape.trans h.tape, k.output.trans h.output, Nat.le_trans h.size k.size, fun b h1 h2 h3 => by
    rw [k.block b (Nat.lt_of_lt_of_le h1 h.size) h2 (fun e => by have := hn b e; omega), h.block b h1 h2 h3]⟩
theorem own_cut {X : Wd} {W : World} {g : Option Addr} {n cap : Nat} {l : List Nat} (h : Own X W (.slice g n cap) l) : Own X W (.slice g 0 cap) [] ∧ (Value.slice g 0 cap).ownBlock = (Value.slice g n cap).ownBlock ∧ ((g = none ∧ n = 0 ∧ cap = 0) ∨ ∃ b, g = some ⟨b, 0, none⟩) := by
  rcases h.2 with ⟨e, hl⟩ | ⟨b, cap', cur, e, h1, h2, h3, h4, h5, h6⟩
  · cases e
    exact ⟨⟨rfl, .inl ⟨rfl, rfl⟩⟩, rfl, .inl ⟨rfl, rfl, rfl⟩⟩
  · cases e
    exact ⟨⟨rfl, .inr ⟨b, cap, cur, rfl, h1, h2, Nat.zero_le _, h4, h5, by simp⟩⟩, rfl, .inr ⟨b, rfl⟩⟩
/-- between the rounds -/
structure Lg (X : Wd) (fr : Nat) (S0 : Cf → Prop) (W wr : World) (last a : Nat) (vn vh : Value) (ln here b1 : List Nat) : Prop where
  k : Wk X wr fr b1
  on : Own X wr vn ln
  oh : Own X wr vh here
  ne : vn.ownBlock = none ∨ vn.ownBlock ≠ vh.ownBlock
  ch : Ch X none W wr
  fn : ∀ g, vn.ownBlock = some g → W.heap.size ≤ g
  fh : ∀ g, vh.ownBlock = some g → W.heap.size ≤ g
  sr : Srch (Rr X) 0 1 S0 (Sb X b1) fr a last here
  few : here.length ≤ X.n
  bd : a ≤ X.s.size ∨ here = []
  bd2 : a ≤ X.s.size + 1
section
variable {X : Wd} {fr last a : Nat} {S0 : Cf → Prop} {W wr w2 : World} {vn vh v' : Value} {ln here b1 new b2 : List Nat}
theorem Lg.later (ok : Ok X) (h : Lg X fr S0 W wr last a vn vh ln here b1) (b : Below wr.heap.size wr w2) : Lg X fr S0 W w2 last a vn vh ln here b1 :=
  ⟨h.k.later ok b, h.on.later b, h.oh.later b, h.ne, h.ch.and b, h.fn, h.fh, h.sr, h.few, h.bd, h.bd2⟩
theorem Lg.lt (h : Lg X fr S0 W wr last a vn vh ln here b1) : ∀ x ∈ here, x < X.n := fun x hx => (h.sr.hin x hx).1.1
theorem Lg.next (ok : Ok X) (h0 : Left (Rr X) 1 S0 fr) (h : Lg X fr S0 W wr last a vn vh ln here b1) (l : Nat) (hl : (Sb X b1 (1, a) ∧ l = a) ∨ (¬ Sb X b1 (1, a) ∧ l = last)) (ha : a ≤ X.s.size) {vc : Value} (hc : vc.ownBlock = vn.ownBlock) (o : Out X fr (a + 1) (Tx X a here) (Sb X b1) [] b1 wr vc w2 v' new b2) (st : Stp (Rr X) a here (Sb X b1) new (Sb X b2)) (he : a = X.s.size → new = []) : Lg X fr S0 W w2 l (a + 1) vh v' here new b2 := by
  have hsm := o.same
  refine ⟨o.k, ?_, o.o, ?_, h.ch.fresh o.ch (fun g e => h.fn g (hc ▸ e)), h.fh, ?_, h.sr.next (rr_flat X) h0 hl st, ?_, ?_, by omega⟩
  · exact h.oh.beside o.ch (fun g e => by have := (h.oh.far e).1; have := ok.bs; omega) (by rw [hc]; exact h.ne)
  · rcases hsm with e | ⟨g, e, e2⟩
    · rw [e, hc]
      rcases h.ne with h1 | h1
      · rw [h1]
        cases hb : vh.ownBlock with
        | none => exact .inl rfl
        | some g => exact .inr (by simp)
      · exact .inr (Ne.symm h1)
    · rw [e]
      cases hb : vh.ownBlock with
      | none => exact .inl rfl
      | some g' =>
        right
        intro e3
        cases e3
        have := (h.oh.far hb).2
        omega
  · intro g e
    rcases hsm with e1 | ⟨g', e1, e2⟩
    · exact h.fn g (by rw [← hc, ← e1]; exact e)
    · rw [e1] at e
      cases e
      have := h.ch.size
      omega
  · exact o.en.few fun x hx => hx.lt ok h.lt
  · by_cases e : a = X.s.size
    · exact .inr (he e)
    · exact .inl (by omega)
theorem Lg.start (ok : Ok X) {bs : List Nat} {v : Value} (hn : 2 ≤ X.n) (hf : fr ≤ X.s.size) (h0 : Left (Rr X) 1 (Sb X bs) fr) (o : Out X fr fr (fun x => Pa (Rr X) (0, fr) (x, fr)) (Sb X bs) [] bs W (.slice none 0 0) wr v new b1) (e : Ent (Rr X) fr (fun x => Pa (Rr X) (0, fr) (x, fr)) (Sb X bs) [] (Sb X bs) 0 new (Sb X b1)) : Lg X fr (Sb X bs) W wr fr fr (.slice none 0 0) v [] new b1 := by
  refine ⟨o.k, ⟨rfl, .inl ⟨rfl, rfl⟩⟩, o.o, .inl rfl, o.ch, fun g hg => (by cases hg), fun g hg => ?_, Srch.begin (rr_flat X) h0 e, o.en.few fun x hx => (pa_in ok hx ⟨by omega, hf⟩).1, .inl hf, by omega⟩
  rcases o.same with e1 | ⟨g', e1, e2⟩
  · rw [e1] at hg; cases hg
  · rw [e1] at hg; cases hg; exact e2
end
def LongOut (X : Wd) (fr : Nat) (W : World) (e : Ending) (w' : World) : Prop :=
  ∃ (last : Nat) (bs' : List Nat), e = .returned (.int .i64 (last : Int)) ∧ Wk X w' fr bs' ∧ Ch X none W w' ∧ Far (Rr X) 0 1 fr last ∧ last ≤ X.s.size ∧ Closed (Rr X) (Sb X bs') ∧ ∀ p, Sb X bs' (1, p) → p ≤ last
theorem Lg.done {X : Wd} {fr last a : Nat} {W wr : World} {vn vh : Value} {ln bs b1 : List Nat} (h0 : Left (Rr X) 1 (Sb X bs) fr) (hf : fr ≤ X.s.size) (h : Lg X fr (Sb X bs) W wr last a vn vh ln [] b1) : LongOut X fr W (.returned (.int .i64 (last : Int))) wr := by
  obtain ⟨h1, h2, h3⟩ := h.sr.done h0
  refine ⟨last, b1, rfl, h.k, h.ch, h1, ?_, h2, h3⟩
  rcases h.sr.lst with e | e
  · omega
  · exact e.1.2
def Lok (P : Prop) (l a last : Nat) : Prop := (P ∧ l = a) ∨ (¬ P ∧ l = last)
theorem LongOut.drew {X : Wd} {fr : Nat} {W w' : World} {e : Ending} (h : LongOut X fr W.drew e w') : LongOut X fr W e w' := by
  obtain ⟨l, b, h1, h2, h3, h4⟩ := h
  exact ⟨l, b, h1, h2, (Ch.below (ob := none) (Below.drew (Below.refl _ _)) : Ch X none W W.drew).fresh h3 (fun g e => by cases e), h4⟩
set_option maxHeartbeats 4000000 in
theorem longest_any {X : Wd} {fr : Nat} {bs : List Nat} {W : World} (ok : Ok X) (k : Wk X W fr bs) (hn : 2 ≤ X.n) (hf : fr ≤ X.s.size) (h0 : Left (Rr X) 1 (Sb X bs) fr) :
    Calls Tryz.prog 70 #[.pointer (some ⟨X.wb, 0, none⟩)] W (LongOut X fr W) := by
  have HEN := (show Hid (∀ W1, Below W.heap.size W W1 → Calls Tryz.prog 95 #[.pointer (some ⟨X.wb, 0, none⟩), .slice none 0 0, .int .i64 (fr : Int), .int .i64 0] W1 (EntOut X fr fr (fun x => Pa (Rr X) (0, fr) (x, fr)) (Sb X bs) [] bs W1 (.slice none 0 0) 0)) from fun W1 b => enter_any ok (k.later ok b) ⟨rfl, .inl ⟨rfl, rfl⟩⟩ (En.nil _ _ _) hf (fun x hx => (pa_in ok hx ⟨by omega, hf⟩).1) (fun x y hx r => hx.trans (Pa.one r)) 0 (.refl _))
  have c6 := k.c6
  have c1 := k.c1
  have HK6 := (show Hid (∀ W1 b1, Wk X W1 fr b1 → W1.cell? ⟨X.wb, 6, none⟩ = some (iv fr) ∧ W1.cell? ⟨X.wb, 2, none⟩ = some (.int .i64 1)) from fun W1 b1 k => ⟨k.c6, k.c2⟩)
  have HOK := (show Hid (Ok X) from ok)
  have hs1 := ok.s1
  have HF := (show Hid (Left (Rr X) 1 (Sb X bs) fr) from h0)
  have HN := (show Hid (2 ≤ X.n) from hn)
  clear k ok h0 hn
  go_enter Tryz.func70, Tryz.ntmps70
  go_wp2_with (fail)
  go_region_with (go_at_call 95; refine (HEN.out _ (Below.drew (Below.refl _ _))).mono ?_; rintro e w1 ⟨v1, new1, b1, rfl, o1, e1⟩)
  all_goals (
    rename_i K9 hK9
    refine hK9 _ _ ?_
    clear hK9
    obtain ⟨g1, cc1, rfl, hc1, hc2⟩ := ow.form o1.o
    have HST := (show Hid (Lg X fr (Sb X bs) W.drew w1 fr fr (.slice none 0 0) (.slice g1 new1.length cc1) [] new1 b1) from Lg.start HOK.out HN.out hf HF.out o1 e1)
    have q6 := (HK6.out w1 b1 o1.k).1
    clear o1 e1 c6 c1
    go_wp2_with (fail)
    clear q6
    go_loopw [3, 4, 5, 6] (fun x3 x4 x5 x6 wr => ∃ (last a : Nat) (gn gh : Option Addr) (cn ch : Nat) (ln here b : List Nat), x3 = .int .i64 (last : Int) ∧ x4 = .slice gn ln.length cn ∧ x5 = .slice gh here.length ch ∧ x6 = .int .i64 (a : Int) ∧ Hid (Lg X fr (Sb X bs) W.drew wr last a (.slice gn ln.length cn) (.slice gh here.length ch) ln here b)) (fun _ _ _ x6 _ => X.s.size + 2 - (intOf x6).toNat)
    case atStart => exact ⟨fr, fr, none, g1, 0, cc1, [], new1, b1, rfl, rfl, rfl, rfl, HST⟩
    case round =>
      obtain ⟨last, a, gn, gh, cn, ch, ln, here, b, rfl, rfl, rfl, rfl, HL⟩ := hrel
      clear HST
      have hbd2 := HL.out.bd2
      by_cases hpos : here.length = 0
      · obtain rfl := List.length_eq_zero_iff.1 hpos
        have HD := (show Hid (LongOut X fr W.drew (.returned (.int .i64 (last : Int))) wr) from HL.out.done HF.out hf)
        clear HL
        go_wp2_with (fail)
        go_ret
        exact HD.out.drew
      · have hgt : 0 < here.length := by omega
        have ha : a ≤ X.s.size := by
          rcases HL.out.bd with h | h
          · exact h
          · rw [h] at hpos; simp at hpos
        have hc : In X.n X.s.size (1, a) := ⟨by have := HN.out; simp only; omega, ha⟩
        have c2 := (HK6.out wr b HL.out.k).2
        have hw := HL.out.oh
        cases hr : on X.wide b (1, a) with
        | true =>
          have h96 := was_any HOK.out HL.out.k a 1 hc true hr.symm
          have HSB := (show Hid (Lok (Sb X b (1, a)) a a last) from .inl ⟨⟨hc, hr⟩, rfl⟩)
          clear hr hc hw
          obtain ⟨oc, hob, hform⟩ := own_cut HL.out.on
          have HOC := (show Hid (Own X wr (.slice gn 0 cn) []) from oc)
          have HOB := (show Hid ((Value.slice gn 0 cn).ownBlock = (Value.slice gn ln.length cn).ownBlock) from hob)
          clear oc hob
          rcases hform with ⟨rfl, hz, rfl⟩ | ⟨g, rfl⟩
          · obtain rfl := List.length_eq_zero_iff.1 hz
            have h97 := fun W1 (b1 : Below wr.heap.size wr W1) => step_any HOK.out (HL.out.k.later HOK.out b1) (HOC.out.later b1) (HL.out.oh.later b1) (by rw [HOB.out]; exact HL.out.ne) ha HL.out.lt HL.out.few
            go_wp2_with (fail)
            go_at_call 96
            refine h96.mono ?_
            rintro e w4 ⟨rfl, b4⟩
            have h97' := h97 w4 b4
            clear h97 h96
            go_wp2_with (fail)
            go_at_call 97
            refine h97'.mono ?_
            rintro e w5 ⟨v5, n5, b5, rfl, o5, st5, he5⟩
            have HNX := (show Hid (Lg X fr (Sb X bs) W.drew w5 a (a + 1) (.slice gh here.length ch) v5 here n5 b5) from (HL.out.later HOK.out b4).next HOK.out HF.out a HSB.out ha HOB.out o5 st5 he5)
            obtain ⟨g5, c5, rfl, hc51, hc52⟩ := ow.form o5.o
            clear o5 st5 he5 h97' HL HOC HOB HSB
            go_wp2_with (fail)
            go_roundw
            case rel => exact ⟨a, a + 1, gh, g5, ch, c5, here, n5, b5, rfl, rfl, rfl, by go_num, HNX⟩
            case measure => simp [intOf]; omega
          · have h97 := fun W1 (b1 : Below wr.heap.size wr W1) => step_any HOK.out (HL.out.k.later HOK.out b1) (HOC.out.later b1) (HL.out.oh.later b1) (by rw [HOB.out]; exact HL.out.ne) ha HL.out.lt HL.out.few
            go_wp2_with (fail)
            go_at_call 96
            refine h96.mono ?_
            rintro e w4 ⟨rfl, b4⟩
            have h97' := h97 w4 b4
            clear h97 h96
            go_wp2_with (fail)
            go_at_call 97
            refine h97'.mono ?_
            rintro e w5 ⟨v5, n5, b5, rfl, o5, st5, he5⟩
            have HNX := (show Hid (Lg X fr (Sb X bs) W.drew w5 a (a + 1) (.slice gh here.length ch) v5 here n5 b5) from (HL.out.later HOK.out b4).next HOK.out HF.out a HSB.out ha HOB.out o5 st5 he5)
            obtain ⟨g5, c5, rfl, hc51, hc52⟩ := ow.form o5.o
            clear o5 st5 he5 h97' HL HOC HOB HSB
            go_wp2_with (fail)
            go_roundw
            case rel => exact ⟨a, a + 1, gh, g5, ch, c5, here, n5, b5, rfl, rfl, rfl, by go_num, HNX⟩
            case measure => simp [intOf]; omega
        | false =>
          have h96 := was_any HOK.out HL.out.k a 1 hc false hr.symm
          have HSB := (show Hid (Lok (Sb X b (1, a)) last a last) from .inr ⟨fun h => (by rw [h.2] at hr; cases hr), rfl⟩)
          clear hr hc hw
          obtain ⟨oc, hob, hform⟩ := own_cut HL.out.on
          have HOC := (show Hid (Own X wr (.slice gn 0 cn) []) from oc)
          have HOB := (show Hid ((Value.slice gn 0 cn).ownBlock = (Value.slice gn ln.length cn).ownBlock) from hob)
          clear oc hob
          rcases hform with ⟨rfl, hz, rfl⟩ | ⟨g, rfl⟩
          · obtain rfl := List.length_eq_zero_iff.1 hz
            have h97 := fun W1 (b1 : Below wr.heap.size wr W1) => step_any HOK.out (HL.out.k.later HOK.out b1) (HOC.out.later b1) (HL.out.oh.later b1) (by rw [HOB.out]; exact HL.out.ne) ha HL.out.lt HL.out.few
            go_wp2_with (fail)
            go_at_call 96
            refine h96.mono ?_
            rintro e w4 ⟨rfl, b4⟩
            have h97' := h97 w4 b4
            clear h97 h96
            go_wp2_with (fail)
            go_at_call 97
            refine h97'.mono ?_
            rintro e w5 ⟨v5, n5, b5, rfl, o5, st5, he5⟩
            have HNX := (show Hid (Lg X fr (Sb X bs) W.drew w5 last (a + 1) (.slice gh here.length ch) v5 here n5 b5) from (HL.out.later HOK.out b4).next HOK.out HF.out last HSB.out ha HOB.out o5 st5 he5)
            obtain ⟨g5, c5, rfl, hc51, hc52⟩ := ow.form o5.o
            clear o5 st5 he5 h97' HL HOC HOB HSB
            go_wp2_with (fail)
            go_roundw
            case rel => exact ⟨last, a + 1, gh, g5, ch, c5, here, n5, b5, rfl, rfl, rfl, by go_num, HNX⟩
            case measure => simp [intOf]; omega
          · have h97 := fun W1 (b1 : Below wr.heap.size wr W1) => step_any HOK.out (HL.out.k.later HOK.out b1) (HOC.out.later b1) (HL.out.oh.later b1) (by rw [HOB.out]; exact HL.out.ne) ha HL.out.lt HL.out.few
            go_wp2_with (fail)
            go_at_call 96
            refine h96.mono ?_
            rintro e w4 ⟨rfl, b4⟩
            have h97' := h97 w4 b4
            clear h97 h96
            go_wp2_with (fail)
            go_at_call 97
            refine h97'.mono ?_
            rintro e w5 ⟨v5, n5, b5, rfl, o5, st5, he5⟩
            have HNX := (show Hid (Lg X fr (Sb X bs) W.drew w5 last (a + 1) (.slice gh here.length ch) v5 here n5 b5) from (HL.out.later HOK.out b4).next HOK.out HF.out last HSB.out ha HOB.out o5 st5 he5)
            obtain ⟨g5, c5, rfl, hc51, hc52⟩ := ow.form o5.o
            clear o5 st5 he5 h97' HL HOC HOB HSB
            go_wp2_with (fail)
            go_roundw
            case rel => exact ⟨last, a + 1, gh, g5, ch, c5, here, n5, b5, rfl, rfl, rfl, by go_num, HNX⟩
            case measure => simp [intOf]; omega)
end Go.Proofs.YthmecbonjkcnmaaGreat.wk

namespace Go.Proofs.YthmecbonjkcnmaaGreat.wk
open Go.ChangeShapes Go.WideShapes Go.ChangeAt Go.RowKit
open nb (Cf Rl Pa)
open nf (Ed Eds EdAt)
set_option linter.unusedVariables false
set_option maxRecDepth 100000

/-- what a piece changes: the walk's own two blocks, new ones -/
structure Cw (X : Wd) (W W' : World) : Prop where
  os : W'.os = W.os
  tape : W'.tape = W.tape
  output : W'.output = W.output
  size : W.heap.size ≤ W'.heap.size
  block : ∀ k, k < W.heap.size → k ≠ X.sb → k ≠ X.wb → W'.heap[k]? = W.heap[k]?
theorem Cw.of {X : Wd} {W W' : World} (h : Ch X none W W') : Cw X W W' := ⟨h.os, h.tape, h.output, h.size, fun k h1 h2 _ => h.block k h1 h2 (by simp)⟩
theorem Cw.trans {X : Wd} {W W' W'' : World} (h : Cw X W W') (k : Cw X W' W'') : Cw X W W'' :=
  ⟨k.os.trans h.os, k.tape.trans h.tape, k.output.trans h.output, Nat.le_trans h.size k.size, fun b h1 h2 h3 => (k.block b (Nat.lt_of_lt_of_le h1 h.size) h2 h3).trans (h.block b h1 h2 h3)⟩
theorem Cw.below {X : Wd} {W W' : World} (c : Below W.heap.size W W') : Cw X W W' := ⟨c.os, c.tape, c.output, c.size, fun k h _ _ => c.block k h⟩
theorem Wk.go {X : Wd} {W : World} {fr to : Nat} {bs : List Nat} (ok : Ok X) (k : Wk X W fr bs) : Wk X (W.setCell ⟨X.wb, 6, none⟩ (.int .i64 (to : Int))) to bs ∧ Cw X W (W.setCell ⟨X.wb, 6, none⟩ (.int .i64 (to : Int))) := by
  have hh : ∀ j, j ≠ X.wb → (W.setCell ⟨X.wb, 6, none⟩ (.int .i64 (to : Int))).heap[j]? = W.heap[j]? := fun j hj => Below.heap_setCell _ _ _ j hj
  refine ⟨⟨?_, (hh _ (Ne.symm ok.bb)).trans k.sn, fun q hq => (k.rows q hq).keep ok fun j h1 _ h3 => hh j h3, k.lt, k.len, by simpa using k.size⟩, rfl, rfl, rfl, by simp, fun j _ _ h3 => hh j h3⟩
  rw [set_heap W X.wb _ _ _ _ k.box]
  rfl
/-- where a piece ends -/
def Stop (X : Wd) (fr to : Nat) : Prop := ∃ last, Far (Rr X) 0 1 fr last ∧ to = max last (fr + 1)
def PieceOut (X : Wd) (fr : Nat) (W : World) (e : Ending) (w' : World) : Prop :=
  ∃ (to : Nat) (bs' : List Nat), e = .returned (.string (X.s.extract fr to)) ∧ fr < to ∧ to ≤ X.s.size ∧ Stop X fr to ∧ Wk X w' to bs' ∧ Left (Rr X) 1 (Sb X bs') to ∧ Cw X W w'
set_option maxHeartbeats 2000000 in
theorem piece_end {X : Wd} {bs : List Nat} {W : World} (ok : Ok X) (k : Wk X W X.s.size bs) : Calls Tryz.prog 46 #[.pointer (some ⟨X.wb, 0, none⟩)] W fun e w' => e = .returned (.string ⟨#[]⟩) ∧ Below W.heap.size W w' := by
  have c6 := k.c6
  have c5 := k.c5
  have hs1 := ok.s1
  clear k ok
  go_enter Tryz.func46, Tryz.ntmps46
  go_wp2_with (fail)
  go_region
  go_wp2_with (fail)
  go_ret
  exact ⟨rfl, Below.drew (Below.refl _ _)⟩
set_option maxHeartbeats 2000000 in
theorem piece_any {X : Wd} {fr : Nat} {bs : List Nat} {W : World} (ok : Ok X) (k : Wk X W fr bs) (hn : 2 ≤ X.n) (hf : fr < X.s.size) (h0 : Left (Rr X) 1 (Sb X bs) fr) :
    Calls Tryz.prog 46 #[.pointer (some ⟨X.wb, 0, none⟩)] W (PieceOut X fr W) := by
  have HLO := (show Hid (∀ W1, Below W.heap.size W W1 → Calls Tryz.prog 70 #[.pointer (some ⟨X.wb, 0, none⟩)] W1 (LongOut X fr W1)) from fun W1 b => longest_any ok (k.later ok b) hn (by omega) h0)
  have c6 := k.c6
  have c5 := k.c5
  have HK := (show Hid (∀ W1, Below W.heap.size W W1 → Wk X W1 fr bs) from fun W1 b => k.later ok b)
  have hs1 := ok.s1
  have HOK := (show Hid (Ok X) from ok)
  have hne : ((fr : Int) == (X.s.size : Int)) = false := beq_eq_false_iff_ne.2 (by omega)
  clear k ok h0 hn
  go_enter Tryz.func46, Tryz.ntmps46
  go_wp2_with (fail)
  go_region
  go_wp2_with (fail)
  refine (HLO.out _ (Below.drew (Below.refl _ _))).mono ?_
  rintro e w1 ⟨last, b1, rfl, k1, ch1, far1, hl1, clo1, lim1⟩
  have d6 := k1.c6
  have d5 := k1.c5
  have dz : w1.frozen? ⟨X.wb, 6, none⟩ = false := Lib.frozen_of_heap k1.box 6
  obtain ⟨to, hto⟩ : ∃ to, to = max last (fr + 1) := ⟨_, rfl⟩
  have HR := (show Hid (fr < to ∧ to ≤ X.s.size ∧ Stop X fr to ∧ Wk X w1 fr b1 ∧ Left (Rr X) 1 (Sb X b1) to ∧ Cw X W w1) from ⟨by omega, by omega, ⟨last, far1, hto⟩, k1, Left.up clo1 lim1 (by omega), (Cw.below (Below.drew (Below.refl _ _))).trans (Cw.of ch1)⟩)
  have hlt : fr < to ∧ to ≤ X.s.size := ⟨by omega, by omega⟩
  obtain ⟨hlt1, hlt2⟩ := hlt
  clear k1 ch1 far1 clo1 lim1 c6 c5
  have HG := (show Hid (Wk X (w1.setCell ⟨X.wb, 6, none⟩ (.int .i64 (to : Int))) to b1 ∧ Cw X w1 (w1.setCell ⟨X.wb, 6, none⟩ (.int .i64 (to : Int)))) from HR.out.2.2.2.1.go HOK.out)
  by_cases hle : fr + 1 ≤ last
  · have e0 : last = to := by omega
    subst e0
    clear hto
    have hli : ¬ ((last : Int) < (fr : Int) + 1) := by omega
    go_wp2_with (fail)
    generalize w1.setCell ⟨X.wb, 6, none⟩ (.int .i64 (last : Int)) = W3 at *
    have i1 : (fr : Int) ≤ (last : Int) := by omega
    have i2 : (last : Int) ≤ (X.s.size : Int) := by omega
    have q5 := HG.out.1.c5
    have q6 := HG.out.1.c6
    clear d5 d6 dz
    go_region
    go_wp2_with (fail)
    go_ret
    obtain ⟨r1, r2, r3, r4, r5, r6⟩ := HR.out
    exact ⟨last, b1, rfl, r1, r2, r3, HG.out.1.later HOK.out (Below.drew (Below.refl _ _)), r5, (r6.trans HG.out.2).trans (Cw.below (Below.drew (Below.refl _ _)))⟩
  · have e0 : ((fr : Int) + 1) = (to : Int) := by omega
    have hli : (last : Int) < (fr : Int) + 1 := by omega
    clear hle
    have HG2 := (show Hid (Wk X (w1.setCell ⟨X.wb, 6, none⟩ (.int .i64 ((fr : Int) + 1))) to b1 ∧ Cw X w1 (w1.setCell ⟨X.wb, 6, none⟩ (.int .i64 ((fr : Int) + 1)))) from by rw [e0]; exact HG.out)
    clear hto e0 HG
    obtain ⟨HG, hHG⟩ : ∃ h, h = HG2 := ⟨_, rfl⟩
    clear hHG HG2
    go_wp2_with (fail)
    generalize w1.setCell ⟨X.wb, 6, none⟩ (.int .i64 ((fr : Int) + 1)) = W3 at *
    have i1 : (fr : Int) ≤ (to : Int) := by omega
    have i2 : (to : Int) ≤ (X.s.size : Int) := by omega
    have q5 := HG.out.1.c5
    have q6 := HG.out.1.c6
    clear d5 d6 dz
    go_region
    go_wp2_with (fail)
    go_ret
    obtain ⟨r1, r2, r3, r4, r5, r6⟩ := HR.out
    exact ⟨to, b1, rfl, r1, r2, r3, HG.out.1.later HOK.out (Below.drew (Below.refl _ _)), r5, (r6.trans HG.out.2).trans (Cw.below (Below.drew (Below.refl _ _)))⟩
end Go.Proofs.YthmecbonjkcnmaaGreat.wk

namespace Go.Proofs.YthmecbonjkcnmaaGreat.wk
open Go.ChangeShapes Go.WideShapes Go.ChangeAt Go.RowKit
open nb (Cf Rl Pa)
open nf (Ed Eds EdAt)
set_option linter.unusedVariables false
set_option maxRecDepth 100000

def e7 (e : Ed) : List Value := [.int .i64 e.fr, .int .i64 e.to, .bool e.free, .int .u64 e.a, .int .u64 e.b, .int .u64 e.c, .int .u64 e.d]
def c7 : List Ed → List Value
  | [] => []
  | e :: l => e7 e ++ c7 l
theorem c7_snoc (l : List Ed) (e : Ed) : c7 (l ++ [e]) = c7 l ++ e7 e := by
  induction l with
  | nil => simp [c7]
  | cons x l ih => simp [c7, ih]
theorem c7_len (l : List Ed) : (c7 l).length = l.length * 7 := by
  induction l with
  | nil => rfl
  | cons x l ih => simp [c7, e7, ih]; omega
theorem c7_at : ∀ (l : List Ed) (i : Nat) (h : i < l.length) (j : Nat), j < 7 → (c7 l)[i * 7 + j]? = (e7 l[i])[j]?
  | e :: l, 0, _, j, hj => by
    simp only [c7, Nat.zero_mul, Nat.zero_add]
    rw [List.getElem?_append_left (by simpa [e7] using hj)]
    rfl
  | e :: l, i + 1, h, j, hj => by
    simp only [c7]
    rw [List.getElem?_append_right (by simp [e7]; omega)]
    have := c7_at l i (by simpa using h) j hj
    simp only [e7, List.length_cons, List.length_nil] at this ⊢
    rw [show (i + 1) * 7 + j - (0 + 1 + 1 + 1 + 1 + 1 + 1 + 1) = i * 7 + j by omega]
    exact this
/-- a row of edges that is owned reads as one -/
theorem own_edges {W : World} {B : Nat} {v : Value} {l : List Ed} (h : W.ownsRow B 132 7 v l.length (c7 l)) : ∃ o c, v = .slice o l.length c ∧ l.length ≤ c ∧ c ≤ 9223372036854775807 ∧ ∀ i (h : i < l.length), ∃ g, o = some ⟨g, 0, none⟩ ∧ B ≤ g ∧ g < W.heap.size ∧ (∃ cs, W.heap[g]? = some (Obj.cells cs 132 (0, 0))) ∧ EdAt W g (0 + i * 7) l[i] := by
  obtain ⟨o, c, e, h1, h2⟩ := ow.form h
  refine ⟨o, c, e, h1, h2, fun i hi => ?_⟩
  have key : ∀ j, j < 7 → ∃ g cap, v = .slice (some ⟨g, 0, none⟩) l.length cap ∧ W.cell? ⟨g, i * 7 + j, none⟩ = (e7 l[i])[j]? := fun j hj => by
    have hl : i * 7 + j < (c7 l).length := by rw [c7_len]; omega
    obtain ⟨g, cap, e1, _, e2⟩ := ow.cell h (i * 7 + j) hl
    exact ⟨g, cap, e1, by rw [e2, ← List.getElem?_eq_getElem hl, c7_at l i hi j hj]⟩
  obtain ⟨g, cap, e1, k0⟩ := key 0 (by omega)
  have all : ∀ j, j < 7 → W.cell? ⟨g, i * 7 + j, none⟩ = (e7 l[i])[j]? := fun j hj => by
    obtain ⟨g', cap', e2, k⟩ := key j hj
    rw [e1] at e2
    simp only [Value.slice.injEq, Option.some.injEq, Addr.mk.injEq] at e2
    rw [e2.1.1]; exact k
  have e3 : o = some ⟨g, 0, none⟩ := by rw [e1] at e; simp only [Value.slice.injEq] at e; exact e.1.symm
  have hg := ow.lt h (g := g) (by rw [e1]; rfl)
  have ht : ∃ cs, W.heap[g]? = some (Obj.cells cs 132 (0, 0)) := by
    rcases h.2 with ⟨e4, _⟩ | ⟨gg, cp, cur, e4, _, hgg, _⟩
    · rw [e4] at e1; cases e1
    · rw [e4] at e1; cases e1; exact ⟨cur, hgg⟩
  refine ⟨g, e3, hg.1, hg.2, ht, ?_⟩
  rw [Nat.zero_add]
  exact ⟨all 0 (by omega), all 1 (by omega), all 2 (by omega), all 3 (by omega), all 4 (by omega), all 5 (by omega), all 6 (by omega)⟩
structure Nr (B rb n : Nat) (V : Nat → Value) (Es : Nat → List Ed) (w : World) : Prop where
  row : w.heap[rb]? = some (.cells ((List.range n).map V).toArray 84 (0, 0))
  own : ∀ q, q < n → w.ownsRow B 132 7 (V q) (Es q).length (c7 (Es q))
  inj : ∀ q t g, q < n → t < n → (V q).ownBlock = some g → (V t).ownBlock = some g → q = t
  lt : rb < B
  size : B ≤ w.heap.size
def up {α : Type} (f : Nat → α) (i : Nat) (v : α) : Nat → α := fun j => if j = i then v else f j
theorem up_same {α : Type} (f : Nat → α) (i : Nat) (v : α) : up f i v i = v := by simp [up]
theorem up_ne {α : Type} (f : Nat → α) {i j : Nat} (v : α) (h : j ≠ i) : up f i v j = f j := by simp [up, h]
theorem range_up {α : Type} (f : Nat → α) (n i : Nat) (v : α) : ((List.range n).map f).set i v = (List.range n).map (up f i v) := by
  refine List.ext_getElem (by simp) fun j h1 h2 => ?_
  rw [List.getElem_set]
  simp only [List.getElem_map, List.getElem_range]
  by_cases e : i = j
  · rw [if_pos e, e, up_same]
  · rw [if_neg e, up_ne _ _ (fun e2 => e e2.symm)]
section
variable {B rb n : Nat} {V : Nat → Value} {Es : Nat → List Ed} {w w' : World}
theorem Nr.later (h : Nr B rb n V Es w) (b : Below w.heap.size w w') : Nr B rb n V Es w' :=
  ⟨(b.block _ (Nat.lt_of_lt_of_le h.lt h.size)).trans h.row, fun q hq => ow.later (h.own q hq) b, h.inj, h.lt, Nat.le_trans h.size b.size⟩
theorem Nr.cell (h : Nr B rb n V Es w) {q : Nat} (hq : q < n) : w.cell? ⟨rb, q, none⟩ = some (V q) := by
  rw [Lib.cell_of_heap h.row]
  simp [hq]
/-- one edge more in a row -/
theorem Nr.put (h : Nr B rb n V Es w) {q : Nat} (hq : q < n) {y : Ed} {g' k' cap' : Nat} (hk : k' = (Es q).length + 1) (ho : w'.ownsRow B 132 7 (.slice (some ⟨g', 0, none⟩) k' cap') k' (c7 (Es q) ++ e7 y)) (hg : w.grownBy w' (V q).ownBlock) (hn : some g' = (V q).ownBlock ∨ w.heap.size ≤ g') :
    Nr B rb n (up V q (.slice (some ⟨g', 0, none⟩) k' cap')) (up Es q (Es q ++ [y])) (w'.setCell ⟨rb, q, none⟩ (.slice (some ⟨g', 0, none⟩) k' cap')) ∧ w'.cell? ⟨rb, q, none⟩ = some (V q) ∧ w'.frozen? ⟨rb, q, none⟩ = false ∧ (∀ k, k < B → k ≠ rb → (w'.setCell ⟨rb, q, none⟩ (.slice (some ⟨g', 0, none⟩) k' cap')).heap[k]? = w.heap[k]?) ∧ w.heap.size ≤ (w'.setCell ⟨rb, q, none⟩ (.slice (some ⟨g', 0, none⟩) k' cap')).heap.size := by
  have hrb : w'.heap[rb]? = w.heap[rb]? := hg.block rb (Nat.lt_of_lt_of_le h.lt h.size) (fun e => by have := (ow.lt (h.own q hq) e.symm).1; have := h.lt; omega)
  have hrow' := hrb.trans h.row
  have hh : ∀ j, j ≠ rb → (w'.setCell ⟨rb, q, none⟩ (.slice (some ⟨g', 0, none⟩) k' cap')).heap[j]? = w'.heap[j]? := fun j hj => Below.heap_setCell _ _ _ j hj
  have hs := hg.size
  have far : ∀ t g, t < n → (V t).ownBlock = some g → g ≠ rb := fun t g ht e => by have := (ow.lt (h.own t ht) e).1; have := h.lt; omega
  have gB : B ≤ g' := by
    rcases hn with e | e
    · exact (ow.lt (h.own q hq) e.symm).1
    · have := h.size; omega
  have grb : g' ≠ rb := by have := h.lt; omega
  refine ⟨⟨?_, fun t ht => ?_, fun t u g ht hu e1 e2 => ?_, h.lt, by have := h.size; simp; omega⟩, ?_, Lib.frozen_of_heap hrow' q, fun k hk hne => ?_, by simpa using hs⟩
  · rw [set_heap w' rb _ _ q _ hrow', ← range_up]
    congr 2
    simp
  · by_cases e : t = q
    · subst e
      rw [up_same, up_same, c7_snoc, show (Es t ++ [y]).length = k' from by simp [hk]]
      exact ow.keep ho fun g hg' => hh g (by cases hg'; exact grb)
    · rw [up_ne _ _ e, up_ne _ _ e]
      refine ow.keep (h.own t ht) fun g hg' => ?_
      rw [hh g (far t g ht hg'), hg.block g (ow.lt (h.own t ht) hg').2 (fun e2 => e (h.inj t q g ht hq hg' e2.symm))]
  · by_cases a : t = q <;> by_cases b : u = q
    · rw [a, b]
    · subst a
      rw [up_same] at e1
      rw [up_ne _ _ b] at e2
      obtain rfl : g' = g := by simpa [Value.ownBlock] using e1
      rcases hn with e3 | e3
      · exact absurd (h.inj u t g' hu ht e2 e3.symm) b
      · have := (ow.lt (h.own u hu) e2).2; omega
    · subst b
      rw [up_ne _ _ a] at e1
      rw [up_same] at e2
      obtain rfl : g' = g := by simpa [Value.ownBlock] using e2
      rcases hn with e3 | e3
      · exact absurd (h.inj t u g' ht hu e1 e3.symm) a
      · have := (ow.lt (h.own t ht) e1).2; omega
    · rw [up_ne _ _ a] at e1
      rw [up_ne _ _ b] at e2
      exact h.inj t u g ht hu e1 e2
  · rw [Lib.cell_of_heap hrow']
    simp [hq]
  · rw [hh k hne]
    exact hg.block k (Nat.lt_of_lt_of_le hk h.size) (fun e => by have := (ow.lt (h.own q hq) e.symm).1; omega)
end
def esAt (es : List Ed) (i q : Nat) : List Ed := (es.take i).filter fun e => decide (e.fr = (q : Int))
theorem esAt_put (es : List Ed) {i q : Nat} (hi : i < es.length) (hq : es[i].fr = (q : Int)) : esAt es (i + 1) = up (esAt es i) q (esAt es i q ++ [es[i]]) := by
  funext t
  unfold esAt up
  rw [List.take_succ_eq_append_getElem hi, List.filter_append]
  by_cases e : t = q
  · subst e
    rw [if_pos rfl]
    simp [hq]
  · rw [if_neg e]
    have : decide (es[i].fr = (t : Int)) = false := decide_eq_false (by omega)
    simp [this]
theorem info84 : (Tryz.prog.info? 84).map (fun i => (i.zero, i.size, i.bytes)) = some (some (.slice none 0 0), 1, 24) := by kernel_rfl
theorem info23 : (Tryz.prog.info? 23).map (fun i => (i.zero, i.size, i.bytes)) = some (some (.int .u64 0), 1, 8) := by kernel_rfl
theorem info132 : (Tryz.prog.info? 132).map (fun i => (i.zero, i.size, i.bytes)) = some (some (.agg #[.int .i64 0, .int .i64 0, .bool false, .int .u64 0, .int .u64 0, .int .u64 0, .int .u64 0]), 7, 56) := by kernel_rfl
theorem make127 (n : Nat) (hn : n ≤ 1000000) (W : World) : (Instr.makeSlice 127 (.int .i64 (n : Int)) (.int .i64 (n : Int))).run Tryz.prog W = .ok (.slice (some ⟨W.heap.size, 0, none⟩) n n) (W.alloc (.cells ((List.range n).map fun _ => Value.slice none 0 0).toArray 84)) := by
  have : madeCells #[Value.slice none 0 0] n = ((List.range n).map fun _ => Value.slice none 0 0).toArray := by
    apply Array.toList_inj.1
    rw [toList_madeCells_one]
    simp [List.map_const']
  rw [← this]
  exact run_make_row' (P := Tryz.prog) 127 84 (.slice none 0 0) 24 Tryz.underlying127 info84 rfl .i64 .i64 n (by omega) (by omega) W
theorem make128 (n : Nat) (hn : n ≤ 100000000) (W : World) : (Instr.makeSlice 128 (.int .i64 (n : Int)) (.int .i64 (n : Int))).run Tryz.prog W = .ok (.slice (some ⟨W.heap.size, 0, none⟩) n n) (W.alloc (.cells (ucells (List.replicate n 0)) 23)) := by
  have : madeCells #[Value.int .u64 0] n = ucells (List.replicate n 0) := by
    apply Array.toList_inj.1
    rw [toList_madeCells_one]
    simp [ucells]
  rw [← this]
  exact run_make_row' (P := Tryz.prog) 128 23 (.int .u64 0) 8 Tryz.underlying128 info23 rfl .i64 .i64 n (by omega) (by omega) W
end Go.Proofs.YthmecbonjkcnmaaGreat.wk
