/-
  Texts put together: Over this program: states are put behind others at a place, with all that is reached from them over nothing (tok.walk.enter): what holds between the rounds. Contracts over this program: states are put behind others at a place, with all that is reached from them over nothing (tok.walk.enter).
-/
import Derived.Test.YthmecbonjkcnmaaGreatM03
namespace Go.Proofs.YthmecbonjkcnmaaGreat.wk
open Go.ChangeShapes Go.WideShapes Go.ChangeAt Go.RowKit
open nb (Cf Rl Pa)
open nf (Ed Eds EdAt)
set_option linter.unusedVariables false
set_option maxRecDepth 100000

/-- what was done since: a list is longer, more is marked -/
structure Out (X : Wd) (fr a : Nat) (T : Nat → Prop) (S : Cf → Prop) (new bs : List Nat) (W : World) (v : Value) (w' : World) (v' : Value) (new' bs' : List Nat) : Prop where
  k : Wk X w' fr bs'
  o : Own X w' v' new'
  ch : Ch X v.ownBlock W w'
  same : Same W v v'
  en : En a T S new' (Sb X bs')
  pre : new <+: new'
  up : ∀ c, Sb X bs c → Sb X bs' c
section
variable {X : Wd} {fr a : Nat} {T : Nat → Prop} {S : Cf → Prop} {new bs new' bs' new'' bs'' : List Nat} {W w' w'' : World} {v v' v'' : Value}
theorem Out.refl (k : Wk X W fr bs) (o : Own X W v new) (en : En a T S new (Sb X bs)) : Out X fr a T S new bs W v W v new bs := ⟨k, o, Ch.refl _ _ _, Same.refl _ _, en, List.prefix_refl _, fun _ h => h⟩
theorem Out.trans (h : Out X fr a T S new bs W v w' v' new' bs') (g : Out X fr a T S new' bs' w' v' w'' v'' new'' bs'') : Out X fr a T S new bs W v w'' v'' new'' bs'' :=
  ⟨g.k, g.o, h.ch.trans g.ch h.same, h.same.trans g.same h.ch.size, g.en, h.pre.trans g.pre, fun c hc => g.up c (h.up c hc)⟩
theorem Out.later (ok : Ok X) (h : Out X fr a T S new bs W v w' v' new' bs') (b : Below w'.heap.size w' w'') : Out X fr a T S new bs W v w'' v' new' bs' :=
  ⟨h.k.later ok b, h.o.later b, h.ch.and b, h.same, h.en, h.pre, h.up⟩
theorem mark_any (ok : Ok X) (k : Wk X W fr bs) (ho : Own X W v new) (en : En a T S new (Sb X bs)) (ha : a ≤ X.s.size) (hTn : ∀ x, T x → x < X.n) (q : Nat) (hT : T q) : Calls Tryz.prog 112 #[.pointer (some ⟨X.wb, 0, none⟩), v, .int .i64 (a : Int), .int .i64 (q : Int)] W fun e w' => ∃ v' new' bs', e = .returned v' ∧ Out X fr a T S new bs W v w' v' new' bs' ∧ Sb X bs' (q, a) := by
  have hc : In X.n X.s.size (q, a) := ⟨hTn q hT, ha⟩
  cases hr : on X.wide bs (q, a) with
  | true =>
    refine (mark_yes ok k a q hc hr v).mono ?_
    rintro e w' ⟨rfl, b⟩
    exact ⟨v, new, bs, rfl, (Out.refl k ho en).later ok b, hc, hr⟩
  | false =>
    have hfew := en.few hTn
    have := ok.n1
    refine (mark_no ok k a q hc hr v new ho (by omega) (fun g e => by have := (ho.far e).1; have := ok.bs; omega)).mono ?_
    rintro e w' ⟨v', rfl, k', o', ch, sm⟩
    have hS := Sb.put ok k hc
    refine ⟨v', new ++ [q], _, rfl, ⟨k', o', ch, sm, en.add (y := q) (fun h => by rw [h.2] at hr; cases hr) hT hS, List.prefix_append _ _, fun c h => (hS c).2 (.inl h)⟩, (hS _).2 (.inr rfl)⟩
end
/-- between the rounds of the outer loop -/
structure Lo (X : Wd) (fr a : Nat) (T : Nat → Prop) (S : Cf → Prop) (new bs : List Nat) (W : World) (v : Value) (q : Nat) (wr : World) (v1 : Value) (new1 bs1 : List Nat) (i : Nat) : Prop where
  out : Out X fr a T S new bs W v wr v1 new1 bs1
  hit : Sb X bs1 (q, a)
  lo : new.length ≤ i
  hi : i ≤ new1.length
  clo : ∀ j x, new.length ≤ j → j < i → new1[j]? = some x → ∀ y, Rr X (x, a) (y, a) → Sb X bs1 (y, a)
/-- between the rounds of the inner loop -/
structure Li (X : Wd) (fr a : Nat) (T : Nat → Prop) (S : Cf → Prop) (new bs : List Nat) (W : World) (v : Value) (q : Nat) (i x m : Nat) (wr : World) (v1 : Value) (new1 bs1 : List Nat) : Prop where
  lo : Lo X fr a T S new bs W v q wr v1 new1 bs1 i
  at' : new1[i]? = some x
  part : ∀ e ∈ (edgesOf X x).take m, e.free = true → ∀ y : Nat, e.to = (y : Int) → Sb X bs1 (y, a)
section
variable {X : Wd} {fr a : Nat} {T : Nat → Prop} {S : Cf → Prop} {new bs new1 bs1 new2 bs2 : List Nat} {W wr w2 : World} {v v1 v2 : Value} {q i x m : Nat}
theorem Lo.later (ok : Ok X) (h : Lo X fr a T S new bs W v q wr v1 new1 bs1 i) (b : Below wr.heap.size wr w2) : Lo X fr a T S new bs W v q w2 v1 new1 bs1 i := ⟨h.out.later ok b, h.hit, h.lo, h.hi, h.clo⟩
theorem Li.later (ok : Ok X) (h : Li X fr a T S new bs W v q i x m wr v1 new1 bs1) (b : Below wr.heap.size wr w2) : Li X fr a T S new bs W v q i x m w2 v1 new1 bs1 := ⟨h.lo.later ok b, h.at', h.part⟩
theorem Lo.start (h : Out X fr a T S new bs W v wr v1 new1 bs1) (hq : Sb X bs1 (q, a)) : Lo X fr a T S new bs W v q wr v1 new1 bs1 new.length :=
  ⟨h, hq, Nat.le_refl _, h.pre.length_le, fun j x h1 h2 => by omega⟩
theorem pre_get {l k : List Nat} (h : l <+: k) {j : Nat} (hj : j < l.length) : k[j]? = l[j]? := by
  obtain ⟨t, rfl⟩ := h
  exact List.getElem?_append_left hj
theorem Li.begin (h : Lo X fr a T S new bs W v q wr v1 new1 bs1 i) (hx : new1[i]? = some x) : Li X fr a T S new bs W v q i x 0 wr v1 new1 bs1 := ⟨h, hx, fun e he => by simp at he⟩
theorem take_mem {es : List Ed} {m : Nat} (hm : m < es.length) {e : Ed} (he : e ∈ es.take (m + 1)) : e ∈ es.take m ∨ e = es[m] := by
  rw [List.take_succ_eq_append_getElem hm, List.mem_append, List.mem_singleton] at he
  exact he
theorem Li.skip (h : Li X fr a T S new bs W v q i x m wr v1 new1 bs1) (hm : m < (edgesOf X x).length) (hf : (edgesOf X x)[m].free = false) : Li X fr a T S new bs W v q i x (m + 1) wr v1 new1 bs1 := by
  refine ⟨h.lo, h.at', fun e he hfr y hy => ?_⟩
  rcases take_mem hm he with he | rfl
  · exact h.part e he hfr y hy
  · rw [hf] at hfr; cases hfr
theorem Li.put (h : Li X fr a T S new bs W v q i x m wr v1 new1 bs1) (hm : m < (edgesOf X x).length) {y : Nat} (hy : (edgesOf X x)[m].to = (y : Int)) (g : Out X fr a T S new1 bs1 wr v1 w2 v2 new2 bs2) (hh : Sb X bs2 (y, a)) : Li X fr a T S new bs W v q i x (m + 1) w2 v2 new2 bs2 := by
  have hi : i < new1.length := (List.getElem?_eq_some_iff.1 h.at').1
  refine ⟨⟨h.lo.out.trans g, g.up _ h.lo.hit, h.lo.lo, Nat.le_trans h.lo.hi g.pre.length_le, fun j x' h1 h2 h3 y' r => ?_⟩, by rw [pre_get g.pre hi]; exact h.at', fun e he hfr y' hy' => ?_⟩
  · rw [pre_get g.pre (by omega)] at h3
    exact g.up _ (h.lo.clo j x' h1 h2 h3 y' r)
  · rcases take_mem hm he with he | rfl
    · exact g.up _ (h.part e he hfr y' hy')
    · have : y' = y := by omega
      rw [this]; exact hh
theorem Li.done (h : Li X fr a T S new bs W v q i x (edgesOf X x).length wr v1 new1 bs1) : Lo X fr a T S new bs W v q wr v1 new1 bs1 (i + 1) := by
  have hi : i < new1.length := (List.getElem?_eq_some_iff.1 h.at').1
  refine ⟨h.lo.out, h.lo.hit, by have := h.lo.lo; omega, hi, fun j x' h1 h2 h3 y r => ?_⟩
  by_cases e : j < i
  · exact h.lo.clo j x' h1 e h3 y r
  · obtain rfl : j = i := by omega
    rw [h.at'] at h3
    cases h3
    obtain ⟨e, he, hf, hy⟩ := rr_free.1 r
    exact h.part e (by rw [List.take_length]; exact he) hf y hy
theorem Lo.done (h : Lo X fr a T S new bs W v q wr v1 new1 bs1 new1.length) : Ent (Rr X) a T S new (Sb X bs) q new1 (Sb X bs1) := by
  refine ⟨h.out.en, h.out.pre, h.out.up, h.hit, fun x hx hn y r => ?_⟩
  obtain ⟨j, hj, rfl⟩ := List.getElem_of_mem hx
  refine h.clo j _ ?_ hj (List.getElem?_eq_getElem hj) y r
  rcases Nat.lt_or_ge j new.length with h1 | h1
  · exfalso
    apply hn
    have := pre_get h.out.pre h1
    rw [List.getElem?_eq_getElem hj, List.getElem?_eq_getElem h1] at this
    injection this with this
    rw [this]
    exact List.getElem_mem _
  · exact h1
theorem Li.isT (h : Li X fr a T S new bs W v q i x m wr v1 new1 bs1) : T x := h.lo.out.en.way x (List.mem_of_getElem? h.at')
end
/-- the row of edges of a state, in all worlds from here on -/
theorem Wk.all {X : Wd} {W : World} {fr : Nat} {bs new : List Nat} {v : Value} (ok : Ok X) (k : Wk X W fr bs) (ho : Own X W v new) {x : Nat} (hx : x < X.n) : ∃ o cap, (edgesOf X x).length ≤ cap ∧ cap ≤ 9223372036854775807 ∧ ∀ W', Ch X v.ownBlock W W' → W'.cell? ⟨X.rb, x, none⟩ = some (.slice o (edgesOf X x).length cap) ∧ ∀ i (h : i < (edgesOf X x).length), ∃ b off, o = some ⟨b, off, none⟩ ∧ b < W'.heap.size ∧ EdAt W' b (off + i * 7) (edgesOf X x)[i] := by
  obtain ⟨_, o, cap, h1, h2, h3, h4⟩ := k.rows x hx
  refine ⟨o, cap, h2, h3, fun W' c => ?_⟩
  have hb : ∀ j, j < X.B → j ≠ X.sb → W'.heap[j]? = W.heap[j]? := fun j hj hne => c.block j (Nat.lt_of_lt_of_le hj k.size) hne (fun e => by have := (ho.far e).1; omega)
  refine ⟨?_, fun i hi => ?_⟩
  · have := hb X.rb ok.br.2.2 ok.br.1
    simp [World.cell?, this] at h1 ⊢
    exact h1
  · obtain ⟨b, off, e, g1, g2, g3, _, g4⟩ := h4 i hi
    exact ⟨b, off, e, by have := k.size; have := c.size; omega, g4.same (hb b g1 g2)⟩
theorem own_cell {X : Wd} {W : World} {go : Option Addr} {n cp : Nat} {l : List Nat} (h : Own X W (.slice go n cp) l) {i x : Nat} (hx : l[i]? = some x) : ∃ g, go = some ⟨g, 0, none⟩ ∧ g < W.heap.size ∧ W.cell? ⟨g, i, none⟩ = some (iv x) := by
  obtain ⟨hi, rfl⟩ := List.getElem?_eq_some_iff.1 hx
  obtain ⟨g, cap, e, h1, h2⟩ := ow.cell h i (by simpa using hi)
  cases e
  exact ⟨g, rfl, h1, by simpa using h2⟩
end Go.Proofs.YthmecbonjkcnmaaGreat.wk

namespace Go.Proofs.YthmecbonjkcnmaaGreat.wk
open Go.ChangeShapes Go.WideShapes Go.ChangeAt Go.RowKit
open nb (Cf Rl Pa)
open nf (Ed Eds EdAt)
set_option linter.unusedVariables false
set_option maxRecDepth 100000

theorem mem_edges {X : Wd} {x m : Nat} {E : List Ed} (h : edgesOf X x = E) (hm : m < E.length) : E[m] ∈ X.es := by
  subst h
  exact (List.mem_filter.1 (List.getElem_mem hm)).1
def EntOut (X : Wd) (fr a : Nat) (T : Nat → Prop) (S : Cf → Prop) (new bs : List Nat) (W : World) (v : Value) (q : Nat) (e : Ending) (w' : World) : Prop :=
  ∃ v' new' bs', e = .returned v' ∧ Out X fr a T S new bs W v w' v' new' bs' ∧ Ent (Rr X) a T S new (Sb X bs) q new' (Sb X bs')
set_option maxHeartbeats 4000000 in
theorem enter_any {X : Wd} {fr a : Nat} {T : Nat → Prop} {S : Cf → Prop} {new bs : List Nat} {W : World} {v : Value} (ok : Ok X) (k : Wk X W fr bs) (ho : Own X W v new) (en : En a T S new (Sb X bs)) (ha : a ≤ X.s.size) (hTn : ∀ x, T x → x < X.n) (hTR : ∀ x y, T x → Rr X (x, a) (y, a) → T y) (q : Nat) (hT : T q) :
    Calls Tryz.prog 95 #[.pointer (some ⟨X.wb, 0, none⟩), v, .int .i64 (a : Int), .int .i64 (q : Int)] W (EntOut X fr a T S new bs W v q) := by
  have h112 := mark_any ok k ho en ha hTn q hT
  have hfew := en.few hTn
  have hn1 := ok.n1
  obtain ⟨go, cp, rfl, hcp1, hcp2⟩ := ow.form ho
  have HOK := (show Hid (Ok X) from ok)
  have HTN := (show Hid (∀ x, T x → x < X.n) from hTn)
  have HTR := (show Hid (∀ x y, T x → Rr X (x, a) (y, a) → T y) from hTR)
  obtain ⟨N, hN⟩ : ∃ N, N = X.n := ⟨_, rfl⟩
  have HM := (show Hid (∀ (W1 : World) (v1 : Value) (new1 bs1 : List Nat) (y : Nat), Wk X W1 fr bs1 → Own X W1 v1 new1 → En a T S new1 (Sb X bs1) → T y → Calls Tryz.prog 112 #[.pointer (some ⟨X.wb, 0, none⟩), v1, .int .i64 (a : Int), .int .i64 (y : Int)] W1 fun e w' => ∃ v' new' bs', e = .returned v' ∧ Out X fr a T S new1 bs1 W1 v1 w' v' new' bs' ∧ Sb X bs' (y, a)) from fun W1 v1 new1 bs1 y k1 o1 e1 t1 => mark_any ok k1 o1 e1 ha hTn y t1)
  have HALL := (show Hid (∀ x, x < X.n → ∃ o cap, (edgesOf X x).length ≤ cap ∧ cap ≤ 9223372036854775807 ∧ ∀ W', Ch X (Value.slice go new.length cp).ownBlock W W' → W'.cell? ⟨X.rb, x, none⟩ = some (.slice o (edgesOf X x).length cap) ∧ ∀ i (h : i < (edgesOf X x).length), ∃ b off, o = some ⟨b, off, none⟩ ∧ b < W'.heap.size ∧ EdAt W' b (off + i * 7) (edgesOf X x)[i]) from fun x hx => k.all ok ho hx)
  clear k ho en ok hTn hTR
  go_enter Tryz.func95, Tryz.ntmps95
  go_wp2_with (fail)
  go_at_call 112
  refine h112.mono ?_
  rintro e w1 ⟨v1, new1, bs1, rfl, out1, hit1⟩
  obtain ⟨g1, c1, rfl, hc1, hc2⟩ := ow.form out1.o
  have HST := (show Hid (Lo X fr a T S new bs W (.slice go new.length cp) q w1 (.slice g1 new1.length c1) new1 bs1 new.length) from Lo.start out1 hit1)
  clear h112 out1 hit1
  go_wp2_with (fail)
  go_loopw [1, 9] (fun y z wr => ∃ (i : Nat) (n1 b1 : List Nat) (gy : Option Addr) (cy : Nat), y = .slice gy n1.length cy ∧ z = .int .i64 i ∧ i ≤ n1.length ∧ Hid (Lo X fr a T S new bs W (.slice go new.length cp) q wr (.slice gy n1.length cy) n1 b1 i)) (fun _ z _ => N - (intOf z).toNat)
  case atStart => exact ⟨new.length, new1, bs1, g1, c1, rfl, rfl, HST.out.hi, HST⟩
  case round =>
    obtain ⟨i, n1, b1, gy, cy, rfl, rfl, hi, HL⟩ := hrel
    clear HST
    by_cases hin : i < n1.length
    · obtain ⟨x, hx⟩ : ∃ x, n1[i]? = some x := ⟨_, List.getElem?_eq_getElem hin⟩
      have HX := (show Hid (n1[i]? = some x) from hx)
      have hTx : T x := HL.out.out.en.way x (List.mem_of_getElem? hx)
      have hxn := HTN.out x hTx
      obtain ⟨g, rfl, hg, hcx⟩ := own_cell HL.out.out.o hx
      obtain ⟨o, cap, hcap1, hcap2, hall⟩ := HALL.out x hxn
      have HA := (show Hid (∀ W', Ch X (Value.slice go new.length cp).ownBlock W W' → W'.cell? ⟨X.rb, x, none⟩ = some (.slice o (edgesOf X x).length cap) ∧ ∀ i (h : i < (edgesOf X x).length), ∃ b off, o = some ⟨b, off, none⟩ ∧ b < W'.heap.size ∧ EdAt W' b (off + i * 7) (edgesOf X x)[i]) from hall)
      have hrow := (HA.out wr HL.out.out.ch).1
      have c4 := HL.out.out.k.c4
      have hn1N : n1.length ≤ N := by rw [hN]; exact HL.out.out.en.few HTN.out
      have HLI := (show Hid (Li X fr a T S new bs W (.slice go new.length cp) q i x 0 wr.drew (.slice (some ⟨g, 0, none⟩) n1.length cy) n1 b1) from Li.begin (HL.out.later HOK.out (Below.drew (Below.refl _ _))) HX.out)
      clear hall hx HL
      rw [← hN] at c4 hxn
      generalize hE : edgesOf X x = E at *
      have HE := (show Hid (edgesOf X x = E) from hE)
      clear hE
      obtain ⟨el, hel⟩ : ∃ el, el = E.length := ⟨_, rfl⟩
      rw [← hel] at hrow hcap1
      have HEL := (show Hid (el = E.length) from hel)
      clear hel
      go_wp2_with (fail)
      go_region
      go_wp2_with (fail)
      clear hrow c4 hcx hg
      go_loopw [1, 36] (fun y z wi => ∃ (m : Nat) (n2 b2 : List Nat) (gz : Option Addr) (cz : Nat), y = .slice gz n2.length cz ∧ z = .int .i64 m ∧ m ≤ el ∧ Hid (Li X fr a T S new bs W (.slice go new.length cp) q i x m wi (.slice gz n2.length cz) n2 b2)) (fun _ z _ => el - (intOf z).toNat)
      case atStart => exact ⟨0, n1, b1, _, cy, rfl, rfl, by omega, HLI⟩
      case round =>
        obtain ⟨m, n2, b2, gz, cz, rfl, rfl, hm, HI⟩ := hrel
        clear HLI
        by_cases hmn : m < el
        · have hmE : m < E.length := by rw [← HEL.out]; exact hmn
          obtain ⟨b, off, rfl, hblt, ed⟩ := (HA.out _ HI.out.lo.out.ch).2 m hmE
          obtain ⟨e0, e1, e2, e3, e4, e5, e6⟩ := ed
          have HMX := (show Hid (m < (edgesOf X x).length) from by show _ < _; rw [HE.out]; exact hmE)
          have hyE : (edgesOf X x)[m]'HMX.out = E[m] := by simp only [HE.out]
          have HYE := (show Hid ((edgesOf X x)[m]'HMX.out = E[m]) from hyE)
          have hmem := mem_edges HE.out hmE
          have hein := HOK.out.ein _ hmem
          have HRR := (show Hid (E[m] ∈ edgesOf X x) from by show _ ∈ _; rw [HE.out]; exact List.getElem_mem hmE)
          clear hyE hmem
          generalize E[m] = y at *
          obtain ⟨z, hz⟩ : ∃ z : Nat, y.to = (z : Int) := ⟨y.to.toNat, by omega⟩
          have HZ := (show Hid (y.to = (z : Int)) from hz)
          rw [hz] at e1
          cases hf : y.free with
          | true =>
            rw [hf] at e2
            have hTz : T z := HTR.out x z hTx (rr_free.2 ⟨y, HRR.out, hf, hz⟩)
            have HF := (show Hid (y.free = true) from hf)
            clear hf hz hein
            go_wp2_with (fail)
            go_at_call 112
            refine (HM.out _ _ n2 b2 z (HI.out.lo.out.k.later HOK.out (below_alloc _ _)) (HI.out.lo.out.o.later (below_alloc _ _)) HI.out.lo.out.en hTz).mono ?_
            rintro e w5 ⟨v5, n5, b5, rfl, out5, hit5⟩
            obtain ⟨g5, c5, rfl, hc51, hc52⟩ := ow.form out5.o
            have HN := (show Hid (Li X fr a T S new bs W (.slice go new.length cp) q i x (m + 1) w5 (.slice g5 n5.length c5) n5 b5) from (HI.out.later HOK.out (below_alloc _ _)).put HMX.out (by rw [HYE.out]; exact HZ.out) out5 hit5)
            clear out5 hit5 HI
            go_wp2_with (fail)
            go_roundw
            case rel => exact ⟨m + 1, n5, b5, g5, c5, rfl, by go_num, by omega, HN⟩
            case measure => simp [intOf]; omega
          | false =>
            rw [hf] at e2
            have HN := (show Hid (Li X fr a T S new bs W (.slice go new.length cp) q i x (m + 1) wr (.slice gz n2.length cz) n2 b2) from HI.out.skip HMX.out (by rw [HYE.out]; exact hf))
            clear hf hz hein
            go_wp2_with (fail)
            go_roundw
            case rel => exact ⟨m + 1, n2, b2, gz, cz, rfl, by go_num, by omega, HN.out.later HOK.out (below_alloc _ _)⟩
            case measure => simp [intOf]; omega
        · have hme : m = E.length := by rw [← HEL.out]; omega
          have HD := (show Hid (Lo X fr a T S new bs W (.slice go new.length cp) q wr (.slice gz n2.length cz) n2 b2 (i + 1)) from by
            have := HI.out
            rw [hme, ← HE.out] at this
            exact this.done)
          have hn2 := HD.out.hi
          clear hme
          go_wp2_with (fail)
          go_roundw
          case rel => exact ⟨i + 1, n2, b2, gz, cz, rfl, by go_num, hn2, HD⟩
          case measure => simp [intOf]; omega
    · have hie : i = n1.length := by omega
      subst hie
      have HD := (show Hid (Ent (Rr X) a T S new (Sb X bs) q n1 (Sb X b1)) from HL.out.done)
      go_wp2_with (fail)
      go_ret
      exact ⟨_, n1, b1, rfl, HL.out.out, HD.out⟩
end Go.Proofs.YthmecbonjkcnmaaGreat.wk
