/-
  Contracts over this program: a line's instruction (isa.parsed).
-/
import Derived.Test.YtdekkjnlmlkbdaaDoorKe
import Derived.Test.YtdekkjnlmlkbdaaDoorGc
namespace Go.Proofs.YtdekkjnlmlkbdaaDoor.is
open Go.Proofs.YtdekkjnlmlkbdaaDoor.num
open Go.ChangeShapes Go.WideShapes Go.ChangeAt Go.RowKit
set_option linter.unusedVariables false

theorem ret_ib {fn : Func} {p u : Tmp} (h : fn.results = #[.cell p 23, .tmp u]) {a : Act} {W : World} {R : Ending → World → Prop} (g : Nat) (i : In) (m : Value) (hp : a.tmps.getD p undef = .pointer (some ⟨g, 0, none⟩)) (hb : IBlk W g i) (hu : a.tmps.getD u undef = m) (hd : a.defers = [])
    (hR : R (.returned (.tuple #[vI i, m])) W) : bodyPost Tryd.prog fn R .ret a W := by
  refine bodyPost_ret ?_ hd hR
  have h1 := run_loadVar_row (P := Tryd.prog) W g 23 23 _ (0, 0) _ hb Tryd.underlying23 rfl (by kernel_rfl)
  have hp' : a.tmps[p]?.getD undef = .pointer (some ⟨g, 0, none⟩) := by simpa using hp
  have hu' : a.tmps[u]?.getD undef = m := by simpa using hu
  simp [results, h, hp', hu', asAddr, h1, vI]

/-- a slice of texts at a place -/
structure StrP (w : World) (b off n cap : Nat) (l : List L8) : Prop where
  len : l.length = n
  fit : n ≤ cap
  max : cap ≤ 9223372036854775807
  blk : b < w.heap.size
  cell : ∀ k (h : k < l.length), w.cell? ⟨b, off + k, none⟩ = some (.string (ba l[k]))
theorem StrP.later {w w' : World} {b off n cap : Nat} {l : List L8} (h : StrP w b off n cap l) (bl : Below w.heap.size w w') : StrP w' b off n cap l :=
  ⟨h.len, h.fit, h.max, by have := h.blk; have := bl.size; omega, fun k hk => by have eb := bl.block b h.blk; simp only [World.cell?, eb]; exact h.cell k hk⟩
theorem StrP.keep {w w' : World} {b off n cap : Nat} {l : List L8} (h : StrP w b off n cap l) (hs : w.heap.size ≤ w'.heap.size) (hb : w'.heap[b]? = w.heap[b]?) : StrP w' b off n cap l :=
  ⟨h.len, h.fit, h.max, by have := h.blk; omega, fun k hk => by simp only [World.cell?, hb]; exact h.cell k hk⟩
theorem StrP.head {w : World} {b off n cap : Nat} {p : L8} {ps : List L8} (h : StrP w b off n cap (p :: ps)) : w.cell? ⟨b, off, none⟩ = some (.string (ba p)) := h.cell 0 (by simp)
theorem StrP.tail {w : World} {b off n cap : Nat} {p : L8} {ps : List L8} (h : StrP w b off (n + 1) (cap + 1) (p :: ps)) : StrP w b (off + 1) n cap ps :=
  ⟨by have := h.len; simpa using this, by have := h.fit; omega, by have := h.max; omega, h.blk, fun k hk => by have := h.cell (k + 1) (by simpa using hk); rw [show off + 1 + k = off + (k + 1) from by omega]; exact this⟩

def ParsedIs (s : ByteArray) : Prop := ∀ w, Tabs w → Calls Tryd.prog 37 #[.string s] w fun e w' => ∃ r, e = .returned (.tuple #[vI r, .bool (readL s.data.toList).isSome]) ∧ (∀ i, readL s.data.toList = some i → r = i) ∧ Below w.heap.size w w'

set_option maxHeartbeats 4000000 in
set_option maxRecDepth 100000 in
theorem parsed_any (s : ByteArray) (hs : s.size ≤ 300000) : ParsedIs s := by
  intro w hT
  have h48 := apart_any s hs
  unfold ApartIs at h48
  obtain ⟨word, ps, hcut⟩ : ∃ p ps, cutG [] s.data.toList = p :: ps := by
    cases h : cutG [] s.data.toList with
    | nil => exact absurd h (cutG_ne _ _)
    | cons p ps => exact ⟨p, ps, rfl⟩
  rw [hcut] at h48
  have h49 := opof_any (ba word)
  unfold OpOfIs at h49
  rw [show (ba word).data.toList = word from rfl] at h49
  have HNO := (show Hid (opW word = 0 → readL s.data.toList = none) from fun h => readL_no hcut h)
  have HYE := (show Hid (opW word ≠ 0 → readL s.data.toList = readF (namedK (opW word) 0) ps ⟨opW word, 0, 0, 0, 0⟩) from fun h => readL_at hcut h)
  have ho17 := (opW_le word).1
  generalize readL s.data.toList = R at *
  generalize opW word = o at *
  clear hcut
  have B0 : Below w.heap.size w (w.alloc (.cells #[.int .i64 0, .int .i64 0, .int .i64 0, .int .i64 0, .int .i64 0] 23)) := (Below.refl _ _).alloc (Nat.le_refl _) _
  have hz0 : IBlk (w.alloc (.cells #[.int .i64 0, .int .i64 0, .int .i64 0, .int .i64 0, .int .i64 0] 23)) w.heap.size zI := heap_alloc_new w _
  by_cases ho : o = 0
  · subst ho
    have HE := (show Hid (R = none) from HNO.out rfl)
    clear HNO HYE
    go_enter Tryd.func37, Tryd.ntmps37
    go_wp2_with (first | (go_at_call 48; refine (h48 _).mono ?_; rintro e w1 ⟨v, rfl, hv, hb1⟩; obtain ⟨oo, cap, rfl, hc1, hc2, hc3⟩ := hv; obtain ⟨b, off, rfl, hc4⟩ := hc3 (by simp); have hc5 := hc4 0 (by simp); rw [Nat.add_zero, List.getElem_cons_zero] at hc5; rw [List.length_cons] at hc1 ⊢; have hT1 := hT.later (chain B0 hb1); have hz1 := hz0.later hb1; obtain ⟨⟨z0, z1, z2, z3, z4⟩, y0, y1, y2, y3, y4⟩ := hz1.zero) | (go_at_call 49; refine (h49 _ hT1).mono ?_; rintro e w2 ⟨rfl, hx⟩; obtain rfl := hx.symm))
    rw [HE.out]
    exact ret_ib Tryd.results37 w.heap.size zI _ rfl (set5 hz1 zI) rfl rfl ⟨zI, rfl, (fun i h => by cases h), Below.set5 (chain B0 hb1) (Nat.le_refl _) _ _ _ _ _⟩
  · have HR := (show Hid (readF (namedK o 0) ps ⟨o, 0, 0, 0, 0⟩ = R) from (HYE.out ho).symm)
    have h1 : 1 ≤ o := by omega
    clear HNO HYE
    go_enter Tryd.func37, Tryd.ntmps37
    go_wp2_with (first | (go_at_call 48; refine (h48 _).mono ?_; rintro e w1 ⟨v, rfl, hv, hb1⟩; obtain ⟨oo, cap, rfl, hc1, hc2, hc3⟩ := hv; obtain ⟨b, off, rfl, hc4⟩ := hc3 (by simp); have hc5 := hc4 0 (by simp); rw [Nat.add_zero, List.getElem_cons_zero] at hc5; rw [List.length_cons] at hc1 ⊢; have hT1 := hT.later (chain B0 hb1); have hz1 := hz0.later hb1; obtain ⟨⟨z0, z1, z2, z3, z4⟩, y0, y1, y2, y3, y4⟩ := hz1.zero) | (go_at_call 49; refine (h49 _ hT1).mono ?_; rintro e w2 ⟨rfl, hx⟩; obtain rfl := hx.symm; have hbA : Below w1.heap.size w1 (w1.alloc (.cells #[.int .i64 0, .int .i64 0, .int .i64 0, .int .i64 0] 37)) := (Below.refl _ _).alloc (Nat.le_refl _) _; have hTA := hT1.later hbA; have hk0 := hTA.kd o (by omega) 0 (by omega); have hk1 := hTA.kd o (by omega) 1 (by omega); have hk2 := hTA.kd o (by omega) 2 (by omega); have hk3 := hTA.kd o (by omega) 3 (by omega)))
    all_goals (
      have hBA := chain (chain B0 hb1) hbA
      have hP0 : StrP (w1.alloc (.cells #[.int .i64 0, .int .i64 0, .int .i64 0, .int .i64 0] 37)) b off (ps.length + 1) _ (word :: ps) := StrP.later (w := w1) ⟨by simp, hc1, hc2, cell_lt hc5, hc4⟩ hbA
      have hzA := hz1.later hbA
      have hrA : RowBlk (w1.alloc (.cells #[.int .i64 0, .int .i64 0, .int .i64 0, .int .i64 0] 37)) w1.heap.size ⟨o, 0, 0, 0, 0⟩ := heap_alloc_new w1 _
      have hgw : w.heap.size < w1.heap.size := hz1.lt
      have hbg : b < w1.heap.size := cell_lt hc5
      generalize w1.alloc (.cells #[.int .i64 0, .int .i64 0, .int .i64 0, .int .i64 0] 37) = wA at *
      generalize w1.heap.size = g6 at *
      clear h48 h49 hc1 hc2 hc3 hc4 hc5 hz1 hz0 z0 z1 z2 z3 z4 y0 y1 y2 y3 y4 hT1 hb1 hbA
      go_loopw [7, 27] (fun v y wq => ∃ (f : Nat) (i : In) (l : List L8) (of n c : Nat), v = .slice (some ⟨b, of, none⟩) n c ∧ y = .int .i64 f ∧ f ≤ 4 ∧ i.op = o ∧ StrP wq b of n c l ∧ RowBlk wq g6 i ∧ IBlk wq w.heap.size zI ∧ Below w.heap.size w wq ∧ Hid (readF (namedK o f) l i = R)) (fun _ y _ => 4 - (intOf y).toNat)
      case atStart =>
        first
        | exact ⟨0, ⟨o, 0, 0, 0, 0⟩, ps, off + 1, ps.length, _, rfl, rfl, by omega, rfl, StrP.tail (by have := hP0.fit; rw [show cap - 1 + 1 = cap from by omega]; exact hP0), hrA, hzA, hBA, HR⟩
        | exact ⟨0, ⟨o, 0, 0, 0, 0⟩, ps, off, ps.length, 0, rfl, rfl, by omega, rfl, ⟨rfl, by have := hP0.fit; omega, by omega, hP0.blk, fun k hk => by have := hP0.fit; omega⟩, hrA, hzA, hBA, HR⟩
      case round =>
        rename World => wq
        obtain ⟨f, i, l, of, n, c, rfl, rfl, hf, hio, sp, rb, zb, hB, HQ⟩ := hrel
        have hTq := hT.later hB
        have hn := sp.len
        have hnc := sp.fit
        have hcm := sp.max
        by_cases hf4 : f < 4
        · have hx := index_kd o f hf4
          have hl6 := kd_lt o f
          have hkz : kd o f = 0 ∨ kd o f ≠ 0 := by omega
          have HK : Hid (kd o f = 0 → namedK o f = namedK o (f + 1)) := fun h => namedK_skip hf4 h
          have HT : Hid (kd o f ≠ 0 → namedK o f = (f, kd o f) :: namedK o (f + 1)) := fun h => namedK_take hf4 h
          generalize kd o f = k at *
          rcases hkz with hk | hk
          · subst hk
            have HN : Hid (readF (namedK o (f + 1)) l i = R) := by show _ = _; rw [← HK.out rfl]; exact HQ.out
            clear HQ HK HT
            go_wp2
            go_roundw
            case rel => exact ⟨f + 1, i, l, of, n, c, rfl, by go_num, by omega, hio, sp, rb, zb, hB, HN⟩
            case measure => simp [intOf]; omega
          have hk2' : ((k : Int) == 0) = false := by rw [beq_eq_false_iff_ne]; omega
          obtain ⟨⟨z0, z1, z2, z3, z4⟩, y0, y1, y2, y3, y4⟩ := zb.zero
          cases l with
          | nil =>
            obtain rfl : n = 0 := by simpa using hn.symm
            have HE : Hid (R = none) := by show _ = _; rw [← HQ.out, HT.out hk, readF_short]
            clear HQ HK HT
            go_wp2
            have HE := HE.out
            subst HE
            exact ret_ib Tryd.results37 w.heap.size zI _ rfl (set5 zb zI) rfl rfl ⟨zI, rfl, (fun i h => by cases h), Below.set5 hB (Nat.le_refl _) _ _ _ _ _⟩
          | cons p l =>
            obtain ⟨n, rfl⟩ : ∃ n', n = n' + 1 := ⟨l.length, by simpa using hn.symm⟩
            have hcell := sp.head
            have hln : l.length = n := by simpa using hn
            have h50 := field_any (ba p) k hl6
            rw [show (ba p).data.toList = p from rfl] at h50
            have HB : Hid (fieldV k p = none → R = none) := fun h => by rw [← HQ.out, HT.out hk, readF_bad h]
            have HO : Hid (∀ v, fieldV k p = some v → readF (namedK o (f + 1)) l (setF i f v) = R) := fun v h => by rw [← HQ.out, HT.out hk, readF_ok h]
            unfold FieldIs at h50
            have hsf : ∀ v : Int, (setF i f v).op = o := fun v => by rw [← hio]; unfold setF; split <;> (try split) <;> (try split) <;> rfl
            clear HQ HK HT
            generalize fieldV k p = r at *
            cases r with
            | none =>
              have HE := (show Hid (R = none) from HB.out rfl)
              clear HB HO
              go_wp2_with (go_at_call 50; refine (h50 _ hTq).mono ?_; rintro e w5 ⟨rfl, hx⟩; have sp := sp.later hx; have rb := rb.later hx; have zb := zb.later hx; have hB := chain hB hx; obtain ⟨⟨z0, z1, z2, z3, z4⟩, y0, y1, y2, y3, y4⟩ := zb.zero; have hc := rb.at f hf4; have fz := rb.fz f)
              have HE := HE.out
              subst HE
              exact ret_ib Tryd.results37 w.heap.size zI _ rfl (set5 zb zI) rfl rfl ⟨zI, rfl, (fun i h => by cases h), Below.set5 hB (Nat.le_refl _) _ _ _ _ _⟩
            | some vn =>
              have HN := (show Hid (readF (namedK o (f + 1)) l (setF i f vn) = R) from HO.out vn rfl)
              clear HB HO
              have e1 : (vlV (some vn) : Nat) = vn := rfl
              have e2 : okV (some vn) = true := rfl
              rw [e1, e2] at h50
              by_cases hc1 : c = 1
              · subst hc1
                obtain rfl : n = 0 := by omega
                go_wp2_with (go_at_call 50; refine (h50 _ hTq).mono ?_; rintro e w5 ⟨rfl, hx⟩; have sp := sp.later hx; have rb := rb.later hx; have zb := zb.later hx; have hB := chain hB hx; obtain ⟨⟨z0, z1, z2, z3, z4⟩, y0, y1, y2, y3, y4⟩ := zb.zero; have hc := rb.at f hf4; have fz := rb.fz f)
                go_region
                go_wp2
                go_roundw
                case rel => exact ⟨f + 1, setF i f vn, l, of, 0, 0, rfl, by go_num, by omega, hsf vn, ⟨hln, by omega, by omega, by have := sp.blk; show b < (w5.heap.modify _ _).size; simpa using this, fun k hk => by omega⟩, rb.set f hf4 vn, zb.other (by omega) f _, (hB.setCell (p := ⟨g6, f, none⟩) (Nat.le_of_lt hgw) _).drew, HN⟩
                case measure => simp [intOf]; omega
              · obtain ⟨c, rfl⟩ : ∃ c', c = c' + 1 := ⟨c - 1, by omega⟩
                go_wp2_with (go_at_call 50; refine (h50 _ hTq).mono ?_; rintro e w5 ⟨rfl, hx⟩; have sp := sp.later hx; have rb := rb.later hx; have zb := zb.later hx; have hB := chain hB hx; obtain ⟨⟨z0, z1, z2, z3, z4⟩, y0, y1, y2, y3, y4⟩ := zb.zero; have hc := rb.at f hf4; have fz := rb.fz f)
                go_region
                go_wp2
                go_roundw
                case rel => exact ⟨f + 1, setF i f vn, l, of + 1, n, c, rfl, by go_num, by omega, hsf vn, StrP.keep (w := w5) sp.tail (by show _ ≤ (w5.heap.modify _ _).size; simp) (Below.heap_setCell _ _ _ _ (Nat.ne_of_lt hbg)), rb.set f hf4 vn, zb.other (by omega) f _, (hB.setCell (p := ⟨g6, f, none⟩) (Nat.le_of_lt hgw) _).drew, HN⟩
                case measure => simp [intOf]; omega
        · obtain rfl : f = 4 := by omega
          obtain ⟨op, xa, xb, xc, xd⟩ := i
          obtain rfl : op = o := hio
          have hM := made_any ⟨o, xa, xb, xc, xd⟩
          unfold MadeIs vI at hM
          have c0 : wq.cell? ⟨g6, 0, none⟩ = some (.int .i64 xa) := rb.at 0 (by omega)
          have c1 : wq.cell? ⟨g6, 1, none⟩ = some (.int .i64 xb) := rb.at 1 (by omega)
          have c2 : wq.cell? ⟨g6, 2, none⟩ = some (.int .i64 xc) := rb.at 2 (by omega)
          have c3 : wq.cell? ⟨g6, 3, none⟩ = some (.int .i64 xd) := rb.at 3 (by omega)
          have HE : Hid (R = if l.length = 0 then some ⟨o, xa, xb, xc, xd⟩ else none) := by show _ = _; rw [← HQ.out, namedK_end, readF_nil]
          rw [hn] at HE
          clear HQ
          by_cases hn0 : n = 0
          · subst hn0
            have HE := (show Hid (R = some ⟨o, xa, xb, xc, xd⟩) from HE.out)
            go_wp2_with (go_at_call 47; refine (hM _).mono ?_; rintro e w5 ⟨rfl, b1⟩; have zb := zb.later b1; have hB := chain hB b1; obtain ⟨⟨z0, z1, z2, z3, z4⟩, y0, y1, y2, y3, y4⟩ := zb.zero)
            have HE := HE.out
            subst HE
            exact ret_ib Tryd.results37 w.heap.size ⟨o, xa, xb, xc, xd⟩ _ rfl (set5 zb ⟨o, xa, xb, xc, xd⟩) rfl rfl ⟨⟨o, xa, xb, xc, xd⟩, rfl, (fun i h => Option.some.inj h), Below.set5 hB (Nat.le_refl _) _ _ _ _ _⟩
          · have hne : ((n : Int) == 0) = false := by rw [beq_eq_false_iff_ne]; omega
            have HE := (show Hid (R = none) by show _ = _; rw [HE.out, if_neg hn0])
            go_wp2_with (go_at_call 47; refine (hM _).mono ?_; rintro e w5 ⟨rfl, b1⟩; have zb := zb.later b1; have hB := chain hB b1; obtain ⟨⟨z0, z1, z2, z3, z4⟩, y0, y1, y2, y3, y4⟩ := zb.zero)
            have HE := HE.out
            subst HE
            exact ret_ib Tryd.results37 w.heap.size ⟨o, xa, xb, xc, xd⟩ _ rfl (set5 zb ⟨o, xa, xb, xc, xd⟩) rfl rfl ⟨⟨o, xa, xb, xc, xd⟩, rfl, (fun i h => by cases h), Below.set5 hB (Nat.le_refl _) _ _ _ _ _⟩)
end Go.Proofs.YtdekkjnlmlkbdaaDoor.is
