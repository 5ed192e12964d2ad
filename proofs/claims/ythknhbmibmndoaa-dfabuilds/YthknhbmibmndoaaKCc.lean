/-
  Contracts over this program: the document's step from marked states over a byte (fretsawref08.over), whether none is marked (fretsawref08.empty).
-/
import Derived.Test.YthknhbmibmndoaaMx04
import Derived.Test.YthknhbmibmndoaaKBk
import Derived.Test.YthknhbmibmndoaaKNm
namespace Go.Proofs.Ythknhbmibmndoaa.bd
open Go.Sort Go.ChangeShapes Go.WideShapes Go.ChangeAt Go.RowKit Go.Maps
open df (Kp Row iv In IntsV Owns)
open nf (Nfa Ed Rt EdAt Eds nfaV IRow hasE Over)
set_option linter.unusedVariables false
set_option maxRecDepth 10000

def mrk (σ : List Bool) : List Int := σ.map fun b => if b then 1 else 0
theorem mrk_len (σ : List Bool) : (mrk σ).length = σ.length := by simp [mrk]
theorem mrk_at (σ : List Bool) (i : Nat) (h : i < σ.length) : (mrk σ)[i]'(by rw [mrk_len]; exact h) = if σ[i] then 1 else 0 := by simp [mrk]
theorem mrk_inj {σ τ : List Bool} (h : mrk σ = mrk τ) : σ = τ := by
  have hl : σ.length = τ.length := by rw [← mrk_len, ← mrk_len, h]
  refine List.ext_getElem hl fun i h1 h2 => ?_
  have e1 := mrk_at σ i h1
  have e2 := mrk_at τ i h2
  have e3 : (mrk σ)[i]'(by rw [mrk_len]; exact h1) = (mrk τ)[i]'(by rw [mrk_len]; exact h2) := by simp only [h]
  rw [e1, e2] at e3
  cases a : σ[i] <;> cases b : τ[i] <;> simp [a, b] at e3 <;> rfl
theorem marks_mrk {x : Nfa} {n : Nat} {P : Int → Prop} {M : List Int} (h : nf.IsMarks x n P M) : ∃ σ, M = mrk σ ∧ IsSet n (nf.Reach x P) σ := by
  have hl := h.1.len
  refine ⟨M.map (fun z => z == 1), ?_, by simp [hl], fun i hi => ?_⟩
  · refine List.ext_getElem (by simp [mrk]) fun i h1 h2 => ?_
    simp only [mrk, List.getElem_map, List.map_map, Function.comp]
    rcases h.1.two i h1 with e | e <;> simp [e]
  · have hi2 : i < M.length := by simpa using hi
    simp only [List.getElem_map, beq_iff_eq]
    exact ⟨fun e => h.1.reach i hi2 e, fun r => h.2 i hi2 r⟩
/-- where edges lead from marked states over a byte -/
def tgts (σ : List Bool) (b : Nat) (l : List Ed) : List Int := (l.filter fun e => !e.free && σ.getD e.fr.toNat false && hasE e b).map (·.to)
theorem tgts_len (σ : List Bool) (b : Nat) (l : List Ed) : (tgts σ b l).length ≤ l.length := by unfold tgts; rw [List.length_map]; exact List.length_filter_le _ _
theorem tgts_yes (σ : List Bool) (b : Nat) (l : List Ed) (e : Ed) (h1 : e.free = false) (h2 : σ.getD e.fr.toNat false = true) (h3 : hasE e b = true) : tgts σ b (l ++ [e]) = tgts σ b l ++ [e.to] := by
  simp only [tgts, List.filter_append, List.filter_cons, h1, h2, h3, List.filter_nil, Bool.not_false, Bool.and_self, if_true, List.map_append, List.map_cons, List.map_nil]
theorem tgts_no (σ : List Bool) (b : Nat) (l : List Ed) (e : Ed) (h : (!e.free && σ.getD e.fr.toNat false && hasE e b) = false) : tgts σ b (l ++ [e]) = tgts σ b l := by
  simp only [tgts, List.filter_append, List.filter_cons, h, List.filter_nil, List.append_nil, Bool.false_eq_true, if_false]
theorem tgts_over {x : Nfa} {n : Nat} (R : Rt x n) {σ : List Bool} (hσ : σ.length = n) (b : Nat) (t : Int) : (t ∈ tgts σ b x.edges ∧ 0 ≤ t ∧ t < x.n) ↔ Over x b (On σ) t := by
  constructor
  · rintro ⟨h, _⟩
    unfold tgts at h
    obtain ⟨e, he, rfl⟩ := List.mem_map.1 h
    obtain ⟨h1, h2⟩ := List.mem_filter.1 he
    simp only [Bool.and_eq_true, Bool.not_eq_true'] at h2
    have hfr := R.fr e h1
    refine ⟨e, h1, h2.1.1, h2.2, rfl, e.fr.toNat, by omega, ?_⟩
    have hlt : e.fr.toNat < σ.length := by omega
    have := h2.1.2
    rw [List.getD_eq_getElem?_getD, List.getElem?_eq_getElem hlt] at this
    rw [List.getElem?_eq_getElem hlt]
    simpa using this
  · rintro ⟨e, h1, h2, h3, h4, i, h5, h6⟩
    have hto := R.to e h1
    have hx := R.hx
    rw [h4] at hto
    refine ⟨List.mem_map.2 ⟨e, List.mem_filter.2 ⟨h1, ?_⟩, h4⟩, by omega, by omega⟩
    simp only [Bool.and_eq_true, Bool.not_eq_true']
    refine ⟨⟨h2, ?_⟩, h3⟩
    rw [h5, Int.toNat_natCast, List.getD_eq_getElem?_getD, h6]
    rfl
theorem over_marks {x : Nfa} {n : Nat} (R : Rt x n) {σ : List Bool} (hσ : σ.length = n) {b : Nat} {M : List Int} (h : nf.IsMarks x n (fun s => s ∈ tgts σ b x.edges ∧ 0 ≤ s ∧ s < x.n) M) : ∃ τ, M = mrk τ ∧ IsSet n (To x b σ) τ := by
  obtain ⟨τ, h1, h2⟩ := marks_mrk h
  exact ⟨τ, h1, h2.congr fun i _ => ⟨fun r => r.mono fun t ht => (tgts_over R hσ b t).1 ht, fun r => r.mono fun t ht => (tgts_over R hσ b t).2 ht⟩⟩
theorem begin_marks {x : Nfa} {n : Nat} (R : Rt x n) {M : List Int} (h : nf.IsMarks x n (fun s => s ∈ [x.s] ∧ 0 ≤ s ∧ s < x.n) M) : ∃ τ, M = mrk τ ∧ IsSet n (Begin x) τ := by
  obtain ⟨τ, h1, h2⟩ := marks_mrk h
  have hs := R.s
  have hx := R.hx
  exact ⟨τ, h1, h2.congr fun i _ => ⟨fun r => r.mono fun t ht => List.mem_singleton.1 ht.1, fun r => r.mono fun t ht => ⟨List.mem_singleton.2 ht, by rw [ht]; omega, by rw [ht]; omega⟩⟩⟩
def OvIs (x : Nfa) (n : Nat) (σ : List Bool) (b : Nat) : Prop := ∀ o cap g w, Eds w o cap x.edges → IRow w g (mrk σ) → Calls Try.prog 45 #[nfaV x.n x.s x.e o x.edges.length cap, .slice (some ⟨g, 0, none⟩) n n, .int .u8 (b : Int)] w fun e w' => ∃ g' τ, e = .returned (.slice (some ⟨g', 0, none⟩) n n) ∧ IRow w' g' (mrk τ) ∧ IsSet n (To x b σ) τ ∧ w.heap.size ≤ g' ∧ Below w.heap.size w w'
theorem owns_empty (w : World) (o : Obj) : Owns ((w.alloc o).alloc (.cells #[] 3)) w.heap.size (.slice (some ⟨w.heap.size + 1, 0, none⟩) 0 0) [] :=
  ⟨rfl, .inr ⟨w.heap.size + 1, 0, #[], rfl, Nat.le_succ _, heap_alloc2_new w _ _, Nat.zero_le _, Nat.zero_le _, rfl, rfl⟩⟩
set_option maxHeartbeats 4000000 in
set_option maxRecDepth 100000 in
theorem over_any (x : Nfa) (n : Nat) (R : Rt x n) (hfit : ∀ e ∈ x.edges, nf.Fits e) (σ : List Bool) (hσ : σ.length = n) (b : Nat) (hb : b < 256) : OvIs x n σ b := by
  intro o cap g w hE hM
  have efit := hE.fit
  have etop := hE.top
  have hm16 := R.m
  have hn2 := R.n2
  have HR := (show Hid (Rt x n) from R)
  have HE := (show Hid (Eds w o cap x.edges) from hE)
  have HM := (show Hid (IRow w g (mrk σ)) from hM)
  have HFIT := (show Hid (∀ e ∈ x.edges, nf.Fits e) from hfit)
  have HSL := (show Hid (σ.length = n) from hσ)
  have hgl := hM.lt
  have b0 := nf.box_new w x.n x.s x.e o x.edges.length cap
  have bB := nf.below_alloc (w.alloc (.cells #[.int .i64 x.n, .int .i64 x.s, .int .i64 x.e, .slice o x.edges.length cap] 24)) (.cells #[] 3)
  have HBX := (show Hid (nf.Box ((w.alloc (.cells #[.int .i64 x.n, .int .i64 x.s, .int .i64 x.e, .slice o x.edges.length cap] 24)).alloc (.cells #[] 3)) w.heap.size x.n x.s x.e o x.edges.length cap) from b0.later bB)
  have HB0 := (show Hid (Below w.heap.size w ((w.alloc (.cells #[.int .i64 x.n, .int .i64 x.s, .int .i64 x.e, .slice o x.edges.length cap] 24)).alloc (.cells #[] 3))) from ((Below.refl _ _).alloc (Nat.le_refl _) _).alloc (by simp) _)
  have HO0 := (show Hid (Owns ((w.alloc (.cells #[.int .i64 x.n, .int .i64 x.s, .int .i64 x.e, .slice o x.edges.length cap] 24)).alloc (.cells #[] 3)) w.heap.size (.slice (some ⟨w.heap.size + 1, 0, none⟩) 0 0) []) from owns_empty w _)
  clear R hfit hE hM hσ b0 bB
  go_enter Try.func45, Try.ntmps45
  go_wp2_with (fail)
  obtain ⟨w1, HW1⟩ : ∃ w1, Hid (w1 = (w.alloc (.cells #[.int .i64 x.n, .int .i64 x.s, .int .i64 x.e, .slice o x.edges.length cap] 24)).alloc (.cells #[] 3)) := ⟨_, rfl⟩
  rw [← HW1.out] at HBX HB0 HO0 ⊢
  clear HW1
  go_loopw [7, 14] (fun v z wr => ∃ i : Nat, z = .int .i64 i ∧ i ≤ x.edges.length ∧ Hid (Below w.heap.size w wr ∧ nf.Box wr w.heap.size x.n x.s x.e o x.edges.length cap) ∧ Hid (Owns wr w.heap.size v (tgts σ b (x.edges.take i)) ∧ ∀ k, v.ownBlock = some k → k ≠ w.heap.size)) (fun _ z _ => x.edges.length - (intOf z).toNat)
  case atStart => exact ⟨0, rfl, by omega, ⟨HB0.out, HBX.out⟩, HO0.out, fun k e => by simp [Value.ownBlock] at e; omega⟩
  case round =>
    obtain ⟨i, rfl, hi, HI, HO⟩ := hrel
    clear HBX HB0 HO0
    obtain ⟨v, rfl⟩ : ∃ v, v = u7 := ⟨_, rfl⟩
    by_cases hend : i < x.edges.length
    · obtain ⟨eb, eoff, rfl, heb, hed⟩ := (HE.out.later HI.out.1).lie i hend
      obtain ⟨c0, c1, c2, c3, c4, c5, c6⟩ := hed
      have HTK := (show Hid (x.edges.take (i + 1) = x.edges.take i ++ [x.edges[i]]) from List.take_succ_eq_append_getElem hend)
      have hfr := HR.out.fr x.edges[i] (List.getElem_mem hend)
      have hfy := HFIT.out x.edges[i] (List.getElem_mem hend)
      have HLL := (show Hid ((x.edges.take i).length ≤ 1000000) from by show _ ≤ _; rw [List.length_take]; omega)
      generalize x.edges[i] = y at *
      generalize x.edges.take i = l at *
      obtain ⟨s, hs⟩ : ∃ s : Nat, y.fr = (s : Int) := ⟨y.fr.toNat, by omega⟩
      have hsn : s < n := by omega
      have HSY := (show Hid (y.fr = (s : Int)) from hs)
      obtain ⟨q, hrow, HGD⟩ : ∃ q : Bool, wr.cell? ⟨g, s, none⟩ = some (.int .i64 (if q then 1 else 0)) ∧ Hid (σ.getD y.fr.toNat false = q) := by
        have hsl := HSL.out
        have hlt : s < σ.length := by omega
        have h1 := (HM.out.later HI.out.1).cell s (by rw [mrk_len]; exact hlt)
        rw [mrk_at σ s hlt] at h1
        refine ⟨σ[s], h1, ?_⟩
        show _ = _
        rw [HSY.out, Int.toNat_natCast, List.getD_eq_getElem?_getD, List.getElem?_eq_getElem hlt]; rfl
      rw [hs] at c0
      have hgw : g < wr.heap.size := by have := HI.out.1.size; omega
      have hF : st.Fits (nf.setOf y) := nf.fits_of hfy
      have h37 : Calls Try.prog 37 #[.agg #[.int .u64 y.a, .int .u64 y.b, .int .u64 y.c, .int .u64 y.d], .int .u8 (b : Int)] (wr.alloc (.cells #[.int .i64 (s : Int), .int .i64 y.to, .bool false, .int .u64 y.a, .int .u64 y.b, .int .u64 y.c, .int .u64 y.d] 62)) fun e w' => e = .returned (.bool (hasE y b)) ∧ Below (wr.alloc (.cells #[.int .i64 (s : Int), .int .i64 y.to, .bool false, .int .u64 y.a, .int .u64 y.b, .int .u64 y.c, .int .u64 y.d] 62)).heap.size (wr.alloc (.cells #[.int .i64 (s : Int), .int .i64 y.to, .bool false, .int .u64 y.a, .int .u64 y.b, .int .u64 y.c, .int .u64 y.d] 62)) w' := st.rhas_any (nf.setOf y) hF b hb _ rfl _
      clear hs hfr heb hfy hF
      have HNX := (show Hid (∀ (bo : Bool) (w' : World), Below wr.heap.size wr w' → (Below w.heap.size w w' ∧ nf.Box w' w.heap.size x.n x.s x.e (some ⟨eb, eoff, none⟩) x.edges.length cap) ∧ Owns w' w.heap.size v (tgts σ b l)) from fun bo w' c => ⟨⟨st.chain HI.out.1 c, HI.out.2.later c⟩, ow.later HO.out.1 c⟩)
      cases hf : y.free with
      | true =>
        rw [hf] at c2
        have HTG := (show Hid (tgts σ b (l ++ [y]) = tgts σ b l) from tgts_no σ b l y (by rw [hf]; rfl))
        clear hf h37
        go_wp2_with (fail)
        go_roundw
        case rel =>
          obtain ⟨q1, q2⟩ := HNX.out true _ (nf.below_alloc wr _)
          exact ⟨i + 1, by go_num, by omega, q1, by rw [HTK.out, HTG.out]; exact ⟨q2, HO.out.2⟩⟩
        case measure => simp [intOf]; omega
      | false =>
        rw [hf] at c2
        have HFF := (show Hid (y.free = false) from hf)
        clear hf
        cases q with
        | false =>
          have HTG := (show Hid (tgts σ b (l ++ [y]) = tgts σ b l) from tgts_no σ b l y (by rw [HFF.out, HGD.out]; rfl))
          simp only [Bool.false_eq_true, if_false] at hrow
          clear h37
          go_wp2_with (fail)
          go_roundw
          case rel =>
            obtain ⟨q1, q2⟩ := HNX.out true _ (nf.below_alloc wr _)
            exact ⟨i + 1, by go_num, by omega, q1, by rw [HTK.out, HTG.out]; exact ⟨q2, HO.out.2⟩⟩
          case measure => simp [intOf]; omega
        | true =>
          simp only [if_true] at hrow
          cases hh : hasE y b with
          | false =>
            rw [hh] at h37
            have HTG := (show Hid (tgts σ b (l ++ [y]) = tgts σ b l) from tgts_no σ b l y (by rw [hh, Bool.and_false]))
            clear hh
            go_wp2_with (go_at_call 37; refine h37.mono ?_; rintro ev w5 ⟨rfl, b5⟩; have B5 := st.chain (nf.below_alloc wr _) b5; clear b5)
            go_roundw
            case rel =>
              obtain ⟨q1, q2⟩ := HNX.out true _ B5
              exact ⟨i + 1, by go_num, by omega, q1, by rw [HTK.out, HTG.out]; exact ⟨q2, HO.out.2⟩⟩
            case measure => simp [intOf]; omega
          | true =>
            rw [hh] at h37
            have HTG := (show Hid (tgts σ b (l ++ [y]) = tgts σ b l ++ [y.to]) from tgts_yes σ b l y HFF.out HGD.out hh)
            have HTL := (show Hid ((tgts σ b l).length ≤ 1000000) from Nat.le_trans (tgts_len σ b l) HLL.out)
            clear hh
            have HAP := (show Hid (∀ (w5 w6 : World) (g' cap' : Nat), Below wr.heap.size wr w5 → w6.ownsRow w.heap.size 3 1 (.slice (some ⟨g', 0, none⟩) ((tgts σ b l).length + 1) cap') ((tgts σ b l).length + 1) ((tgts σ b l).map (Value.int .i64) ++ [Value.int .i64 y.to]) → (w5.alloc (.cells #[.int .i64 y.to] 3)).grownBy w6 v.ownBlock → (some g' = v.ownBlock ∨ (w5.alloc (.cells #[.int .i64 y.to] 3)).heap.size ≤ g') →
              (Below w.heap.size w w6 ∧ nf.Box w6 w.heap.size x.n x.s x.e (some ⟨eb, eoff, none⟩) x.edges.length cap) ∧ Owns w6 w.heap.size (.slice (some ⟨g', 0, none⟩) ((tgts σ b l).length + 1) cap') (tgts σ b l ++ [y.to]) ∧ ∀ k, (Value.slice (some ⟨g', 0, none⟩) ((tgts σ b l).length + 1) cap').ownBlock = some k → k ≠ w.heap.size) from by
              intro w5 w6 g' cap' B5 ho hg hw
              obtain ⟨q1, q2⟩ := HNX.out true _ (st.chain B5 (nf.below_alloc w5 (.cells #[.int .i64 y.to] 3)))
              refine ⟨⟨q1.1.grown hg q1.1.size (fun k e => (ow.lt q2 e).1), (hg.block _ q1.2.lt (fun e => HO.out.2 _ e.symm rfl)).trans q1.2⟩, ?_, ?_⟩
              · unfold Owns
                rw [List.length_append, List.map_append]
                exact ho
              · intro k e
                have e2 : g' = k := by simpa [Value.ownBlock] using e
                subst e2
                rcases hw with e3 | e3
                · exact HO.out.2 _ e3.symm
                · have := q1.1.size; have := q1.2.lt; omega)
            have HOL := (show Hid (∀ w5 : World, Below wr.heap.size wr w5 → (w5.alloc (.cells #[.int .i64 y.to] 3)).ownsRow w.heap.size 3 1 v (tgts σ b l).length ((tgts σ b l).map (Value.int .i64)) ∧ w.heap.size ≤ (w5.alloc (.cells #[.int .i64 y.to] 3)).heap.size) from fun w5 B5 => by
              obtain ⟨q1, q2⟩ := HNX.out true _ (st.chain B5 (nf.below_alloc w5 (.cells #[.int .i64 y.to] 3)))
              exact ⟨q2, q1.1.size⟩)
            generalize tgts σ b l = ts at *
            go_wp2_with (first | (go_at_call 37; refine h37.mono ?_; rintro ev w5 ⟨rfl, b5⟩; have B5 := st.chain (nf.below_alloc wr _) b5; have d1 := (b5.cell (p := ⟨wr.heap.size, 1, none⟩) (by simp)).trans (Lib.cell_of_heap (World.alloc_heap_new wr _) 1); simp only [List.getElem?_toArray, List.getElem?_cons_succ, List.getElem?_cons_zero] at d1; clear b5) | (at_builtin; refine ow.wpList_append (by rfl) (.tmp 35) (.tmp 38) 25 (by rfl) 3 (.int .i64 0) 1 8 Try.underlying25 df.info3 (by rfl) (by decide) (by decide) w.heap.size v ts.length (ts.map (Value.int .i64)) w5.heap.size [.int .i64 y.to] (by rfl) (by rfl) (by exact (HOL.out w5 B5).1) (by rfl) (by exact ow.new1 w5 _ 3) (by exact ow.one1 _ rfl) (by exact HTL.out) (by exact (HOL.out w5 B5).2) ?_; intro g' cap' w6 ho hg hw; have HA6 := (show Hid _ from HAP.out w5 w6 g' cap' B5 ho hg hw); clear ho hg hw))
            go_roundw
            case rel => exact ⟨i + 1, by go_num, by omega, HA6.out.1, by rw [HTK.out, HTG.out]; exact HA6.out.2⟩
            case measure => simp [intOf]; omega
    · have HO2 := (show Hid (Owns wr w.heap.size v (tgts σ b x.edges)) from by have := HO.out.1; rw [List.take_of_length_le (by omega)] at this; exact this)
      obtain ⟨lo, lcap, rfl, lf, lt⟩ := ow.form HO2.out
      have h14 := nf.marks_any x n HR.out (tgts σ b x.edges) o cap lo lcap wr (HE.out.later HI.out.1) (nf.own_row HO2.out (fun k e => (ow.lt HO2.out e.symm).2))
      have HFIN := (show Hid (∀ M, nf.IsMarks x n (fun s => s ∈ tgts σ b x.edges ∧ 0 ≤ s ∧ s < x.n) M → ∃ τ, M = mrk τ ∧ IsSet n (To x b σ) τ) from fun M h => over_marks HR.out HSL.out h)
      have HTL := (show Hid ((tgts σ b x.edges).length ≤ 1000000) from Nat.le_trans (tgts_len σ b _) (by omega))
      have y0 := HI.out.2.c0
      have y1 := HI.out.2.c1
      have y2 := HI.out.2.c2
      have y3 := HI.out.2.c3
      have HB := (show Hid (Below w.heap.size w wr) from HI.out.1)
      clear HI HO HO2
      generalize tgts σ b x.edges = ts at *
      go_wp2_with (go_at_call 14; refine h14.mono ?_; rintro ev w6 ⟨g', M, rfl, ir, hmk, hge, b6⟩)
      go_ret
      obtain ⟨τ, rfl, hτ⟩ := HFIN.out M hmk
      exact ⟨g', τ, rfl, ir, hτ, by have := HB.out.size; omega, st.chain HB.out b6⟩
end Go.Proofs.Ythknhbmibmndoaa.bd
