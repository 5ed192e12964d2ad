/-
  Contracts over this program: sets of bytes are handed on over Free edges (builder.spread).
-/
import Derived.Test.YtfilndgbgdnpiaaM27
import Derived.Test.YtfilndgbgdnpiaaM07
namespace Go.Proofs.Ytfilndgbgdnpiaa.bd
open Go.Sort Go.ChangeShapes Go.WideShapes Go.ChangeAt Go.RowKit Go.Maps
open df (Kp Row iv In IntsV Owns)
open nf (Nfa Rt)
open st (Q4 none4 Fits has nth jn Blk)
set_option linter.unusedVariables false
set_option maxRecDepth 10000

/-- the rows of a state's Free edges -/
structure Fre (X : Nat → Prop) (W : World) (fb cap n : Nat) (F : Nat → List Int) : Prop where
  fit : n ≤ cap
  top : cap ≤ 9223372036854775807
  blk : X fb
  row : ∀ s, s < n → ∃ v, W.cell? ⟨fb, s, none⟩ = some v ∧ RowV X W v (F s)
theorem Fre.carry {X Y : Nat → Prop} {W W' : World} {fb cap n : Nat} {F : Nat → List Int} (h : Fre X W fb cap n F) (hk : ∀ b, X b → W'.heap[b]? = W.heap[b]?) (hq : ∀ b, X b → Y b) : Fre Y W' fb cap n F :=
  ⟨h.fit, h.top, hq _ h.blk, fun s hs => by
    obtain ⟨v, h1, h2⟩ := h.row s hs
    exact ⟨v, by simp only [World.cell?, hk fb h.blk] at h1 ⊢; exact h1, h2.carry hk hq⟩⟩
def SpreadIs (x : Nfa) (n : Nat) (F : Nat → List Int) : Prop := ∀ (X : Nat → Prop) (W : World) (b g fb cap : Nat) (R0 : List Q4), SRow W g R0 → R0.length = n → (∀ q ∈ R0, Fits q) → Fre X W fb cap n F → W.cell? ⟨b, 5, none⟩ = some (.slice (some ⟨fb, 0, none⟩) n cap) → X b → ¬ X g → (∀ k, X k → k < W.heap.size) →
  Calls Try.prog 84 #[.pointer (some ⟨b, 0, none⟩), .slice (some ⟨g, 0, none⟩) n n] W fun e W' => (∃ v, e = .returned v) ∧ ∃ R, SRow W' g R ∧ R.length = n ∧ (∀ q ∈ R, Fits q) ∧ (∀ i c, i < n → c < 256 → (has (nth R i) c = true ↔ nf.Reach x (At R0 c) (i : Int))) ∧ W.grownBy W' (some g)

structure Sp (W : World) (g : Nat) (R : List Q4) (y : Value) (q : List Int) (wr : World) : Prop where
  gr : W.grownBy wr (some g)
  row : SRow wr g R
  ow : Owns wr W.heap.size y q
section
variable {W wr w' : World} {g : Nat} {R : List Q4} {y : Value} {q : List Int}
theorem gr_trans {W wr w' : World} {g : Nat} {r : Option Nat} (h : W.grownBy wr (some g)) (k : wr.grownBy w' r) (hr : ∀ j, r = some j → j = g ∨ W.heap.size ≤ j) : W.grownBy w' (some g) :=
  ⟨k.os.trans h.os, k.tape.trans h.tape, k.output.trans h.output, Nat.le_trans h.size k.size, fun j hj hne => by
    rw [k.block j (Nat.lt_of_lt_of_le hj h.size) (fun e => by
      rcases hr j e.symm with h1 | h1
      · exact hne (by rw [h1])
      · omega)]
    exact h.block j hj hne⟩
theorem Sp.later (h : Sp W g R y q wr) (b : Below wr.heap.size wr w') : Sp W g R y q w' :=
  ⟨gr_trans h.gr (df.grown_of b) (fun j e => by cases e), h.row.later b, owns_later h.ow b⟩
theorem Sp.app (hg : g < W.heap.size) (h : Sp W g R y q wr) {y' : Value} {q' : List Int} (ho : Owns w' W.heap.size y' q') (k : wr.grownBy w' y.ownBlock) : Sp W g R y' q' w' :=
  ⟨gr_trans h.gr k (fun j e => .inr (df.own_ge h.ow j e)), h.row.keep (k.block g h.row.lt (fun e => by have := df.own_ge h.ow g e.symm; omega)), ho⟩
theorem Sp.put (hg : g < W.heap.size) (h : Sp W g R y q wr) (i : Nat) (hi : i < R.length) (q4 : Q4) : Sp W g (R.set i q4) y q ((((wr.setCell ⟨g, i * 4, none⟩ (.int .u64 q4.a)).setCell ⟨g, i * 4 + 1, none⟩ (.int .u64 q4.b)).setCell ⟨g, i * 4 + 2, none⟩ (.int .u64 q4.c)).setCell ⟨g, i * 4 + 3, none⟩ (.int .u64 q4.d)) := by
  refine ⟨gr_trans h.gr ⟨rfl, rfl, rfl, by simp, fun j hj hne => set4_other wr g j (fun e => hne (by rw [e])) i _ _ _ _⟩ (fun j e => .inl (Option.some.inj e).symm), h.row.put i hi q4, ?_⟩
  exact ow.keep h.ow fun j e => set4_other wr g j (fun e2 => by have := df.own_ge h.ow j e; omega) i _ _ _ _
theorem own_pop {wr : World} {B : Nat} {q0 : List Int} {t : Int} {gy : Option Addr} {cy : Nat} (h : Owns wr B (.slice gy (q0 ++ [t]).length cy) (q0 ++ [t])) : Owns wr B (.slice gy q0.length cy) q0 := by
  rcases h.2 with ⟨h0, h1⟩ | ⟨gg, cap, cur, e, hb, hgg, hn, hc, hs, ht⟩
  · simp at h1
  · simp only [Value.slice.injEq] at e
    obtain ⟨rfl, _, rfl⟩ := e
    rw [List.length_append] at hn ht
    simp only [List.length_cons, List.length_nil] at hn ht
    refine ⟨by simp, .inr ⟨_, _, cur, rfl, hb, hgg, by omega, hc, hs, ?_⟩⟩
    have := congrArg (List.take (q0.length * 1)) ht
    rw [List.take_take] at this
    simpa [Nat.min_def] using this
theorem Sp.pop {q0 : List Int} {t : Int} {gy : Option Addr} {cy : Nat} (h : Sp W g R (.slice gy (q0 ++ [t]).length cy) (q0 ++ [t]) wr) : Sp W g R (.slice gy q0.length cy) q0 wr := ⟨h.gr, h.row, own_pop h.ow⟩
end
theorem miss_le (R : List Q4) : miss R ≤ 256 * R.length := by
  induction R with
  | nil => simp [miss]
  | cons q R ih => simp [miss] at ih ⊢; omega
def startTo (R : List Q4) (i : Nat) : List Int := ((List.range i).filter fun j => !decide (nth R j = none4)).map fun j : Nat => (j : Int)
theorem start_yes (R : List Q4) (i : Nat) (h : nth R i ≠ none4) : startTo R (i + 1) = startTo R i ++ [(i : Int)] := by
  unfold startTo
  rw [List.range_succ, List.filter_append]
  simp [h]
theorem start_no (R : List Q4) (i : Nat) (h : nth R i = none4) : startTo R (i + 1) = startTo R i := by
  unfold startTo
  rw [List.range_succ, List.filter_append]
  simp [h]
theorem start_len (R : List Q4) (i : Nat) : (startTo R i).length ≤ i := by
  unfold startTo
  rw [List.length_map]
  exact Nat.le_trans (List.length_filter_le _ _) (by simp)
theorem start_held {x : Nfa} {n : Nat} {F : Nat → List Int} {R : List Q4} (hl : R.length = n) (hf : ∀ q ∈ R, Fits q) : Held x n F R R (startTo R n) :=
  ⟨hl, hf, fun i c _ _ h => h, fun i c hi hc h => .base ⟨i, by omega, rfl, h⟩, fun i hi hn t ht c hc h => by
    have : nth R i = none4 := by
      by_cases e : nth R i = none4
      · exact e
      · exact absurd (by unfold startTo; rw [List.mem_map]; exact ⟨i, by rw [List.mem_filter]; exact ⟨List.mem_range.2 hi, by simp [e]⟩, rfl⟩) hn
    rw [this, st.has_none] at h
    exact absurd h (by simp), fun t ht => by
    unfold startTo at ht
    rw [List.mem_map] at ht
    obtain ⟨i, h1, rfl⟩ := ht
    rw [List.mem_filter, List.mem_range] at h1
    omega⟩
theorem eq4_zero {q : Q4} : eq4 q.a q.b q.c q.d 0 0 0 0 = decide (q = none4) := eq4_iff (q := q) (r := none4)
theorem join77 (q r : Q4) (hq : Fits q) (hr : Fits r) (w : World) : Calls Try.prog 83 #[V4 q, V4 r] w fun ev w' => ev = .returned (V4 (jn q r)) ∧ Below w.heap.size w w' := st.join_any q r (jn q r) hq hr rfl w

set_option maxHeartbeats 4000000 in
set_option maxRecDepth 100000 in
theorem spread_any (x : Nfa) (n : Nat) (R1 : Rt x n) (F : Nat → List Int) (hF : Tgt x n F) : SpreadIs x n F := by
  intro X W b g fb cap R0 hR hl hf hFr h5 hXb hXg hXl
  have hn2 := R1.n2
  have hgW := hR.lt
  have HR1 := (show Hid (Rt x n) from R1)
  have HF := (show Hid (Tgt x n F) from hF)
  have HFR := (show Hid (Fre X W fb cap n F) from hFr)
  have hfit := hFr.fit
  have htop := hFr.top
  have HX := (show Hid (∀ k, X k → k < W.heap.size ∧ k ≠ g) from fun k hk => ⟨hXl k hk, fun e => hXg (e ▸ hk)⟩)
  have HH0 := (show Hid (Held x n F R0 R0 (startTo R0 n)) from start_held hl hf)
  have HFT := (show Hid (∀ q ∈ R0, Fits q) from hf)
  have HB5 := (show Hid (∀ wr : World, W.grownBy wr (some g) → wr.cell? ⟨b, 5, none⟩ = some (.slice (some ⟨fb, 0, none⟩) n cap)) from fun wr hg => by
    have := hg.block b (hXl b hXb) (fun e => hXg (by cases e; exact hXb))
    simp only [World.cell?, this] at h5 ⊢
    exact h5)
  have e58 := eq58
  have s0 : Sp W g R0 (.slice none 0 0) (startTo R0 0) W := ⟨⟨rfl, rfl, rfl, Nat.le_refl _, fun _ _ _ => rfl⟩, hR, ⟨by simp [startTo], .inl ⟨rfl, rfl⟩⟩⟩
  clear R1 hF hFr hXl hXg hXb h5 hf
  go_enter Try.func84, Try.ntmps84
  go_wp2_with (fail)
  go_loopw [4, 14] (fun y z wr => ∃ (i : Nat) (gy : Option Addr) (cy : Nat), y = .slice gy (startTo R0 i).length cy ∧ z = .int .i64 i ∧ i ≤ n ∧ Sp W g R0 (.slice gy (startTo R0 i).length cy) (startTo R0 i) wr) (fun _ z _ => n - (intOf z).toNat)
  case atStart => exact ⟨0, none, 0, rfl, rfl, by omega, s0⟩
  case round =>
    obtain ⟨i, gy, cy, rfl, rfl, hi, hS⟩ := hrel
    clear s0
    by_cases hend : i < n
    · obtain ⟨c0, c1, c2, c3⟩ := hS.row.cells i (by omega)
      have hln := start_len R0 i
      have HS := (show Hid _ from hS)
      have S1 := hS.later (nf.below_alloc wr (.cells #[.int .u64 (nth R0 i).a, .int .u64 (nth R0 i).b, .int .u64 (nth R0 i).c, .int .u64 (nth R0 i).d] 25))
      have HS1 := (show Hid _ from S1)
      have hBs : W.heap.size ≤ (wr.alloc (.cells #[.int .u64 (nth R0 i).a, .int .u64 (nth R0 i).b, .int .u64 (nth R0 i).c, .int .u64 (nth R0 i).d] 25)).heap.size := S1.gr.size
      have HBs := (show Hid _ from hBs)
      clear S1 hBs hS
      by_cases hz : nth R0 i = none4
      · have z1 : eq4 (nth R0 i).a (nth R0 i).b (nth R0 i).c (nth R0 i).d 0 0 0 0 = true := by rw [eq4_zero]; simpa using hz
        have HN : Hid (startTo R0 (i + 1) = startTo R0 i) := start_no R0 i hz
        clear hz HB5 HH0 HFR HX
        generalize nth R0 i = u at *
        go_wp2_with (fail)
        go_roundw
        case rel => exact ⟨i + 1, gy, cy, by rw [HN.out], by go_num, by omega, by rw [HN.out]; exact HS1.out⟩
        case measure => simp [intOf]; omega
      · have z1 : eq4 (nth R0 i).a (nth R0 i).b (nth R0 i).c (nth R0 i).d 0 0 0 0 = false := by rw [eq4_zero]; simpa using hz
        have HN : Hid (startTo R0 (i + 1) = startTo R0 i ++ [(i : Int)]) := start_yes R0 i hz
        clear hz HB5 HH0 HFR HX
        generalize nth R0 i = u at *
        obtain ⟨w1, HW1⟩ : ∃ w1, Hid (w1 = wr.alloc (.cells #[.int .u64 u.a, .int .u64 u.b, .int .u64 u.c, .int .u64 u.d] 25)) := ⟨_, rfl⟩
        rw [← HW1.out] at HS1 HBs
        go_wp2_with (at_builtin; rw [← HW1.out]; refine nf.wpList_append_at (by rfl) (.tmp 22) (.tmp 24) (by rfl) W.heap.size (.slice gy (startTo R0 i).length cy) (startTo R0 i) (i : Int) w1.heap.size (by rfl) (by rw [HW1.out]; simp [Act.eval]) (owns_later HS1.out.ow (nf.below_alloc _ _)) (nf.tmp_cell _ _ _ rfl) (by omega) (by have := HBs.out; simp; omega) ?_; intro g' cap' w2 hown2 hgr2 hw2; have HS2 := (show Hid _ from Sp.app hgW (HS1.out.later (nf.below_alloc _ _)) hown2 hgr2); clear hown2 hgr2 hw2)
        go_roundw
        case rel => exact ⟨i + 1, some ⟨g', 0, none⟩, cap', by rw [HN.out]; simp, by go_num, by omega, by rw [HN.out]; simpa using HS2.out⟩
        case measure => simp [intOf]; omega
    · have he : i = n := by omega
      subst he
      clear hend hi HFT
      go_wp2_with (fail)
      go_loopg [4] (miss R0 + (startTo R0 i).length) (fun k y wr => ∃ (R : List Q4) (q : List Int) (gy : Option Addr) (cy : Nat), y = .slice gy q.length cy ∧ Hid (k = miss R + q.length) ∧ Hid (miss R + q.length ≤ 600000) ∧ Hid (Held x i F R0 R q) ∧ Sp W g R (.slice gy q.length cy) q wr)
      case atStart => exact ⟨R0, startTo R0 i, gy, cy, rfl, rfl, by have := miss_le R0; have := start_len R0 i; show _ ≤ _; omega, HH0, hS⟩
      case round =>
        obtain ⟨R, q, gy, cy, rfl, HK, H6, HH, hS⟩ := hrel
        clear HH0
        rcases List.eq_nil_or_concat q with rfl | ⟨q0, t, rfl⟩
        · have HA : Hid (∀ j c, j < i → c < 256 → (has (nth R j) c = true ↔ nf.Reach x (At R0 c) (j : Int))) := fun j c h1 h2 => Held.all HR1.out HF.out hl HH.out j c h1 h2
          have HS := (show Hid _ from hS)
          clear HK hS
          go_wp2_with (fail)
          go_end0
          exact ⟨⟨_, rfl⟩, R, HS.out.row, HH.out.len, HH.out.fits, HA.out, HS.out.gr⟩
        · rw [List.concat_eq_append] at *
          have ht := HH.out.rng t (by simp)
          obtain ⟨s, rfl⟩ : ∃ s : Nat, t = (s : Int) := ⟨t.toNat, by omega⟩
          have hs : s < i := by omega
          obtain ⟨b1, rfl, k2, k3⟩ := nf.own_cell hS.ow q0.length (by simp)
          rw [List.getElem_concat_length rfl] at k2
          obtain ⟨_, hc1, hc2⟩ := nf.own_cap hS.ow
          simp only [List.length_append, List.length_cons, List.length_nil, Nat.zero_add] at hc1
          obtain ⟨vv, cfW, fo, fc, rfl, hrowW⟩ := HFR.out.row s hs
          have HCF := (show Hid (∀ w2 : World, W.grownBy w2 (some g) → w2.cell? ⟨fb, s, none⟩ = some (.slice fo (F s).length fc)) from fun w2 hg => by
            have := hg.block fb (HX.out fb HFR.out.blk).1 (fun e => (HX.out fb HFR.out.blk).2 (Option.some.inj e))
            simp only [World.cell?, this] at cfW ⊢
            exact cfW)
          have HRW := (show Hid (∀ w2 : World, W.grownBy w2 (some g) → Row X w2 iv fo fc (F s)) from fun w2 hg => hrowW.carry (fun k hk => hg.block k (HX.out k hk).1 (fun e => (HX.out k hk).2 (Option.some.inj e))) (fun _ h => h))
          have rfit := hrowW.fit
          have rtop := hrowW.top
          have cf := HCF.out wr hS.gr
          have c5 := HB5.out wr hS.gr
          have HP := (show Hid _ from hS.pop)
          have HD := (show Hid (Hand x i F R0 R q0 s ((F s).take 0)) from HH.out.pop)
          have HM := (show Hid (miss R + q0.length < gk) from by have := HK.out; simp at this; show _ < _; omega)
          have H62 := (show Hid (miss R + q0.length ≤ 600000) from by have := H6.out; simp at this; show _ ≤ _; omega)
          clear cfW hrowW hS HH HK H6 HCF
          simp only [List.length_append, List.length_cons, List.length_nil, Nat.zero_add]
          go_wp2_with (fail)
          go_loopw [4, 48] (fun y z wr => ∃ (j : Nat) (R : List Q4) (q : List Int) (gy : Option Addr) (cy : Nat), y = .slice gy q.length cy ∧ z = .int .i64 j ∧ j ≤ (F s).length ∧ Hid (Hand x i F R0 R q s ((F s).take j)) ∧ Hid (miss R + q.length < gk) ∧ Hid (miss R + q.length ≤ 600000) ∧ Hid (Sp W g R (.slice gy q.length cy) q wr)) (fun _ z _ => (F s).length - (intOf z).toNat)
          case atStart => exact ⟨0, R, q0, some ⟨b1, 0, none⟩, cy, rfl, rfl, by omega, HD, HM, H62, HP.out⟩
          case round =>
            obtain ⟨j, R, q, gy, cy, rfl, rfl, hj, HD, HM, H6, HS⟩ := hrel
            clear HP H62 k2 k3 c5 cf
            by_cases hje : j < (F s).length
            · obtain ⟨b2, off, rfl, _, hcell⟩ := (HRW.out wr HS.out.gr).lie j hje
              have HTK : Hid ((F s).take (j + 1) = (F s).take j ++ [(F s)[j]]) := List.take_succ_eq_append_getElem hje
              have HMEM : Hid ((F s)[j] ∈ F s) := List.getElem_mem hje
              obtain ⟨t, ht⟩ : ∃ t : Nat, (F s)[j] = (t : Int) ∧ t < i := by
                obtain ⟨e, a1, a2, a3, a4⟩ := (HF.out s hs _).1 HMEM.out
                have := HR1.out.to e a1
                exact ⟨(F s)[j].toNat, by omega, by omega⟩
              obtain ⟨ht, hti⟩ := ht
              rw [ht] at HTK HMEM hcell
              have HRL := (show Hid (R.length = i) from HD.out.len)
              have hft := fits_nth HD.out.fits t (by rw [HRL.out]; exact hti)
              have hfs := fits_nth HD.out.fits s (by rw [HRL.out]; exact hs)
              clear ht
              go_wp2_with (fail)
              refine reg14 rfl ⟨g, i, t, s, R, jn (nth R t) (nth R s)⟩ rfl rfl rfl HS.out.row HRL.out hti hs (join77 _ _ hft hfs) ?_
              intro vals w3 p hx hp9 hpW hJ hB
              rw [fold78_14, hp9]
              have HS3 := (show Hid _ from HS.out.later hB)
              go_wp2_with (fail)
              refine reg15 rfl ⟨g, i, t, p, R, jn (nth R t) (nth R s)⟩ rfl rfl rfl HS3.out.row hJ HRL.out hti ?_
              intro vals2 hx2
              rw [fold78_15, hx2 5 (by decide) _ rfl]
              have HS4 := (show Hid _ from HS3.out.later (below_drew w3))
              have j0 := (hJ.later (below_drew w3)).c0
              have j1 := (hJ.later (below_drew w3)).c1
              have j2 := (hJ.later (below_drew w3)).c2
              have j3 := (hJ.later (below_drew w3)).c3
              obtain ⟨r0, r1, r2, r3⟩ := HS4.out.row.cells t (by rw [HRL.out]; exact hti)
              have z0 := HS4.out.row.fz (t * 4)
              have z1 := HS4.out.row.fz (t * 4 + 1)
              have z2 := HS4.out.row.fz (t * 4 + 2)
              have z3 := HS4.out.row.fz (t * 4 + 3)
              have hln : q.length ≤ 600000 := by have := H6.out; omega
              clear hx hx2 hp9 hJ hB HS3 HS
              generalize w3.drew = w4 at *
              by_cases he : jn (nth R t) (nth R s) = nth R t
              · have hb : (!decide (jn (nth R t) (nth R s) = nth R t)) = false := by simp [he]
                have HD2 := (show Hid (Hand x i F R0 R q s ((F s).take (j + 1))) from by rw [HTK.out]; exact HD.out.same hti hs he)
                simp only [hb]
                clear he hb HD j0 j1 j2 j3 r0 r1 r2 r3 z0 z1 z2 z3 HTK HMEM
                go_wp2_with (fail)
                go_roundw
                case rel => exact ⟨j + 1, R, q, gy, cy, rfl, by go_num, by omega, HD2, HM, H6, HS4.out⟩
                case measure => simp [intOf]; omega
              · have hb : (!decide (jn (nth R t) (nth R s) = nth R t)) = true := by simp [he]
                have HD2 := (show Hid (Hand x i F R0 (R.set t (jn (nth R t) (nth R s))) (q ++ [(t : Int)]) s ((F s).take (j + 1))) from by rw [HTK.out]; exact HD.out.more HR1.out HF.out hti hs HMEM.out he)
                have HMS := (show Hid (miss (R.set t (jn (nth R t) (nth R s))) < miss R) from miss_set R t (by rw [HRL.out]; exact hti) _ (by rw [← nth_get R t (by rw [HRL.out]; exact hti)]; exact cnt_more hft hfs he))
                simp only [hb]
                have HS5 := (show Hid _ from Sp.put hgW HS4.out t (by rw [HRL.out]; exact hti) (jn (nth R t) (nth R s)))
                have HM2 := (show Hid (miss (R.set t (jn (nth R t) (nth R s))) + (q ++ [(t : Int)]).length < gk) from by have := HM.out; have := HMS.out; simp; show _ < _; omega)
                have H62 := (show Hid (miss (R.set t (jn (nth R t) (nth R s))) + (q ++ [(t : Int)]).length ≤ 600000) from by have := H6.out; have := HMS.out; simp; show _ ≤ _; omega)
                clear he hb HD HTK HMEM HM H6 HMS hft hfs
                generalize jn (nth R t) (nth R s) = J at *
                obtain ⟨w5, HW5⟩ : ∃ w5, Hid (w5 = (((w4.setCell ⟨g, t * 4, none⟩ (.int .u64 J.a)).setCell ⟨g, t * 4 + 1, none⟩ (.int .u64 J.b)).setCell ⟨g, t * 4 + 2, none⟩ (.int .u64 J.c)).setCell ⟨g, t * 4 + 3, none⟩ (.int .u64 J.d)) := ⟨_, rfl⟩
                rw [← HW5.out] at HS5
                have HBS := (show Hid (W.heap.size ≤ w5.heap.size) from HS5.out.gr.size)
                go_wp2_with (at_builtin; rw [← HW5.out]; refine nf.wpList_append_at (by rfl) (.tmp 71) (.tmp 73) (by rfl) W.heap.size (.slice gy q.length cy) q (t : Int) w5.heap.size (by rfl) (by rw [HW5.out]; simp [Act.eval]) (owns_later HS5.out.ow (nf.below_alloc _ _)) (nf.tmp_cell _ _ _ rfl) (by omega) (by have := HBS.out; simp; omega) ?_; intro g' cap' w2 hown2 hgr2 hw2; have HS6 := (show Hid _ from Sp.app hgW (HS5.out.later (nf.below_alloc _ _)) hown2 hgr2); clear hown2 hgr2 hw2)
                go_roundw
                case rel => exact ⟨j + 1, R.set t J, q ++ [(t : Int)], some ⟨g', 0, none⟩, cap', by simp, by go_num, by omega, HD2, HM2, H62, by show Sp _ _ _ _ _ _; simpa using HS6.out⟩
                case measure => simp [intOf]; omega
            · have HD2 := (show Hid (Held x i F R0 R q) from by
                have := HD.out
                rw [List.take_of_length_le (by omega)] at this
                exact this.done)
              clear HD HRW
              go_wp2_with (fail)
              go_roundg (miss R + q.length)
              case rel => exact ⟨R, q, gy, cy, rfl, rfl, H6, HD2, HS.out⟩
              case measure => exact HM.out
end Go.Proofs.Ytfilndgbgdnpiaa.bd
