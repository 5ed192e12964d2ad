/-
  Contracts over this program: trans.Bytes.
-/
import Derived.Test.YtafcekognhkmgaaTq
namespace Go.Proofs.Ytafcekognhkmgaa.tr
open Go.ChangeShapes Go.WideShapes Go.ChangeAt Go.RowKit Go.Shelf
set_option linter.unusedVariables false

theorem load_if {P : Program} {ops : Array Oper} {rest : List Oper} {o : Oper} {a : Act} {w : World} {Q : Exit → Act → World → Prop} (hw : Region.wanted o (yielded ops a.tmps) = true) (ty : TypeId) (x : Operand) (ho : o.op = .load ty x)
    (g : Nat) (hx : a.eval x = .pointer (some ⟨g, 0, none⟩)) (t : TypeId) (cs : Array Value) (fr : Nat × Nat) (d : TypeDesc) (hg : w.heap[g]? = some (.cells cs t fr))
    (hu : P.underlying ty = some d) (hd : (match d with | .struct _ | .array _ _ => true | _ => false) = true) (hi : (P.info? ty).map (·.size) = some cs.size)
    (h : wpList P ops Q rest (a.put o.dst (.agg cs)) w) : wpList P ops Q (o :: rest) a w :=
  wpList_step fun K hK => by rw [if_pos hw]; exact wp_load_row ty x ho g hx t cs fr d hg hu hd hi (hK _ _ h)
def BytOut (m : Mc) (w : World) (e : Ending) (w' : World) : Prop := ∃ xs ok, e = .returned (.tuple #[.agg (cells48 xs), .bool ok]) ∧ xs.length = 256 ∧ (ok = true → right m = true ∧ One m ∧ xs = fb m 0) ∧ (ok = false → ¬ (right m = true ∧ One m)) ∧ Below w.heap.size w w'
/-- what stands while Bytes goes on -/
structure Bq (w : World) (m : Mc) (p : Mp) (g2 : Nat) (xs : List Nat) (v : Value) (L : List Nat) (W : World) : Prop where
  be : Below w.heap.size w W
  bx : Box W w.heap.size m p
  res : Arr W (w.heap.size + 1) noughts
  to : Arr W g2 xs
  own : W.ownsRow (g2 + 1) 3 1 v L.length (icl L)
  gl : w.heap.size + 1 < g2
section
variable {w : World} {m : Mc} {p : Mp} {g2 : Nat} {xs : List Nat} {v : Value} {L : List Nat} {W : World}
theorem Bq.later {W' : World} (h : Bq w m p g2 xs v L W) (b : Below W.heap.size W W') : Bq w m p g2 xs v L W' :=
  ⟨chain h.be b, h.bx.later b, h.res.later b h.res.lt, h.to.later b h.to.lt, ow.later h.own b, h.gl⟩
theorem Bq.row (h : Bq w m p g2 xs v L W) {ys : List Nat} (hy : ys.length = 256) : Bq w m p g2 ys v L (W.setRow g2 (cells48 ys)) := by
  have hg := h.gl
  refine ⟨below_setRow h.be (by omega) _, ?_, h.res.row_other (by omega) _, h.to.row hy, ow.keep h.own (fun g eg => setRow_other _ _ _ _ (by have := (ow.lt h.own eg).1; omega)), h.gl⟩
  unfold Box
  rw [setRow_other _ _ _ _ (by omega)]
  exact h.bx
theorem Bq.cell (h : Bq w m p g2 xs v L W) {i : Nat} (hi : i < L.length) : ∃ g cap, v = .slice (some ⟨g, 0, none⟩) L.length cap ∧ W.cell? ⟨g, i, none⟩ = some (.int .i64 (L[i] : Nat)) := by
  obtain ⟨g, cap, e, _, hc⟩ := ow.cell h.own i (by rw [icl_len]; exact hi)
  exact ⟨g, cap, e, by rw [hc]; simp [icl]⟩
end
theorem fb_len (m : Mc) (s : Nat) : (fb m s).length = 256 := tb_len _ _
set_option maxHeartbeats 4000000 in
set_option maxRecDepth 100000 in
theorem bytes_any (m : Mc) (p : Mp) (w : World) (hM : MAt (In w) w m p) : Calls Try.prog 22 #[.agg (mv m p)] w (BytOut m w) := by
  have hz := zero48
  have hcs := cells48_size noughts noughts_len
  obtain ⟨wA, HWA⟩ : ∃ wA, Hid (wA = (w.alloc (.cells (mv m p) 26)).alloc (.cells (cells48 noughts) 48)) := ⟨_, rfl⟩
  have B0 : Below w.heap.size w wA := by rw [HWA.out]; exact chain (below_alloc w _) (below_alloc _ _)
  have hMA : MAt (In wA) wA m p := hM.later B0
  have hXA : Box wA w.heap.size m p := by rw [HWA.out]; exact (box_new w m p).later (below_alloc _ _)
  have hrA : Arr wA (w.heap.size + 1) noughts := by
    rw [HWA.out]
    have := heap_alloc_new (w.alloc (.cells (mv m p) 26)) (.cells (cells48 noughts) 48)
    rw [World.size_alloc] at this
    exact ⟨this, noughts_len⟩
  have HK : Hid (∀ W, Below wA.heap.size wA W → Box W w.heap.size m p ∧ MAt (In W) W m p ∧ Arr W (w.heap.size + 1) noughts ∧ Below w.heap.size w W) := fun W b => ⟨hXA.later b, hMA.later b, hrA.later b hrA.lt, chain B0 b⟩
  have c9 := right_any m _ rfl p wA hMA
  have X0 := hXA
  unfold Box at X0
  rw [HWA.out] at c9 X0
  have hlA : w.heap.size + 1 < wA.heap.size := hrA.lt
  have HML : Hid (∀ W, Below w.heap.size w W → MAt (In W) W m p) := fun W b => hM.later b
  clear hM hMA hXA hrA B0
  cases hr : right m with
  | false =>
    rw [hr] at c9
    have HNR : Hid (right m = false) := hr
    clear hr
    go_enter Try.func22, Try.ntmps22
    go_wp2_with (first | (refine wpList_load_row rfl 26 (.tmp 1) rfl w.heap.size rfl 26 (mv m p) (0, 0) _ X0 Try.underlying26 rfl info26 ?_) | (go_at_call 9; refine c9.mono ?_; rintro e w1 ⟨rfl, b1⟩; rw [← HWA.out] at b1; obtain ⟨X1, M1, R1, L1⟩ := HK.out w1 b1) | (refine wpList_store_row rfl 48 (.tmp 2) (.tmp 12) rfl (w.heap.size + 1) (cells48 noughts) rfl rfl 48 _ R1.1 (info48 _ noughts_len) (by rfl) (cells48_one _) ?_))
    refine ret48 Try.results22 (w.heap.size + 1) noughts false rfl (R1.row noughts_len) rfl rfl ?_
    exact ⟨noughts, false, rfl, noughts_len, (fun h => by cases h), (fun _ h => by rw [HNR.out] at h; cases h.1), below_setRow L1 (by omega) _⟩
  | true =>
    rw [hr] at c9
    have hR := right_iff.1 hr
    have HRR : Hid (right m = true) := hr
    have hq := reached_any m hR p
    clear hr
    go_enter Try.func22, Try.ntmps22
    go_wp2_with (first | (refine wpList_load_row rfl 26 (.tmp 1) rfl w.heap.size rfl 26 (mv m p) (0, 0) _ X0 Try.underlying26 rfl info26 ?_) | (go_at_call 9; refine c9.mono ?_; rintro e w1 ⟨rfl, b1⟩; rw [← HWA.out] at b1; have ba := chain b1 (below_alloc w1 (.cells (cells48 noughts) 48)); obtain ⟨X1, M1, R1, L1⟩ := HK.out _ ba; have c47 := hq _ M1; unfold Box at X1) | (refine wpList_load_row rfl 26 (.tmp 1) rfl w.heap.size rfl 26 (mv m p) (0, 0) _ X1 Try.underlying26 rfl info26 ?_))
    go_at_call 47
    refine c47.mono ?_
    rintro e w2 ⟨v, L, rfl, hown, hiff, hhd, hlen, b2⟩
    have hw1 : wA.heap.size ≤ w1.heap.size := b1.size
    have HB0 : Hid (Bq w m p w1.heap.size noughts v L w2) := by
      obtain ⟨X2, M2, R2, L2⟩ := HK.out _ (chain ba b2)
      refine ⟨L2, X2, R2, ?_, ?_, by omega⟩
      · have h := heap_alloc_new w1 (.cells (cells48 noughts) 48)
        exact ⟨by rw [b2.block _ (by rw [World.size_alloc]; omega)]; exact h, noughts_len⟩
      · rw [World.size_alloc] at hown
        exact ⟨hown.1, by
          rcases hown.2 with h0 | ⟨g, cap, cur, h1, h2, h3⟩
          · exact .inl h0
          · exact .inr ⟨g, cap, cur, h1, by omega, h3⟩⟩
    have HIF : Hid (∀ s, Rch m s ↔ s ∈ L) := hiff
    have HHD : Hid (L[0]? = some 0) := hhd
    have hl0 : 0 < L.length := (List.getElem?_eq_some_iff.1 hhd).1
    obtain ⟨vg, vc, hv, vb1, vb2⟩ := ow.form HB0.out.own
    subst hv
    have hsg := fun s hs => singles_any m hR s hs
    clear hown hiff hhd b2 c47 X1 M1 R1 L1 ba
    obtain ⟨g2, hg2⟩ : ∃ g2, g2 = w1.heap.size := ⟨_, rfl⟩
    go_wp2_with (fail)
    rw [← hg2]
    rw [← hg2] at HB0
    clear hg2
    go_loopw [16] (fun x wr => ∃ (i : Nat) (ys : List Nat), x = .int .i64 i ∧ i ≤ L.length ∧ Hid (Bq w m p g2 ys (.slice vg L.length vc) L wr) ∧ Hid (0 < i → ys = fb m 0) ∧ Hid (∀ j s, j < i → L[j]? = some s → Sg m s ∧ fb m s = fb m 0)) (fun x _ => L.length - (intOf x).toNat)
    case atStart => exact ⟨0, noughts, rfl, by omega, HB0, fun h => by omega, fun j s hj => by omega⟩
    case round =>
      obtain ⟨i, ys, rfl, hi, HB, HY, HD⟩ := hrel
      clear HB0
      by_cases hend : i < L.length
      · obtain ⟨g, cap, he, hc⟩ := HB.out.cell hend
        simp only [Value.slice.injEq, true_and] at he
        obtain ⟨rfl, rfl⟩ := he
        have hsm : L[i] ∈ L := List.getElem_mem hend
        have HSR : Hid (Rch m L[i]) := (HIF.out _).2 hsm
        have hsl := HSR.out.lt hR
        have HLI : Hid (L[i]? = some L[i]) := List.getElem?_eq_getElem hend
        have c48 := hsg L[i] hsl p wr (HML.out wr HB.out.be)
        have X3 := HB.out.bx
        unfold Box at X3
        generalize hs0 : L[i] = s at *
        have HI0 : Hid (i = 0 → s = 0) := fun h => by
          subst h
          have h1 := HLI.out
          rw [HHD.out] at h1
          exact (Option.some.inj h1).symm
        clear hs0 hsm
        go_wp2_with (first | (refine wpList_load_row rfl 26 (.tmp 1) rfl w.heap.size rfl 26 (mv m p) (0, 0) _ X3 Try.underlying26 rfl info26 ?_))
        go_at_call 48
        refine c48.mono ?_
        rintro e w3 ⟨xs, ok, rfl, hxl, hok1, hok0, b3⟩
        have hst := store_new w3 noughts xs noughts_len hxl
        have hcx := cells48_size xs hxl
        have ba := chain b3 (below_alloc w3 (.cells (cells48 xs) 48))
        have HB4 : Hid _ := HB.out.later ba
        have hA7 : Arr (w3.alloc (.cells (cells48 xs) 48)) w3.heap.size xs := ⟨heap_alloc_new w3 _, hxl⟩
        have R4 := HB4.out.res
        have T4 := HB4.out.to
        clear c48 X3 hc ba
        cases ok with
        | false =>
          have HNS : Hid (¬ Sg m s) := hok0 rfl
          clear hok1 hok0
          go_wp2_with (refine wpList_store_row rfl 48 (.tmp 2) (.tmp 38) rfl (w.heap.size + 1) (cells48 noughts) rfl rfl 48 _ R4.1 (info48 _ noughts_len) (by rfl) (cells48_one _) ?_)
          refine ret48 Try.results22 (w.heap.size + 1) noughts false rfl (R4.row noughts_len) rfl rfl ?_
          exact ⟨noughts, false, rfl, noughts_len, (fun h => by cases h), (fun _ h => HNS.out (h.2 s HSR.out).1), below_setRow HB4.out.be (by omega) _⟩
        | true =>
          obtain ⟨hsgs, rfl⟩ := hok1 rfl
          have HSG : Hid (Sg m s) := hsgs
          clear hok0 hok1 hsgs
          by_cases hi0 : i = 0
          · obtain rfl := HI0.out hi0
            subst hi0
            have HB5 : Hid _ := HB4.out.row hxl
            have HD5 : Hid (∀ j s, j < 0 + 1 → L[j]? = some s → Sg m s ∧ fb m s = fb m 0) := fun j s hj hs => by
              obtain rfl : j = 0 := by omega
              rw [HLI.out] at hs
              cases hs
              exact ⟨HSG.out, rfl⟩
            clear HY
            go_wp2_with (first | (refine wpList_load_row rfl 48 (.tmp 7) rfl w3.heap.size rfl 48 (cells48 (fb m 0)) (0, 0) _ hA7.1 Try.underlying48 rfl (info48 _ hxl) ?_) | (refine wpList_store_row rfl 48 (.tmp 4) (.tmp 39) rfl g2 (cells48 (fb m 0)) rfl rfl 48 _ T4.1 (info48 _ hxl) (by rw [cells48_size _ T4.2, cells48_size _ hxl]) (cells48_one _) ?_))
            go_roundw
            case rel => exact ⟨0 + 1, fb m 0, by go_num, by omega, HB5, (fun _ => rfl), HD5⟩
            case measure => simp [intOf]; omega
          · obtain rfl := HY.out (by omega)
            have fi : (0 : Int) < (i : Int) := by omega
            have fi2 : 0 < i := by omega
            have heq := eq48 (fb m s) (fb m 0) hxl T4.2
            clear hi0 HI0 HY
            by_cases hxy : fb m s = fb m 0
            · rw [decide_eq_true hxy] at heq
              have HXY : Hid (fb m s = fb m 0) := hxy
              have HB5 : Hid _ := HB4.out.row hxl
              have HD5 : Hid (∀ j s, j < i + 1 → L[j]? = some s → Sg m s ∧ fb m s = fb m 0) := fun j s' hj hs => by
                by_cases e : j = i
                · subst e
                  rw [HLI.out] at hs
                  cases hs
                  exact ⟨HSG.out, HXY.out⟩
                · exact HD.out j s' (by omega) hs
              clear hxy HD
              generalize hzs : fb m s = zs at *
              have HZS : Hid (zs = fb m 0) := HXY
              clear hzs
              obtain ⟨z0, HZ0⟩ : ∃ z0, Hid (z0 = fb m 0) := ⟨_, rfl⟩
              rw [← HZ0.out] at T4 heq HZS HD5
              go_wp2_with (first | (refine load_if (by kernel_rfl) 48 (.tmp 7) rfl w3.heap.size rfl 48 (cells48 zs) (0, 0) _ hA7.1 Try.underlying48 rfl (info48 _ hxl) ?_) | (refine load_if (by kernel_rfl) 48 (.tmp 4) rfl g2 rfl 48 (cells48 z0) (0, 0) _ T4.1 Try.underlying48 rfl (info48 _ T4.2) ?_) | (refine wpList_load_row rfl 48 (.tmp 7) rfl w3.heap.size rfl 48 (cells48 zs) (0, 0) _ hA7.1 Try.underlying48 rfl (info48 _ hxl) ?_) | (refine wpList_store_row rfl 48 (.tmp 4) (.tmp 39) rfl g2 (cells48 zs) rfl rfl 48 _ T4.1 (info48 _ hxl) (by rw [cells48_size _ T4.2, cells48_size _ hxl]) (cells48_one _) ?_))
              go_roundw
              case rel => exact ⟨i + 1, zs, by go_num, by omega, HB5, (fun _ => HZS.out.trans HZ0.out), by rw [← HZ0.out]; exact HD5⟩
              case measure => simp [intOf]; omega
            · rw [decide_eq_false hxy] at heq
              have HNO : Hid (¬ One m) := fun h => hxy (h s HSR.out).2
              clear hxy
              generalize fb m s = zs at *
              generalize fb m 0 = z0 at *
              go_wp2_with (first | (refine load_if (by kernel_rfl) 48 (.tmp 7) rfl w3.heap.size rfl 48 (cells48 zs) (0, 0) _ hA7.1 Try.underlying48 rfl (info48 _ hxl) ?_) | (refine load_if (by kernel_rfl) 48 (.tmp 4) rfl g2 rfl 48 (cells48 z0) (0, 0) _ T4.1 Try.underlying48 rfl (info48 _ T4.2) ?_) | (refine wpList_store_row rfl 48 (.tmp 2) (.tmp 38) rfl (w.heap.size + 1) (cells48 noughts) rfl rfl 48 _ R4.1 (info48 _ noughts_len) (by rfl) (cells48_one _) ?_))
              refine ret48 Try.results22 (w.heap.size + 1) noughts false rfl (R4.row noughts_len) rfl rfl ?_
              exact ⟨noughts, false, rfl, noughts_len, (fun h => by cases h), (fun _ h => HNO.out h.2), below_setRow HB4.out.be (by omega) _⟩
      · have HON : Hid (One m) := fun s hs => by
          obtain ⟨j, hj⟩ := List.mem_iff_getElem?.1 ((HIF.out s).1 hs)
          exact HD.out j s (by have := (List.getElem?_eq_some_iff.1 hj).1; omega) hj
        obtain rfl := HY.out (by omega)
        have T4 := HB.out.to
        have R4 := HB.out.res
        have hz1 : decide (i < L.length) = false := decide_eq_false hend
        clear HD HY
        go_wp2_with (first | (refine wpList_load_row rfl 48 (.tmp 4) rfl g2 rfl 48 (cells48 (fb m 0)) (0, 0) _ T4.1 Try.underlying48 rfl (info48 _ T4.2) ?_) | (refine wpList_store_row rfl 48 (.tmp 2) (.tmp 41) rfl (w.heap.size + 1) (cells48 (fb m 0)) rfl rfl 48 _ R4.1 (info48 _ T4.2) (by rw [cells48_size _ R4.2, cells48_size _ T4.2]) (cells48_one _) ?_))
        refine ret48 Try.results22 (w.heap.size + 1) (fb m 0) true rfl (R4.row T4.2) rfl rfl ?_
        exact ⟨fb m 0, true, rfl, T4.2, (fun _ => ⟨HRR.out, HON.out, rfl⟩), (fun h => by cases h), below_setRow HB.out.be (by omega) _⟩
end Go.Proofs.Ytafcekognhkmgaa.tr
