/-
  Contracts over this program: the first set is numbered (builder.begin), the walk.
-/
import Derived.Test.YtfilndgbgdnpiaaM28
import Derived.Test.YtfilndgbgdnpiaaM10
import Derived.Test.YtfilndgbgdnpiaaM29
namespace Go.Proofs.Ytfilndgbgdnpiaa.bd
open Go.Sort Go.ChangeShapes Go.WideShapes Go.ChangeAt Go.RowKit Go.Maps
open df (Kp Row iv In IntsV Owns)
open nf (Nfa Ed Rt IRow icells Eds nfaV)
open st (Q4 none4 Fits has nth jn sig Blk)
set_option linter.unusedVariables false
set_option maxRecDepth 10000

theorem rng_fits : Fits (st.rng 0 255) := st.fits_such _
theorem range56 (w : World) : Calls Try.prog 62 #[.int .u8 0, .int .u8 255] w fun ev w' => ev = .returned (V4 (st.rng 0 255)) ∧ Below w.heap.size w w' := st.range_any 0 255 (by omega) (by omega) _ rfl w
theorem begin_nums {x : Nfa} {n : Nat} (R1 : Rt x n) {σ : List Bool} (h : IsSet n (Begin x) σ) : Nums x n [σ] ∧ σ ≠ off n := by
  have hs := R1.s
  have hne : σ ≠ off n := fun e => (off_iff h).1 e x.s.toNat (by omega) (by rw [show ((x.s.toNat : Nat) : Int) = x.s by omega]; exact .base rfl)
  refine ⟨⟨fun τ ht => by rw [List.mem_singleton.1 ht]; exact h.len, by simp, fun τ ht => by rw [List.mem_singleton.1 ht]; exact hne, ⟨σ, rfl, h⟩, fun k τ hk => by simp at hk⟩, hne⟩
theorem cells4_u64 (l : List Q4) : ∀ v ∈ st.cells4 l, ∃ z : Int, v = .int .u64 z := by
  induction l with
  | nil => intro v hv; simp [st.cells4] at hv
  | cons q l ih =>
    intro v hv
    simp only [st.cells4, List.mem_cons] at hv
    rcases hv with rfl | rfl | rfl | rfl | hv
    · exact ⟨_, rfl⟩
    · exact ⟨_, rfl⟩
    · exact ⟨_, rfl⟩
    · exact ⟨_, rfl⟩
    · exact ih v hv
theorem SRow.not_int {w : World} {g : Nat} {R : List Q4} (h : SRow w g R) (i : Nat) (t : Int) : w.cell? ⟨g, i, none⟩ ≠ some (.int .i64 t) := fun e => by
  rw [Lib.cell_of_heap h] at e
  simp only [scells, List.getElem?_toArray] at e
  obtain ⟨z, hz⟩ := cells4_u64 R _ (List.mem_of_getElem? e)
  cases hz
theorem grown_set4 {W wr : World} {g : Nat} (h : W.grownBy wr (some g)) (i : Nat) (a b c d : Value) : W.grownBy ((((wr.setCell ⟨g, i * 4, none⟩ a).setCell ⟨g, i * 4 + 1, none⟩ b).setCell ⟨g, i * 4 + 2, none⟩ c).setCell ⟨g, i * 4 + 3, none⟩ d) (some g) :=
  gr_trans h ⟨rfl, rfl, rfl, by simp, fun j hj hne => set4_other wr g j (fun e => hne (by rw [e])) i _ _ _ _⟩ (fun j e => .inl (Option.some.inj e).symm)
def BegIs (X Y : Nat → Prop) (W : World) (x : Nfa) (n e B b mb : Nat) (h : Hd) (nn : List Value) : Prop := Calls Try.prog 39 #[.pointer (some ⟨b, 0, none⟩)] W fun ev W' => ∃ σ X' Y' vs vn va ss m D, (∃ v, ev = .returned v) ∧ Nums x n [σ] ∧ (∀ k, X k → X' k) ∧ (∀ k, Y k → Y' k) ∧ Bst X' Y' W' B b mb h n e [σ] nn vs vn va ss m D ∧ Mv X B W W'
structure Bg (W : World) (V : Q4) (p : Nat) (R : List Q4) (wr : World) : Prop where
  be : Below W.heap.size W wr
  sr : SRow wr W.heap.size R
  bl : Blk wr p V
set_option maxHeartbeats 4000000 in
set_option maxRecDepth 100000 in
theorem begin_any {X Y : Nat → Prop} {W : World} {x : Nfa} {n e : Nat} (R1 : Rt x n) (hr : nf.right x = true) {B b mb : Nat} {h : Hd} {nn : List Value} {vs vn va : Value} {ss : List Value} {m : Nat} {D : DataW Unit} (k : Bst X Y W B b mb h n e [] nn vs vn va ss m D) (hE : Eds W h.eo h.ec x.edges) (h1 : h.n = x.n) (h2 : h.s = x.s) (h3 : h.e = x.e) (h4 : h.em = x.edges.length) : BegIs X Y W x n e B b mb h nn := by
  have hn1 := R1.n1
  have hn2 := R1.n2
  obtain ⟨FL, hFL, hFl⟩ := nf.free_ex x n R1 [x.s]
  have HF12 := (show Hid (∀ w lo lcap, Below W.heap.size W w → Row (In w) w iv lo lcap [x.s] → Calls Try.prog 63 #[nfaV x.n x.s x.e h.eo x.edges.length h.ec, .slice lo 1 lcap] w fun ev w' => ∃ v, ev = .returned v ∧ IntsV w' v FL ∧ Below w.heap.size w w') from fun w lo lcap hb hrw => nf.free_yes x n R1 [x.s] hr FL hFL h.eo h.ec lo lcap w (hE.later hb) hrw)
  have HSET := (show Hid (IsSet n (Begin x) (sig (setAll (List.replicate n none4) (st.rng 0 255) FL) 0)) from begin_set R1 hFL)
  have HRG := (show Hid (∀ t ∈ FL, 0 ≤ t ∧ t < (n : Int)) from fun t ht => reach_in R1 (fun u hu => by have := R1.hx; omega) t ((hFL.mem t).1 ht))
  have HRS := (show Hid (∀ i : Nat, (setAll (List.replicate n none4) (st.rng 0 255) (FL.take i)).length = n ∧ ∀ r ∈ setAll (List.replicate n none4) (st.rng 0 255) (FL.take i), Fits r) from fun i => by
    obtain ⟨a, b, _⟩ := setAll_rs (n := n) (q := st.rng 0 255) rng_fits (FL.take i) (List.replicate n none4) (by simp) (fun r hr => by rw [List.eq_of_mem_replicate hr]; exact st.fits_none) (fun t ht => HRG.out t (List.mem_of_mem_take ht))
    exact ⟨a, b⟩)
  have HC := (show Hid (∀ w, Below W.heap.size W w → w.cell? ⟨b, 0, none⟩ = some (.int .i64 x.n) ∧ w.cell? ⟨b, 1, none⟩ = some (.int .i64 x.s) ∧ w.cell? ⟨b, 2, none⟩ = some (.int .i64 x.e) ∧ w.cell? ⟨b, 3, none⟩ = some (.slice h.eo x.edges.length h.ec)) from fun w hb => by
    have k1 := (k.more (Z := X) hb (fun _ h => h) (fun _ h => .inl h)).bu.box
    exact ⟨by rw [k1.c0, h1], by rw [k1.c1, h2], by rw [k1.c2, h3], by rw [k1.c3, h4]⟩)
  have HK := (show Hid (Bst X Y W B b mb h n e [] nn vs vn va ss m D) from k)
  have HR1 := (show Hid (Rt x n) from R1)
  have now := now_any n (by omega) b W (by rw [k.bu.box.c0, k.hn])
  have h56 := range56
  have r0 := srow_new W (List.replicate n none4)
  have B0 := nf.below_alloc W (.cells (scells (List.replicate n none4)) 25)
  have hFl2 : FL.length ≤ 2000 := by omega
  clear k hE h1 h2 h3 h4 R1 hr hFL hFl
  generalize st.rng 0 255 = V at *
  go_enter Try.func39, Try.ntmps39
  go_wp2_with (first | (go_at_call 60; refine now.mono ?_; rintro ev w1 ⟨rfl, hw1⟩; rw [← hw1] at r0 B0; clear hw1) | (go_at_call 62; refine (h56 _).mono ?_; rintro ev w2 ⟨rfl, b2⟩; have r2 := r0.later b2; have B2 := st.chain B0 b2))
  obtain ⟨w3, HW3⟩ : ∃ w3, Hid (w3 = w2.alloc (.cells #[.int .u64 V.a, .int .u64 V.b, .int .u64 V.c, .int .u64 V.d] 25)) := ⟨_, rfl⟩
  have HB3 := (show Hid (Below W.heap.size W w3 ∧ SRow w3 W.heap.size (List.replicate n none4) ∧ Blk w3 w2.heap.size V ∧ W.heap.size < w2.heap.size) from by rw [HW3.out]; exact ⟨B2.alloc B2.size _, r2.later (nf.below_alloc _ _), st.blk_new w2 V, r2.lt⟩)
  rw [← HW3.out]
  clear r0 B0 r2 B2 b2 HW3 now h56
  refine reg42 rfl ⟨b, x, h.eo, h.ec, FL⟩ rfl (fun w hb => HC.out w (st.chain HB3.out.1 hb)) (fun w lo lcap hb hrw => HF12.out w lo lcap (st.chain HB3.out.1 hb) hrw) ?_
  intro vals w4 v11 v12 hv hB
  obtain ⟨vo, vc, e10, hrow⟩ := hv
  rw [fold42_1, v11, v12, e10]
  have rfit := hrow.fit
  have rtop := hrow.top
  have HROW := (show Hid (∀ wr : World, w4.grownBy wr (some W.heap.size) → ∀ i (hi : i < FL.length), ∃ b off, vo = some ⟨b, off, none⟩ ∧ wr.cell? ⟨b, off + i, none⟩ = some (.int .i64 FL[i])) from fun wr hg i hi => by
    obtain ⟨b', off, e1, e2, e3⟩ := hrow.lie i hi
    have hne : b' ≠ W.heap.size := fun e => (HB3.out.2.1.later hB).not_int (off + i) FL[i] (by rw [← e]; exact e3)
    refine ⟨b', off, e1, ?_⟩
    have := hg.block b' e2 (fun e => hne (Option.some.inj e))
    simp only [World.cell?, this] at e3 ⊢
    exact e3)
  have HST := (show Hid (w4.grownBy w4 (some W.heap.size) ∧ Bg W V w2.heap.size (setAll (List.replicate n none4) V (FL.take 0)) w4) from ⟨⟨rfl, rfl, rfl, Nat.le_refl _, fun _ _ _ => rfl⟩, st.chain HB3.out.1 hB, HB3.out.2.1.later hB, HB3.out.2.2.1.later hB⟩)
  have hlt2 := HB3.out.2.2.2
  clear v11 v12 e10 hrow hB HB3 HF12
  go_wp2_with (fail)
  go_loopw [21] (fun z wr => ∃ i : Nat, z = .int .i64 i ∧ i ≤ FL.length ∧ Hid (w4.grownBy wr (some W.heap.size) ∧ Bg W V w2.heap.size (setAll (List.replicate n none4) V (FL.take i)) wr)) (fun z _ => FL.length - (intOf z).toNat)
  case atStart => exact ⟨0, rfl, by omega, HST⟩
  case round =>
    obtain ⟨i, rfl, hi, HI⟩ := hrel
    clear HST
    by_cases hend : i < FL.length
    · obtain ⟨b3, off3, rfl, rcell⟩ := HROW.out wr HI.out.1 i hend
      obtain ⟨t, ht, htn⟩ : ∃ t : Nat, FL[i] = (t : Int) ∧ t < n := by
        have := HRG.out FL[i] (List.getElem_mem hend)
        exact ⟨FL[i].toNat, by omega, by omega⟩
      have HTK := (show Hid (setAll (List.replicate n none4) V (FL.take (i + 1)) = (setAll (List.replicate n none4) V (FL.take i)).set t V) from by show _ = _; rw [List.take_succ_eq_append_getElem hend, setAll_snoc, ht]; rfl)
      rw [ht] at rcell
      have hRl := (HRS.out i).1
      obtain ⟨c0, c1, c2, c3⟩ := HI.out.2.sr.cells t (by omega)
      have z0 := HI.out.2.sr.fz (t * 4)
      have z1 := HI.out.2.sr.fz (t * 4 + 1)
      have z2 := HI.out.2.sr.fz (t * 4 + 2)
      have z3 := HI.out.2.sr.fz (t * 4 + 3)
      have y0 := HI.out.2.bl.c0
      have y1 := HI.out.2.bl.c1
      have y2 := HI.out.2.bl.c2
      have y3 := HI.out.2.bl.c3
      have HN := (show Hid (w4.grownBy ((((wr.setCell ⟨W.heap.size, t * 4, none⟩ (.int .u64 V.a)).setCell ⟨W.heap.size, t * 4 + 1, none⟩ (.int .u64 V.b)).setCell ⟨W.heap.size, t * 4 + 2, none⟩ (.int .u64 V.c)).setCell ⟨W.heap.size, t * 4 + 3, none⟩ (.int .u64 V.d)) (some W.heap.size) ∧ Bg W V w2.heap.size ((setAll (List.replicate n none4) V (FL.take i)).set t V) ((((wr.setCell ⟨W.heap.size, t * 4, none⟩ (.int .u64 V.a)).setCell ⟨W.heap.size, t * 4 + 1, none⟩ (.int .u64 V.b)).setCell ⟨W.heap.size, t * 4 + 2, none⟩ (.int .u64 V.c)).setCell ⟨W.heap.size, t * 4 + 3, none⟩ (.int .u64 V.d))) from ⟨grown_set4 HI.out.1 t _ _ _ _, below_set4 HI.out.2.be (Nat.le_refl _) t _ _ _ _, HI.out.2.sr.put t (by omega) V, (set4_other wr W.heap.size w2.heap.size (by omega) t _ _ _ _).trans HI.out.2.bl⟩)
      generalize nth (setAll (List.replicate n none4) V (FL.take i)) t = u at *
      clear ht hRl
      go_wp2_with (fail)
      go_roundw
      case rel => exact ⟨i + 1, by go_num, by omega, by rw [HTK.out]; exact HN⟩
      case measure => simp [intOf]; omega
    · have he : i = FL.length := by omega
      have HI2 := (show Hid (Bg W V w2.heap.size (setAll (List.replicate n none4) V FL) wr) from by have := HI.out.2; rw [List.take_of_length_le (by omega)] at this; exact this)
      have HR2 := (show Hid ((setAll (List.replicate n none4) V FL).length = n ∧ ∀ r ∈ setAll (List.replicate n none4) V FL, Fits r) from by have := HRS.out FL.length; rw [List.take_of_length_le (Nat.le_refl _)] at this; exact this)
      clear HI HRS HROW HRG
      generalize setAll (List.replicate n none4) V FL = R at *
      have HKW := (show Hid _ from HK.out.more (Z := X) HI2.out.be (fun _ h => h) (fun _ h => .inl h))
      have h53 := text_sig R HR2.out.2 (by rw [HR2.out.1]; omega) (by rw [HR2.out.1]; omega) 0 (by omega) b (.slice (some ⟨W.heap.size, 0, none⟩) n n) wr HKW.out.bu.box.lt (by rw [HKW.out.bu.box.c0, HKW.out.hn, HR2.out.1]) (by have := HI2.out.sr.sets (by rw [HR2.out.1]; omega); rw [HR2.out.1] at this; exact this)
      have HNUM := (show Hid (∀ w3 : World, Below wr.heap.size wr w3 → NewIs X Y w3 B b mb h n e [] nn (sig R 0) 0) from fun w3 b3 => number_new (HKW.out.more (Z := X) b3 (fun _ h => h) (fun _ h => .inl h)) (sig R 0) HSET.out.len (begin_nums HR1.out HSET.out).2 (by simp) (by simp))
      have HFIN := (show Hid (Nums x n [sig R 0]) from (begin_nums HR1.out HSET.out).1)
      have HMV := (show Hid (∀ w3 : World, Below wr.heap.size wr w3 → Mv X B W w3) from fun w3 b3 => (Mv.refl X B W).later (st.chain HI2.out.be b3) (fun g hg => (HK.out.bu.ap g hg).1) HK.out.bu.size)
      have h53' : Calls Try.prog 59 #[.pointer (some ⟨b, 0, none⟩), .slice (some ⟨W.heap.size, 0, none⟩) n n, .int .u8 0] wr fun e w' => e = .returned (.string (txtB (sig R 0))) ∧ Below wr.heap.size wr w' := h53
      clear h53 HSET HC
      generalize sig R 0 = τ at *
      go_wp2_with (first | (go_at_call 59; refine h53'.mono ?_; rintro ev w5 ⟨rfl, b5⟩; have hnum := HNUM.out w5 b5; have HM5 := (show Hid _ from HMV.out w5 b5); unfold NewIs at hnum; clear b5) | (go_at_call 64; refine hnum.mono ?_; rintro ev w6 ⟨rfl, hh6⟩; have HH6 := (show Hid _ from hh6); clear hh6))
      go_end0
      obtain ⟨X', Y', vs', vn', va', ss', m', D', a1, a2, a3, a4, k', m6⟩ := HH6.out
      exact ⟨τ, X', Y', vs', vn', va', ss', m', D', ⟨_, rfl⟩, HFIN.out, a1, a3, k', HM5.out.trans m6⟩
end Go.Proofs.Ytfilndgbgdnpiaa.bd
