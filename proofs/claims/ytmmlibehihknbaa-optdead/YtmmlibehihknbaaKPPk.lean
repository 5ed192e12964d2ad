/-
  Contracts over this program: piece.Texts.
-/
import Derived.Test.YtmmlibehihknbaaM16
import Derived.Laws.Strings2
namespace Go.Proofs.Ytmmlibehihknbaa.pc
open Go.RowKit Go.Shelf
open df (Dfa ends nxt acpt byteAt here Ok right width endsOf DAt DBox Row RowRow iv bv In Owns IntsV)
set_option linter.unusedVariables false
attribute [local go_sem] Oper.semAt_some

def encT {s : ByteArray} (x : Pr s) : Value := .string (s.extract x.1.1 x.1.2)
def textsL (d : Dfa) (s : ByteArray) : List ByteArray := (all d s 0).map fun p => s.extract p.1 p.2
/-- texts in a row -/
def StrsV (w : World) (v : Value) (l : List ByteArray) : Prop := ∃ o cap, v = .slice o l.length cap ∧ Row (In w) w Value.string o cap l
theorem StrsV.later {w w' : World} {v : Value} {l : List ByteArray} (h : StrsV w v l) (b : Below w.heap.size w w') : StrsV w' v l := by
  obtain ⟨o, cap, e, hr⟩ := h
  exact ⟨o, cap, e, hr.carry (fun k hk => b.block k hk) (fun k hk => Nat.lt_of_lt_of_le hk b.size)⟩
theorem base_down {W : World} {B B' e sz n : Nat} {v : Value} {xs : List Value} (h : W.ownsRow B e sz v n xs) (hb : B' ≤ B) : W.ownsRow B' e sz v n xs := by
  refine ⟨h.1, ?_⟩
  rcases h.2 with h0 | ⟨g, cap, cur, rfl, h1, hr⟩
  · exact .inl h0
  · exact .inr ⟨g, cap, cur, rfl, Nat.le_trans hb h1, hr⟩
theorem strs_of_owns {w : World} {base : Nat} {v : Value} {l : List ByteArray} (h : w.ownsRow base 9 1 v l.length (l.map Value.string)) : StrsV w v l := by
  have h0 := h
  rcases h.2 with ⟨rfl, hl⟩ | ⟨g, cap, cur, rfl, hb, hg, hn, hc, hs, ht⟩
  · have : l = [] := List.length_eq_zero_iff.1 hl
    subst this
    exact ⟨none, 0, rfl, Nat.le_refl _, by omega, fun i hi => by simp at hi⟩
  · unfold maxLen at hc
    refine ⟨some ⟨g, 0, none⟩, cap, rfl, hn, hc, fun i hi => ⟨g, 0, rfl, (Array.getElem?_eq_some_iff.1 hg).1, ?_⟩⟩
    have := World.ownsRow.cellAt h0 i (by omega)
    rw [Nat.zero_add, this, List.getElem?_map, List.getElem?_eq_getElem hi]
    rfl
theorem encT_map {s : ByteArray} {d : Dfa} {xs : List (Pr s)} (h : xs.map (·.1) = all d s 0) : xs.map encT = (textsL d s).map Value.string ∧ xs.length = (textsL d s).length := by
  unfold textsL
  rw [← h]
  constructor
  · simp [encT, Function.comp_def]
  · simp
theorem info9' : (Try.prog.info? 9).map (fun i => (i.zero, i.size, i.bytes)) = some (some (.string ByteArray.empty), 1, 16) := by kernel_rfl
theorem x_slice9 {o : Oper} {a : Act} {w : World} {x y z : Operand} {s : ByteArray} {i j : Nat} (h : o.op = .slice 9 x (some y) (some z) none) (hx : a.eval x = .string s) (hy : a.eval y = .int .i64 (i : Int)) (hz : a.eval z = .int .i64 (j : Int)) (h1 : i ≤ j) (h2 : j ≤ s.size) : (execOp a.eval o).run Try.prog w = .ok (.value (.string (s.extract i j))) w := by
  have hr : (Instr.slice 9 (.string s) (some (.int .i64 (i : Int))) (some (.int .i64 (j : Int))) none).run Try.prog w = .ok (.string (s.extract i j)) w := by
    rw [run_slice_string w 9 s .i64 .i64 (i : Int) (j : Int) Try.underlying9 (by omega) (by omega) (by omega)]
    simp
  unfold execOp
  simp only [h, hx, hy, hz, Option.map]
  simp [go_sem, hr]
theorem x_load9 {o : Oper} {a : Act} {w : World} {x : Operand} {g : Nat} {s : ByteArray} (h : o.op = .load 9 x) (hx : a.eval x = .pointer (some ⟨g, 0, none⟩)) (hb : Boxed w g 9 (.string s)) : (execOp a.eval o).run Try.prog w = .ok (.value (.string s)) w := by
  unfold execOp
  have hc := hb.cell
  simp only [h, hx]
  simp [go_sem, Try.isAgg9, Try.sizeOf9, hc]
theorem x_load31 {o : Oper} {a : Act} {w : World} {x : Operand} {g : Nat} {v : Value} (h : o.op = .load 30 x) (hx : a.eval x = .pointer (some ⟨g, 0, none⟩)) (hb : Boxed w g 30 v) : (execOp a.eval o).run Try.prog w = .ok (.value v) w := by
  unfold execOp
  have hc := hb.cell
  simp only [h, hx]
  simp [go_sem, Try.isAgg30, Try.sizeOf30, hc]
theorem x_build31 {o : Oper} {a : Act} {w : World} {x : Operand} {p : ByteArray} (h : o.op = .buildSlice 30 1 #[(0, x)]) (hx : a.eval x = .string p) : (execOp a.eval o).run Try.prog w = .ok (.value (.slice (some ⟨w.heap.size, 0, none⟩) 1 1)) (w.alloc (.cells #[.string p] 9)) := by
  unfold execOp
  simp only [h, List.map_toArray, List.map_cons, List.map_nil, hx]
  simp [go_sem]
theorem append31 {w : World} {v : Value} {l : List Value} {p : Value} {base g : Nat} (ho : w.ownsRow base 9 1 v l.length l) (hg : w.cell? ⟨g, 0, none⟩ = some p) (hp : p.oneCell' = true) (hl : l.length ≤ 1000000) (hb : base ≤ w.heap.size) :
    ∃ v' w', (Builtin.append_ #[30, 30] 30 #[v, .slice (some ⟨g, 0, none⟩) 1 1]).run Try.prog w = .ok v' w' ∧ w'.ownsRow base 9 1 v' (l.length + 1) (l ++ [p]) ∧ w.grownBy w' v.ownBlock ∧ (v'.ownBlock = v.ownBlock ∨ v'.ownBlock = some w.heap.size) := by
  obtain ⟨i0, hi, hz0, hz1, hz2⟩ := info_parts info9'
  obtain ⟨v', w', hr, h2, h3, h4, h5⟩ := run_append_own_at (P := Try.prog) w base 30 30 9 i0 (.string ByteArray.empty) 1 16 Try.underlying30 hi hz0 hz1 hz2 rfl (by decide) v l.length l ho ⟨g, 0, none⟩ 1 1 [p] rfl (fun j u hj => by
    cases j with
    | zero => simp at hj; subst hj; exact hg
    | succ j => simp at hj) (by simp [hp]) (by unfold maxLen; omega) (by omega) hb
  exact ⟨v', w', hr, h2, h3, h5⟩
theorem x_append31 {o : Oper} {a : Act} {w w' : World} {x y : Operand} {v v' : Value} {g : Nat} (h : o.op = .call { callee := .builtin .append, args := #[x, y], argTypes := #[30, 30] }) (ht : o.type = 30) (hx : a.eval x = v) (hy : a.eval y = .slice (some ⟨g, 0, none⟩) 1 1) (hr : (Builtin.append_ #[30, 30] 30 #[v, .slice (some ⟨g, 0, none⟩) 1 1]).run Try.prog w = .ok v' w') :
    (execOp a.eval o).run Try.prog w = .ok (.value v') w' := by
  simp [execOp, h, ht, resolve, invoke, builtin, hx, hy, hr, Result.andThen]
section
variable {P : Program} {ops : Array Oper} {Q : Exit → Act → World → Prop} {S : World → Prop} {K : Nat}
theorem callK {o : Oper} {fuel : Nat} {done : Array Bool} {a : Act} {w : World} (j k : Nat) {f : FuncId} {args : Array Value} (hr : Region.ready .any ops done = [j]) (ho : ops[j]? = some o) (hd : o.dst = some k) (hw : Region.wanted o (yielded ops a.tmps) = true) (hx : (execOp a.eval o).run P w = .ok (.enter f args) w)
    (hc : Calls P f args w fun e w' => ∃ v, e = .returned v ∧ S w' ∧ anyK P ops Q S K fuel (done.setIfInBounds j true) (a.put (some k) v) w') : anyK P ops Q S K (fuel + 1) done a w := by
  refine oneK hr ho hw ?_
  unfold Oper.wp
  rw [hx]
  simp only [Oper.upon]
  refine hc.mono ?_
  rintro e w' ⟨v, rfl, h1, h2⟩
  rw [hd]
  exact ⟨fun _ => h1, h2⟩
theorem valK {o : Oper} {fuel : Nat} {done : Array Bool} {a : Act} {w w' : World} {v : Value} (j k : Nat) (hr : Region.ready .any ops done = [j]) (ho : ops[j]? = some o) (hd : o.dst = some k) (hw : Region.wanted o (yielded ops a.tmps) = true) (hx : (execOp a.eval o).run P w = .ok (.value v) w') (h1 : S w')
    (h : anyK P ops Q S K fuel (done.setIfInBounds j true) (a.put (some k) v) w') : anyK P ops Q S K (fuel + 1) done a w := by
  refine oneK hr ho hw ?_
  unfold Oper.wp
  rw [hx]
  simp only [Oper.upon]
  rw [hd]
  exact ⟨fun _ => h1, h⟩
end
set_option maxRecDepth 100000 in
set_option maxHeartbeats 4000000 in
theorem texts_in (d : Dfa) (s : ByteArray) (hr : right d = true) (hs : s.size ≤ 262144) (cs : Array Value) (o ao : Option Addr) (cap acap : Nat) (w : World) (hD : DAt (In w) w d cs o cap ao acap) :
    CallsIn Fence.wide 6 Try.prog 69 #[.agg cs, .string s] w fun e W' => ∃ v, e = .returned (.tuple #[v, .int .i64 0]) ∧ W'.ownsRow w.heap.size 9 1 v (textsL d s).length ((textsL d s).map Value.string) ∧ Below w.heap.size w W' := by
  have hw8 := hD.size
  have b0 : DBox ((w.alloc (.cells cs 36)).alloc (.cells #[.string s] 9)) w.heap.size cs := (Below.heap_alloc _ _ _ (by simp)).trans (df.dbox_new w cs)
  have s0 := Boxed.new (w.alloc (.cells cs 36)) 9 (.string s)
  simp only [World.size_alloc] at s0
  have HB0 : Below w.heap.size w ((w.alloc (.cells cs 36)).alloc (.cells #[.string s] 9)) := ((Below.refl _ w).alloc (Nat.le_refl _) _).alloc (by simp) _
  have h18 := check_any d s (by omega) cs o cap ao acap _ (hD.later HB0)
  have e0 : chk d s = 0 := by unfold chk; rw [if_neg (by rw [hr]; decide), if_neg (by omega)]
  rw [e0] at h18
  have h19 := fun w => pieces_in cs s w
  have h20 := fun (i j : Nat) w => clone_any (s.extract i j) (by rw [ByteArray.size_extract]; omega) w
  obtain ⟨i0, hi, hz0, hz1, hz2⟩ := info_parts info9'
  have sc0 := s0.cell
  refine callsIn_of_wp_marks Try.func69 rfl trivial ?_ rfl
  simp only [Try.ntmps69, List.size_toArray, List.length_cons, List.length_nil, Nat.reduceAdd, Nat.reduceSub, Array.replicate_succ, Array.replicate_zero, List.push_toArray, List.append_toArray, List.nil_append, List.cons_append]
  gi_wp2_with (first | (refine df.wpListIn_load_row rfl 36 (.tmp 2) rfl w.heap.size rfl 36 cs (0, 0) _ b0 Try.underlying36 rfl (df.info36 cs hw8) ?_) | (refine ⟨trivial, ?_⟩; gi_at_call 71; refine (callsIn_wide.2 h18).mono ?_; rintro e wA ⟨rfl, b1⟩; have sA : Boxed wA (w.heap.size + 1) 9 (.string s) := (b1.block _ s0.lt).trans s0; have bA : DBox (wA.alloc (.cells #[.slice none 0 0] 30)) w.heap.size cs := (Below.heap_alloc _ _ _ (by have := b0.lt; have := b1.size; omega)).trans (b0.later b1); have scA := (sA.alloc (.cells #[.slice none 0 0] 30)).cell) | (refine df.wpListIn_load_row rfl 36 (.tmp 2) rfl w.heap.size rfl 36 cs (0, 0) _ bA Try.underlying36 rfl (df.info36 cs hw8) ?_) | (refine ⟨trivial, ?_⟩; gi_at_call 72; refine (callsIn_wide.2 (h19 _)).mono ?_; rintro e w2 ⟨rfl, rfl⟩))
  have cA : Below w.heap.size w wA := df.chain HB0 b1
  have hDA := hD.later cA
  obtain ⟨wR, hR⟩ : ∃ wR, wR = ((wA.alloc (.cells #[.slice none 0 0] 30)).alloc (.cells cs 36)).alloc (.cells #[.string s] 9) := ⟨_, rfl⟩
  obtain ⟨hsz, cR, dR, xR, sR, iR⟩ := begins s hDA (Below.refl _ _) 30 9 (encT (s := s)) wR hR
  rw [← hR]
  rw [← hsz] at iR
  have hlt : wA.heap.size < wR.heap.size := by omega
  have hgs : w.heap.size + 1 < wA.heap.size := sA.lt
  have hok := df.ok_of d hr
  clear hR b0 HB0 bA h18 h19 e0 b1 hD s0 sc0 scA
  refine range_own rfl (by omega) (gf := 75) (lb := #[.pointer (some ⟨wA.heap.size + 1, 0, none⟩), .pointer (some ⟨wA.heap.size + 1 + 1, 0, none⟩)]) rfl trivial (enters_of Try.func75 (by kernel_rfl) rfl) encs2 (fun _ => rfl)
    (Ib wR.heap.size wA.heap.size 30 9 wA.heap.size wA encT) (Kq wR.heap.size wA.heap.size) (fun xs => xs.map (·.1) = all d s 0) (s.size + 1)
    (fun pre W l ob ob' hi hl hh ho => hi.book hlt (by omega) ob' hl hh ho) (fun W l ob ob' hl hh ho => Kq.book hlt W l ob ob' hl hh ho) Kq.trans iR
    (fun x => { tmps := #[.agg cs, .string s, .pointer (some ⟨w.heap.size, 0, none⟩), .pointer (some ⟨w.heap.size + 1, 0, none⟩), .slice none 0 0, .int .i64 0, .int .i64 0, .pointer (some ⟨wA.heap.size, 0, none⟩), .int .i64 (x.1.1 : Int), .int .i64 (x.1.2 : Int), .agg cs, .string s, .int .i64 0, .int .i64 0, .bool false, undef, .agg cs, .string s, .func (.func 75) #[] #[.pointer (some ⟨wA.heap.size + 1, 0, none⟩), .pointer (some ⟨wA.heap.size + 1 + 1, 0, none⟩)], .int .i64 (x.1.1 : Int), .int .i64 (x.1.2 : Int), undef, undef, undef, undef, undef, undef, undef, undef, undef], defers := [] }) ?assign ?body ?seq ?done
  case assign =>
    intro l x W K hK
    dsimp only [encs2]
    gi_wp2
    exact hK
  case body =>
    rintro l pre x W hi2 hpl
    obtain ⟨v, hv, hrow⟩ := hi2.row
    have hsW : wR.heap.size ≤ W.heap.size := hi2.sz
    have sW : Boxed W (w.heap.size + 1) 9 (.string s) := (hi2.be.block _ hgs).trans sA
    have hlen : pre.length ≤ 1000000 := by omega
    gi_wp2_with (fail)
    have hS0 : Boxed W.drew wA.heap.size 30 v ∧ Boxed W.drew (w.heap.size + 1) 9 (.string s) := ⟨hv, sW⟩
    have hx1 := x.2.1
    have hx2 := x.2.2
    refine region_round (fun W' => Boxed W' wA.heap.size 30 v ∧ Boxed W' (w.heap.size + 1) 9 (.string s)) 8 (by kernel_rfl) (by kernel_rfl) (fun _ _ h => h) ?_
    refine takeK (i := 0) 21 rfl rfl (.inl ⟨rfl, fun W' h => x_load31 (x := .tmp 7) (g := wA.heap.size) rfl rfl h.1⟩) (by kernel_rfl) (by kernel_rfl) (by kernel_rfl) (by kernel_rfl) (fun _ _ _ h => h) hS0 ?_
    simp only [Act.put, List.setIfInBounds_toArray, List.set_cons_zero, List.set_cons_succ]
    refine takeK (i := 1) 22 rfl rfl (.inl ⟨rfl, fun W' h => x_load9 (x := .tmp 3) (g := w.heap.size + 1) rfl rfl h.2⟩) (by kernel_rfl) (by kernel_rfl) (by kernel_rfl) (by kernel_rfl) (fun _ _ _ h => h) hS0 ?_
    simp only [Act.put, List.setIfInBounds_toArray, List.set_cons_zero, List.set_cons_succ]
    refine takeK (i := 2) 23 rfl rfl (df.yields_move rfl (.tmp 8) rfl) (by kernel_rfl) (by kernel_rfl) (by kernel_rfl) (by kernel_rfl) (fun _ _ _ h => h) hS0 ?_
    simp only [Act.put, List.setIfInBounds_toArray, List.set_cons_zero, List.set_cons_succ]
    refine takeK (i := 3) 24 rfl rfl (df.yields_move rfl (.tmp 9) rfl) (by kernel_rfl) (by kernel_rfl) (by kernel_rfl) (by kernel_rfl) (fun _ _ _ h => h) hS0 ?_
    simp only [Act.put, List.setIfInBounds_toArray, List.set_cons_zero, List.set_cons_succ]
    refine takeK (i := 4) 25 rfl rfl (.inl ⟨rfl, fun W' h => x_slice9 (x := .tmp 22) (y := .tmp 23) (z := .tmp 24) (s := s) (i := x.1.1) (j := x.1.2) rfl rfl rfl rfl hx1 hx2⟩) (by kernel_rfl) (by kernel_rfl) (by kernel_rfl) (by kernel_rfl) (fun _ _ _ h => h) hS0 ?_
    simp only [Act.put, List.setIfInBounds_toArray, List.set_cons_zero, List.set_cons_succ]
    refine callK 5 26 (f := 73) (args := #[.string (s.extract x.1.1 x.1.2)]) (by kernel_rfl) rfl rfl rfl (by kernel_rfl) ((h20 x.1.1 x.1.2 W.drew).mono ?_)
    rintro e w1 ⟨rfl, b1⟩
    have hS1 : Boxed w1 wA.heap.size 30 v ∧ Boxed w1 (w.heap.size + 1) 9 (.string s) := ⟨(b1.block _ hS0.1.lt).trans hS0.1, (b1.block _ hS0.2.lt).trans hS0.2⟩
    refine ⟨_, rfl, hS1, ?_⟩
    simp only [Act.put, List.setIfInBounds_toArray, List.set_cons_zero, List.set_cons_succ]
    refine valK 6 27 (by kernel_rfl) rfl rfl rfl (x_build31 (x := .tmp 26) (p := s.extract x.1.1 x.1.2) rfl rfl) ⟨hS1.1.alloc _, hS1.2.alloc _⟩ ?_
    simp only [Act.put, List.setIfInBounds_toArray, List.set_cons_zero, List.set_cons_succ]
    have c2 : Below W.heap.size W (w1.alloc (.cells #[.string (s.extract x.1.1 x.1.2)] 9)) := df.chain (show Below W.heap.size W w1 from ⟨b1.os, b1.tape, b1.output, b1.size, b1.block⟩) (df.below_alloc w1 _)
    have hr2 : (w1.alloc (.cells #[.string (s.extract x.1.1 x.1.2)] 9)).ownsRow wR.heap.size 9 1 v (pre.map encT).length (pre.map encT) := by
      rw [List.length_map]
      exact ow.keep hrow fun k hk => c2.block k (ow.lt hrow hk).2
    obtain ⟨v', w3, hrun, hown', hgrow, hwh⟩ := append31 hr2 (cell_one_new w1 (.string (s.extract x.1.1 x.1.2)) 9 0 _ rfl) rfl (by rw [List.length_map]; exact hlen) (by have := c2.size; omega)
    rw [List.length_map] at hown'
    obtain ⟨g', cap', rfl⟩ := ownsRow_succ hown'
    obtain ⟨hv1, hk2, hq2, hi3⟩ := hi2.app (by decide) hv hrow hlt (Nat.le_refl _) hsW c2 x hown' hgrow (hwh.elim (fun e => .inl e) (fun e => .inr (Nat.le_of_eq (Option.some.inj e).symm)))
    have hS3 : Boxed w3 wA.heap.size 30 v ∧ Boxed w3 (w.heap.size + 1) 9 (.string s) := ⟨hv1, (hgrow.block _ (Nat.lt_of_lt_of_le sW.lt c2.size) (fun e => by have := (ow.lt hrow e.symm).1; omega)).trans ((c2.block _ sW.lt).trans sW)⟩
    refine valK 7 28 (by kernel_rfl) rfl rfl rfl (x_append31 (x := .tmp 21) (y := .tmp 27) rfl rfl rfl rfl hrun) hS3 ?_
    simp only [Act.put, List.setIfInBounds_toArray, List.set_cons_zero, List.set_cons_succ]
    have hc1 := hv1.cell
    have hf1 := hv1.frozen
    refine oneK (j := 8) (by kernel_rfl) rfl rfl ?_
    unfold Oper.wp
    unfold execOp
    simp [go_sem, hc1, hf1, Oper.upon]
    refine doneK (by kernel_rfl) ?_
    exact ⟨hk2, hq2, hi3⟩
  case seq =>
    intro l Bk W hBk hY hbW hi2 hb
    refine pieces_run hok hs hlt (Nat.le_refl _) (X := fun j => j < wA.heap.size ∨ j = wA.heap.size + 1 ∨ j = wA.heap.size + 1 + 1) (fun j hj => ⟨by omega, by omega⟩) (.inr (.inr rfl)) (.inr (.inl rfl)) l Bk W hBk hY hbW.size (dR.carry (fun k hk => hbW.block k (by omega)) (fun _ h => h)) (xR.later hbW) ((hbW.block _ sR.lt).trans sR) hi2 hb
  case done =>
    rintro D xs W hD2 hS hi2 hK
    obtain ⟨⟨v, hv, hrow⟩, hB, _⟩ := hi2
    have hc := hv.cell
    gi_wp2
    refine ⟨by simp, .inl ⟨_, _, rfl, run_takeDeferred hK, ?_⟩⟩
    obtain ⟨m1, m2⟩ := encT_map hS
    rw [m1, m2] at hrow
    exact ⟨_, results_tmp2 rfl _ _ _, v, rfl, base_down (ownsRow_putObj hrow _ hK rfl) (by have := cA.size; first | omega | (have := hB.size; omega)), (df.chain cA hB).trans (belowK_b (w := w) (Nat.le_refl _) W D _ _ (by have := cA.size; omega) hK rfl rfl)⟩
def TextsIs (d : Dfa) (s : ByteArray) : Prop := ∀ cs o cap ao acap w, DAt (In w) w d cs o cap ao acap → Calls Try.prog 69 #[.agg cs, .string s] w fun e W' => ∃ v, e = .returned (.tuple #[v, .int .i64 0]) ∧ W'.ownsRow w.heap.size 9 1 v (textsL d s).length ((textsL d s).map Value.string) ∧ Below w.heap.size w W'
theorem texts_any (d : Dfa) (s : ByteArray) (hr : right d = true) (hs : s.size ≤ 262144) : TextsIs d s := fun cs o cap ao acap w hD => callsIn_wide.1 (texts_in d s hr hs cs o ao cap acap w hD)
/-- where a text or a table is refused -/
theorem texts_not (d : Dfa) (s : ByteArray) (hs : s.size ≤ 9223372036854775807) (he : chk d s ≠ 0) (cs : Array Value) (o ao : Option Addr) (cap acap : Nat) (w : World) (hD : DAt (In w) w d cs o cap ao acap) :
    Calls Try.prog 69 #[.agg cs, .string s] w fun e W' => e = .returned (.tuple #[.slice none 0 0, .int .i64 (chk d s)]) ∧ Below w.heap.size w W' := by
  have hw8 := hD.size
  have b0 : DBox ((w.alloc (.cells cs 36)).alloc (.cells #[.string s] 9)) w.heap.size cs := (Below.heap_alloc _ _ _ (by simp)).trans (df.dbox_new w cs)
  have s0 := Boxed.new (w.alloc (.cells cs 36)) 9 (.string s)
  simp only [World.size_alloc] at s0
  have sc0 := s0.cell
  have HB0 : Below w.heap.size w ((w.alloc (.cells cs 36)).alloc (.cells #[.string s] 9)) := ((Below.refl _ w).alloc (Nat.le_refl _) _).alloc (by simp) _
  have h18 := check_any d s hs cs o cap ao acap _ (hD.later HB0)
  obtain ⟨r, hr, h81⟩ : ∃ r : Int, chk d s = r ∧ (r = 81 ∨ r = 2) := by
    unfold chk at he ⊢
    split
    · exact ⟨81, rfl, .inl rfl⟩
    · split
      · exact ⟨2, rfl, .inr rfl⟩
      · rename_i h1 h2
        rw [if_neg h1, if_neg h2] at he
        exact (he rfl).elim
  rw [hr] at h18 ⊢
  clear hr he hD s0
  rcases h81 with rfl | rfl
  all_goals
    go_enter Try.func69, Try.ntmps69
    go_wp2_with (first | (refine wpList_load_row rfl 36 (.tmp 2) rfl w.heap.size rfl 36 cs (0, 0) _ b0 Try.underlying36 rfl (df.info36 cs hw8) ?_) | (go_at_call 71; refine h18.mono ?_; rintro e w1 ⟨rfl, b1⟩))
    go_ret2
    exact ⟨rfl, df.chain HB0 b1⟩
end Go.Proofs.Ytmmlibehihknbaa.pc
