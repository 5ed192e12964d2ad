/-
  Contracts over this program: a dfa is built of an nfa (dfa.Build).
-/
import Derived.Test.YtfilndgbgdnpiaaKCa
namespace Go.Proofs.Ytfilndgbgdnpiaa.bd
open Go.Sort Go.ChangeShapes Go.WideShapes Go.ChangeAt Go.RowKit Go.Maps
open df (Kp Row RowRow iv bv In IntsV Owns DAt)
open nf (Nfa Ed Rt EdAt Eds nfaV IRow)
open st (Q4 none4 Fits has nth jn sig Blk OwnSets)
set_option linter.unusedVariables false
set_option maxRecDepth 10000

def NoIs (x : Nfa) (eo : Option Addr) (ec : Nat) (W : World) : Prop := Calls Try.prog 19 #[nfaV x.n x.s x.e eo x.edges.length ec] W fun ev W' => ev = .returned (.tuple #[.agg z37, .int .i64 1]) ∧ Below W.heap.size W W'
def YesIs (x : Nfa) (n : Nat) (eo : Option Addr) (ec : Nat) (W : World) : Prop := Calls Try.prog 19 #[nfaV x.n x.s x.e eo x.edges.length ec] W fun ev W' => Below W.heap.size W W' ∧
  ((ev = .returned (.tuple #[.agg z37, .int .i64 80]) ∧ ∃ L, Nums x n L ∧ 400 < L.length) ∨ ∃ L d cs o cap ao acap, ev = .returned (.tuple #[.agg cs, .int .i64 0]) ∧ Built x n (lsOf x) L d ∧ L.length ≤ 400 ∧ DAt (In W') W' d cs o cap ao acap)
set_option maxHeartbeats 2000000 in
set_option maxRecDepth 100000 in
theorem build_no (x : Nfa) (hr : nf.right x = false) (eo : Option Addr) (ec : Nat) (W : World) (hE : Eds W eo ec x.edges) : NoIs x eo ec W := by
  have hz := zero37
  have hs := z37_size
  have hb := built37
  obtain ⟨w2, HW2⟩ : ∃ w2, Hid (w2 = (W.alloc (.cells #[.int .i64 x.n, .int .i64 x.s, .int .i64 x.e, .slice eo x.edges.length ec] 31)).alloc (.cells z37 51)) := ⟨_, rfl⟩
  have HB2 := (show Hid (Below W.heap.size W w2) from by show Below _ _ _; rw [HW2.out]; exact ((Below.refl _ _).alloc (Nat.le_refl _) _).alloc (by simp) _)
  have HR2 := (show Hid (w2.heap[W.heap.size + 1]? = some (.cells z37 51 (0, 0))) from by show _ = _; rw [HW2.out]; exact heap_alloc2_new W _ _)
  have h11 := nf.right_any x false hr.symm eo ec w2 (hE.later HB2.out)
  have HRL := (show Hid (W.heap.size + 1 < w2.heap.size) from (Array.getElem?_eq_some_iff.1 HR2.out).1)
  unfold NoIs
  clear hr hE
  go_enter Try.func19, Try.ntmps19
  go_wp2_with (first | (go_at_call 30; rw [← HW2.out]; refine h11.mono ?_; rintro ev w3 ⟨rfl, b3⟩; have HB3 := (show Hid _ from b3); clear b3) | (refine wpList_store_row (by rfl) 51 (.tmp 2) (.tmp 10) (by rfl) (W.heap.size + 1) z37 (by rfl) (by rfl) 51 z37 (by exact (HB3.out.block _ HRL.out).trans HR2.out) (df.info51 _ hs) rfl one37 ?_))
  refine ret37 Try.results19 (W.heap.size + 1) z37 1 rfl (setRow_heap _ _ _ _ _ _ ((HB3.out.block _ HRL.out).trans HR2.out)) hs rfl rfl ?_
  exact ⟨rfl, below_setRow (st.chain HB2.out HB3.out) (Nat.le_succ _) _⟩
set_option maxHeartbeats 4000000 in
set_option maxRecDepth 100000 in
theorem build_yes (x : Nfa) (n e : Nat) (R1 : Rt x n) (hr : nf.right x = true) (hfit : ∀ e ∈ x.edges, nf.Fits e) (hxe : x.e = (e : Int)) (eo : Option Addr) (ec : Nat) (W : World) (hE : Eds W eo ec x.edges) : YesIs x n eo ec W := by
  have hz := zero37
  have hs := z37_size
  have hb := built37
  obtain ⟨w2, HW2⟩ : ∃ w2, Hid (w2 = (W.alloc (.cells #[.int .i64 x.n, .int .i64 x.s, .int .i64 x.e, .slice eo x.edges.length ec] 31)).alloc (.cells z37 51)) := ⟨_, rfl⟩
  have HB2 := (show Hid (Below W.heap.size W w2) from by show Below _ _ _; rw [HW2.out]; exact ((Below.refl _ _).alloc (Nat.le_refl _) _).alloc (by simp) _)
  have HR2 := (show Hid (w2.heap[W.heap.size + 1]? = some (.cells z37 51 (0, 0))) from by show _ = _; rw [HW2.out]; exact heap_alloc2_new W _ _)
  have HX2 := (show Hid (nf.Box w2 W.heap.size x.n x.s x.e eo x.edges.length ec) from by show nf.Box _ _ _ _ _ _ _ _; rw [HW2.out]; exact heap_alloc2_old W _ _)
  have h11 := nf.right_any x true hr.symm eo ec w2 (hE.later HB2.out)
  have HRL := (show Hid (W.heap.size + 1 < w2.heap.size) from (Array.getElem?_eq_some_iff.1 HR2.out).1)
  have HNB := (show Hid (∀ w3, Below w2.heap.size w2 w3 → Calls Try.prog 38 #[nfaV x.n x.s x.e eo x.edges.length ec] w3 fun ev W' => ∃ b mb h ob fb lo lc X D, ev = .returned (.pointer (some ⟨b, 0, none⟩)) ∧ Made w3 x n e eo ec W' b mb h ob fb lo lc X D (lsOf x) (xsOf x)) from fun w3 b3 => newb_any x n e R1 hfit hxe eo ec w3 (hE.later (st.chain HB2.out b3)))
  have HBG := (show Hid (∀ w3 W' b mb h ob fb lo lc X D, Below w2.heap.size w2 w3 → Made w3 x n e eo ec W' b mb h ob fb lo lc X D (lsOf x) (xsOf x) → BegIs X X W' x n e w3.heap.size b mb h []) from fun w3 W' b mb h ob fb lo lc X D b3 k => begin_any R1 hr k.bs (by rw [k.eo, k.ec]; exact hE.later (st.chain (st.chain HB2.out b3) k.be)) k.hn k.hs k.he k.em)
  have HR1 := (show Hid (Rt x n) from R1)
  have HFIT := (show Hid (∀ e ∈ x.edges, nf.Fits e) from hfit)
  have HXE := (show Hid (x.e = (e : Int)) from hxe)
  unfold YesIs
  clear hr hE R1 hfit hxe
  go_enter Try.func19, Try.ntmps19
  go_wp2_with (first | (go_at_call 30; rw [← HW2.out]; refine h11.mono ?_; rintro ev w3 ⟨rfl, b3⟩; have HB3 := (show Hid _ from b3); have hnb := HNB.out w3 b3; have q0 := (HX2.out.later b3).c0; have q1 := (HX2.out.later b3).c1; have q2 := (HX2.out.later b3).c2; have q3 := (HX2.out.later b3).c3; clear b3) | (go_at_call 38; refine hnb.mono ?_; rintro ev w4 ⟨b, mb, h, ob, fb, lo, lc, X, D, rfl, hmd⟩; have HMD := (show Hid _ from hmd); have hbg := HBG.out w3 w4 b mb h ob fb lo lc X D HB3.out hmd; unfold BegIs at hbg; clear hmd) | (go_at_call 39; refine hbg.mono ?_; rintro ev w5 ⟨σ, X1, Y1, vs, vn, va, ss, m, D1, ⟨v, rfl⟩, hh5⟩; have HH5 := (show Hid _ from hh5); clear hh5))
  have HST := (show Hid (Lp w3 x n e (lsOf x) b mb h ob fb lo lc 0 w5 X1 Y1 [σ] [] [] vs vn va ss m D1) from by
    obtain ⟨a1, a2, a3, a4, a5⟩ := HH5.out
    have M := HMD.out
    exact ⟨a4, M.nt.carry (fun g hg => a5.kp.2 g hg) a3, a1, by simp, by simp, rfl, rws_nil _ _, fun k σ r _ h => by simp at h, M.be.trans a5.be⟩)
  have HCL := (show Hid (h.cl = (xsOf x).map fun y : Nat => Value.int .u8 (y : Int)) from HMD.out.cl)
  have HRB := (show Hid (∀ w, Below w3.heap.size w3 w → w.heap[W.heap.size + 1]? = some (.cells z37 51 (0, 0))) from fun w hw => by rw [hw.block _ (by have := HB3.out.size; have := HRL.out; omega), HB3.out.block _ HRL.out]; exact HR2.out)
  have HRS := (show Hid (W.heap.size + 1 < w3.heap.size) from by have := HB3.out.size; have := HRL.out; show _ < _; omega)
  have HBW := (show Hid (Below W.heap.size W w3) from st.chain HB2.out HB3.out)
  have HLS := (show Hid ((lsOf x).length ≤ 256) from ls_most x)
  clear HH5 HMD hnb hbg HNB HBG q0 q1 q2 q3 h11 HX2 HR2 HRL HB3 HB2 HW2
  go_loopw [5] (fun z wr => ∃ (j : Nat) (X Y : Nat → Prop) (L : List (List Bool)) (nn : List Value) (rs : List (List Int)) (vs vn va : Value) (ss : List Value) (m : Nat) (D : DataW Unit), z = .int .i64 j ∧ Hid (Lp w3 x n e (lsOf x) b mb h ob fb lo lc j wr X Y L nn rs vs vn va ss m D)) (fun z _ => 401 - (intOf z).toNat)
  case atStart => exact ⟨0, _, _, _, _, _, _, _, _, _, _, _, rfl, HST⟩
  case round =>
    obtain ⟨j, X2, Y2, L, nn, rs, vs2, vn2, va2, ss2, m2, D2, rfl, HI⟩ := hrel
    clear HST
    obtain ⟨so, sc, rfl, f1, f2⟩ := ow.form HI.out.bs.bu.os
    have c7 := HI.out.bs.bu.box.c7
    have hsl : ss2.length = L.length := by have := HI.out.bs.rs.len; simpa using this
    have hjl := HI.out.jl
    have hln := HI.out.ln
    have HSL := (show Hid (ss2.length = L.length) from hsl)
    by_cases hend : j < ss2.length
    · have hjL : j < L.length := by omega
      obtain ⟨sb, scap, e1, e2, e3⟩ := ow.cell HI.out.bs.bu.os j hend
      simp only [Value.slice.injEq, true_and] at e1
      obtain ⟨rfl, rfl⟩ := e1
      have h43 : RowIs X2 Y2 wr x n e (lsOf x) w3.heap.size b mb h nn L L[j] ss2[j] := row_any HR1.out HFIT.out (edg_at x n) (tgt_at x n) (ls_most x) (ls_byte x) HI.out.bs HI.out.nt HI.out.nm HI.out.ln (List.getElem?_eq_getElem hjL) (HI.out.bs.rs.at' j _ _ (List.getElem?_eq_getElem hend) (by rw [List.getElem?_map, List.getElem?_eq_getElem hjL]; rfl))
      have HLJ := (show Hid (L[j]? = some L[j]) from List.getElem?_eq_getElem hjL)
      generalize ss2[j] = u at *
      generalize L[j] = σ2 at *
      have HJL := (show Hid (j < L.length) from hjL)
      unfold RowIs at h43
      have j4 : j < 400 := by omega
      clear hsl hjL e2 hjl hln
      have HNX := (show Hid (∀ (w5 : World) (g : Nat) (r : List Int) (L' : List (List Bool)) (X' Y' : Nat → Prop) (vs1 vn1 va1 : Value) (ss1 : List Value) (m1 : Nat) (D1 : DataW Unit), (wr.heap.size ≤ g ∧ IRow w5 g r ∧ RowOf x n (lsOf x) L' σ2 r ∧ L <+: L' ∧ L'.length ≤ L.length + (lsOf x).length ∧ Nums x n L' ∧ (∀ k, X2 k → X' k) ∧ (∀ k, Y2 k → Y' k) ∧ X' g ∧ ¬ Y' g ∧ Bst X' Y' w5 w3.heap.size b mb h n e L' nn vs1 vn1 va1 ss1 m1 D1 ∧ Mv X2 w3.heap.size wr w5) → L'.length ≤ 400 →
        ∀ (g' cap' : Nat) (w7 : World), w7.ownsRow w3.heap.size 39 1 (.slice (some ⟨g', 0, none⟩) (nn.length + 1) cap') (nn.length + 1) (nn ++ [.slice (some ⟨g, 0, none⟩) (lsOf x).length (lsOf x).length]) → (w5.alloc (.cells #[.slice (some ⟨g, 0, none⟩) (lsOf x).length (lsOf x).length] 39)).grownBy w7 vn1.ownBlock → (some g' = vn1.ownBlock ∨ (w5.alloc (.cells #[.slice (some ⟨g, 0, none⟩) (lsOf x).length (lsOf x).length] 39)).heap.size ≤ g') →
          BBox w7 b h vs1 (.map (some mb)) vn1 va1 ∧ Lp w3 x n e (lsOf x) b mb h ob fb lo lc (j + 1) (w7.setCell ⟨b, 265, none⟩ (.slice (some ⟨g', 0, none⟩) (nn.length + 1) cap')) X' Y' L' (nn ++ [.slice (some ⟨g, 0, none⟩) (lsOf x).length (lsOf x).length]) (rs ++ [r]) vs1 (.slice (some ⟨g', 0, none⟩) (nn.length + 1) cap') va1 ss1 m1 D1) from by
        intro w5 g r L' X' Y' vs1 vn1 va1 ss1 m1 D1 hh hL4 g' cap' w7
        obtain ⟨a1, a2, a3, a4, a5, a6, a7, a8, a9, _, a11, a12⟩ := hh
        have hrl := a3.len
        rw [← hrl]
        intro ho hg hw
        have hB := HI.out.bs.bu.size
        exact HI.out.next a2 (fun σ hσ => by rw [HLJ.out] at hσ; cases hσ; exact a3) HJL.out a4 hL4 a6 a7 a8 a9 (by omega) (by have := HLS.out; omega) a11 a12 (nf.below_alloc _ _) ho hg hw)
      have HNN := (show Hid (nn.length ≤ 1000000) from by have := HI.out.rw.len; have := HI.out.rj; show _ ≤ _; omega)
      have HBI := (show Hid (Below w3.heap.size w3 wr) from HI.out.be)
      generalize (lsOf x).length = kk at *
      go_wp2_with (first | (go_at_call 40; refine h43.mono ?_; rintro ev w5 ⟨g, r, L', X', Y', vs1, vn1, va1, ss1, m1, D1, rfl, hh5⟩; obtain ⟨so1, sc1, rfl, f3, f4⟩ := ow.form hh5.2.2.2.2.2.2.2.2.2.2.1.bu.os; have HH5 := (show Hid _ from hh5); have d7 := hh5.2.2.2.2.2.2.2.2.2.2.1.bu.box.c7; have d265 := hh5.2.2.2.2.2.2.2.2.2.2.1.bu.box.c265; have HL5 := (show Hid (ss1.length = L'.length) from by have := hh5.2.2.2.2.2.2.2.2.2.2.1.rs.len; show _ = _; simpa using this); have HB5 := (show Hid (Below w3.heap.size w3 w5) from HBI.out.trans hh5.2.2.2.2.2.2.2.2.2.2.2.be); clear hh5) | (refine wpList_store_row (by rfl) 51 (.tmp 2) (.tmp 39) (by rfl) (W.heap.size + 1) z37 (by rfl) (by rfl) 51 z37 (by exact HRB.out _ HB5.out) (df.info51 _ hs) rfl one37 ?_) | (at_builtin; refine ow.wpList_append (by rfl) (.tmp 45) (.tmp 47) 49 (by rfl) 39 (.slice none 0 0) 1 24 Try.underlying49 info39 (by rfl) (by decide) (by decide) w3.heap.size vn1 nn.length nn w5.heap.size [.slice (some ⟨g, 0, none⟩) kk kk] (by rfl) (by rfl) (by exact ow.later HH5.out.2.2.2.2.2.2.2.2.2.2.1.bu.on (nf.below_alloc _ _)) (by rfl) (by exact ow.new1 w5 _ 39) (by exact ow.one1 _ rfl) (by exact HNN.out) (by rw [World.size_alloc]; have := HB5.out.size; omega) ?_; intro g' cap' w7 ho hg hw; have HO7 := (show Hid _ from ho); have HG7 := (show Hid _ from hg); have HW7 := (show Hid _ from hw); clear ho hg hw; have HL4 := (show Hid (L'.length ≤ 400) from by have := HL5.out; show _ ≤ _; omega); have z265 := (HNX.out _ _ _ _ _ _ _ _ _ _ _ _ HH5.out HL4.out _ _ _ HO7.out HG7.out HW7.out).1.c265; have y265 := (HNX.out _ _ _ _ _ _ _ _ _ _ _ _ HH5.out HL4.out _ _ _ HO7.out HG7.out HW7.out).1.fz 265; have HN7 := (show Hid _ from (HNX.out _ _ _ _ _ _ _ _ _ _ _ _ HH5.out HL4.out _ _ _ HO7.out HG7.out HW7.out).2)))
      · have h4 : 400 < L'.length := by have := HL5.out; omega
        refine ret37 Try.results19 (W.heap.size + 1) z37 80 rfl (setRow_heap _ _ _ _ _ _ (HRB.out _ HB5.out)) hs rfl rfl ?_
        exact ⟨below_setRow (st.chain HBW.out HB5.out) (Nat.le_succ _) _, .inl ⟨rfl, L', HH5.out.2.2.2.2.2.1, h4⟩⟩
      · exact ⟨⟨j + 1, _, _, _, _, _, _, _, _, _, _, _, by go_num, HN7⟩, by simp [intOf]; omega⟩
    · have hje : j = L.length := by omega
      obtain ⟨z1, z2, o, cap, ao, acap, hD⟩ := HI.out.cells HCL.out (w' := wr.setRow (W.heap.size + 1) (h.cl ++ [vn2, va2]).toArray) (fun g hg hB => setRow_other _ _ _ _ (by have := HRS.out; omega)) (by simp)
      have HBU := (show Hid (Built x n (lsOf x) L (dOf x rs L e)) from HI.out.built hje HXE.out)
      have hone : (h.cl ++ [vn2, va2]).toArray.all (·.oneCell') = true := by
        obtain ⟨_, _, en, _⟩ := ow.form HI.out.bs.bu.on
        obtain ⟨_, _, ea, _⟩ := ow.form HI.out.bs.bu.oa
        refine all_oneCell_toArray fun v hv => ?_
        rcases List.mem_append.1 hv with hv | hv
        · rw [HCL.out] at hv
          obtain ⟨y, _, rfl⟩ := List.mem_map.1 hv
          rfl
        · simp only [List.mem_cons, List.not_mem_nil, or_false] at hv
          rcases hv with rfl | rfl
          · rw [en]; rfl
          · rw [ea]; rfl
      have HD := (show Hid (DAt (In (wr.setRow (W.heap.size + 1) (h.cl ++ [vn2, va2]).toArray)) (wr.setRow (W.heap.size + 1) (h.cl ++ [vn2, va2]).toArray) (dOf x rs L e) (h.cl ++ [vn2, va2]).toArray o cap ao acap) from hD)
      have HZ := (show Hid ((h.cl ++ [vn2, va2]).length = 258) from z1)
      have HLN := (show Hid (L.length ≤ 400) from hln)
      have hb0 := HRB.out _ HI.out.be
      have HBI := (show Hid (Below w3.heap.size w3 wr) from HI.out.be)
      clear hD z1 hsl hje hln hjl HI
      generalize h.cl ++ [vn2, va2] = cs at *
      go_wp2_with (first | (refine wpList_load_mid (by rfl) 51 (.tmp 54) (by rfl) b 9 (by rfl) cs _ z2 Try.underlying51 (by rfl) (by rw [HZ.out]; kernel_rfl) ?_) | (refine wpList_store_row (by rfl) 51 (.tmp 2) (.tmp 55) (by rfl) (W.heap.size + 1) cs.toArray (by rfl) (by rfl) 51 z37 hb0 (df.info51 _ (by simpa using HZ.out)) (by rw [hs]; simpa using HZ.out.symm) hone ?_))
      refine ret37 Try.results19 (W.heap.size + 1) cs.toArray 0 rfl (setRow_heap _ _ _ _ _ _ hb0) (by simpa using HZ.out) rfl rfl ?_
      exact ⟨below_setRow (st.chain HBW.out HBI.out) (Nat.le_succ _) _, .inr ⟨L, _, _, _, _, _, _, rfl, HBU.out, HLN.out, HD.out⟩⟩
end Go.Proofs.Ytfilndgbgdnpiaa.bd
