/-
  Contracts over this program: the row of a set (builder.row).
-/
import Derived.Test.YthknhbmibmndoaaKBl
namespace Go.Proofs.Ythknhbmibmndoaa.bd
open Go.Sort Go.ChangeShapes Go.WideShapes Go.ChangeAt Go.RowKit Go.Maps
open df (Kp Row iv In IntsV Owns)
open nf (Nfa Ed Rt IRow icells)
open st (Q4 none4 Fits has nth jn sig)
set_option linter.unusedVariables false
set_option maxRecDepth 10000

structure Mid (X Y Z : Nat → Prop) (x : Nfa) (n e : Nat) (E : Nat → List Ed) (F : Nat → List Int) (ls : List Nat) (ob oc fb fc : Nat) (lo : Option Addr) (lc : Nat) (W : World) (B b mb : Nat) (h : Hd) (nn : List Value) (L : List (List Bool)) (σ : List Bool) (R : List Q4) (g0 g1 N : Nat) (i : Nat) (wr : World) (X1 Y1 : Nat → Prop) (L1 : List (List Bool)) (r : List Int) (vs vn va : Value) (ss : List Value) (m : Nat) (D : DataW Unit) : Prop where
  st : Bst X1 Y1 wr B b mb h n e L1 nn vs vn va ss m D
  zx : ∀ g, Z g → X1 g
  yy : ∀ g, Y g → Y1 g
  y1 : ∀ g, Y1 g → Y g ∨ N ≤ g
  ir : IRow wr g1 r
  fl : Fil x n ls L1 σ i r
  sr : SRow wr g0 R
  pr : L <+: L1
  ln : L1.length ≤ L.length + i
  nm : Nums x n L1
  mv : Mv X B W wr
  nt : Net Y wr h n E F ls ob oc fb fc lo lc
def RowIs (X Y : Nat → Prop) (W : World) (x : Nfa) (n e : Nat) (ls : List Nat) (B b mb : Nat) (h : Hd) (nn : List Value) (L : List (List Bool)) (σ : List Bool) (v : Value) : Prop := Calls Try.prog 43 #[.pointer (some ⟨b, 0, none⟩), v] W fun ev W' => ∃ g r L' X' Y' vs vn va ss m D, ev = .returned (.slice (some ⟨g, 0, none⟩) ls.length ls.length) ∧ W.heap.size ≤ g ∧ IRow W' g r ∧ RowOf x n ls L' σ r ∧ L <+: L' ∧ L'.length ≤ L.length + ls.length ∧ Nums x n L' ∧ (∀ k, X k → X' k) ∧ (∀ k, Y k → Y' k) ∧ X' g ∧ ¬ Y' g ∧ Bst X' Y' W' B b mb h n e L' nn vs vn va ss m D ∧ Mv X B W W'
set_option maxHeartbeats 4000000 in
set_option maxRecDepth 100000 in
theorem row_any {X Y : Nat → Prop} {W : World} {x : Nfa} {n e : Nat} (R1 : Rt x n) (hfit : ∀ e ∈ x.edges, nf.Fits e) {E : Nat → List Ed} (hE : Edg x n E) {F : Nat → List Int} (hF : Tgt x n F) {ls : List Nat} (hl2 : ls.length ≤ 256) (hlb : ∀ y ∈ ls, y < 256) {ob oc fb fc : Nat} {lo : Option Addr} {lc B b mb : Nat} {h : Hd} {nn : List Value} {L : List (List Bool)} {vs vn va : Value} {ss : List Value} {m : Nat} {D : DataW Unit} (k : Bst X Y W B b mb h n e L nn vs vn va ss m D) (hN : Net Y W h n E F ls ob oc fb fc lo lc) (hM : Nums x n L) (hLl : L.length ≤ 400) {σ : List Bool} {j : Nat} (hj : L[j]? = some σ) {v : Value} (hv : RowV Y W v (onTo σ σ.length)) : RowIs X Y W x n e ls B b mb h nn L σ v := by
  have hσ : σ.length = n := k.ln σ (List.mem_of_getElem? hj)
  have hYl : ∀ g, Y g → g < W.heap.size := fun g hg => (k.bu.ap g (k.yx g hg)).1
  have hn1 := R1.n1
  have hn2 := R1.n2
  have h58 := step_any x n R1 hfit E hE F hF σ hσ (fun g => g < W.heap.size) W b ob oc fb fc v (hN.ovr.carry (fun _ _ => rfl) hYl) (hN.fre.carry (fun _ _ => rfl) hYl) (by rw [k.bu.box.c0, k.hn]) (by rw [k.bu.box.c4, hN.vo]) (by rw [k.bu.box.c5, hN.vf]) k.bu.box.lt (fun _ h => h) (hv.carry (fun _ _ => rfl) hYl)
  obtain ⟨vo, vc, rfl, _⟩ := hv
  have mk := nf.make25 ls.length (by omega)
  have lfit := hN.lst.fit
  have ltop := hN.lst.top
  have HK := (show Hid (Bst X Y W B b mb h n e L nn vs vn va ss m D) from k)
  have HN := (show Hid (Net Y W h n E F ls ob oc fb fc lo lc) from hN)
  have HM := (show Hid (Nums x n L) from hM)
  have HJ := (show Hid (L[j]? = some σ) from hj)
  have HLB := (show Hid (∀ y ∈ ls, y < 256) from hlb)
  have HB6 := (show Hid (∀ (X1 Y1 : Nat → Prop) (wr : World) (L1 : List (List Bool)) (vs vn va : Value) (ss : List Value) (m : Nat) (D : DataW Unit), Bst X1 Y1 wr B b mb h n e L1 nn vs vn va ss m D → wr.cell? ⟨b, 6, none⟩ = some (.slice lo ls.length lc)) from fun X1 Y1 wr L1 vs vn va ss m D k1 => by rw [k1.bu.box.c6, hN.vl])
  have HYL := (show Hid (∀ g, Y g → g < W.heap.size) from hYl)
  clear k hN hM hj hlb hYl hfit hE hF R1 hσ
  go_enter Try.func43, Try.ntmps43
  go_wp2_with (go_at_call 58; refine h58.mono ?_; rintro ev w1 ⟨R, rfl, hh1⟩; have HH1 := (show Hid _ from hh1); have c6 := HB6.out _ _ _ _ _ _ _ _ _ _ (HK.out.more (Z := X) hh1.2.2.2.2 (fun _ h => h) (fun _ h => .inl h)); have c62 := ((nf.below_alloc w1 (.cells (icells (List.replicate ls.length 0)) 3)).cell (p := ⟨b, 6, none⟩) (HK.out.more (Z := X) hh1.2.2.2.2 (fun _ h => h) (fun _ h => .inl h)).bu.box.lt).trans c6; clear hh1)
  obtain ⟨sr1, rl, rf, rs, b1⟩ := HH1.out
  have b2 := st.chain b1 (nf.below_alloc w1 (.cells (icells (List.replicate ls.length 0)) 3))
  have HK2 := (show Hid (Bst (fun g => X g ∨ g = W.heap.size ∨ g = w1.heap.size) Y (w1.alloc (.cells (icells (List.replicate ls.length 0)) 3)) B b mb h n e L nn vs vn va ss m D) from HK.out.more b2 (fun _ h => .inl h) (fun g hg => by
    have s1 := b1.size
    have s2 := sr1.lt
    rcases hg with h1 | h1 | h1
    · exact .inl h1
    · exact .inr ⟨by omega, by simp; omega⟩
    · exact .inr ⟨by omega, by simp; omega⟩))
  have HST := (show Hid (Mid X Y (fun g => X g ∨ g = W.heap.size ∨ g = w1.heap.size) x n e E F ls ob oc fb fc lo lc W B b mb h nn L σ R W.heap.size w1.heap.size (w1.heap.size + 1) 0 (w1.alloc (.cells (icells (List.replicate ls.length 0)) 3)) (fun g => X g ∨ g = W.heap.size ∨ g = w1.heap.size) Y L (List.replicate ls.length 0) vs vn va ss m D) from ⟨HK2.out, fun _ h => h, fun _ h => h, fun _ h => .inl h, nf.irow_new w1 _, ⟨by simp, fun c y hc => absurd hc (by omega)⟩, sr1.later (nf.below_alloc _ _), List.prefix_refl _, by omega, HM.out, (Mv.refl X B W).later b2 (fun g hg => (HK.out.bu.ap g hg).1) HK.out.bu.size, HN.out.carry (fun g hg => b2.block g (HYL.out g hg)) (fun _ h => h)⟩)
  have hlt01 := sr1.lt
  have HRL := (show Hid (R.length = n) from rl)
  have HRF := (show Hid (∀ q ∈ R, Fits q) from rf)
  have HRS := (show Hid (∀ c, c < 256 → IsSet n (To x c σ) (sig R c)) from rs)
  have hb1s := b1.size
  clear sr1 rl rf rs b1 b2 c6 HK2 HH1
  obtain ⟨w2, HW2⟩ : ∃ w2, Hid (w2 = w1.alloc (.cells (icells (List.replicate ls.length 0)) 3)) := ⟨_, rfl⟩
  rw [← HW2.out] at HST c62 ⊢
  go_loopw [23] (fun z wr => ∃ (i : Nat) (X1 Y1 : Nat → Prop) (L1 : List (List Bool)) (r : List Int) (vs vn va : Value) (ss : List Value) (m : Nat) (D : DataW Unit), z = .int .i64 i ∧ i ≤ ls.length ∧ Hid (Mid X Y (fun g => X g ∨ g = W.heap.size ∨ g = w1.heap.size) x n e E F ls ob oc fb fc lo lc W B b mb h nn L σ R W.heap.size w1.heap.size (w1.heap.size + 1) i wr X1 Y1 L1 r vs vn va ss m D)) (fun z _ => ls.length - (intOf z).toNat)
  case atStart => exact ⟨0, _, Y, L, _, vs, vn, va, ss, m, D, rfl, by omega, HST⟩
  case round =>
    obtain ⟨i, X1, Y1, L1, r, vs1, vn1, va1, ss1, m1, D1, rfl, hi, HI⟩ := hrel
    clear HST c62 HW2
    by_cases hend : i < ls.length
    · obtain ⟨lb, loff, rfl, _, lcell⟩ := HI.out.nt.lst.lie i hend
      have HLY := (show Hid (ls[i]? = some ls[i]) from List.getElem?_eq_getElem hend)
      have hy := HLB.out ls[i] (List.getElem_mem hend)
      have HSET := (show Hid _ from HRS.out ls[i] hy)
      have h53 := text_sig R HRF.out (by rw [HRL.out]; omega) (by rw [HRL.out]; omega) ls[i] hy b (.slice (some ⟨W.heap.size, 0, none⟩) n n) wr HI.out.st.bu.box.lt (by rw [HI.out.st.bu.box.c0, HI.out.st.hn, HRL.out]) (by have := HI.out.sr.sets (by rw [HRL.out]; omega); rw [HRL.out] at this; exact this)
      have hrl := HI.out.fl.len
      have hL1 : L1.length ≤ 1000 := by have := HI.out.ln; omega
      have HSL := (show Hid ((sig R ls[i]).length = n) from by rw [st.sig_length]; exact HRL.out)
      generalize ls[i] = y at *
      have HSTEP := (show Hid (∀ (w3 w4 : World) (rr : Int) (L' : List (List Bool)) (X' Y' : Nat → Prop) (vs' vn' va' : Value) (ss' : List Value) (m' : Nat) (D' : DataW Unit), Below wr.heap.size wr w3 → Nr n L1 L' (sig R y) rr → (∀ k, X1 k → X' k) → (∀ k, X' k → X1 k ∨ w3.heap.size ≤ k) → (∀ k, Y1 k → Y' k) → (∀ k, Y' k → Y1 k ∨ w3.heap.size ≤ k) → Bst X' Y' w4 B b mb h n e L' nn vs' vn' va' ss' m' D' → Mv X1 B w3 w4 → IRow w4 w1.heap.size r ∧ Mid X Y (fun g => X g ∨ g = W.heap.size ∨ g = w1.heap.size) x n e E F ls ob oc fb fc (some ⟨lb, loff, none⟩) lc W B b mb h nn L σ R W.heap.size w1.heap.size (w1.heap.size + 1) (i + 1) (w4.setCell ⟨w1.heap.size, i, none⟩ (.int .i64 rr)) X' Y' L' (r.set i rr) vs' vn' va' ss' m' D') from by
        intro w3 w4 rr L' X' Y' vs' vn' va' ss' m' D' b3 hnr a1 a2 a3 a4 k' m4
        have M := HI.out
        have hg1 : X1 w1.heap.size := M.zx _ (.inr (.inr rfl))
        have hg0 : X1 W.heap.size := M.zx _ (.inr (.inl rfl))
        have s1 := M.ir.lt
        have s0 := M.sr.lt
        have sb := b3.size
        have hny : ¬ Y w1.heap.size := fun hh => by have := HYL.out _ hh; omega
        have hn1y : ¬ Y1 w1.heap.size := fun hh => (M.y1 _ hh).elim hny (fun h => by omega)
        have hnY : ¬ Y' w1.heap.size := fun hh => (a4 _ hh).elim hn1y (fun h => by omega)
        have hnum := k'.bu.size
        have hir : IRow w4 w1.heap.size r := (M.ir.later b3).keep (m4.kp.2 _ hg1)
        have hsr : SRow w4 W.heap.size R := (M.sr.later b3).keep (m4.kp.2 _ hg0)
        have hX1 : ∀ g, X g → X1 g := fun g hg => M.zx g (.inl hg)
        have hYX : ∀ g, Y g → X g := HK.out.yx
        have hnw : w1.heap.size + 1 ≤ wr.heap.size := s1
        refine ⟨hir, k'.set (a1 _ hg1) hnY i _, fun g hg => a1 g (M.zx g hg), fun g hg => a3 g (M.yy g hg), fun g hg => ?_, hir.put i rr, M.fl.put HLY.out HSET.out hnr, ?_, M.pr.trans hnr.pre, ?_, ?_, ?_, ?_⟩
        · rcases a4 g hg with h1 | h1
          · exact M.y1 g h1
          · exact .inr (by omega)
        · exact (Below.heap_setCell _ _ _ _ (show W.heap.size ≠ w1.heap.size by omega)).trans hsr
        · have := hnr.len; have := M.ln; omega
        · exact hnr.nums M.nm HSL.out (get_pre M.pr HJ.out) hy HSET.out
        · exact ((M.mv.later b3 (fun g hg => (M.st.bu.ap g (hX1 g hg)).1) M.st.bu.size).trans (m4.less hX1)).set (g := w1.heap.size) (fun g hg e => by have := (HK.out.bu.ap g hg).1; omega) (by have := HK.out.bu.size; omega) i _
        · refine ((M.nt.carry (fun g hg => b3.block g (M.st.bu.ap g (hX1 g (hYX g hg))).1) (fun _ h => h)).carry (fun g hg => m4.kp.2 g (hX1 g (hYX g hg))) (fun _ h => h)).carry (fun g hg => Below.heap_setCell _ _ _ _ (fun e : g = w1.heap.size => hny (e ▸ hg))) (fun _ h => h))
      have HNUM := (show Hid (∀ w3 : World, Below wr.heap.size wr w3 → NumIs X1 Y1 w3 B b mb h n e L1 nn (sig R y)) from fun w3 b3 => number_any (HI.out.st.more (Z := X1) b3 (fun _ h => h) (fun _ h => .inl h)) (sig R y) HSL.out (by omega))
      generalize sig R y = τ at *
      clear HLY HSET HSL HRS HRF HLB
      go_wp2_with (first | (go_at_call 53; refine h53.mono ?_; rintro ev w3 ⟨rfl, b3⟩; have hnum := HNUM.out w3 b3; unfold NumIs at hnum) | (go_at_call 57; refine hnum.mono ?_; rintro ev w4 ⟨rr, L', X', Y', vs', vn', va', ss', m', D', rfl, hnr, a1, a2, a3, a4, k', m4⟩; obtain ⟨i4, M4⟩ := HSTEP.out w3 w4 rr L' X' Y' vs' vn' va' ss' m' D' b3 hnr a1 a2 a3 a4 k' m4; have q1 := i4.cell i (by omega); have q2 := i4.fz i; have HM4 := (show Hid _ from M4); clear M4 hnr a1 a2 a3 a4 k' m4 i4))
      go_roundw
      case rel => exact ⟨i + 1, X', Y', L', r.set i rr, vs', vn', va', ss', m', D', by go_num, by omega, HM4⟩
      case measure => simp [intOf]; omega
    · have he : i = ls.length := by omega
      subst he
      have HRES := (show Hid (W.heap.size ≤ w1.heap.size ∧ IRow wr w1.heap.size r ∧ RowOf x n ls L1 σ r ∧ L <+: L1 ∧ L1.length ≤ L.length + ls.length ∧ Nums x n L1 ∧ (∀ k, X k → X1 k) ∧ (∀ k, Y k → Y1 k) ∧ X1 w1.heap.size ∧ ¬ Y1 w1.heap.size ∧ Bst X1 Y1 wr B b mb h n e L1 nn vs1 vn1 va1 ss1 m1 D1 ∧ Mv X B W wr) from by
        have M := HI.out
        refine ⟨hb1s, M.ir, M.fl.done, M.pr, M.ln, M.nm, fun g hg => M.zx g (.inl hg), M.yy, M.zx _ (.inr (.inr rfl)), fun hh => ?_, M.st, M.mv⟩
        rcases M.y1 _ hh with h1 | h1
        · have := HYL.out _ h1; omega
        · omega)
      clear HI HRS HRF HLB
      go_wp2_with (fail)
      go_ret
      exact ⟨w1.heap.size, r, L1, X1, Y1, vs1, vn1, va1, ss1, m1, D1, rfl, HRES.out⟩
end Go.Proofs.Ythknhbmibmndoaa.bd
