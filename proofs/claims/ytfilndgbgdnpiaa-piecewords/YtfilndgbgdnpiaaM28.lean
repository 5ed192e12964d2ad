/-
  Texts put together: Contracts over this program: the number of any set (builder.number), the row of a set (builder.row). Contracts over this program: the row of a set (builder.row). Contracts over this program: the first set is numbered (builder.begin).
-/
import Derived.Test.YtfilndgbgdnpiaaKBk
namespace Go.Proofs.Ytfilndgbgdnpiaa.bd
open Go.Sort Go.ChangeShapes Go.WideShapes Go.ChangeAt Go.RowKit Go.Maps
open df (Kp Row iv In IntsV Owns)
open nf (Nfa Ed Rt IRow)
open st (Q4 none4 Fits has nth jn sig)
set_option linter.unusedVariables false
set_option maxRecDepth 10000

/-- a set's number, among those that are numbered then -/
def Nr (n : Nat) (L L' : List (List Bool)) (σ : List Bool) (r : Int) : Prop := (r = -1 ∧ σ = off n ∧ L' = L) ∨ ∃ k : Nat, r = (k : Int) ∧ L'[k]? = some σ ∧ (L' = L ∨ (L' = L ++ [σ] ∧ σ ≠ off n ∧ σ ∉ L))
def NumIs (X Y : Nat → Prop) (W : World) (B b mb : Nat) (h : Hd) (n e : Nat) (L : List (List Bool)) (nn : List Value) (σ : List Bool) : Prop := Calls Try.prog 64 #[.pointer (some ⟨b, 0, none⟩), .string (txtB σ)] W fun ev W' => ∃ r L' X' Y' vs vn va ss m D, ev = .returned (.int .i64 r) ∧ Nr n L L' σ r ∧ (∀ k, X k → X' k) ∧ (∀ k, X' k → X k ∨ W.heap.size ≤ k) ∧ (∀ k, Y k → Y' k) ∧ (∀ k, Y' k → Y k ∨ W.heap.size ≤ k) ∧ Bst X' Y' W' B b mb h n e L' nn vs vn va ss m D ∧ Mv X B W W'
theorem number_any {X Y : Nat → Prop} {W : World} {B b mb : Nat} {h : Hd} {n e : Nat} {L : List (List Bool)} {nn : List Value} {vs vn va : Value} {ss : List Value} {m : Nat} {D : DataW Unit} (k : Bst X Y W B b mb h n e L nn vs vn va ss m D) (σ : List Bool) (hs : σ.length = n) (hL : L.length ≤ 500000) : NumIs X Y W B b mb h n e L nn σ := by
  by_cases h1 : σ = off n
  · refine (number_old k σ hs (-1) (.inl ⟨h1, rfl⟩)).mono ?_
    rintro ev W' ⟨rfl, rfl⟩
    exact ⟨-1, L, X, Y, vs, vn, va, ss, m, D, rfl, .inl ⟨rfl, h1, rfl⟩, fun _ h => h, fun _ h => .inl h, fun _ h => h, fun _ h => .inl h, k, Mv.refl _ _ _⟩
  · by_cases h2 : σ ∈ L
    · obtain ⟨i, hi⟩ := List.getElem?_of_mem h2
      refine (number_old k σ hs (i : Int) (.inr ⟨i, hi, rfl⟩)).mono ?_
      rintro ev W' ⟨rfl, rfl⟩
      exact ⟨i, L, X, Y, vs, vn, va, ss, m, D, rfl, .inr ⟨i, rfl, hi, .inl rfl⟩, fun _ h => h, fun _ h => .inl h, fun _ h => h, fun _ h => .inl h, k, Mv.refl _ _ _⟩
    · refine (number_new k σ hs h1 h2 hL).mono ?_
      rintro ev W' ⟨rfl, X', Y', vs', vn', va', ss', m', D', a1, a2, a3, a4, k', m1⟩
      exact ⟨L.length, L ++ [σ], X', Y', vs', vn', va', ss', m', D', rfl, .inr ⟨L.length, rfl, by simp, .inr ⟨rfl, h1, h2⟩⟩, a1, a2, a3, a4, k', m1⟩
theorem Nr.pre {n : Nat} {L L' : List (List Bool)} {σ : List Bool} {r : Int} (h : Nr n L L' σ r) : L <+: L' := by
  rcases h with ⟨_, _, rfl⟩ | ⟨k, _, _, rfl | ⟨rfl, _⟩⟩
  · exact List.prefix_refl _
  · exact List.prefix_refl _
  · exact List.prefix_append _ _
theorem Nr.len {n : Nat} {L L' : List (List Bool)} {σ : List Bool} {r : Int} (h : Nr n L L' σ r) : L'.length ≤ L.length + 1 := by
  rcases h with ⟨_, _, rfl⟩ | ⟨k, _, _, rfl | ⟨rfl, _⟩⟩
  · omega
  · omega
  · simp
/-- what stays so of the numbered sets -/
theorem Nr.nums {x : Nfa} {n : Nat} {L L' : List (List Bool)} {σ ρ : List Bool} {r : Int} (h : Nr n L L' σ r) (k : Nums x n L) (hs : σ.length = n) {j c : Nat} (hj : L[j]? = some ρ) (hc : c < 256) (hρ : IsSet n (To x c ρ) σ) : Nums x n L' := by
  rcases h with ⟨_, _, rfl⟩ | ⟨i, _, _, rfl | ⟨rfl, h1, h2⟩⟩
  · exact k
  · exact k
  · refine ⟨fun τ hτ => ?_, ?_, fun τ hτ => ?_, ?_, fun i τ hi => ?_⟩
    · rcases List.mem_append.1 hτ with h | h
      · exact k.len τ h
      · rw [List.mem_singleton.1 h]; exact hs
    · rw [List.nodup_append]
      refine ⟨k.nd, by simp, fun a ha b hb e => h2 ?_⟩
      rw [← List.mem_singleton.1 hb, ← e]; exact ha
    · rcases List.mem_append.1 hτ with h | h
      · exact k.ne τ h
      · rw [List.mem_singleton.1 h]; exact h1
    · obtain ⟨τ, a, b⟩ := k.first
      exact ⟨τ, get_pre (List.prefix_append _ _) a, b⟩
    · by_cases hl : i + 1 < L.length
      · rw [List.getElem?_append_left hl] at hi
        obtain ⟨j', c', ρ', a1, a2, a3, a4⟩ := k.par i τ hi
        exact ⟨j', c', ρ', a1, a2, get_pre (List.prefix_append _ _) a3, a4⟩
      · have hlt := (List.getElem?_eq_some_iff.1 hi).1
        simp at hlt
        have e : i + 1 = L.length := by omega
        rw [e, List.getElem?_append_right (Nat.le_refl _)] at hi
        simp at hi
        subst hi
        have := (List.getElem?_eq_some_iff.1 hj).1
        exact ⟨j, c, ρ, by omega, hc, get_pre (List.prefix_append _ _) hj, hρ⟩
/-- what stays of the builder's rows -/
structure Net (X : Nat → Prop) (W : World) (h : Hd) (n : Nat) (E : Nat → List Ed) (F : Nat → List Int) (ls : List Nat) (ob oc fb fc : Nat) (lo : Option Addr) (lc : Nat) : Prop where
  vo : h.vo = .slice (some ⟨ob, 0, none⟩) n oc
  ovr : Ovr X W ob oc n E
  vf : h.vf = .slice (some ⟨fb, 0, none⟩) n fc
  fre : Fre X W fb fc n F
  vl : h.vl = .slice lo ls.length lc
  lst : Row X W (fun y : Nat => Value.int .u8 (y : Int)) lo lc ls
theorem Net.carry {X Y : Nat → Prop} {W W' : World} {h : Hd} {n : Nat} {E : Nat → List Ed} {F : Nat → List Int} {ls : List Nat} {ob oc fb fc : Nat} {lo : Option Addr} {lc : Nat} (k : Net X W h n E F ls ob oc fb fc lo lc) (hk : ∀ b, X b → W'.heap[b]? = W.heap[b]?) (hq : ∀ b, X b → Y b) : Net Y W' h n E F ls ob oc fb fc lo lc :=
  ⟨k.vo, k.ovr.carry hk hq, k.vf, k.fre.carry hk hq, k.vl, k.lst.carry hk hq⟩
theorem text_sig (l : List Q4) (hf : ∀ q ∈ l, Fits q) (hlen : l.length ≤ 1000000) (hpos : 1 ≤ l.length) (c : Nat) (hc : c < 256) : TextIs l c (txtB (sig l c)) := text_any l hf hlen hpos c hc _ (by rw [key_txt])
/-- a row that is being filled -/
structure Fil (x : Nfa) (n : Nat) (ls : List Nat) (L : List (List Bool)) (σ : List Bool) (i : Nat) (r : List Int) : Prop where
  len : r.length = ls.length
  at' : ∀ (c : Nat) y, c < i → ls[c]? = some y → ∃ τ, IsSet n (To x y σ) τ ∧ (r[c]? = some (-1) ∧ τ = off n ∨ ∃ k : Nat, r[c]? = some (k : Int) ∧ L[k]? = some τ)
theorem Fil.put {x : Nfa} {n : Nat} {ls : List Nat} {L L' : List (List Bool)} {σ τ : List Bool} {i y : Nat} {r : List Int} {v : Int} (h : Fil x n ls L σ i r) (hy : ls[i]? = some y) (ht : IsSet n (To x y σ) τ) (hn : Nr n L L' τ v) : Fil x n ls L' σ (i + 1) (r.set i v) := by
  have hi := (List.getElem?_eq_some_iff.1 hy).1
  have hil : i < r.length := by rw [h.len]; exact hi
  refine ⟨by rw [List.length_set]; exact h.len, fun c z hc hz => ?_⟩
  by_cases e : c = i
  · subst e
    rw [hy] at hz
    cases hz
    refine ⟨τ, ht, ?_⟩
    rw [List.getElem?_set_self hil]
    rcases hn with ⟨rfl, a, _⟩ | ⟨k, rfl, a, _⟩
    · exact .inl ⟨rfl, a⟩
    · exact .inr ⟨k, rfl, a⟩
  · obtain ⟨ρ, h1, h2⟩ := h.at' c z (by omega) hz
    refine ⟨ρ, h1, ?_⟩
    rw [List.getElem?_set_ne (fun e2 => e e2.symm)]
    rcases h2 with a | ⟨k, a, b⟩
    · exact .inl a
    · exact .inr ⟨k, a, get_pre hn.pre b⟩
theorem Fil.done {x : Nfa} {n : Nat} {ls : List Nat} {L : List (List Bool)} {σ : List Bool} {r : List Int} (h : Fil x n ls L σ ls.length r) : RowOf x n ls L σ r := ⟨h.len, fun c y hc => h.at' c y (List.getElem?_eq_some_iff.1 hc).1 hc⟩
/-- a cell of a block of the rest is set -/
theorem Bst.set {X Y : Nat → Prop} {W : World} {B b mb : Nat} {h : Hd} {n e : Nat} {L : List (List Bool)} {nn : List Value} {vs vn va : Value} {ss : List Value} {m : Nat} {D : DataW Unit} (k : Bst X Y W B b mb h n e L nn vs vn va ss m D) {g : Nat} (hX : X g) (hY : ¬ Y g) (i : Nat) (v : Value) : Bst X Y (W.setCell ⟨g, i, none⟩ v) B b mb h n e L nn vs vn va ss m D := by
  have hh : ∀ j, j ≠ g → (W.setCell ⟨g, i, none⟩ v).heap[j]? = W.heap[j]? := fun j hj => Below.heap_setCell _ _ _ j hj
  obtain ⟨a1, a2, a3, a4, a5, a6⟩ := k.bu.ap g hX
  exact ⟨k.bu.keep (by simp) (hh b (Ne.symm a2)) (hh mb (Ne.symm a3)) (fun j e => hh j (fun e2 => a4 (by rw [← e2]; exact e.symm))) (fun j e => hh j (fun e2 => a5 (by rw [← e2]; exact e.symm))) (fun j e => hh j (fun e2 => a6 (by rw [← e2]; exact e.symm))), k.rs.carry (fun j hj => hh j (fun e => hY (e ▸ hj))) (fun _ h => h), k.yx, k.mp, k.m1, k.hn, k.he, k.en, k.n2, k.ln⟩
theorem Bst.more {X Y Z : Nat → Prop} {W W' : World} {B b mb : Nat} {h : Hd} {n e : Nat} {L : List (List Bool)} {nn : List Value} {vs vn va : Value} {ss : List Value} {m : Nat} {D : DataW Unit} (k : Bst X Y W B b mb h n e L nn vs vn va ss m D) (c : Below W.heap.size W W') (hx : ∀ g, X g → Z g) (hz : ∀ g, Z g → X g ∨ (W.heap.size ≤ g ∧ g < W'.heap.size)) : Bst Z Y W' B b mb h n e L nn vs vn va ss m D :=
  ⟨k.bu.more c hz, k.rs.carry (fun j hj => c.block j (k.bu.ap j (k.yx j hj)).1) (fun _ h => h), fun j hj => hx j (k.yx j hj), k.mp, k.m1, k.hn, k.he, k.en, k.n2, k.ln⟩
end Go.Proofs.Ytfilndgbgdnpiaa.bd

namespace Go.Proofs.Ytfilndgbgdnpiaa.bd
open Go.Sort Go.ChangeShapes Go.WideShapes Go.ChangeAt Go.RowKit Go.Maps
open df (Kp Row iv In IntsV Owns)
open nf (Nfa Ed Rt IRow icells)
open st (Q4 none4 Fits has nth jn sig)
set_option linter.unusedVariables false
set_option maxRecDepth 10000

structure Mid (X Y Z : Nat → Prop) (x : Nfa) (n e : Nat) (E : Nat → List Ed) (F : Nat → List Int) (ls : List Nat) (ob oc fb fc : Nat) (lo : Option Addr) (lc : Nat) (W : World) (B b mb : Nat) (h : Hd) (nn : List Value) (L : List (List Bool)) (σ : List Bool) (R : List Q4) (g0 g1 N : Nat) (i : Nat) (wr : World) (X1 Y1 : Nat → Prop) (L1 : List (List Bool)) (r : List Int) (vs vn va : Value) (ss : List Value) (m : Nat) (D : DataW Unit) : Prop where
  st : Bst X1 Y1 wr B b mb h n e L1 nn vs vn va ss m D
  zx : ∀ g, Z g → X1 g
  yy : ∀ g, Y g → Y1 g
  y1 : ∀ g, Y1 g → Y g ∨ N ≤ g
  ir : IRow wr g1 r
  fl : Fil x n ls L1 σ i r
  sr : SRow wr g0 R
  pr : L <+: L1
  ln : L1.length ≤ L.length + i
  nm : Nums x n L1
  mv : Mv X B W wr
  nt : Net Y wr h n E F ls ob oc fb fc lo lc
def RowIs (X Y : Nat → Prop) (W : World) (x : Nfa) (n e : Nat) (ls : List Nat) (B b mb : Nat) (h : Hd) (nn : List Value) (L : List (List Bool)) (σ : List Bool) (v : Value) : Prop := Calls Try.prog 40 #[.pointer (some ⟨b, 0, none⟩), v] W fun ev W' => ∃ g r L' X' Y' vs vn va ss m D, ev = .returned (.slice (some ⟨g, 0, none⟩) ls.length ls.length) ∧ W.heap.size ≤ g ∧ IRow W' g r ∧ RowOf x n ls L' σ r ∧ L <+: L' ∧ L'.length ≤ L.length + ls.length ∧ Nums x n L' ∧ (∀ k, X k → X' k) ∧ (∀ k, Y k → Y' k) ∧ X' g ∧ ¬ Y' g ∧ Bst X' Y' W' B b mb h n e L' nn vs vn va ss m D ∧ Mv X B W W'
set_option maxHeartbeats 4000000 in
set_option maxRecDepth 100000 in
theorem row_any {X Y : Nat → Prop} {W : World} {x : Nfa} {n e : Nat} (R1 : Rt x n) (hfit : ∀ e ∈ x.edges, nf.Fits e) {E : Nat → List Ed} (hE : Edg x n E) {F : Nat → List Int} (hF : Tgt x n F) {ls : List Nat} (hl2 : ls.length ≤ 256) (hlb : ∀ y ∈ ls, y < 256) {ob oc fb fc : Nat} {lo : Option Addr} {lc B b mb : Nat} {h : Hd} {nn : List Value} {L : List (List Bool)} {vs vn va : Value} {ss : List Value} {m : Nat} {D : DataW Unit} (k : Bst X Y W B b mb h n e L nn vs vn va ss m D) (hN : Net Y W h n E F ls ob oc fb fc lo lc) (hM : Nums x n L) (hLl : L.length ≤ 400) {σ : List Bool} {j : Nat} (hj : L[j]? = some σ) {v : Value} (hv : RowV Y W v (onTo σ σ.length)) : RowIs X Y W x n e ls B b mb h nn L σ v := by
  have hσ : σ.length = n := k.ln σ (List.mem_of_getElem? hj)
  have hYl : ∀ g, Y g → g < W.heap.size := fun g hg => (k.bu.ap g (k.yx g hg)).1
  have hn1 := R1.n1
  have hn2 := R1.n2
  have h58 := step_any x n R1 hfit E hE F hF σ hσ (fun g => g < W.heap.size) W b ob oc fb fc v (hN.ovr.carry (fun _ _ => rfl) hYl) (hN.fre.carry (fun _ _ => rfl) hYl) (by rw [k.bu.box.c0, k.hn]) (by rw [k.bu.box.c4, hN.vo]) (by rw [k.bu.box.c5, hN.vf]) k.bu.box.lt (fun _ h => h) (hv.carry (fun _ _ => rfl) hYl)
  obtain ⟨vo, vc, rfl, _⟩ := hv
  have mk := nf.make39 ls.length (by omega)
  have lfit := hN.lst.fit
  have ltop := hN.lst.top
  have HK := (show Hid (Bst X Y W B b mb h n e L nn vs vn va ss m D) from k)
  have HN := (show Hid (Net Y W h n E F ls ob oc fb fc lo lc) from hN)
  have HM := (show Hid (Nums x n L) from hM)
  have HJ := (show Hid (L[j]? = some σ) from hj)
  have HLB := (show Hid (∀ y ∈ ls, y < 256) from hlb)
  have HB6 := (show Hid (∀ (X1 Y1 : Nat → Prop) (wr : World) (L1 : List (List Bool)) (vs vn va : Value) (ss : List Value) (m : Nat) (D : DataW Unit), Bst X1 Y1 wr B b mb h n e L1 nn vs vn va ss m D → wr.cell? ⟨b, 6, none⟩ = some (.slice lo ls.length lc)) from fun X1 Y1 wr L1 vs vn va ss m D k1 => by rw [k1.bu.box.c6, hN.vl])
  have HYL := (show Hid (∀ g, Y g → g < W.heap.size) from hYl)
  clear k hN hM hj hlb hYl hfit hE hF R1 hσ
  go_enter Try.func40, Try.ntmps40
  go_wp2_with (go_at_call 65; refine h58.mono ?_; rintro ev w1 ⟨R, rfl, hh1⟩; have HH1 := (show Hid _ from hh1); have c6 := HB6.out _ _ _ _ _ _ _ _ _ _ (HK.out.more (Z := X) hh1.2.2.2.2 (fun _ h => h) (fun _ h => .inl h)); have c62 := ((nf.below_alloc w1 (.cells (icells (List.replicate ls.length 0)) 3)).cell (p := ⟨b, 6, none⟩) (HK.out.more (Z := X) hh1.2.2.2.2 (fun _ h => h) (fun _ h => .inl h)).bu.box.lt).trans c6; clear hh1)
  obtain ⟨sr1, rl, rf, rs, b1⟩ := HH1.out
  have b2 := st.chain b1 (nf.below_alloc w1 (.cells (icells (List.replicate ls.length 0)) 3))
  have HK2 := (show Hid (Bst (fun g => X g ∨ g = W.heap.size ∨ g = w1.heap.size) Y (w1.alloc (.cells (icells (List.replicate ls.length 0)) 3)) B b mb h n e L nn vs vn va ss m D) from HK.out.more b2 (fun _ h => .inl h) (fun g hg => by
    have s1 := b1.size
    have s2 := sr1.lt
    rcases hg with h1 | h1 | h1
    · exact .inl h1
    · exact .inr ⟨by omega, by simp; omega⟩
    · exact .inr ⟨by omega, by simp; omega⟩))
  have HST := (show Hid (Mid X Y (fun g => X g ∨ g = W.heap.size ∨ g = w1.heap.size) x n e E F ls ob oc fb fc lo lc W B b mb h nn L σ R W.heap.size w1.heap.size (w1.heap.size + 1) 0 (w1.alloc (.cells (icells (List.replicate ls.length 0)) 3)) (fun g => X g ∨ g = W.heap.size ∨ g = w1.heap.size) Y L (List.replicate ls.length 0) vs vn va ss m D) from ⟨HK2.out, fun _ h => h, fun _ h => h, fun _ h => .inl h, nf.irow_new w1 _, ⟨by simp, fun c y hc => absurd hc (by omega)⟩, sr1.later (nf.below_alloc _ _), List.prefix_refl _, by omega, HM.out, (Mv.refl X B W).later b2 (fun g hg => (HK.out.bu.ap g hg).1) HK.out.bu.size, HN.out.carry (fun g hg => b2.block g (HYL.out g hg)) (fun _ h => h)⟩)
  have hlt01 := sr1.lt
  have HRL := (show Hid (R.length = n) from rl)
  have HRF := (show Hid (∀ q ∈ R, Fits q) from rf)
  have HRS := (show Hid (∀ c, c < 256 → IsSet n (To x c σ) (sig R c)) from rs)
  have hb1s := b1.size
  clear sr1 rl rf rs b1 b2 c6 HK2 HH1
  obtain ⟨w2, HW2⟩ : ∃ w2, Hid (w2 = w1.alloc (.cells (icells (List.replicate ls.length 0)) 3)) := ⟨_, rfl⟩
  rw [← HW2.out] at HST c62 ⊢
  go_loopw [23] (fun z wr => ∃ (i : Nat) (X1 Y1 : Nat → Prop) (L1 : List (List Bool)) (r : List Int) (vs vn va : Value) (ss : List Value) (m : Nat) (D : DataW Unit), z = .int .i64 i ∧ i ≤ ls.length ∧ Hid (Mid X Y (fun g => X g ∨ g = W.heap.size ∨ g = w1.heap.size) x n e E F ls ob oc fb fc lo lc W B b mb h nn L σ R W.heap.size w1.heap.size (w1.heap.size + 1) i wr X1 Y1 L1 r vs vn va ss m D)) (fun z _ => ls.length - (intOf z).toNat)
  case atStart => exact ⟨0, _, Y, L, _, vs, vn, va, ss, m, D, rfl, by omega, HST⟩
  case round =>
    obtain ⟨i, X1, Y1, L1, r, vs1, vn1, va1, ss1, m1, D1, rfl, hi, HI⟩ := hrel
    clear HST c62 HW2
    by_cases hend : i < ls.length
    · obtain ⟨lb, loff, rfl, _, lcell⟩ := HI.out.nt.lst.lie i hend
      have HLY := (show Hid (ls[i]? = some ls[i]) from List.getElem?_eq_getElem hend)
      have hy := HLB.out ls[i] (List.getElem_mem hend)
      have HSET := (show Hid _ from HRS.out ls[i] hy)
      have h53 := text_sig R HRF.out (by rw [HRL.out]; omega) (by rw [HRL.out]; omega) ls[i] hy b (.slice (some ⟨W.heap.size, 0, none⟩) n n) wr HI.out.st.bu.box.lt (by rw [HI.out.st.bu.box.c0, HI.out.st.hn, HRL.out]) (by have := HI.out.sr.sets (by rw [HRL.out]; omega); rw [HRL.out] at this; exact this)
      have hrl := HI.out.fl.len
      have hL1 : L1.length ≤ 1000 := by have := HI.out.ln; omega
      have HSL := (show Hid ((sig R ls[i]).length = n) from by rw [st.sig_length]; exact HRL.out)
      generalize ls[i] = y at *
      have HSTEP := (show Hid (∀ (w3 w4 : World) (rr : Int) (L' : List (List Bool)) (X' Y' : Nat → Prop) (vs' vn' va' : Value) (ss' : List Value) (m' : Nat) (D' : DataW Unit), Below wr.heap.size wr w3 → Nr n L1 L' (sig R y) rr → (∀ k, X1 k → X' k) → (∀ k, X' k → X1 k ∨ w3.heap.size ≤ k) → (∀ k, Y1 k → Y' k) → (∀ k, Y' k → Y1 k ∨ w3.heap.size ≤ k) → Bst X' Y' w4 B b mb h n e L' nn vs' vn' va' ss' m' D' → Mv X1 B w3 w4 → IRow w4 w1.heap.size r ∧ Mid X Y (fun g => X g ∨ g = W.heap.size ∨ g = w1.heap.size) x n e E F ls ob oc fb fc (some ⟨lb, loff, none⟩) lc W B b mb h nn L σ R W.heap.size w1.heap.size (w1.heap.size + 1) (i + 1) (w4.setCell ⟨w1.heap.size, i, none⟩ (.int .i64 rr)) X' Y' L' (r.set i rr) vs' vn' va' ss' m' D') from by
        intro w3 w4 rr L' X' Y' vs' vn' va' ss' m' D' b3 hnr a1 a2 a3 a4 k' m4
        have M := HI.out
        have hg1 : X1 w1.heap.size := M.zx _ (.inr (.inr rfl))
        have hg0 : X1 W.heap.size := M.zx _ (.inr (.inl rfl))
        have s1 := M.ir.lt
        have s0 := M.sr.lt
        have sb := b3.size
        have hny : ¬ Y w1.heap.size := fun hh => by have := HYL.out _ hh; omega
        have hn1y : ¬ Y1 w1.heap.size := fun hh => (M.y1 _ hh).elim hny (fun h => by omega)
        have hnY : ¬ Y' w1.heap.size := fun hh => (a4 _ hh).elim hn1y (fun h => by omega)
        have hnum := k'.bu.size
        have hir : IRow w4 w1.heap.size r := (M.ir.later b3).keep (m4.kp.2 _ hg1)
        have hsr : SRow w4 W.heap.size R := (M.sr.later b3).keep (m4.kp.2 _ hg0)
        have hX1 : ∀ g, X g → X1 g := fun g hg => M.zx g (.inl hg)
        have hYX : ∀ g, Y g → X g := HK.out.yx
        have hnw : w1.heap.size + 1 ≤ wr.heap.size := s1
        refine ⟨hir, k'.set (a1 _ hg1) hnY i _, fun g hg => a1 g (M.zx g hg), fun g hg => a3 g (M.yy g hg), fun g hg => ?_, hir.put i rr, M.fl.put HLY.out HSET.out hnr, ?_, M.pr.trans hnr.pre, ?_, ?_, ?_, ?_⟩
        · rcases a4 g hg with h1 | h1
          · exact M.y1 g h1
          · exact .inr (by omega)
        · exact (Below.heap_setCell _ _ _ _ (show W.heap.size ≠ w1.heap.size by omega)).trans hsr
        · have := hnr.len; have := M.ln; omega
        · exact hnr.nums M.nm HSL.out (get_pre M.pr HJ.out) hy HSET.out
        · exact ((M.mv.later b3 (fun g hg => (M.st.bu.ap g (hX1 g hg)).1) M.st.bu.size).trans (m4.less hX1)).set (g := w1.heap.size) (fun g hg e => by have := (HK.out.bu.ap g hg).1; omega) (by have := HK.out.bu.size; omega) i _
        · refine ((M.nt.carry (fun g hg => b3.block g (M.st.bu.ap g (hX1 g (hYX g hg))).1) (fun _ h => h)).carry (fun g hg => m4.kp.2 g (hX1 g (hYX g hg))) (fun _ h => h)).carry (fun g hg => Below.heap_setCell _ _ _ _ (fun e : g = w1.heap.size => hny (e ▸ hg))) (fun _ h => h))
      have HNUM := (show Hid (∀ w3 : World, Below wr.heap.size wr w3 → NumIs X1 Y1 w3 B b mb h n e L1 nn (sig R y)) from fun w3 b3 => number_any (HI.out.st.more (Z := X1) b3 (fun _ h => h) (fun _ h => .inl h)) (sig R y) HSL.out (by omega))
      generalize sig R y = τ at *
      clear HLY HSET HSL HRS HRF HLB
      go_wp2_with (first | (go_at_call 59; refine h53.mono ?_; rintro ev w3 ⟨rfl, b3⟩; have hnum := HNUM.out w3 b3; unfold NumIs at hnum) | (go_at_call 64; refine hnum.mono ?_; rintro ev w4 ⟨rr, L', X', Y', vs', vn', va', ss', m', D', rfl, hnr, a1, a2, a3, a4, k', m4⟩; obtain ⟨i4, M4⟩ := HSTEP.out w3 w4 rr L' X' Y' vs' vn' va' ss' m' D' b3 hnr a1 a2 a3 a4 k' m4; have q1 := i4.cell i (by omega); have q2 := i4.fz i; have HM4 := (show Hid _ from M4); clear M4 hnr a1 a2 a3 a4 k' m4 i4))
      go_roundw
      case rel => exact ⟨i + 1, X', Y', L', r.set i rr, vs', vn', va', ss', m', D', by go_num, by omega, HM4⟩
      case measure => simp [intOf]; omega
    · have he : i = ls.length := by omega
      subst he
      have HRES := (show Hid (W.heap.size ≤ w1.heap.size ∧ IRow wr w1.heap.size r ∧ RowOf x n ls L1 σ r ∧ L <+: L1 ∧ L1.length ≤ L.length + ls.length ∧ Nums x n L1 ∧ (∀ k, X k → X1 k) ∧ (∀ k, Y k → Y1 k) ∧ X1 w1.heap.size ∧ ¬ Y1 w1.heap.size ∧ Bst X1 Y1 wr B b mb h n e L1 nn vs1 vn1 va1 ss1 m1 D1 ∧ Mv X B W wr) from by
        have M := HI.out
        refine ⟨hb1s, M.ir, M.fl.done, M.pr, M.ln, M.nm, fun g hg => M.zx g (.inl hg), M.yy, M.zx _ (.inr (.inr rfl)), fun hh => ?_, M.st, M.mv⟩
        rcases M.y1 _ hh with h1 | h1
        · have := HYL.out _ h1; omega
        · omega)
      clear HI HRS HRF HLB
      go_wp2_with (fail)
      go_ret
      exact ⟨w1.heap.size, r, L1, X1, Y1, vs1, vn1, va1, ss1, m1, D1, rfl, HRES.out⟩
end Go.Proofs.Ytfilndgbgdnpiaa.bd

namespace Go.Proofs.Ytfilndgbgdnpiaa.bd
open Go.Sort Go.ChangeShapes Go.WideShapes Go.ChangeAt Go.RowKit Go.Maps
open df (Kp Row iv In IntsV Owns)
open nf (Nfa Ed Rt IRow icells Eds nfaV)
open st (Q4 none4 Fits has nth jn sig Blk)
set_option linter.unusedVariables false
set_option maxRecDepth 10000

theorem f24_1 (b : Nat) (w : World) : (Instr.fieldAt 31 (.pointer (some ⟨b, 0, none⟩)) 1).run Try.prog w = .ok (.pointer (some ⟨b, 1, none⟩)) w := by go_simp
section
variable {o : Oper} {a : Act} {w : World}
theorem x_load24 {x : Operand} {b : Nat} {n s e : Int} {eo : Option Addr} {em ec : Nat} (h : o.op = .load 31 x) (hx : a.eval x = .pointer (some ⟨b, 0, none⟩)) (h0 : w.cell? ⟨b, 0, none⟩ = some (.int .i64 n)) (h1 : w.cell? ⟨b, 1, none⟩ = some (.int .i64 s)) (h2 : w.cell? ⟨b, 2, none⟩ = some (.int .i64 e)) (h3 : w.cell? ⟨b, 3, none⟩ = some (.slice eo em ec)) :
    (execOp a.eval o).run Try.prog w = .ok (.value (nfaV n s e eo em ec)) w := by
  have hr : w.rangeAt b 0 [.int .i64 n, .int .i64 s, .int .i64 e, .slice eo em ec] := by
    intro j v hv
    match j, hv with
    | 0, hv => simp at hv; subst hv; exact h0
    | 1, hv => simp at hv; subst hv; exact h1
    | 2, hv => simp at hv; subst hv; exact h2
    | 3, hv => simp at hv; subst hv; exact h3
    | j + 4, hv => simp at hv
  unfold execOp; rw [h]
  simp only [hx, Sem.run_bind, run_loadAt_mid (P := Try.prog) w b 0 31 _ _ hr Try.underlying31 rfl (by kernel_rfl), Result.andThen_ok, Sem.run_pure]
theorem x_build25 {x : Operand} {r : Int} (h : o.op = .buildSlice 39 1 #[(0, x)]) (hx : a.eval x = .int .i64 r) : (execOp a.eval o).run Try.prog w = .ok (.value (.slice (some ⟨w.heap.size, 0, none⟩) 1 1)) (w.alloc (.cells #[.int .i64 r] 3)) := by
  unfold execOp; rw [h]; simp only [List.map_toArray, List.map, hx]; go_simp
theorem x_call12 {x y : Operand} (h : o.op = .call { callee := .value (.func 63), args := #[x, y], argTypes := #[31, 39] }) : (execOp a.eval o).run Try.prog w = .ok (.enter 63 #[a.eval x, a.eval y]) w := by
  unfold execOp; rw [h]; kernel_rfl
theorem x_len25 {x : Operand} {g : Option Addr} {n cap : Nat} (h : o.op = .call { callee := .builtin .len, args := #[x], argTypes := #[39] }) (hx : a.eval x = .slice g n cap) : (execOp a.eval o).run Try.prog w = .ok (.value (.int .i64 (n : Int))) w := by
  unfold execOp
  simp only [h, resolve, invoke, builtin, Sem.run_bind, Sem.run_pure, Result.andThen_ok, List.map_toArray, List.map_cons, List.map_nil, hx]
  go_simp
theorem x_const {v : Value} (h : o.op = .move (.const v)) : (execOp a.eval o).run Try.prog w = .ok (.value v) w := by
  unfold execOp; rw [h]; rfl
end
def ops42_1 : Array Oper := #[
  { dst := some 9, op := Op.move (Operand.tmp 0), type := 81, pos := "build.go:68", after := #[], guard := none },
  { dst := some 10, op := Op.nilCheck (Operand.tmp 9), type := 0, pos := "build.go:68", after := #[{ on := 0, ground := Ground.data }], guard := none },
  { dst := some 11, op := Op.fieldAddr 87 (Operand.tmp 10) 0, type := 0, pos := "build.go:68", after := #[{ on := 1, ground := Ground.data }], guard := none },
  { dst := some 12, op := Op.load 31 (Operand.tmp 11), type := 31, pos := "build.go:68", after := #[{ on := 2, ground := Ground.data }], guard := none },
  { dst := some 13, op := Op.move (Operand.tmp 0), type := 81, pos := "build.go:68", after := #[], guard := none },
  { dst := some 14, op := Op.nilCheck (Operand.tmp 13), type := 0, pos := "build.go:68", after := #[{ on := 4, ground := Ground.data }], guard := none },
  { dst := some 15, op := Op.fieldAddr 87 (Operand.tmp 14) 0, type := 0, pos := "build.go:68", after := #[{ on := 5, ground := Ground.data }], guard := none },
  { dst := some 16, op := Op.fieldAddr 31 (Operand.tmp 15) 1, type := 0, pos := "build.go:68", after := #[{ on := 6, ground := Ground.data }], guard := none },
  { dst := some 17, op := Op.load 3 (Operand.tmp 16), type := 3, pos := "build.go:68", after := #[{ on := 7, ground := Ground.data }], guard := none },
  { dst := some 18, op := Op.buildSlice 39 1 #[(0, Operand.tmp 17)], type := 39, pos := "build.go:68", after := #[{ on := 8, ground := Ground.data }], guard := none },
  { dst := some 19, op := Op.call { callee := Callee.value (Operand.func 63), args := #[Operand.tmp 12, Operand.tmp 18], argTypes := #[31, 39] }, type := 39, pos := "build.go:68", after := #[{ on := 3, ground := Ground.data }, { on := 9, ground := Ground.data }], guard := none },
  { dst := some 20, op := Op.call { callee := Callee.builtin Builtin.len, args := #[Operand.tmp 19], argTypes := #[39] }, type := 3, pos := "build.go:68", after := #[{ on := 10, ground := Ground.data }], guard := none },
  { dst := some 21, op := Op.move (Operand.const (Value.int IntKind.i64 0)), type := 3, pos := "build.go:68", after := #[], guard := none }]
structure C42 where
  b : Nat
  x : Nfa
  eo : Option Addr
  ec : Nat
  L : List Int
def C42.fix (c : C42) (i : Nat) : Option Value := [some (.pointer (some ⟨c.b, 0, none⟩)), some (.pointer (some ⟨c.b, 0, none⟩)), some (.pointer (some ⟨c.b, 0, none⟩)), some (nfaV c.x.n c.x.s c.x.e c.eo c.x.edges.length c.ec), some (.pointer (some ⟨c.b, 0, none⟩)), some (.pointer (some ⟨c.b, 0, none⟩)), some (.pointer (some ⟨c.b, 0, none⟩)), some (.pointer (some ⟨c.b, 1, none⟩)), some (.int .i64 c.x.s), none, none, some (.int .i64 (c.L.length : Int)), some (.int .i64 0)].getD i none
structure W42 (W : World) (c : C42) (d : Nat → Prop) (vals : Nat → Value) (w : World) : Prop where
  be : Below W.heap.size W w
  el : d 9 → ¬ d 10 → ∃ g, vals 9 = .slice (some ⟨g, 0, none⟩) 1 1 ∧ Row (In w) w iv (some ⟨g, 0, none⟩) 1 [c.x.s]
  vl : d 10 → IntsV w (vals 10) c.L
theorem W42.plain {W : World} {c : C42} {d : Nat → Prop} {vals : Nat → Value} {w : World} (k : W42 W c d vals w) {i : Nat} (h1 : i ≠ 9) (h2 : i ≠ 10) (v : Value) : W42 W c (fun j => j = i ∨ d j) (dw.upd vals i v) w :=
  ⟨k.be, fun a b => by
    rw [dw.upd_ne _ _ (Ne.symm h1)]
    exact k.el (a.resolve_left (fun e => h1 e.symm)) fun x => b (.inr x), fun a => by
    rw [dw.upd_ne _ _ (Ne.symm h2)]
    exact k.vl (a.resolve_left (fun e => h2 e.symm))⟩
theorem one_row (W : World) (y : Int) : Row (In (W.alloc (.cells #[.int .i64 y] 3))) (W.alloc (.cells #[.int .i64 y] 3)) iv (some ⟨W.heap.size, 0, none⟩) 1 [y] :=
  ⟨Nat.le_refl _, by omega, fun i hi => ⟨W.heap.size, 0, rfl, by simp, by
    have : i = 0 := by simpa using hi
    subst this
    rw [Lib.cell_of_heap (World.alloc_heap_new W _)]; rfl⟩⟩
set_option maxHeartbeats 1000000 in
theorem reg42 {Q : Exit → Act → World → Prop} {a0 : Act} {id : Nat} (hsz : a0.tmps.size = 35) (c : C42) (e0 : a0.eval (.tmp 0) = .pointer (some ⟨c.b, 0, none⟩)) {W : World} (hc : ∀ w, Below W.heap.size W w → w.cell? ⟨c.b, 0, none⟩ = some (.int .i64 c.x.n) ∧ w.cell? ⟨c.b, 1, none⟩ = some (.int .i64 c.x.s) ∧ w.cell? ⟨c.b, 2, none⟩ = some (.int .i64 c.x.e) ∧ w.cell? ⟨c.b, 3, none⟩ = some (.slice c.eo c.x.edges.length c.ec))
    (h12 : ∀ w lo lcap, Below W.heap.size W w → Row (In w) w iv lo lcap [c.x.s] → Calls Try.prog 63 #[nfaV c.x.n c.x.s c.x.e c.eo c.x.edges.length c.ec, .slice lo 1 lcap] w fun ev w' => ∃ v, ev = .returned v ∧ IntsV w' v c.L ∧ Below w.heap.size w w')
    (fin : ∀ vals w, vals 11 = .int .i64 (c.L.length : Int) → vals 12 = .int .i64 0 → IntsV w (vals 10) c.L → Below W.heap.size W w → Q .normal (dw.fold ops42_1.toList 0 vals a0) w) : (Code.region id ops42_1 true).wp Try.prog Q a0 W := by
  refine dw.region (by kernel_rfl) (by rw [hsz]; kernel_rfl) c.fix (W42 W c) (fun vals => ⟨below_drew W, fun x => x.elim, fun x => x.elim⟩) ?_ ?_
  · intro i hi
    match i, hi with
    | 0, _ => intro d vals a w o ho hn hd hdl hcl hf hx hw K Q' E hk; exact dw.s_val (dw.gd_of ho rfl) ((dw.x_move (dw.op_of ho rfl)).trans (by rw [((hf.base 0 fun i hi => (by decide +kernel : ∀ i, i < ops42_1.size → dw.slot ops42_1 i ≠ some 0) i (hdl i hi)).trans e0)])) (hk _ w (fun u hu => by cases hu; rfl) (hw.plain (by decide) (by decide) _))
    | 1, _ => intro d vals a w o ho hn hd hdl hcl hf hx hw K Q' E hk; exact dw.s_val (dw.gd_of ho rfl) (dw.x_nil (dw.op_of ho rfl) ((hf.eval 0 (hd 0 (by kernel_rfl)) (t := 9) rfl).trans (hx 0 (hd 0 (by kernel_rfl)) _ rfl))) (hk _ w (fun u hu => by cases hu; rfl) (hw.plain (by decide) (by decide) _))
    | 2, _ => intro d vals a w o ho hn hd hdl hcl hf hx hw K Q' E hk; exact dw.s_val (dw.gd_of ho rfl) (dw.x_field (dw.op_of ho rfl) ((hf.eval 1 (hd 1 (by kernel_rfl)) (t := 10) rfl).trans (hx 1 (hd 1 (by kernel_rfl)) _ rfl)) (f77_0 _ _)) (hk _ w (fun u hu => by cases hu; rfl) (hw.plain (by decide) (by decide) _))
    | 3, _ => intro d vals a w o ho hn hd hdl hcl hf hx hw K Q' E hk; obtain ⟨q0, q1, q2, q3⟩ := hc w hw.be; exact dw.s_val (dw.gd_of ho rfl) (x_load24 (dw.op_of ho rfl) ((hf.eval 2 (hd 2 (by kernel_rfl)) (t := 11) rfl).trans (hx 2 (hd 2 (by kernel_rfl)) _ rfl)) q0 q1 q2 q3) (hk _ w (fun u hu => by cases hu; rfl) (hw.plain (by decide) (by decide) _))
    | 4, _ => intro d vals a w o ho hn hd hdl hcl hf hx hw K Q' E hk; exact dw.s_val (dw.gd_of ho rfl) ((dw.x_move (dw.op_of ho rfl)).trans (by rw [((hf.base 0 fun i hi => (by decide +kernel : ∀ i, i < ops42_1.size → dw.slot ops42_1 i ≠ some 0) i (hdl i hi)).trans e0)])) (hk _ w (fun u hu => by cases hu; rfl) (hw.plain (by decide) (by decide) _))
    | 5, _ => intro d vals a w o ho hn hd hdl hcl hf hx hw K Q' E hk; exact dw.s_val (dw.gd_of ho rfl) (dw.x_nil (dw.op_of ho rfl) ((hf.eval 4 (hd 4 (by kernel_rfl)) (t := 13) rfl).trans (hx 4 (hd 4 (by kernel_rfl)) _ rfl))) (hk _ w (fun u hu => by cases hu; rfl) (hw.plain (by decide) (by decide) _))
    | 6, _ => intro d vals a w o ho hn hd hdl hcl hf hx hw K Q' E hk; exact dw.s_val (dw.gd_of ho rfl) (dw.x_field (dw.op_of ho rfl) ((hf.eval 5 (hd 5 (by kernel_rfl)) (t := 14) rfl).trans (hx 5 (hd 5 (by kernel_rfl)) _ rfl)) (f77_0 _ _)) (hk _ w (fun u hu => by cases hu; rfl) (hw.plain (by decide) (by decide) _))
    | 7, _ => intro d vals a w o ho hn hd hdl hcl hf hx hw K Q' E hk; exact dw.s_val (dw.gd_of ho rfl) (dw.x_field (dw.op_of ho rfl) ((hf.eval 6 (hd 6 (by kernel_rfl)) (t := 15) rfl).trans (hx 6 (hd 6 (by kernel_rfl)) _ rfl)) (f24_1 _ _)) (hk _ w (fun u hu => by cases hu; rfl) (hw.plain (by decide) (by decide) _))
    | 8, _ => intro d vals a w o ho hn hd hdl hcl hf hx hw K Q' E hk; exact dw.s_val (dw.gd_of ho rfl) (x_load3 (dw.op_of ho rfl) ((hf.eval 7 (hd 7 (by kernel_rfl)) (t := 16) rfl).trans (hx 7 (hd 7 (by kernel_rfl)) _ rfl)) (hc w hw.be).2.1) (hk _ w (fun u hu => by cases hu; rfl) (hw.plain (by decide) (by decide) _))
    | 9, _ =>
        intro d vals a w o ho hn hd hdl hcl hf hx hw K Q' E hk
        have n10 : ¬ d 10 := fun x => hn (hcl 10 9 x (by kernel_rfl))
        exact dw.s_val (dw.gd_of ho rfl) (x_build25 (dw.op_of ho rfl) ((hf.eval 8 (hd 8 (by kernel_rfl)) (t := 17) rfl).trans (hx 8 (hd 8 (by kernel_rfl)) _ rfl))) (hk _ _ (fun u hu => by cases hu) ⟨hw.be.alloc hw.be.size _, fun _ _ => ⟨w.heap.size, by rw [dw.upd_same], one_row w _⟩, fun x => absurd (x.resolve_left (by decide)) n10⟩)
    | 10, _ =>
        intro d vals a w o ho hn hd hdl hcl hf hx hw K Q' E hk
        obtain ⟨g, e, hr⟩ := hw.el (hd 9 (by kernel_rfl)) hn
        have v3 := ((hf.eval 3 (hd 3 (by kernel_rfl)) (t := 12) rfl).trans (hx 3 (hd 3 (by kernel_rfl)) _ rfl))
        have v9 := (hf.eval 9 (hd 9 (by kernel_rfl)) (t := 18) rfl).trans e
        refine dw.s_call (dw.gd_of ho rfl) (x_call12 (dw.op_of ho rfl)) (by rw [v3, v9]; exact h12 w (some ⟨g, 0, none⟩) 1 hw.be hr) ?_
        rintro ev w' ⟨v, rfl, hv, hb⟩
        exact ⟨v, rfl, hk _ w' (fun u hu => by cases hu) ⟨st.chain hw.be hb, fun _ x => absurd (.inl rfl) x, fun _ => by rw [dw.upd_same]; exact hv⟩⟩
    | 11, _ =>
        intro d vals a w o ho hn hd hdl hcl hf hx hw K Q' E hk
        obtain ⟨vo, vc, e, _⟩ := hw.vl (hd 10 (by kernel_rfl))
        have v10 := (hf.eval 10 (hd 10 (by kernel_rfl)) (t := 19) rfl).trans e
        exact dw.s_val (dw.gd_of ho rfl) (x_len25 (dw.op_of ho rfl) v10) (hk _ w (fun u hu => by cases hu; rfl) (hw.plain (by decide) (by decide) _))
    | 12, _ => intro d vals a w o ho hn hd hdl hcl hf hx hw K Q' E hk; exact dw.s_val (dw.gd_of ho rfl) (x_const (dw.op_of ho rfl)) (hk _ w (fun u hu => by cases hu; rfl) (hw.plain (by decide) (by decide) _))
    | i + 13, hi => exact absurd hi (by simp [ops42_1])
  · intro vals w hx hw
    exact fin vals w (hx 11 (by decide) _ rfl) (hx 12 (by decide) _ rfl) (hw.vl (by decide)) hw.be
theorem fold42_1 (vals : Nat → Value) (a : Act) : dw.fold ops42_1.toList 0 vals a = (((((((((((((a.put (some 9) (vals 0)).put (some 10) (vals 1)).put (some 11) (vals 2)).put (some 12) (vals 3)).put (some 13) (vals 4)).put (some 14) (vals 5)).put (some 15) (vals 6)).put (some 16) (vals 7)).put (some 17) (vals 8)).put (some 18) (vals 9)).put (some 19) (vals 10)).put (some 20) (vals 11)).put (some 21) (vals 12)) := by
  unfold ops42_1
  simp only [dw.fold, Nat.zero_add, Nat.reduceAdd]
theorem full_has (c : Nat) (hc : c < 256) : has (st.rng 0 255) c = true := by
  unfold st.rng
  rw [st.has_such _ _ hc]
  simp
  omega
def setAll (R : List Q4) (q : Q4) (l : List Int) : List Q4 := l.foldl (fun R t => R.set t.toNat q) R
theorem setAll_snoc (R : List Q4) (q : Q4) (l : List Int) (t : Int) : setAll R q (l ++ [t]) = (setAll R q l).set t.toNat q := by unfold setAll; rw [List.foldl_append]; rfl
theorem setAll_rs {n : Nat} {q : Q4} (hq : Fits q) : ∀ (l : List Int) (R : List Q4), R.length = n → (∀ r ∈ R, Fits r) → (∀ t ∈ l, 0 ≤ t ∧ t < (n : Int)) → (setAll R q l).length = n ∧ (∀ r ∈ setAll R q l, Fits r) ∧ ∀ i, i < n → nth (setAll R q l) i = if (i : Int) ∈ l then q else nth R i
  | [], R, hl, hf, _ => ⟨hl, hf, fun i hi => by simp [setAll]⟩
  | t :: l, R, hl, hf, ht => by
    obtain ⟨t1, t2⟩ := ht t List.mem_cons_self
    obtain ⟨a, b, c⟩ := setAll_rs hq l (R.set t.toNat q) (by simpa using hl) (fits_set hf _ hq) (fun u hu => ht u (List.mem_cons_of_mem _ hu))
    refine ⟨a, b, fun i hi => ?_⟩
    have e : setAll R q (t :: l) = setAll (R.set t.toNat q) q l := rfl
    rw [e, c i hi, nth_set R t.toNat i q (by omega) (by omega)]
    by_cases h1 : (i : Int) ∈ l
    · rw [if_pos h1, if_pos (List.mem_cons_of_mem _ h1)]
    · rw [if_neg h1]
      by_cases h2 : i = t.toNat
      · rw [if_pos h2, if_pos (by rw [show (i : Int) = t by omega]; exact List.mem_cons_self)]
      · rw [if_neg h2, if_neg (fun h => by
          rcases List.mem_cons.1 h with h | h
          · omega
          · exact h1 h)]
theorem begin_set {x : Nfa} {n : Nat} (R1 : Rt x n) {L : List Int} (hL : nf.IsFree x [x.s] L) : IsSet n (Begin x) (sig (setAll (List.replicate n none4) (st.rng 0 255) L) 0) := by
  have hr : ∀ t ∈ L, 0 ≤ t ∧ t < (n : Int) := fun t ht => reach_in R1 (fun u hu => by have := R1.hx; omega) t ((hL.mem t).1 ht)
  obtain ⟨a, b, c⟩ := setAll_rs (n := n) (q := st.rng 0 255) (st.fits_such _) L (List.replicate n none4) (by simp) (fun r hr => by rw [List.eq_of_mem_replicate hr]; exact st.fits_none) hr
  refine ⟨by rw [st.sig_length]; exact a, fun i hi => ?_⟩
  have hi2 : i < n := by rw [st.sig_length] at hi; omega
  have e : (sig (setAll (List.replicate n none4) (st.rng 0 255) L) 0)[i] = has (nth (setAll (List.replicate n none4) (st.rng 0 255) L) i) 0 := by rw [← st.sig_at _ 0 i (by omega), List.getD_eq_getElem?_getD, List.getElem?_eq_getElem hi]; rfl
  have hb : (i : Int) ∈ L ↔ Begin x (i : Int) := (hL.mem _).trans ⟨fun r => r.mono fun t h => List.mem_singleton.1 h.1, fun r => r.mono fun t h => ⟨by rw [h]; simp, by rw [h]; exact R1.s.1, by rw [h, R1.hx]; exact R1.s.2⟩⟩
  rw [e, c i hi2, ← hb]
  by_cases h : (i : Int) ∈ L
  · rw [if_pos h]; simp [h, full_has 0 (by omega)]
  · rw [if_neg h, nth_get _ _ (by simpa using hi2), List.getElem_replicate, st.has_none]; simp [h]
end Go.Proofs.Ytfilndgbgdnpiaa.bd
