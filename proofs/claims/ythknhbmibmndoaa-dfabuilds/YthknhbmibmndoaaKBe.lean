/-
  Contracts over this program: the number of a set (builder.number).
-/
import Derived.Test.YthknhbmibmndoaaKBd
namespace Go.Proofs.Ythknhbmibmndoaa.bd
open Go.Sort Go.ChangeShapes Go.WideShapes Go.ChangeAt Go.RowKit Go.Maps
open df (Kp Row iv In IntsV Owns)
set_option linter.unusedVariables false
set_option maxRecDepth 10000

def RowV (X : Nat → Prop) (W : World) (v : Value) (l : List Int) : Prop := ∃ o cap, v = .slice o l.length cap ∧ Row X W iv o cap l
theorem RowV.carry {X Y : Nat → Prop} {W W' : World} {v : Value} {l : List Int} (h : RowV X W v l) (hk : ∀ b, X b → W'.heap[b]? = W.heap[b]?) (hq : ∀ b, X b → Y b) : RowV Y W' v l := by
  obtain ⟨o, cap, e, hr⟩ := h
  exact ⟨o, cap, e, hr.carry hk hq⟩
structure Rws (X : Nat → Prop) (W : World) (ss : List Value) (ls : List (List Int)) : Prop where
  len : ss.length = ls.length
  at' : ∀ (i : Nat) v l, ss[i]? = some v → ls[i]? = some l → RowV X W v l
theorem Rws.carry {X Y : Nat → Prop} {W W' : World} {ss : List Value} {ls : List (List Int)} (h : Rws X W ss ls) (hk : ∀ b, X b → W'.heap[b]? = W.heap[b]?) (hq : ∀ b, X b → Y b) : Rws Y W' ss ls :=
  ⟨h.len, fun i v l h1 h2 => (h.at' i v l h1 h2).carry hk hq⟩
theorem Rws.snoc {X : Nat → Prop} {W : World} {ss : List Value} {ls : List (List Int)} (h : Rws X W ss ls) {v : Value} {l : List Int} (hv : RowV X W v l) : Rws X W (ss ++ [v]) (ls ++ [l]) :=
  ⟨by simp [h.len], fun i u m h1 h2 => by
    by_cases hi : i < ss.length
    · rw [List.getElem?_append_left hi] at h1
      rw [List.getElem?_append_left (by rw [← h.len]; exact hi)] at h2
      exact h.at' i u m h1 h2
    · have hi2 := (List.getElem?_eq_some_iff.1 h1).1
      have e : i = ss.length := by simp at hi2; omega
      subst e
      rw [List.getElem?_append_right (Nat.le_refl _)] at h1
      rw [h.len, List.getElem?_append_right (Nat.le_refl _)] at h2
      simp at h1 h2
      subst h1 h2
      exact hv⟩
theorem rws_nil (X : Nat → Prop) (W : World) : Rws X W [] [] := ⟨rfl, fun i v l h => by simp at h⟩

structure MapOk (n : Nat) (L : List (List Bool)) (D : DataW Unit) : Prop where
  has : ∀ τ : List Bool, τ.length = n → Maps.has D (.string (txt τ)) = (decide (τ = off n) || decide (τ ∈ L))
  none : D.atKey (.string (txt (off n))) (.lit (.int .i64 0)) = .lit (.int .i64 (-1))
  at' : ∀ (k : Nat) τ, L[k]? = some τ → D.atKey (.string (txt τ)) (.lit (.int .i64 0)) = .lit (.int .i64 (k : Int))
theorem off_len (n : Nat) : (off n).length = n := by simp [off]
theorem MapOk.put {n : Nat} {L : List (List Bool)} {D : DataW Unit} (h : MapOk n L D) (hT : Tidy D) (hL : ∀ σ ∈ L, σ.length = n) {σ : List Bool} (hs : σ.length = n) (h1 : σ ≠ off n) (h2 : σ ∉ L) : MapOk n (L ++ [σ]) (D.put (.string (txt σ)) (.lit (.int .i64 (L.length : Int)))) := by
  have hne : ∀ τ : List Bool, τ.length = n → τ ≠ σ → (Lit.string (txt τ)) ≠ .string (txt σ) := fun τ ht e e2 => e (txt_inj (by rw [ht, hs]) (Lit.string.inj e2))
  refine ⟨fun τ ht => ?_, ?_, fun k τ hk => ?_⟩
  · by_cases e : τ = σ
    · subst e
      rw [has_put_same hT.isMap (show WideAt.IsKeyLit (.string _) from trivial)]
      simp
    · rw [has_put_other (hne τ ht e), h.has τ ht]
      simp [e]
  · rw [atKey_put_other (hne _ (off_len n) h1.symm)]
    exact h.none
  · by_cases hk2 : k < L.length
    · rw [List.getElem?_append_left hk2] at hk
      have hm := List.mem_of_getElem? hk
      rw [atKey_put_other (hne τ (hL τ hm) (fun e => h2 (e ▸ hm)))]
      exact h.at' k τ hk
    · have hi2 := (List.getElem?_eq_some_iff.1 hk).1
      have e : k = L.length := by simp at hi2; omega
      subst e
      rw [List.getElem?_append_right (Nat.le_refl _)] at hk
      simp at hk
      subst hk
      rw [atKey_put_same hT.isMap (show WideAt.IsKeyLit (.string _) from trivial)]

/-- the builder between two of its steps -/
structure Bst (X Y : Nat → Prop) (W : World) (B b mb : Nat) (h : Hd) (n e : Nat) (L : List (List Bool)) (nn : List Value) (vs vn va : Value) (ss : List Value) (m : Nat) (D : DataW Unit) : Prop where
  bu : Bu X W B b mb h vs vn va ss nn (L.map fun σ => σ.getD e false) m D
  rs : Rws Y W ss (L.map fun σ => onTo σ σ.length)
  yx : ∀ k, Y k → X k
  mp : MapOk n L D
  m1 : m ≤ L.length + 1
  hn : h.n = (n : Int)
  he : h.e = (e : Int)
  en : e < n
  n2 : n ≤ 2000
  ln : ∀ σ ∈ L, σ.length = n
theorem key_of (σ : List Bool) (h : σ.length ≤ 2000) : keyOf Try.prog 9 (.string (txtB σ)) = some (.string (txt σ)) := by
  have hs := txtB_size σ
  have := Go.WideMaps.keyOf_string_mk (P := Try.prog) (s := txtB σ) Try.underlying9 (by rw [hs]; unfold maxLen; omega)
  rw [txtB_data] at this
  exact this
def OldIs (σ : List Bool) (r : Int) (b : Nat) (W : World) : Prop := Calls Try.prog 57 #[.pointer (some ⟨b, 0, none⟩), .string (txtB σ)] W fun e W' => e = .returned (.int .i64 r) ∧ W' = W
set_option maxHeartbeats 1000000 in
theorem number_old {X Y : Nat → Prop} {W : World} {B b mb : Nat} {h : Hd} {n e : Nat} {L : List (List Bool)} {nn : List Value} {vs vn va : Value} {ss : List Value} {m : Nat} {D : DataW Unit} (k : Bst X Y W B b mb h n e L nn vs vn va ss m D) (σ : List Bool) (hs : σ.length = n) (r : Int) (hr : σ = off n ∧ r = -1 ∨ ∃ i : Nat, L[i]? = some σ ∧ r = (i : Int)) : OldIs σ r b W := by
  have hn2 := k.n2
  have hkey := key_of σ (by omega)
  have hat : D.atKey (.string (txt σ)) (.lit (.int .i64 0)) = .lit (.int .i64 r) := by
    rcases hr with ⟨rfl, rfl⟩ | ⟨i, h1, rfl⟩
    · exact k.mp.none
    · exact k.mp.at' i σ h1
  have hhas : Maps.has D (.string (txt σ)) = true := by
    rw [k.mp.has σ hs]
    rcases hr with ⟨h1, _⟩ | ⟨i, h1, _⟩
    · simp [h1]
    · simp [List.mem_of_getElem? h1]
  have c8 := k.bu.box.c8
  have hown := k.bu.map
  unfold OldIs
  generalize txtB σ = t at *
  generalize Lit.string (txt σ) = kl at *
  clear k hr hs
  go_enter Try.func57, Try.ntmps57
  go_wp2_with (at_lookup; refine wpList_lookup_own_ok_int _ rfl _ _ 75 rfl 9 3 .i64 st.law9 Try.underlying75 Try.underlying3 (st.zero3 _) mb m D rfl hown _ _ rfl hkey ?_; intro c hat2 hwc; rw [hat] at hat2; simp only [DataW.lit.injEq, Lit.int.injEq, true_and] at hat2; subst hat2; rw [hhas]; clear hwc)
  go_ret
  exact ⟨rfl, rfl⟩
end Go.Proofs.Ythknhbmibmndoaa.bd
