/-
  Over this program: whether none is marked (fretsawref08.empty); the sets that are reached, as the document gathers them (fretsawref08.Sets): what is gathered so far.
-/
import Derived.Test.YthknhbmibmndoaaKCc
import Derived.Test.YthknhbmibmndoaaKBz
import Derived.Test.YthknhbmibmndoaaKDk
import Derived.Test.YthknhbmibmndoaaKRg
namespace Go.Proofs.Ythknhbmibmndoaa.bd
open Go.Sort Go.ChangeShapes Go.WideShapes Go.ChangeAt Go.RowKit Go.Maps
open df (Kp Row iv In IntsV Owns)
open nf (Nfa Ed Rt EdAt Eds nfaV IRow hasE Over)
set_option linter.unusedVariables false
set_option maxRecDepth 10000

theorem off_no {σ : List Bool} {n : Nat} (hl : σ.length = n) {i : Nat} (h : i < σ.length) (e : σ[i] = true) : decide (σ = off n) = false := by
  refine decide_eq_false fun e2 => ?_
  subst e2
  simp [off] at e
theorem off_yes {σ : List Bool} {n : Nat} (hl : σ.length = n) (h : ∀ i (hi : i < σ.length), σ[i] = false) : decide (σ = off n) = true := by
  refine decide_eq_true (List.ext_getElem (by simp [off, hl]) fun i h1 h2 => ?_)
  rw [h i h1]; simp [off]
def EmIs (n : Nat) (σ : List Bool) : Prop := ∀ g w, IRow w g (mrk σ) → Calls Try.prog 46 #[.slice (some ⟨g, 0, none⟩) n n] w fun e w' => e = .returned (.bool (decide (σ = off n))) ∧ Below w.heap.size w w'
set_option maxHeartbeats 2000000 in
theorem empty_any (n : Nat) (hn : n ≤ 1000000) (σ : List Bool) (hl : σ.length = n) : EmIs n σ := by
  intro g w hM
  have HM := (show Hid (IRow w g (mrk σ)) from hM)
  have HL := (show Hid (σ.length = n) from hl)
  clear hM hl
  go_enter Try.func46, Try.ntmps46
  go_wp2_with (fail)
  go_loopw [7] (fun z wr => ∃ i : Nat, z = .int .i64 i ∧ i ≤ n ∧ Hid (Below w.heap.size w wr) ∧ Hid (∀ j (hj : j < σ.length), j < i → σ[j] = false)) (fun z _ => n - (intOf z).toNat)
  case atStart => exact ⟨0, rfl, by omega, Below.refl _ _, fun j _ h => absurd h (by omega)⟩
  case round =>
    obtain ⟨i, rfl, hi, HB, HN⟩ := hrel
    by_cases hend : i < n
    · have hlt : i < σ.length := by rw [HL.out]; exact hend
      have hc := (HM.out.later HB.out).cell i (by rw [mrk_len]; exact hlt)
      rw [mrk_at σ i hlt] at hc
      cases hq : σ[i] with
      | true =>
        have HR := (show Hid (decide (σ = off n) = false) from off_no HL.out hlt hq)
        rw [hq] at hc
        simp only [if_true] at hc
        clear hq hlt
        go_wp2_with (fail)
        go_ret
        exact ⟨by rw [HR.out]; rfl, HB.out⟩
      | false =>
        have HN2 := (show Hid (∀ j (hj : j < σ.length), j < i + 1 → σ[j] = false) from fun j hj hji => by
          by_cases e : j = i
          · subst e; exact hq
          · exact HN.out j hj (by omega))
        rw [hq] at hc
        simp only [Bool.false_eq_true, if_false] at hc
        clear hq hlt
        go_wp2_with (fail)
        go_roundw
        case rel => exact ⟨i + 1, by go_num, by omega, HB, HN2⟩
        case measure => simp [intOf]; omega
    · have HR := (show Hid (decide (σ = off n) = true) from off_yes HL.out fun j hj => HN.out j hj (by have := HL.out; omega))
      go_wp2_with (fail)
      go_ret
      exact ⟨by rw [HR.out]; rfl, HB.out⟩

/-- what is gathered -/
structure Sn (x : Nfa) (n many : Nat) (cls : Nat → Nat) (L : List (List Bool)) (a c : Nat) : Prop where
  nd : L.Nodup
  rs : ∀ σ ∈ L, RSet x n σ
  ln : ∀ σ ∈ L, σ.length = n
  first : ∃ σ, L[0]? = some σ ∧ IsSet n (Begin x) σ
  cl : ∀ k c' : Nat, (k < a ∨ k = a ∧ c' < c) → c' < many → ∀ σ, L[k]? = some σ → ∃ b, b < 256 ∧ cls b = c' ∧ ∀ τ, IsSet n (To x b σ) τ → τ ≠ off n → τ ∈ L
section
variable {x : Nfa} {n many : Nat} {cls : Nat → Nat} {L : List (List Bool)} {a c : Nat}
theorem sn_start {σ : List Bool} (h : IsSet n (Begin x) σ) : Sn x n many cls [σ] 0 0 :=
  ⟨by simp, fun τ ht => by rw [List.mem_singleton.1 ht]; exact .first h, fun τ ht => by rw [List.mem_singleton.1 ht]; exact h.len, ⟨σ, rfl, h⟩, fun k c' h => by omega⟩
theorem Sn.row (h : Sn x n many cls L a many) : Sn x n many cls L (a + 1) 0 :=
  ⟨h.nd, h.rs, h.ln, h.first, fun k c' hk hc => by
    rcases hk with hk | ⟨_, hk⟩
    · by_cases e : k = a
      · exact h.cl k c' (.inr ⟨e, hc⟩) hc
      · exact h.cl k c' (.inl (by omega)) hc
    · omega⟩
/-- nothing new -/
theorem Sn.old (h : Sn x n many cls L a c) {σ τ : List Bool} (hs : L[a]? = some σ) {b : Nat} (hb : b < 256) (hc : cls b = c) (ht : IsSet n (To x b σ) τ) (hm : τ = off n ∨ τ ∈ L) : Sn x n many cls L a (c + 1) :=
  ⟨h.nd, h.rs, h.ln, h.first, fun k c' hk hc' ρ hρ => by
    by_cases e : k = a ∧ c' = c
    · obtain ⟨rfl, rfl⟩ := e
      rw [hs] at hρ
      cases hρ
      refine ⟨b, hb, hc, fun υ hu hne => ?_⟩
      rw [hu.uniq ht] at hne ⊢
      exact hm.resolve_left hne
    · exact h.cl k c' (by omega) hc' ρ hρ⟩
theorem Sn.new (h : Sn x n many cls L a c) {σ τ : List Bool} (hs : L[a]? = some σ) {b : Nat} (hb : b < 256) (hc : cls b = c) (ht : IsSet n (To x b σ) τ) (hne : τ ≠ off n) (hm : τ ∉ L) : Sn x n many cls (L ++ [τ]) a (c + 1) := by
  have ha := (List.getElem?_eq_some_iff.1 hs).1
  refine ⟨?_, fun ρ hρ => ?_, fun ρ hρ => ?_, ?_, fun k c' hk hc' ρ hρ => ?_⟩
  · rw [List.nodup_append]
    exact ⟨h.nd, by simp, fun p hp q hq e => hm (by rw [← List.mem_singleton.1 hq, ← e]; exact hp)⟩
  · rcases List.mem_append.1 hρ with hρ | hρ
    · exact h.rs ρ hρ
    · rw [List.mem_singleton.1 hρ]
      exact .step (h.rs σ (List.mem_of_getElem? hs)) hb ht hne
  · rcases List.mem_append.1 hρ with hρ | hρ
    · exact h.ln ρ hρ
    · rw [List.mem_singleton.1 hρ]; exact ht.len
  · obtain ⟨σ0, h1, h2⟩ := h.first
    exact ⟨σ0, get_pre (List.prefix_append _ _) h1, h2⟩
  · have hka : k < L.length := by omega
    rw [List.getElem?_append_left hka] at hρ
    by_cases e : k = a ∧ c' = c
    · obtain ⟨rfl, rfl⟩ := e
      rw [hs] at hρ
      cases hρ
      exact ⟨b, hb, hc, fun υ hu _ => by rw [hu.uniq ht]; simp⟩
    · obtain ⟨b', h1, h2, h3⟩ := h.cl k c' (by omega) hc' ρ hρ
      exact ⟨b', h1, h2, fun υ hu hv => List.mem_append_left _ (h3 υ hu hv)⟩
theorem Sn.all (h : Sn x n many cls L L.length 0) (hm : ∀ y, y < 256 → cls y < many) (hlike : ∀ b y, b < 256 → y < 256 → cls b = cls y → ∀ e ∈ x.edges, e.free = false → hasE e b = hasE e y) {σ : List Bool} (r : RSet x n σ) : σ ∈ L := by
  induction r with
  | first hs =>
    obtain ⟨τ, h1, h2⟩ := h.first
    rw [hs.uniq h2]
    exact List.mem_of_getElem? h1
  | @step σ τ y hr hy ht hne ih =>
    obtain ⟨k, hk⟩ := List.getElem?_of_mem ih
    have hkl := (List.getElem?_eq_some_iff.1 hk).1
    obtain ⟨b, h1, h2, h3⟩ := h.cl k (cls y) (.inl hkl) (hm y hy) σ hk
    exact h3 τ (ht.congr fun i _ => (to_alike (hlike b y h1 hy h2) _).symm) hne
end
theorem cls_like (x : Nfa) (b y : Nat) (hb : b < 256) (hy : y < 256) (e : st.clsBy (st.like (parts x.edges)) b = st.clsBy (st.like (parts x.edges)) y) : ∀ e ∈ x.edges, e.free = false → hasE e b = hasE e y := by
  obtain ⟨z, h1, h2⟩ := ls_same x b hb
  obtain ⟨z', h3, h4⟩ := ls_same x y hy
  rw [e, h3] at h1
  cases h1
  intro d hd hf
  rw [h2 d hd hf, h4 d hd hf]

def sl (n : Nat) (g : Nat) : Value := .slice (some ⟨g, 0, none⟩) n n
/-- in memory -/
structure Mm (w : World) (x : Nfa) (n : Nat) (o : Option Addr) (cap cb : Nat) (xs : List Nat) (v : Value) (L : List (List Bool)) (gs : List Nat) (wr : World) : Prop where
  be : Below w.heap.size w wr
  bx : nf.Box wr w.heap.size x.n x.s x.e o x.edges.length cap
  ar : st.Arr wr cb xs
  rw : wr.ownsRow (w.heap.size + 1) 25 1 v L.length (gs.map (sl n))
  gl : gs.length = L.length
  ir : ∀ (i : Nat) σ g, L[i]? = some σ → gs[i]? = some g → IRow wr g (mrk σ)
section
variable {w wr w' : World} {x : Nfa} {n : Nat} {o : Option Addr} {cap cb : Nat} {xs : List Nat} {v : Value} {L : List (List Bool)} {gs : List Nat}
theorem Mm.later (h : Mm w x n o cap cb xs v L gs wr) (c : Below wr.heap.size wr w') : Mm w x n o cap cb xs v L gs w' :=
  ⟨st.chain h.be c, h.bx.later c, h.ar.later c h.ar.lt, ow.later h.rw c, h.gl, fun i σ g h1 h2 => (h.ir i σ g h1 h2).later c⟩
theorem Mm.drew (h : Mm w x n o cap cb xs v L gs wr) : Mm w x n o cap cb xs v L gs wr.drew := h.later (Below.drew (Below.refl _ _))
theorem Mm.app (h : Mm w x n o cap cb xs v L gs wr) {g : Nat} {τ : List Bool} (hi : IRow wr g (mrk τ)) {g' cap' : Nat} (ho : w'.ownsRow (w.heap.size + 1) 25 1 (.slice (some ⟨g', 0, none⟩) (L.length + 1) cap') (L.length + 1) (gs.map (sl n) ++ [sl n g])) (hg : wr.grownBy w' v.ownBlock) : Mm w x n o cap cb xs (.slice (some ⟨g', 0, none⟩) (L.length + 1) cap') (L ++ [τ]) (gs ++ [g]) w' := by
  have n1 : some w.heap.size ≠ v.ownBlock := fun e => by have := (ow.lt h.rw e.symm).1; omega
  have n2 : some cb ≠ v.ownBlock := ow.type h.rw h.ar.1 (by decide)
  have n3 : ∀ {g σ}, IRow wr g (mrk σ) → IRow w' g (mrk σ) := fun {g σ} q => (hg.block g q.lt (ow.type h.rw q (by decide))).trans q
  refine ⟨h.be.grown hg h.be.size (fun k e => by have := (ow.lt h.rw e).1; omega), (hg.block _ h.bx.lt n1).trans h.bx, ⟨(hg.block _ h.ar.lt n2).trans h.ar.1, h.ar.2⟩, by rw [List.length_append, List.map_append]; exact ho, by simp [h.gl], fun i σ k h1 h2 => ?_⟩
  by_cases hl : i < L.length
  · rw [List.getElem?_append_left hl] at h1
    rw [List.getElem?_append_left (by rw [h.gl]; exact hl)] at h2
    exact n3 (h.ir i σ k h1 h2)
  · have hlt := (List.getElem?_eq_some_iff.1 h1).1
    have e : i = L.length := by simp at hlt; omega
    subst e
    rw [List.getElem?_append_right (Nat.le_refl _)] at h1
    rw [List.getElem?_append_right (by rw [h.gl]; exact Nat.le_refl _), h.gl] at h2
    simp at h1 h2
    subst h1 h2
    exact n3 hi
theorem Mm.at' (h : Mm w x n o cap cb xs v L gs wr) (i : Nat) (hi : i < L.length) : ∃ vb vcap g, v = .slice (some ⟨vb, 0, none⟩) L.length vcap ∧ wr.cell? ⟨vb, i, none⟩ = some (sl n g) ∧ IRow wr g (mrk L[i]) ∧ gs[i]? = some g := by
  have hg : i < gs.length := by rw [h.gl]; exact hi
  obtain ⟨vb, vcap, e1, e2, e3⟩ := ow.cell h.rw i (by simpa using hg)
  refine ⟨vb, vcap, gs[i], e1, by rw [e3, List.getElem_map], h.ir i _ _ (List.getElem?_eq_getElem hi) (List.getElem?_eq_getElem hg), List.getElem?_eq_getElem hg⟩
end
theorem own_one (w : World) (B e : Nat) (u : Value) (hB : B ≤ w.heap.size) : (w.alloc (.cells #[u] e)).ownsRow B e 1 (.slice (some ⟨w.heap.size, 0, none⟩) 1 1) 1 [u] :=
  ⟨rfl, .inr ⟨w.heap.size, 1, #[u], rfl, hB, World.alloc_heap_new w _, Nat.le_refl _, by unfold maxLen; omega, rfl, rfl⟩⟩
end Go.Proofs.Ythknhbmibmndoaa.bd
