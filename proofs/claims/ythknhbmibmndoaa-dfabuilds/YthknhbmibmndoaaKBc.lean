/-
  Contracts over this program: whether a state is in a set's text (dfa.has), the states of a text (builder.states).
-/
import Derived.Test.YthknhbmibmndoaaKBb
import Derived.Test.YthknhbmibmndoaaMx02
namespace Go.Proofs.Ythknhbmibmndoaa.bd
open Go.Sort Go.ChangeShapes Go.WideShapes Go.ChangeAt Go.RowKit Go.Maps
open st (Q4 none4 Fits has key sig packTo nth cells4 chain)
set_option linter.unusedVariables false
set_option maxRecDepth 10000

theorem owns_later {W W' : World} {B : Nat} {v : Value} {l : List Int} (h : df.Owns W B v l) (b : Below W.heap.size W W') : df.Owns W' B v l := by
  refine ⟨h.1, ?_⟩
  rcases h.2 with h0 | ⟨g, cap, cur, rfl, hb, hg, hr⟩
  · exact .inl h0
  · exact .inr ⟨g, cap, cur, rfl, hb, (b.block g (Array.getElem?_eq_some_iff.1 hg).1).trans hg, hr⟩
theorem bit8_and (x m : Nat) (hx : x < 256) : (bits .and .u8 ((x : Int) / 2 ^ m) 1 == 1) = x.testBit m := by
  have h1 : ((x : Int) / 2 ^ m) = ((x / 2 ^ m : Nat) : Int) := by simp
  have h2 := u8_and_nat (x / 2 ^ m) 1 (Nat.lt_of_le_of_lt (Nat.div_le_self _ _) hx) (by omega)
  rw [h1, show ((1 : Nat) : Int) = (1 : Int) from rfl] at *
  rw [h2, Nat.and_one_is_mod, Nat.testBit_eq_decide_div_mod_eq]
  generalize x / 2 ^ m = y
  by_cases h : y % 2 = 1
  · rw [h]; rfl
  · have : y % 2 = 0 := by omega
    rw [this]; rfl
theorem hasT_any (t : ByteArray) (i k m : Nat) (hk : i / 8 = k) (hm : i % 8 = m) (hkt : k < t.size) (hi : i ≤ 1000000) (r : Bool) (hr : r = (t[k].toNat).testBit m) (w : World) : Calls Try.prog 76 #[.string t, .int .i64 (i : Int)] w fun e w' => e = .returned (.bool r) ∧ w' = w := by
  have e2 : ((i : Int) / 8) = (k : Int) := by omega
  have e3 : ((i : Int) % 8) = (m : Int) := by omega
  have hm8 : m < 8 := by omega
  have HB : Hid ((bits BinOp.and IntKind.u8 (↑t[k].toNat / 2 ^ m) 1 == 1) = r) := by show _ = _; rw [hr]; exact bit8_and _ m (UInt8.toNat_lt _)
  clear hk hm hr
  go_enter Try.func76, Try.ntmps76
  go_wp2_with (fail)
  go_ret
  exact ⟨by rw [← HB.out]; rfl, rfl⟩

/-! the text of a set -/
def txt (σ : List Bool) : List UInt8 := (packTo σ σ.length).map UInt8.ofNat
def txtB (σ : List Bool) : ByteArray := ⟨(txt σ).toArray⟩
theorem key_txt (l : List Q4) (c : Nat) : (⟨(key l c).toArray⟩ : ByteArray) = txtB (sig l c) := by
  unfold txtB txt key
  rw [st.sig_length]
theorem txt_len (σ : List Bool) : (txt σ).length = (σ.length + 7) / 8 := by unfold txt; rw [List.length_map, st.packTo_length]
theorem txtB_size (σ : List Bool) : (txtB σ).size = (σ.length + 7) / 8 := by
  show (txt σ).toArray.size = _
  rw [List.size_toArray, txt_len]
theorem txtB_data (σ : List Bool) : (txtB σ).data.toList = txt σ := by simp [txtB]
theorem txt_bit (σ : List Bool) (i : Nat) (hi : i < σ.length) (h : i / 8 < (txtB σ).size) : ((txtB σ)[i / 8].toNat).testBit (i % 8) = σ[i] := by
  have hl := st.packTo_length σ σ.length
  have h2 : i / 8 < (packTo σ σ.length).length := by rw [hl]; omega
  have h1 := st.packTo_bit σ σ.length (Nat.le_refl _) i hi
  have e : (txtB σ)[i / 8].toNat = (packTo σ σ.length).getD (i / 8) 0 := by
    show ((txt σ).toArray[i / 8]'_).toNat = _
    have h3 := st.packTo_lt σ σ.length _ (List.getElem_mem h2)
    simp [txt, h2, Nat.mod_eq_of_lt h3]
  rw [e, h1]
  simp [hi]
theorem txt_inj {σ τ : List Bool} (hl : σ.length = τ.length) (h : txt σ = txt τ) : σ = τ := by
  refine st.pack_inj hl (List.ext_getElem (by rw [st.packTo_length, st.packTo_length, hl]) fun i h1 h2 => ?_)
  have e := congrArg (fun l => l[i]?) h
  simp only [txt, List.getElem?_map, List.getElem?_eq_getElem h1, List.getElem?_eq_getElem h2, Option.map_some, Option.some.injEq] at e
  have a1 := st.packTo_lt σ σ.length _ (List.getElem_mem h1)
  have a2 := st.packTo_lt τ τ.length _ (List.getElem_mem h2)
  have := congrArg UInt8.toNat e
  simpa [Nat.mod_eq_of_lt a1, Nat.mod_eq_of_lt a2] using this
def HasTIs (σ : List Bool) (i : Nat) (r : Bool) : Prop := ∀ w, Calls Try.prog 76 #[.string (txtB σ), .int .i64 (i : Int)] w fun e w' => e = .returned (.bool r) ∧ w' = w
theorem has_txt (σ : List Bool) (hl : σ.length ≤ 1000000) (i : Nat) (hi : i < σ.length) (r : Bool) (hr : r = σ[i]) : HasTIs σ i r := fun w => by
  have h : i / 8 < (txtB σ).size := by rw [txtB_size]; omega
  exact hasT_any (txtB σ) i (i / 8) (i % 8) rfl rfl h (by omega) r (by rw [hr]; exact (txt_bit σ i hi h).symm) w

/-- the states of a set, rising -/
def onTo (σ : List Bool) (i : Nat) : List Int := ((List.range i).filter fun j => σ.getD j false).map fun j : Nat => (j : Int)
theorem onTo_yes (σ : List Bool) (i : Nat) (hi : i < σ.length) (h : σ[i] = true) : onTo σ (i + 1) = onTo σ i ++ [(i : Int)] := by
  unfold onTo
  rw [List.range_succ, List.filter_append]
  simp [List.getD_eq_getElem?_getD, hi, h]
theorem onTo_no (σ : List Bool) (i : Nat) (hi : i < σ.length) (h : σ[i] = false) : onTo σ (i + 1) = onTo σ i := by
  unfold onTo
  rw [List.range_succ, List.filter_append]
  simp [List.getD_eq_getElem?_getD, hi, h]
theorem onTo_len (σ : List Bool) (i : Nat) : (onTo σ i).length ≤ i := by
  unfold onTo
  rw [List.length_map]
  exact Nat.le_trans (List.length_filter_le _ _) (by simp)
theorem mem_onTo (σ : List Bool) (t : Int) : t ∈ onTo σ σ.length ↔ ∃ i : Nat, t = (i : Int) ∧ σ[i]? = some true := by
  unfold onTo
  simp only [List.mem_map, List.mem_filter, List.mem_range]
  constructor
  · rintro ⟨i, ⟨h1, h2⟩, rfl⟩
    refine ⟨i, rfl, ?_⟩
    rw [List.getD_eq_getElem?_getD, List.getElem?_eq_getElem h1] at h2
    rw [List.getElem?_eq_getElem h1]
    simpa using h2
  · rintro ⟨i, rfl, h⟩
    have h1 := (List.getElem?_eq_some_iff.1 h).1
    exact ⟨i, ⟨h1, by rw [List.getD_eq_getElem?_getD, h]; rfl⟩, rfl⟩
def StatesIs (σ : List Bool) : Prop := ∀ b w, b < w.heap.size → w.cell? ⟨b, 0, none⟩ = some (.int .i64 (σ.length : Int)) → Calls Try.prog 75 #[.pointer (some ⟨b, 0, none⟩), .string (txtB σ)] w fun e w' => ∃ v, e = .returned v ∧ df.Owns w' w.heap.size v (onTo σ σ.length) ∧ Below w.heap.size w w'
set_option maxHeartbeats 1000000 in
set_option maxRecDepth 100000 in
theorem states_any (σ : List Bool) (hl : σ.length ≤ 1000000) : StatesIs σ := by
  intro b w hb h0
  have hasT : ∀ (i : Nat) (hi : i < σ.length) (r : Bool), r = σ[i] → HasTIs σ i r := fun i hi r hr => has_txt σ hl i hi r hr
  unfold HasTIs at hasT
  generalize txtB σ = t at *
  have ho0 : df.Owns w w.heap.size (.slice none 0 0) (onTo σ 0) := ⟨by simp [onTo], .inl ⟨rfl, rfl⟩⟩
  go_enter Try.func75, Try.ntmps75
  go_wp2_with (fail)
  go_loopw [5, 12] (fun y x wr => ∃ (i : Nat) (gy : Option Addr) (cy : Nat), y = .slice gy (onTo σ i).length cy ∧ x = .int .i64 i ∧ i ≤ σ.length ∧ df.Owns wr w.heap.size (.slice gy (onTo σ i).length cy) (onTo σ i) ∧ Below w.heap.size w wr) (fun _ x _ => σ.length - (intOf x).toNat)
  case atStart => exact ⟨0, none, 0, rfl, rfl, by omega, ho0, Below.refl _ _⟩
  case round =>
    obtain ⟨i, gy, cy, rfl, rfl, hi, ho, hB⟩ := hrel
    clear ho0
    by_cases hend : i < σ.length
    · cases hs : σ[i] with
      | true =>
        have h76 := hasT i hend true hs.symm
        have HN : Hid (onTo σ (i + 1) = onTo σ i ++ [(i : Int)]) := onTo_yes σ i hend hs
        have hln := onTo_len σ i
        have HO : Hid (df.Owns wr w.heap.size (.slice gy (onTo σ i).length cy) (onTo σ i)) := ho
        have HB : Hid (Below w.heap.size w wr) := hB
        have hsz := hB.size
        clear hasT hs ho hB
        go_wp2_with (first | (go_at_call 76; refine (h76 _).mono ?_; rintro e w1 ⟨rfl, rfl⟩) | (at_builtin; refine nf.wpList_append_at rfl (.tmp 18) (.tmp 20) rfl w.heap.size _ (onTo σ i) (i : Int) _ rfl rfl (owns_later HO.out (nf.below_alloc _ _)) (nf.tmp_cell _ _ _ rfl) (by omega) (by simp; omega) ?_; intro g' cap' w2 hown2 hgr2 hw2))
        go_roundw
        case rel => exact ⟨i + 1, some ⟨g', 0, none⟩, cap', by rw [HN.out]; simp, by go_num, by omega, by rw [HN.out]; simpa using hown2, (HB.out.alloc hsz _).grown hgr2 (by simp; omega) (df.own_ge HO.out)⟩
        case measure => simp [intOf]; omega
      | false =>
        have h76 := hasT i hend false hs.symm
        have HN : Hid (onTo σ (i + 1) = onTo σ i) := onTo_no σ i hend hs
        clear hasT hs
        go_wp2_with (go_at_call 76; refine (h76 _).mono ?_; rintro e w1 ⟨rfl, rfl⟩)
        go_roundw
        case rel => exact ⟨i + 1, gy, cy, by rw [HN.out], by go_num, by omega, by rw [HN.out]; exact ho, hB⟩
        case measure => simp [intOf]; omega
    · have he : i = σ.length := by omega
      subst he
      clear hasT
      go_wp2_with (fail)
      go_ret
      exact ⟨_, rfl, ho, hB⟩
end Go.Proofs.Ythknhbmibmndoaa.bd
