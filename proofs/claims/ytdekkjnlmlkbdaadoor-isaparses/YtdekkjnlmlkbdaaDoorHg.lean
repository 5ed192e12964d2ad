/-
  Contracts over this program: an instruction's line (Line) and the lines of a list (Text), as the document says.
-/
import Derived.Test.YtdekkjnlmlkbdaaDoorHf
namespace Go.Proofs.YtdekkjnlmlkbdaaDoor.is
open Go.Proofs.YtdekkjnlmlkbdaaDoor.num
open Go.ChangeShapes Go.WideShapes Go.ChangeAt Go.RowKit
set_option linter.unusedVariables false

theorem six {w : World} {g : Nat} {i : In} {W : World} (b : IBlk W g i) (l : Below w.heap.size w W) :
    W.cell? ⟨g, 0, none⟩ = some (.int .i64 i.op) ∧ W.cell? ⟨g, 1, none⟩ = some (.int .i64 i.a) ∧ W.cell? ⟨g, 2, none⟩ = some (.int .i64 i.b) ∧ W.cell? ⟨g, 3, none⟩ = some (.int .i64 i.c) ∧ W.cell? ⟨g, 4, none⟩ = some (.int .i64 i.d) ∧ IBlk W g i ∧ Below w.heap.size w W := ⟨b.c0, b.c1, b.c2, b.c3, b.c4, b, l⟩
theorem six_next {w : World} {g : Nat} {i : In} {W W' : World} (h : W.cell? ⟨g, 0, none⟩ = some (.int .i64 i.op) ∧ W.cell? ⟨g, 1, none⟩ = some (.int .i64 i.a) ∧ W.cell? ⟨g, 2, none⟩ = some (.int .i64 i.b) ∧ W.cell? ⟨g, 3, none⟩ = some (.int .i64 i.c) ∧ W.cell? ⟨g, 4, none⟩ = some (.int .i64 i.d) ∧ IBlk W g i ∧ Below w.heap.size w W) (l : Below W.heap.size W W') :
    W'.cell? ⟨g, 0, none⟩ = some (.int .i64 i.op) ∧ W'.cell? ⟨g, 1, none⟩ = some (.int .i64 i.a) ∧ W'.cell? ⟨g, 2, none⟩ = some (.int .i64 i.b) ∧ W'.cell? ⟨g, 3, none⟩ = some (.int .i64 i.c) ∧ W'.cell? ⟨g, 4, none⟩ = some (.int .i64 i.d) ∧ IBlk W' g i ∧ Below w.heap.size w W' := six (h.2.2.2.2.2.1.later l) (chain h.2.2.2.2.2.2 l)

/-- a line's fields by their letters -/
def letT (i : In) (L : List Nat) (k : Nat) : List UInt8 := (L.drop k).flatMap fun c => 32 :: (signC c ++ Lib.decDigits (valC i c).toNat)
theorem letT_take (i : In) (L : List Nat) (k : Nat) (h : k < L.length) : letT i L k = (32 :: (signC (L.getD k 0) ++ Lib.decDigits (valC i (L.getD k 0)).toNat)) ++ letT i L (k + 1) := by
  unfold letT
  rw [List.drop_eq_getElem_cons h, List.flatMap_cons, List.getD_eq_getElem?_getD, List.getElem?_eq_getElem h]
  rfl
theorem letT_end (i : In) (L : List Nat) (k : Nat) (h : L.length ≤ k) : letT i L k = [] := by unfold letT; rw [List.drop_eq_nil_of_le h]; rfl
theorem letT_line (i : In) (h1 : 1 ≤ i.op) (h2 : i.op ≤ 17) : lineI i = wrd i.op.toNat ++ letT i (lets i.op.toNat) 0 := by
  unfold lineI letT
  rw [← lets_fld i.op.toNat (by omega), List.flatMap_map, List.drop_zero]
  congr 1
  have : ∀ c ∈ lets i.op.toNat, fieldT i (fldC c) = 32 :: (signC c ++ Lib.decDigits (valC i c).toNat) := fun c hc => by rw [val_fld i c (lets_known _ (by omega) c hc), signC_sgn _ (by omega) c hc]; rfl
  generalize lets i.op.toNat = L at *
  induction L with
  | nil => rfl
  | cons c L ih => rw [List.flatMap_cons, List.flatMap_cons, this c (by simp), ih fun d hd => this d (by simp [hd])]

def RLineIs (x : In) : Prop := ∀ w, Pow w → Calls Tryd.prog 33 #[vI x] w fun e w' => e = .returned (.string (ba (lineI x))) ∧ Below w.heap.size w w'

set_option maxHeartbeats 8000000 in
set_option maxRecDepth 100000 in
theorem rline_any (x : In) (hok : okI x = true) : RLineIs x := by
  intro w hPw
  have hop := okI_op hok
  have HV := (show Hid (∀ k, k < (lets x.op.toNat).length → valC x ((lets x.op.toNat).getD k 0) = ((valC x ((lets x.op.toNat).getD k 0)).toNat : Int) ∧ (valC x ((lets x.op.toNat).getD k 0)).toNat ≤ 1073741824) from fun k hk => val_ok hok k hk)
  have HP := (show Hid (lineI x = wrd x.op.toNat ++ letT x (lets x.op.toNat) 0) from letT_line x hop.1 hop.2)
  have hput := lineI_le hok
  obtain ⟨op, xa, xb, xc, xd⟩ := x
  obtain ⟨q, rfl⟩ : ∃ q : Nat, op = q := ⟨op.toNat, by simp only at hop; omega⟩
  have hq1 : 1 ≤ q := by simp only at hop; omega
  have hq2 : q ≤ 17 := by simp only at hop; omega
  have HV : Hid (∀ k, k < (lets q).length → valC ⟨q, xa, xb, xc, xd⟩ ((lets q).getD k 0) = ((valC ⟨q, xa, xb, xc, xd⟩ ((lets q).getD k 0)).toNat : Int) ∧ (valC ⟨q, xa, xb, xc, xd⟩ ((lets q).getD k 0)).toNat ≤ 1073741824) := HV.out
  have HP : Hid (wrd q ++ letT ⟨q, xa, xb, xc, xd⟩ (lets q) 0 = lineI ⟨q, xa, xb, xc, xd⟩) := HP.out.symm
  have hF := rfields_any q hq1 hq2
  have hW := rword_any q hq1 hq2
  have hsz := lb_size q
  have hat := fun k h => lb_at q k (by omega) h
  have hs3 : (lets q).length ≤ 3 := by
    have : ∀ x : Fin 18, (lets x).length ≤ 3 := by decide
    exact this ⟨q, by omega⟩
  unfold RFieldsIs at hF
  unfold RWordIs at hW
  generalize lb q = s2 at *
  generalize lets q = M at *
  generalize lineI ⟨q, xa, xb, xc, xd⟩ = P at *
  have hbA : Below w.heap.size w (w.alloc (.cells #[.int .i64 q, .int .i64 xa, .int .i64 xb, .int .i64 xc, .int .i64 xd] 23)) := (Below.refl _ _).alloc (Nat.le_refl _) _
  have hkA : IBlk (w.alloc (.cells #[.int .i64 q, .int .i64 xa, .int .i64 xb, .int .i64 xc, .int .i64 xd] 23)) w.heap.size ⟨q, xa, xb, xc, xd⟩ := heap_alloc_new w _
  clear hok hop
  unfold vI
  go_enter Tryd.func33, Tryd.ntmps33
  go_wp2_with (go_at_call 42; refine (hW _).mono ?_; rintro e w4 ⟨rfl, hb4⟩; have hk4 := hkA.later hb4; have hB4 := chain hbA hb4)
  clear hkA hbA
  obtain ⟨g7, hg7⟩ : ∃ g, g = w.heap.size := ⟨_, rfl⟩
  rw [← hg7] at hk4
  rw [← hg7]
  clear hg7
  go_loopw [3, 4] (fun z y wq => ∃ (k : Nat) (o2 : List UInt8), z = .string (ba o2) ∧ y = .int .i64 k ∧ k ≤ s2.size ∧ Below w.heap.size w wq ∧ IBlk wq g7 ⟨q, xa, xb, xc, xd⟩ ∧ Hid (o2 ++ letT ⟨q, xa, xb, xc, xd⟩ M k = P)) (fun _ y _ => s2.size - (intOf y).toNat)
  case atStart => exact ⟨0, wrd q, rfl, rfl, by omega, hB4, hk4, HP⟩
  case round =>
    rename World => wq
    obtain ⟨k, o2, rfl, rfl, hk, hBq, hkq, HZ⟩ := hrel
    have c0 := hkq.c0
    by_cases hkl : k < s2.size
    · have hk3 : k < 3 := by omega
      have hcc := hat k hkl
      obtain ⟨hv1, hv2⟩ := HV.out k (by omega)
      have HT := (show Hid (letT ⟨q, xa, xb, xc, xd⟩ M k = (32 :: (signC (M.getD k 0) ++ Lib.decDigits (valC ⟨q, xa, xb, xc, xd⟩ (M.getD k 0)).toNat)) ++ letT ⟨q, xa, xb, xc, xd⟩ M (k + 1)) from letT_take _ M k (by omega))
      have hVc := value_any ⟨q, xa, xb, xc, xd⟩ (M.getD k 0)
      have hSc := rsign_any (M.getD k 0)
      have hsl := signC_le (M.getD k 0)
      unfold ValueIs vI at hVc
      unfold RSignIs at hSc
      rw [hv1] at hVc
      have HN : Hid ((o2 ++ (32 :: (signC (M.getD k 0) ++ Lib.decDigits (valC ⟨q, xa, xb, xc, xd⟩ (M.getD k 0)).toNat))) ++ letT ⟨q, xa, xb, xc, xd⟩ M (k + 1) = P) := by
        show _ = _
        rw [← HZ.out, HT.out, List.append_assoc]
      have hlo2 : o2.length ≤ 300000 := by
        have h5 := congrArg List.length HZ.out
        rw [List.length_append] at h5
        omega
      generalize (valC ⟨q, xa, xb, xc, xd⟩ (M.getD k 0)).toNat = vn at *
      clear HZ HT hv1
      generalize M.getD k 0 = c at *
      generalize signC c = sg at *
      have h31 := itoa_any vn hv2
      have hdl := dec_len vn hv2
      unfold ItoaIs at h31
      obtain ⟨u1, hu1⟩ : ∃ u, u = o2 ++ [32] := ⟨_, rfl⟩
      obtain ⟨u2, hu2⟩ : ∃ u, u = u1 ++ sg := ⟨_, rfl⟩
      obtain ⟨u3, hu3⟩ : ∃ u, u = u2 ++ Lib.decDigits vn := ⟨_, rfl⟩
      have hul : u1.length = o2.length + 1 ∧ u2.length = u1.length + sg.length := ⟨by rw [hu1]; simp, by rw [hu2]; simp⟩
      have hz1 : ¬ 9223372036854775807 < (ba o2).size + 1 := by rw [ba_size]; omega
      have hz2 : ¬ 9223372036854775807 < (ba u1).size + (ba sg).size := by rw [ba_size, ba_size]; omega
      have hz3 : ¬ 9223372036854775807 < (ba u2).size + (ba (Lib.decDigits vn)).size := by rw [ba_size, ba_size]; omega
      have hap1 : ba o2 ++ (ByteArray.mk #[32]) = ba u1 := by rw [hu1]; exact ba_append o2 [32]
      have hap2 : ba u1 ++ ba sg = ba u2 := by rw [hu2]; exact ba_append u1 sg
      have hap3 : ba u2 ++ ba (Lib.decDigits vn) = ba u3 := by rw [hu3]; exact ba_append u2 _
      have HN : Hid (u3 ++ letT ⟨q, xa, xb, xc, xd⟩ M (k + 1) = P) := by
        show _ = _
        rw [← HN.out, hu3, hu2, hu1]
        simp
      clear hu1 hu2 hu3 hul
      clear hat
      go_wp2_with (go_at_call 22; refine (hF _).mono ?_; rintro e w5 ⟨rfl, hb5⟩; have hkq := hkq.later hb5; have hBq := chain hBq hb5; have c0 := hkq.c0)
      rename World => w6
      have hS3 : (fun W => W.cell? ⟨g7, 0, none⟩ = some (.int .i64 q) ∧ W.cell? ⟨g7, 1, none⟩ = some (.int .i64 xa) ∧ W.cell? ⟨g7, 2, none⟩ = some (.int .i64 xb) ∧ W.cell? ⟨g7, 3, none⟩ = some (.int .i64 xc) ∧ W.cell? ⟨g7, 4, none⟩ = some (.int .i64 xd) ∧ IBlk W g7 ⟨q, xa, xb, xc, xd⟩ ∧ Below w.heap.size w W) w6.drew := six (i := ⟨q, xa, xb, xc, xd⟩) (W := w6.drew) hkq hBq.drew
      dsimp only at hS3
      have hkd : IBlk w6.drew g7 ⟨q, xa, xb, xc, xd⟩ := hkq
      have hBd := hBq.drew
      go_region_held3 (fun W => W.cell? ⟨g7, 0, none⟩ = some (.int .i64 q) ∧ W.cell? ⟨g7, 1, none⟩ = some (.int .i64 xa) ∧ W.cell? ⟨g7, 2, none⟩ = some (.int .i64 xb) ∧ W.cell? ⟨g7, 3, none⟩ = some (.int .i64 xc) ∧ W.cell? ⟨g7, 4, none⟩ = some (.int .i64 xd) ∧ IBlk W g7 ⟨q, xa, xb, xc, xd⟩ ∧ Below w.heap.size w W) (first | assumption | exact hS3 | exact six_next (i := ⟨q, xa, xb, xc, xd⟩) (by assumption) (by assumption)) (first | (go_at_call 43; refine (hSc _).mono ?_; rintro e w7 ⟨rfl, h7⟩; obtain rfl := h7.symm) | (go_at_call 23; refine (hVc _).mono ?_; rintro e w8 ⟨rfl, b8⟩; have hP8 := hPw.later (chain hBd b8)) | (go_at_call 31; refine (h31 _ hP8).mono ?_; rintro e w9 ⟨rfl, b9⟩))
      have hk9 := (hkd.later b8).later b9
      have hB9 := chain (chain hBd b8) b9
      go_wp2
      go_roundw
      case rel => exact ⟨k + 1, u3, rfl, by go_num, by omega, hB9, hk9, HN⟩
      case measure => simp [intOf]; omega
    · have HN : Hid (o2 = P) := by show _ = _; rw [← HZ.out, letT_end _ M k (by omega), List.append_nil]
      clear HZ hat
      go_wp2_with (go_at_call 22; refine (hF _).mono ?_; rintro e w5 ⟨rfl, hb5⟩)
      go_ret
      exact ⟨by rw [← HN.out]; rfl, chain hBq hb5⟩
end Go.Proofs.YtdekkjnlmlkbdaaDoor.is
