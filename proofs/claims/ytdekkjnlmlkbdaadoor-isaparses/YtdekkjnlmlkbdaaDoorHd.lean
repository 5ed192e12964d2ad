/-
  Contracts over this program: instructions as bytes, as the document says (Put).
-/
import Derived.Test.YtdekkjnlmlkbdaaDoorHc
import Derived.Test.YtdekkjnlmlkbdaaDoorRGets
import Derived.Deep.RegionHeld3
namespace Go.Proofs.YtdekkjnlmlkbdaaDoor.is
open Go.Proofs.YtdekkjnlmlkbdaaDoor.num
open Go.ChangeShapes Go.WideShapes Go.ChangeAt Go.RowKit
set_option linter.unusedVariables false

theorem rput_ba (n : Nat) (hn : n < 18446744073709551616) (w : World) : Calls Tryd.prog 30 #[.int .u64 n] w fun e w' => e = .returned (.string (ba (digs n))) ∧ Below w.heap.size w w' := rput_any n hn w
def RPutsIs (l : List In) (s : List UInt8) (er : Nat) : Prop := ∀ (v : Value) (w : World), InsAt w v l → Calls Tryd.prog 12 #[v] w fun e w' => e = .returned (.tuple #[.string (ba s), .int .i64 er]) ∧ Below w.heap.size w w'

set_option maxHeartbeats 2000000 in
set_option maxRecDepth 100000 in
theorem rputs_bad (l : List In) (h : allE l ≠ 0) : RPutsIs l [] (allE l) := by
  intro v w hv
  have h20 := rall_any l v w hv
  generalize allE l = er at *
  have hne : ((er : Int) == 0) = false := by rw [beq_eq_false_iff_ne]; omega
  clear h hv
  go_enter Tryd.func12, Tryd.ntmps12
  go_wp2_with (go_at_call 20; refine h20.mono ?_; rintro e w1 ⟨rfl, hb⟩)
  go_ret2
  exact ⟨rfl, hb⟩

theorem five {g : Nat} {i : In} {W : World} (b : IBlk W g i) :
    W.cell? ⟨g, 0, none⟩ = some (.int .i64 i.op) ∧ W.cell? ⟨g, 1, none⟩ = some (.int .i64 i.a) ∧ W.cell? ⟨g, 2, none⟩ = some (.int .i64 i.b) ∧ W.cell? ⟨g, 3, none⟩ = some (.int .i64 i.c) ∧ W.cell? ⟨g, 4, none⟩ = some (.int .i64 i.d) ∧ IBlk W g i := ⟨b.c0, b.c1, b.c2, b.c3, b.c4, b⟩
theorem five_next {g : Nat} {i : In} {W W' : World} (h : W.cell? ⟨g, 0, none⟩ = some (.int .i64 i.op) ∧ W.cell? ⟨g, 1, none⟩ = some (.int .i64 i.a) ∧ W.cell? ⟨g, 2, none⟩ = some (.int .i64 i.b) ∧ W.cell? ⟨g, 3, none⟩ = some (.int .i64 i.c) ∧ W.cell? ⟨g, 4, none⟩ = some (.int .i64 i.d) ∧ IBlk W g i) (l : Below W.heap.size W W') :
    W'.cell? ⟨g, 0, none⟩ = some (.int .i64 i.op) ∧ W'.cell? ⟨g, 1, none⟩ = some (.int .i64 i.a) ∧ W'.cell? ⟨g, 2, none⟩ = some (.int .i64 i.b) ∧ W'.cell? ⟨g, 3, none⟩ = some (.int .i64 i.c) ∧ W'.cell? ⟨g, 4, none⟩ = some (.int .i64 i.d) ∧ IBlk W' g i := five (h.2.2.2.2.2.later l)

/-- the bytes of the fields by their letters -/
def letB (i : In) (L : List Nat) (k : Nat) : List UInt8 := (L.drop k).flatMap fun c => digs (valC i c).toNat
theorem letB_take (i : In) (L : List Nat) (k : Nat) (h : k < L.length) : letB i L k = digs (valC i (L.getD k 0)).toNat ++ letB i L (k + 1) := by
  unfold letB
  rw [List.drop_eq_getElem_cons h, List.flatMap_cons, List.getD_eq_getElem?_getD, List.getElem?_eq_getElem h]
  rfl
theorem letB_end (i : In) (L : List Nat) (k : Nat) (h : L.length ≤ k) : letB i L k = [] := by unfold letB; rw [List.drop_eq_nil_of_le h]; rfl
theorem letB_put (i : In) (h1 : 1 ≤ i.op) (h2 : i.op ≤ 17) : putI i = digs i.op.toNat ++ letB i (lets i.op.toNat) 0 := by
  unfold putI letB
  rw [← lets_fld i.op.toNat (by omega), List.flatMap_map, List.drop_zero]
  congr 1
  have : ∀ c ∈ lets i.op.toNat, digs (fld i (fldC c)).toNat = digs (valC i c).toNat := fun c hc => by rw [val_fld i c (lets_known _ (by omega) c hc)]
  generalize lets i.op.toNat = L at *
  induction L with
  | nil => rfl
  | cons c L ih => rw [List.flatMap_cons, List.flatMap_cons, this c (by simp), ih fun d hd => this d (by simp [hd])]
theorem val_ok {i : In} (h : okI i = true) (k : Nat) (hk : k < (lets i.op.toNat).length) : valC i ((lets i.op.toNat).getD k 0) = ((valC i ((lets i.op.toNat).getD k 0)).toNat : Int) ∧ (valC i ((lets i.op.toNat).getD k 0)).toNat ≤ 1073741824 := by
  have hop := okI_op h
  have hm : (lets i.op.toNat).getD k 0 ∈ lets i.op.toNat := by rw [List.getD_eq_getElem?_getD, List.getElem?_eq_getElem hk]; exact List.getElem_mem _
  rw [val_fld i _ (lets_known _ (by omega) _ hm)]
  have h1 := okI_fld h _ (fldC_lt ((lets i.op.toNat).getD k 0))
  exact ⟨by omega, okI_small h _ (fldC_lt _)⟩

set_option maxHeartbeats 8000000 in
set_option maxRecDepth 100000 in
theorem rputs_ok (l : List In) (h : allE l = 0) : RPutsIs l (putL l) 0 := by
  intro v w hv
  have h20 := rall_any l v w hv
  rw [h] at h20
  obtain ⟨hl, hok⟩ := all_ok h
  have hle := putL_le h
  obtain ⟨o, n, cap, rfl, hn, hc, hcm, hel⟩ := hv.open
  have h30 := rput_ba n (by omega)
  have hnu := u64_small n (by omega)
  have HL := (show Hid (putL l = digs n ++ (l.drop 0).flatMap putI) by show _ = _; rw [← hn]; rfl)
  have HD := (show Hid (∀ m, m < n → (l.drop m).flatMap putI = putI (l.getD m zI) ++ (l.drop (m + 1)).flatMap putI) from fun m hm => flat_drop l putI m (by omega))
  have HOK := (show Hid (∀ m, m < n → okI (l.getD m zI) = true) from fun m hm => by rw [at_getD l m (by omega)]; exact hok _ (List.getElem_mem _))
  have HEND := (show Hid ((l.drop n).flatMap putI = []) by show _ = _; rw [List.drop_eq_nil_of_le (by omega)]; rfl)
  have hn2 : n ≤ 4096 := by omega
  generalize hP : putL l = P at *
  clear h hok hn hv hl hP
  go_enter Tryd.func12, Tryd.ntmps12
  go_wp2_with (first | (go_at_call 20; refine h20.mono ?_; rintro e w1 ⟨rfl, hb1⟩) | (go_at_call 30; refine (h30 _).mono ?_; rintro e w2 ⟨rfl, hb2⟩))
  go_loopw [5, 20] (fun z y wr => ∃ (m : Nat) (out : List UInt8), z = .string (ba out) ∧ y = .int .i64 m ∧ m ≤ n ∧ Below w.heap.size w wr ∧ Hid (out ++ (l.drop m).flatMap putI = P)) (fun _ y _ => n - (intOf y).toNat)
  case atStart => exact ⟨0, digs n, rfl, rfl, by omega, chain hb1 hb2, HL.out.symm⟩
  case round =>
    rename_i wr
    obtain ⟨m, out, rfl, rfl, hm, hB, HQ⟩ := hrel
    by_cases hmn : m < n
    · obtain ⟨b, off, rfl, i1⟩ := hel m hmn
      have i1 := i1.later hB
      have hok := HOK.out m hmn
      have HR := (show Hid (out ++ (putI (l.getD m zI) ++ (l.drop (m + 1)).flatMap putI) = P) by show _ = _; rw [← HD.out m hmn]; exact HQ.out)
      clear HQ
      obtain ⟨rest, hrest⟩ : ∃ r, r = (l.drop (m + 1)).flatMap putI := ⟨_, rfl⟩
      rw [← hrest] at HR
      have HX := (show Hid (rest = (l.drop (m + 1)).flatMap putI) from hrest)
      clear hrest
      generalize l.getD m zI = x at *
      have hop := okI_op hok
      have HV := (show Hid (∀ k, k < (lets x.op.toNat).length → valC x ((lets x.op.toNat).getD k 0) = ((valC x ((lets x.op.toNat).getD k 0)).toNat : Int) ∧ (valC x ((lets x.op.toNat).getD k 0)).toNat ≤ 1073741824) from fun k hk => val_ok hok k hk)
      have HP := (show Hid (putI x = digs x.op.toNat ++ letB x (lets x.op.toNat) 0) from letB_put x hop.1 hop.2)
      have hput := putI_le hok
      obtain ⟨op, xa, xb, xc, xd⟩ := x
      obtain ⟨q, rfl⟩ : ∃ q : Nat, op = q := ⟨op.toNat, by simp only at hop; omega⟩
      have hq1 : 1 ≤ q := by simp only at hop; omega
      have hq2 : q ≤ 17 := by simp only at hop; omega
      have HV : Hid (∀ k, k < (lets q).length → valC ⟨q, xa, xb, xc, xd⟩ ((lets q).getD k 0) = ((valC ⟨q, xa, xb, xc, xd⟩ ((lets q).getD k 0)).toNat : Int) ∧ (valC ⟨q, xa, xb, xc, xd⟩ ((lets q).getD k 0)).toNat ≤ 1073741824) := HV.out
      have HP : Hid (putI ⟨q, xa, xb, xc, xd⟩ = digs q ++ letB ⟨q, xa, xb, xc, xd⟩ (lets q) 0) := HP.out
      have h30q := rput_ba q (by omega)
      have hqu := u64_small q (by omega)
      have hF := rfields_any q hq1 hq2
      have hsz := lb_size q
      have hat := fun k h => lb_at q k (by omega) h
      have hs3 : (lets q).length ≤ 3 := by
        have : ∀ x : Fin 18, (lets x).length ≤ 3 := by decide
        exact this ⟨q, by omega⟩
      unfold RFieldsIs at hF
      generalize lb q = s2 at *
      generalize lets q = M at *
      have HS := (show Hid ((out ++ digs q) ++ (letB ⟨q, xa, xb, xc, xd⟩ M 0 ++ rest) = P) by show _ = _; rw [← HR.out, HP.out]; simp only [List.append_assoc])
      have hlo : out.length + 50 ≤ 300050 := by
        have h5 := congrArg List.length HR.out
        rw [List.length_append] at h5
        omega
      have hadd : ¬ 9223372036854775807 < (ba out).size + (ba (digs q)).size := by rw [ba_size, ba_size]; have := digs_short q (by omega); omega
      have hap := ba_append out (digs q)
      have a0 := i1.c0
      have a1 := i1.c1
      have a2 := i1.c2
      have a3 := i1.c3
      have a4 := i1.c4
      have hbA : Below wr.heap.size wr (wr.alloc (.cells #[.int .i64 q, .int .i64 xa, .int .i64 xb, .int .i64 xc, .int .i64 xd] 23)) := (Below.refl _ _).alloc (Nat.le_refl _) _
      have hkA : IBlk (wr.alloc (.cells #[.int .i64 q, .int .i64 xa, .int .i64 xb, .int .i64 xc, .int .i64 xd] 23)) wr.heap.size ⟨q, xa, xb, xc, xd⟩ := heap_alloc_new wr _
      have hBA := chain hB hbA
      clear i1 hok hop hbA HR HP
      go_wp2_with (go_at_call 30; refine (h30q _).mono ?_; rintro e w4 ⟨rfl, hb4⟩; have hk4 := hkA.later hb4; have hB4 := chain hBA hb4)
      clear hkA hBA hadd hap
      generalize wr.heap.size = g7 at *
      go_loopw [5, 8] (fun z y wq => ∃ (k : Nat) (o2 : List UInt8), z = .string (ba o2) ∧ y = .int .i64 k ∧ k ≤ s2.size ∧ Below w.heap.size w wq ∧ IBlk wq g7 ⟨q, xa, xb, xc, xd⟩ ∧ Hid (o2 ++ (letB ⟨q, xa, xb, xc, xd⟩ M k ++ rest) = P)) (fun _ y _ => s2.size - (intOf y).toNat)
      case atStart => exact ⟨0, out ++ digs q, rfl, rfl, by omega, hB4, hk4, HS⟩
      case round =>
        rename_i wq
        obtain ⟨k, o2, rfl, rfl, hk, hBq, hkq, HZ⟩ := hrel
        have c0 := hkq.c0
        by_cases hkl : k < s2.size
        · have hk3 : k < 3 := by omega
          have hcc := hat k hkl
          obtain ⟨hv1, hv2⟩ := HV.out k (by omega)
          have HT := (show Hid (letB ⟨q, xa, xb, xc, xd⟩ M k = digs (valC ⟨q, xa, xb, xc, xd⟩ (M.getD k 0)).toNat ++ letB ⟨q, xa, xb, xc, xd⟩ M (k + 1)) from letB_take _ M k (by omega))
          have hVc := value_any ⟨q, xa, xb, xc, xd⟩ (M.getD k 0)
          unfold ValueIs vI at hVc
          rw [hv1] at hVc
          have HN : Hid ((o2 ++ digs (valC ⟨q, xa, xb, xc, xd⟩ (M.getD k 0)).toNat) ++ (letB ⟨q, xa, xb, xc, xd⟩ M (k + 1) ++ rest) = P) := by
            show _ = _
            rw [← HZ.out, HT.out]
            simp only [List.append_assoc]
          have hlo2 : o2.length ≤ 300000 := by
            have h5 := congrArg List.length HZ.out
            rw [List.length_append] at h5
            omega
          generalize (valC ⟨q, xa, xb, xc, xd⟩ (M.getD k 0)).toNat = vn at *
          clear HZ HT hv1
          generalize M.getD k 0 = c at *
          have h30v := rput_ba vn (by omega)
          have hvu := u64_small vn (by omega)
          have hadd : ¬ 9223372036854775807 < (ba o2).size + (ba (digs vn)).size := by rw [ba_size, ba_size]; have := digs_short vn (by omega); omega
          have hap := ba_append o2 (digs vn)
          clear hat
          go_wp2_with (go_at_call 22; refine (hF _).mono ?_; rintro e w5 ⟨rfl, hb5⟩; have hS := five (hkq.later hb5); have hk5 := hkq.later hb5; have hB5 := chain hBq hb5)
          have hS2 : (fun W => W.cell? ⟨g7, 0, none⟩ = some (.int .i64 q) ∧ W.cell? ⟨g7, 1, none⟩ = some (.int .i64 xa) ∧ W.cell? ⟨g7, 2, none⟩ = some (.int .i64 xb) ∧ W.cell? ⟨g7, 3, none⟩ = some (.int .i64 xc) ∧ W.cell? ⟨g7, 4, none⟩ = some (.int .i64 xd) ∧ IBlk W g7 ⟨q, xa, xb, xc, xd⟩) w5.drew := five (W := w5.drew) hk5
          dsimp only at hS2
          go_region_held3 (fun W => W.cell? ⟨g7, 0, none⟩ = some (.int .i64 q) ∧ W.cell? ⟨g7, 1, none⟩ = some (.int .i64 xa) ∧ W.cell? ⟨g7, 2, none⟩ = some (.int .i64 xb) ∧ W.cell? ⟨g7, 3, none⟩ = some (.int .i64 xc) ∧ W.cell? ⟨g7, 4, none⟩ = some (.int .i64 xd) ∧ IBlk W g7 ⟨q, xa, xb, xc, xd⟩) (first | assumption | exact hS2 | exact five_next (i := ⟨q, xa, xb, xc, xd⟩) (by assumption) (by assumption)) (first | (go_at_call 22; refine (hF _).mono ?_; rintro e w6 ⟨rfl, b6⟩) | (go_at_call 23; refine (hVc _).mono ?_; rintro e w7 ⟨rfl, b7⟩) | (go_at_call 30; refine (h30v _).mono ?_; rintro e w8 ⟨rfl, b8⟩))
          have hk8 := (((show IBlk w5.drew g7 ⟨q, xa, xb, xc, xd⟩ from hk5).later b6).later b7).later b8
          have hB8 := chain (chain (chain hB5.drew b6) b7) b8
          go_wp2
          go_roundw
          case rel => exact ⟨k + 1, o2 ++ digs vn, rfl, by go_num, by omega, hB8, hk8, HN⟩
          case measure => simp [intOf]; omega
        · have HN : Hid (o2 ++ rest = P) := by show _ = _; rw [← HZ.out, letB_end _ M k (by omega)]; rfl
          clear HZ hat
          go_wp2_with (go_at_call 22; refine (hF _).mono ?_; rintro e w5 ⟨rfl, hb5⟩)
          go_roundw
          case rel => exact ⟨m + 1, o2, rfl, by go_num, by omega, chain hBq hb5, by show _ = _; rw [← HX.out]; exact HN.out⟩
          case measure => simp [intOf]; omega
    · obtain rfl : m = n := by omega
      have HE : Hid (out = P) := by show _ = _; rw [← HQ.out, HEND.out, List.append_nil]
      go_wp2
      go_ret2
      exact ⟨by rw [HE.out]; rfl, hB⟩
end Go.Proofs.YtdekkjnlmlkbdaaDoor.is
