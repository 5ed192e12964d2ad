/-
  Contracts over this program: ids merged (merged), merge.Apply.
-/
import Derived.Test.YthcekfmodmnekaaMl
namespace Go.Proofs.Ythcekfmodmnekaa.mg
open Go.ChangeShapes Go.WideShapes Go.ChangeAt Go.RowKit Go.Shelf Go.Maps
set_option linter.unusedVariables false
set_option maxRecDepth 100000

def rowLen (w : World) (rb : Nat) : Nat := match w.cell? ⟨rb, 1, none⟩ with
  | some (.slice _ n _) => n
  | _ => 0
theorem RS.len {B rb mb : Nat} {l : List Mg} {vi vr : Value} {ids : List Int} {kn : List Nat} {W : World} (h : RS B rb mb l vi vr ids kn W) : rowLen W rb = ids.length := by
  obtain ⟨g, c, e, _, _⟩ := ow.form h.oi
  unfold rowLen
  rw [h.c1, e]
theorem Rk.lst {l : List Mg} {ids : List Int} {kn : List Nat} (h : Rk l ids kn) : lst (fun i => kn.getD i 0) kn.length = lst (rk l ids) ids.length := by
  rw [h.1]
  exact lst_congr _ _ _ (fun i hi => h.2 i hi)
/-- how far the ids are merged -/
structure MI (w : World) (rb mb : Nat) (l : List Mg) (ids0 ids : List Int) (W : World) : Prop where
  row : ∃ vi vr kn, RS w.heap.size rb mb l vi vr ids kn W ∧ Rk l ids kn
  app : app l ids = app l ids0
  all : AllIn 100000 ids
  le : ids.length ≤ ids0.length
  below : Below w.heap.size w W
def MergedOut (l : List Mg) (ids : List Int) (w : World) (e : Ending) (W' : World) : Prop := ∃ v', e = .returned v' ∧ IntsV W' v' (app l ids) ∧ Below w.heap.size w W'
set_option maxHeartbeats 2000000 in
set_option maxRecDepth 100000 in
theorem merged_any (l : List Mg) (hl4 : l.length ≤ 1024) (ts : List ByteArray) (hF : Fine l ts) (ids : List Int) (hids : AllIn 100000 ids) (hl : ids.length ≤ 1000000) (v vs : Value) (w : World) (hv : Mgs w v l) (hs : IntsV w vs ids) : Calls Try.prog 44 #[v, vs] w (MergedOut l ids w) := by
  have c26 := newRow_any l hl4 ts hF ids hids hl v vs w hv hs
  obtain ⟨o, cap, rfl, f1, f2, _⟩ := hv.form
  obtain ⟨o', cap', rfl, hrow⟩ := id hs
  have f3 := hrow.fit
  have f4 := hrow.top
  clear hv hs hrow
  go_enter Try.func44, Try.ntmps44
  go_wp2_with (first | (go_at_call 51; refine c26.mono ?_; rintro e w1 ⟨rb, mb, vi, vr, kn, rfl, hS, hK, b1⟩; have c27 := least_any hS; rw [hK.lst] at c27) | (go_at_call 52; refine c27.mono ?_; rintro e w2 ⟨rfl, rfl⟩))
  have M0 : MI w rb mb l ids ids w2 := ⟨⟨_, _, _, hS, hK⟩, rfl, hids, Nat.le_refl _, b1⟩
  clear c26 c27 hS hK b1
  go_loopw [6] (fun y wr => ∃ (is : List Int), y = .int .i64 (lst (rk l is) is.length).2 ∧ Hid (MI w rb mb l ids is wr)) (fun _ wr => rowLen wr rb)
  case atStart => exact ⟨ids, rfl, M0⟩
  case round =>
    clear M0
    obtain ⟨is, rfl, HM⟩ := hrel
    cases hnx : nx l is with
    | none =>
      obtain ⟨h1, h2⟩ := nx_none hnx
      rw [h2]
      obtain ⟨vi2, vr2, kn2, hS, hK⟩ := HM.out.row
      have c1 := hS.c1
      have HF : Hid (MergedOut l ids w (.returned vi2) wr) := ⟨_, rfl, by rw [← HM.out.app, app_none hnx]; exact hS.oi.ints, HM.out.below⟩
      clear hnx h1 h2 HM hS hK
      go_wp2_with (fail)
      go_ret
      exact HF.out
    | some p =>
      obtain ⟨k, r⟩ := p
      obtain ⟨q1, q2, q3, q4, q5, q6, q7, q8⟩ := nx_some hnx
      rw [q8]
      obtain ⟨vi2, vr2, kn2, hS, hK⟩ := HM.out.row
      have hle := HM.out.le
      have HL := hS.len
      have HLL : Hid (rowLen wr rb = is.length) := HL
      have cJ := join_any hS hK HM.out.all (by omega) k r q1 (by rw [hK.2 k (by omega), q4]) q5
      have hjl := joinAt_len is k r q1
      have HJL : Hid ((joinAt is k r).length + 1 = is.length) := hjl
      have HNX : Hid (∀ w3 : World, (∃ vi vr kn, RS w.heap.size rb mb l vi vr (joinAt is k r) kn w3 ∧ Rk l (joinAt is k r) kn) → Below w.heap.size wr w3 → MI w rb mb l ids (joinAt is k r) w3) := fun w3 h1 h2 => ⟨h1, by rw [← HM.out.app, app_some hnx], joinAt_in HM.out.all (by omega), by omega, HM.out.below.trans h2⟩
      have hk0 : (0 : Int) ≤ (k : Int) := by omega
      clear hnx q1 q2 q3 q4 q6 q7 q8 HM hS hK HL hjl hle
      go_wp2_with (first | (go_at_call 53; refine cJ.mono ?_; rintro e w3 ⟨_, vi3, vr3, kn3, rfl, hS3, hK3, b3⟩; have c27 := least_any hS3; rw [hK3.lst] at c27; clear cJ) | (go_at_call 52; refine c27.mono ?_; rintro e w4 ⟨rfl, rfl⟩))
      have M3 := HNX.out w4 ⟨_, _, _, hS3, hK3⟩ b3
      go_roundw
      case rel => exact ⟨joinAt is k r, rfl, M3⟩
      case measure =>
        rw [hS3.len, HLL.out]
        have := HJL.out
        omega
instance (n : Nat) (ids : List Int) : Decidable (AllIn n ids) := by unfold AllIn; infer_instance
def applyE (l : List Mg) (ids : List Int) : Nat := if errOf l ≠ 0 then errOf l else if 4096 < ids.length then 2 else if AllIn (256 + l.length) ids then 0 else 1
def applyL (l : List Mg) (ids : List Int) : List Int := if applyE l ids = 0 then app l ids else []
def ApplyOut (l : List Mg) (ids : List Int) (w : World) (e : Ending) (W' : World) : Prop := ∃ v', e = .returned (.tuple #[v', .int .i64 (applyE l ids : Int)]) ∧ IntsV W' v' (applyL l ids) ∧ Below w.heap.size w W'
theorem ApplyOut.bad {l : List Mg} {ids : List Int} {w w' : World} (x : Nat) (hx : applyE l ids = x) (h0 : x ≠ 0) (hb : Below w.heap.size w w') : ApplyOut l ids w (.returned (.tuple #[.slice none 0 0, .int .i64 (x : Int)])) w' := by
  refine ⟨.slice none 0 0, by rw [hx], ?_, hb⟩
  unfold applyL
  rw [if_neg (by rw [hx]; exact h0)]
  exact RowV.nil _
theorem applyE_err {l : List Mg} {ids : List Int} {x : Nat} (h : errOf l = x) (h0 : x ≠ 0) : applyE l ids = x := by unfold applyE; rw [if_pos (by rw [h]; exact h0), h]
theorem applyE_long {l : List Mg} {ids : List Int} (h : errOf l = 0) (h0 : 4096 < ids.length) : applyE l ids = 2 := by unfold applyE; rw [if_neg (by rw [h]; simp), if_pos h0]
theorem applyE_arg {l : List Mg} {ids : List Int} (h : errOf l = 0) (h0 : ¬ 4096 < ids.length) {i : Nat} (hi : i < ids.length) (h1 : ¬ InR ids[i] (256 + l.length)) : applyE l ids = 1 := by
  unfold applyE
  rw [if_neg (by rw [h]; simp), if_neg h0, if_neg (fun k => h1 (k _ (List.getElem_mem hi)))]
theorem applyE_ok {l : List Mg} {ids : List Int} (h : errOf l = 0) (h0 : ¬ 4096 < ids.length) (h1 : AllIn (256 + l.length) ids) : applyE l ids = 0 := by
  unfold applyE
  rw [if_neg (by rw [h]; simp), if_neg h0, if_pos h1]
set_option maxHeartbeats 2000000 in
set_option maxRecDepth 100000 in
theorem apply_err (l : List Mg) (ids : List Int) (x : Nat) (hx : errOf l = x) (h0 : x ≠ 0) (hx2 : x ≤ 130) (v vs : Value) (w : World) (hv : Mgs w v l) (hs : IntsV w vs ids) : Calls Try.prog 32 #[v, vs] w (ApplyOut l ids w) := by
  have c10 := right_any l v w hv
  rw [hx] at c10
  have HF : Hid (∀ w', Below w.heap.size w w' → ApplyOut l ids w (.returned (.tuple #[.slice none 0 0, .int .i64 (x : Int)])) w') := fun w' b => ApplyOut.bad x (applyE_err hx h0) h0 b
  have g1 : ((x : Int) == 0) = false := beq_eq_false_iff_ne.2 (by omega)
  have g2 : ((x : Int) != 0) = true := by rw [bne, g1]; rfl
  obtain ⟨o, cap, rfl, f1, f2, _⟩ := hv.form
  obtain ⟨o', cap', rfl, hrow⟩ := id hs
  clear hv hs hrow hx h0
  go_enter Try.func32, Try.ntmps32
  go_wp2_with (go_at_call 21; refine c10.mono ?_; rintro e w1 ⟨rfl, b1⟩)
  go_ret2
  exact HF.out _ b1
set_option maxHeartbeats 2000000 in
set_option maxRecDepth 100000 in
theorem apply_any (l : List Mg) (ids : List Int) (v vs : Value) (w : World) (hv : Mgs w v l) (hs : IntsV w vs ids) : Calls Try.prog 32 #[v, vs] w (ApplyOut l ids w) := by
  rcases errOf_cases l with e | e | e
  · exact apply_err l ids 2 e (by omega) (by omega) v vs w hv hs
  · exact apply_err l ids 130 e (by omega) (by omega) v vs w hv hs
  have c10 := right_any l v w hv
  rw [e] at c10
  obtain ⟨hl4, _⟩ := ok_run e
  have HV : Hid (Mgs w v l) := hv
  have HS : Hid (IntsV w vs ids) := hs
  obtain ⟨o, cap, rfl, f1, f2, _⟩ := hv.form
  obtain ⟨o', cap', rfl, hrow⟩ := id hs
  have f3 := hrow.fit
  have f4 := hrow.top
  have HE : Hid (errOf l = 0) := e
  have HR : Hid (Row (In w) w iv o' cap' ids) := hrow
  clear hv hs hrow e
  by_cases hlong : 4096 < ids.length
  · have HF : Hid (∀ w', Below w.heap.size w w' → ApplyOut l ids w (.returned (.tuple #[.slice none 0 0, .int .i64 ((2 : Nat) : Int)])) w') := fun w' b => ApplyOut.bad 2 (applyE_long HE.out hlong) (by omega) b
    go_enter Try.func32, Try.ntmps32
    go_wp2_with (go_at_call 21; refine c10.mono ?_; rintro e w1 ⟨rfl, b1⟩)
    go_ret2
    exact HF.out _ b1
  · have hlong2 : ids.length ≤ 4096 := by omega
    go_enter Try.func32, Try.ntmps32
    go_wp2_with (go_at_call 21; refine c10.mono ?_; rintro e w1 ⟨rfl, b1⟩)
    clear c10
    go_loopw [19] (fun y wr => ∃ i : Nat, y = .int .i64 i ∧ i ≤ ids.length ∧ Hid (∀ x ∈ ids.take i, InR x (256 + l.length)) ∧ wr = w1) (fun y _ => ids.length - (intOf y).toNat)
    case atStart => exact ⟨0, rfl, by omega, fun x hx => by simp at hx, rfl⟩
    case round =>
      obtain ⟨i, rfl, hi, HI, rfl⟩ := hrel
      by_cases hend : i < ids.length
      · obtain ⟨b, off, rfl, hb, hc⟩ := HR.out.lie i hend
        have k1 := (b1.cell (p := ⟨b, off + i, none⟩) hb).trans hc
        have HB : Hid (¬ InR ids[i] (256 + l.length) → applyE l ids = 1) := fun h => applyE_arg HE.out hlong hend h
        have HN : Hid (InR ids[i] (256 + l.length) → ∀ x ∈ ids.take (i + 1), InR x (256 + l.length)) := fun h x hx => by
          rw [List.take_add_one, List.getElem?_eq_getElem hend] at hx
          rcases List.mem_append.1 hx with h3 | h3
          · exact HI.out x h3
          · simp at h3; rw [h3]; exact h
        have c22 := fun W => isId_any ids[i] (256 + l.length) W
        rw [show ((256 + l.length : Nat) : Int) = 256 + (l.length : Int) by omega] at c22
        generalize ids[i] = x at *
        clear hc HI
        by_cases hx : InR x (256 + l.length)
        · rw [decide_eq_true hx] at c22
          have HN2 := (show Hid _ from HN.out hx)
          clear hx HN HB
          go_wp2_with (go_at_call 43; refine (c22 _).mono ?_; rintro e w' ⟨rfl, hw⟩; obtain rfl := hw.symm)
          go_roundw
          case rel => exact ⟨i + 1, by go_num, by omega, HN2.out, trivial⟩
          case measure => simp [intOf]; omega
        · rw [decide_eq_false hx] at c22
          have HF : Hid (ApplyOut l ids w (.returned (.tuple #[.slice none 0 0, .int .i64 ((1 : Nat) : Int)])) wr) := ApplyOut.bad 1 (HB.out hx) (by omega) b1
          clear hx HN HB
          go_wp2_with (go_at_call 43; refine (c22 _).mono ?_; rintro e w' ⟨rfl, hw⟩; obtain rfl := hw.symm)
          go_ret2
          exact HF.out
      · have hall : AllIn (256 + l.length) ids := by
          have := HI.out
          rwa [List.take_of_length_le (by omega)] at this
        have c23 := merged_any l hl4 _ (fine HE.out) ids (fun x hx => by have := hall x hx; unfold InR at this ⊢; omega) (by omega) _ _ wr (HV.out.later b1) (HS.out.later b1)
        have H0 : Hid (applyE l ids = 0) := applyE_ok HE.out hlong hall
        clear hall HI
        go_wp2_with (go_at_call 44; refine c23.mono ?_; rintro e w2 ⟨v2, rfl, s2, b2⟩)
        go_ret2
        exact ⟨v2, by rw [H0.out]; rfl, by unfold applyL; rw [if_pos H0.out]; exact s2, chain b1 b2⟩
end Go.Proofs.Ythcekfmodmnekaa.mg
