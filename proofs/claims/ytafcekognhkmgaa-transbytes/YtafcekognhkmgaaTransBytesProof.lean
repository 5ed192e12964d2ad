/-
  For every machine and every text the law TransBytes of package fretsawlaw12 returns true (whether any machine makes just one byte of each, and which, is as the document says; then what it puts is that, byte by byte), and the arguments read as before. No condition.
-/
import Derived.Test.YtafcekognhkmgaaTs
import Derived.ProofKit
import Derived.ShutString
import Derived.Lib.ConvBytes
import Derived.Laws.BytesArg
namespace Go.Proofs.Ytafcekognhkmgaa.transBytes
open Go.ChangeShapes Go.WideShapes Go.ChangeAt Go.RowKit
open Go.ChangeMaps (open_string shut_string)
open tr
set_option linter.unusedVariables false

theorem own : ownKnob Try.prog.godebug = none := by kernel_rfl
theorem laidOut : laidOutB Try.prog = true := by kernel_rfl

def f8 (m : Mc) (b : UInt8) : UInt8 := UInt8.ofNat (fbyte m 0 b.toNat)
theorem f8_nat (m : Mc) (b : UInt8) : (f8 m b).toNat = fbyte m 0 b.toNat := of_nat _ (fbyte_lt m 0 _ b.toNat_lt)
theorem outp_f8 {m : Mc} (h : One m) {s : Nat} (hs : Rch m s) (b : UInt8) : outp m s b = [f8 m b] := by
  have h1 := outp_one m s b.toNat b.toNat_lt ((h s hs).1.2 _ b.toNat_lt)
  rw [show UInt8.ofNat b.toNat = b by simp] at h1
  rw [h1, fb_eq.1 (h s hs).2 _ b.toNat_lt]
  rfl
theorem go_one {m : Mc} (h : One m) (l : List UInt8) : ∀ s, Rch m s → (go m s l).1 = l.map (f8 m) ∧ Rch m (go m s l).2 := by
  induction l with
  | nil => exact fun s hs => ⟨rfl, hs⟩
  | cons b l ih =>
    intro s hs
    obtain ⟨h1, h2⟩ := ih _ (.step hs b.toNat_lt)
    exact ⟨by simp only [go, outp_f8 h hs, h1]; rfl, h2⟩
theorem total_one {m : Mc} (h : One m) (l : List UInt8) : total m 0 l = l.map (f8 m) := by
  obtain ⟨h1, h2⟩ := go_one h l 0 .zero
  have h3 := (h _ h2).1.1
  unfold total
  rw [h1, List.length_eq_zero_iff.1 (by rw [list_len]; exact h3 : (tx m (en m (go m 0 l).2)).data.toList.length = 0), List.append_nil]
def cut (s : ByteArray) : ByteArray := if s.size ≤ 500 then s else s.extract 0 500
theorem cut_size (s : ByteArray) : (cut s).size ≤ 500 := by
  unfold cut
  split
  · assumption
  · simp; omega
def at_ (l : List UInt8) (j : Nat) : Nat := (l.getD j 0).toNat
/-- a row of bytes that the call owns -/
structure RowB (g : Nat) (l : List UInt8) (W0 w : World) : Prop where
  cell : ∀ j, j < l.length → w.cell? ⟨g, j, none⟩ = some (.int .u8 (at_ l j))
  free : ∀ j, j < l.length → w.frozen? ⟨g, j, none⟩ = false
  new : W0.heap.size ≤ g
  below : Below W0.heap.size W0 w
theorem RowB.put {g : Nat} {l : List UInt8} {W0 w : World} (h : RowB g l W0 w) (j : Nat) (b : UInt8) (hj : j < l.length) : RowB g (l.set j b) W0 (w.setCell ⟨g, j, none⟩ (.int .u8 b.toNat)) := by
  refine ⟨fun i hi => ?_, fun i hi => ?_, h.new, h.below.setCell h.new _⟩
  · rw [List.length_set] at hi
    by_cases e : i = j
    · subst e
      rw [World.cell?_setCell_same _ _ _ (h.cell i hi)]
      unfold at_
      rw [List.getD_eq_getElem?_getD, List.getElem?_set_self hj]
      rfl
    · rw [World.cell?_setCell_other _ _ _ _ (fun e' => e (by have := congrArg Addr.off e'; simp at this; omega)), h.cell i hi]
      unfold at_
      rw [List.getD_eq_getElem?_getD, List.getD_eq_getElem?_getD, List.getElem?_set_ne (fun e' => e e'.symm)]
  · rw [List.length_set] at hi
    rw [World.frozen?_setCell, h.free i hi]
theorem bytes_row (w : World) (s : ByteArray) : RowB w.heap.size s.data.toList w (Lib.bytesWorld w 5 s) := by
  refine ⟨fun j hj => ?_, fun j hj => ?_, Nat.le_refl _, ?_⟩
  · exact Lib.bytesWorld_cell w 5 s j (by simpa using hj)
  · have hs : s.size ≤ (Lib.bytesCells w 5 s).size := by
      unfold Lib.bytesCells
      rw [Array.size_append, Array.size_map]
      exact Nat.le_add_right _ _
    have hj' : j < s.size := by simpa using hj
    simp only [World.frozen?, Lib.bytesWorld_at_new]
    simp
    omega
  · exact ⟨rfl, rfl, rfl, by rw [Lib.bytesWorld_size]; omega, fun k hk => Lib.bytesWorld_at_old w 5 s k hk⟩
theorem nums_text (l : List UInt8) : strOfNums (l.map fun b => (b.toNat : Int)) = (⟨l.toArray⟩ : ByteArray) := by
  unfold strOfNums
  rw [List.map_map]
  congr 1
  congr 1
  conv => rhs; rw [← List.map_id l]
  apply List.map_congr_left
  intro b _
  simp
theorem row_text {g : Nat} {l : List UInt8} {W0 w : World} (h : RowB g l W0 w) (n cap : Nat) (hn : l.length = n) :
    Sem.run Try.prog (convert 51 9 (.slice (some ⟨g, 0, none⟩) n cap)) w = .ok (.string ⟨l.toArray⟩) w := by
  rw [← nums_text]
  refine run_convert_bytes_arg w 51 5 Try.underlying51 Try.underlying5 g 0 n cap (l.map fun b => (b.toNat : Int)) (by simpa using hn) (fun i hi => ?_) 9 Try.underlying9
  have hx : i < l.length := by omega
  rw [Nat.zero_add, h.cell i hx]
  unfold at_
  rw [List.getD_eq_getElem?_getD, List.getD_eq_getElem?_getD, List.getElem?_map, List.getElem?_eq_getElem hx]
  rfl
/-- the first ones mapped -/
def mp (f : UInt8 → UInt8) (i : Nat) (l : List UInt8) : List UInt8 := (l.take i).map f ++ l.drop i
theorem mp_len (f : UInt8 → UInt8) (i : Nat) (l : List UInt8) (hi : i ≤ l.length) : (mp f i l).length = l.length := by simp [mp]; omega
theorem mp_pre (f : UInt8 → UInt8) (i : Nat) (l : List UInt8) (hi : i < l.length) : ((l.take i).map f).length = i := by
  rw [List.length_map, List.length_take]
  omega
theorem mp_at (f : UInt8 → UInt8) (i : Nat) (l : List UInt8) (hi : i < l.length) : at_ (mp f i l) i = l[i].toNat := by
  have hlen := mp_pre f i l hi
  unfold at_ mp
  rw [List.getD_eq_getElem?_getD, List.getElem?_append_right (by omega), hlen, Nat.sub_self, List.drop_eq_getElem_cons hi]
  rfl
theorem mp_set (f : UInt8 → UInt8) (i : Nat) (l : List UInt8) (hi : i < l.length) : (mp f i l).set i (f l[i]) = mp f (i + 1) l := by
  have hlen := mp_pre f i l hi
  unfold mp
  rw [List.set_append_right _ _ (by omega), hlen, Nat.sub_self, List.drop_eq_getElem_cons hi, List.set_cons_zero, List.take_add_one, List.getElem?_eq_getElem hi, Option.toList_some, List.map_append, List.append_assoc]
  rfl
theorem mp_zero (f : UInt8 → UInt8) (l : List UInt8) : mp f 0 l = l := by simp [mp]
theorem mp_all (f : UInt8 → UInt8) (l : List UInt8) : mp f l.length l = l.map f := by simp [mp]

section
variable {m : Mc} {p : Mp} {w : World} (hM : MAt (In w) w m p) {s : ByteArray} (hs : s.size ≤ 140737488351232)
include hM hs
set_option maxHeartbeats 4000000 in
set_option maxRecDepth 100000 in
theorem walk_any : Calls Try.prog 7 #[.agg (mv m p), .string s] w fun e w' => e = .returned (.bool true) ∧ Below w.heap.size w w' := by
  have hz := zero48
  have hcs := cells48_size noughts noughts_len
  obtain ⟨wA, HWA⟩ : ∃ wA, Hid (wA = w.alloc (.cells (mv m p) 26)) := ⟨_, rfl⟩
  have B0 : Below w.heap.size w wA := by rw [HWA.out]; exact below_alloc w _
  have hMA : MAt (In wA) wA m p := hM.later B0
  have hXA : Box wA w.heap.size m p := by rw [HWA.out]; exact box_new w m p
  have HK : Hid (∀ W, Below wA.heap.size wA W → Box W w.heap.size m p ∧ MAt (In W) W m p) := fun W b => ⟨hXA.later b, hMA.later b⟩
  have c22 := bytes_any m p wA hMA
  have c10 := rright_any m _ rfl p
  have hb0 := hXA
  unfold Box at hb0
  rw [HWA.out] at hb0
  clear hM hMA hXA
  go_enter Try.func7, Try.ntmps7
  go_wp2_with (refine wpList_load_row rfl 26 (.tmp 2) rfl w.heap.size rfl 26 (mv m p) (0, 0) _ hb0 Try.underlying26 rfl info26 ?_)
  rw [← HWA.out]
  go_at_call 22
  refine c22.mono ?_
  rintro e w1 ⟨xs, is, rfl, hxl, h1, h0, b1⟩
  have hst := store_new w1 noughts xs noughts_len hxl
  have hcx := cells48_size xs hxl
  have b2 := chain b1 (below_alloc w1 (.cells (cells48 xs) 48))
  have hA5 : Arr (w1.alloc (.cells (cells48 xs) 48)) w1.heap.size xs := ⟨heap_alloc_new w1 _, hxl⟩
  obtain ⟨X2, M2⟩ := HK.out _ b2
  have d10 := c10 _ M2
  unfold Box at X2
  cases hr : right m with
  | false =>
    obtain rfl : is = false := by
      cases is with
      | false => rfl
      | true => have := (h1 rfl).1; rw [hr] at this; cases this
    rw [hr] at d10
    clear h1 h0 hr
    go_wp2_with (first | (refine wpList_load_row rfl 26 (.tmp 2) rfl w.heap.size rfl 26 (mv m p) (0, 0) _ X2 Try.underlying26 rfl info26 ?_) | (go_at_call 10; refine d10.mono ?_; rintro e w3 ⟨rfl, b3⟩))
    go_ret
    exact ⟨rfl, chain B0 (chain b2 b3)⟩
  | true =>
    have hR := right_iff.1 hr
    rw [hr] at d10
    have hq := rbytes_any m hr p
    go_wp2_with (first | (refine wpList_load_row rfl 26 (.tmp 2) rfl w.heap.size rfl 26 (mv m p) (0, 0) _ X2 Try.underlying26 rfl info26 ?_) | (go_at_call 10; refine d10.mono ?_; rintro e w3 ⟨rfl, b3⟩; have b3' := chain b2 b3; obtain ⟨X3, M3⟩ := HK.out _ b3'; have c23 := hq _ M3; unfold Box at X3; have hA3 := hA5.later b3 hA5.lt; clear d10) | (refine wpList_load_row rfl 26 (.tmp 2) rfl w.heap.size rfl 26 (mv m p) (0, 0) _ X3 Try.underlying26 rfl info26 ?_))
    go_at_call 23
    refine c23.mono ?_
    rintro e w4 ⟨ys, ok, rfl, hyl, k1, k0, b4⟩
    have hst4 := store_new w4 noughts ys noughts_len hyl
    have hcy := cells48_size ys hyl
    have b5 := chain b3' (chain b4 (below_alloc w4 (.cells (cells48 ys) 48)))
    have hA7 : Arr (w4.alloc (.cells (cells48 ys) 48)) w4.heap.size ys := ⟨heap_alloc_new w4 _, hyl⟩
    have hA45 := (hA3.later b4 hA3.lt).later (below_alloc w4 (.cells (cells48 ys) 48)) (hA3.later b4 hA3.lt).lt
    obtain ⟨X5, M5⟩ := HK.out _ b5
    unfold Box at X5
    by_cases hone : One m
    · obtain rfl : is = true := by
        cases is with
        | true => rfl
        | false => exact (h0 rfl ⟨hr, hone⟩).elim
      obtain rfl : ok = true := by
        cases ok with
        | true => rfl
        | false => exact (k0 rfl ⟨hr, hone⟩).elim
      obtain ⟨_, _, hxs⟩ := h1 rfl
      obtain ⟨_, _, hys⟩ := k1 rfl
      have heq := eq48 xs ys hxl hyl
      rw [decide_eq_true (hxs.trans hys.symm)] at heq
      have HXS : Hid (xs = fb m 0) := hxs
      have HON : Hid (One m) := hone
      have c15 := short_any s 500 (by omega) (by omega)
      rw [show (if s.size ≤ 500 then s else s.extract 0 500) = cut s from rfl] at c15
      have hcut := cut_size s
      have hto := total_one hone (cut s).data.toList
      have hlt : (total m 0 (cut s).data.toList).length ≤ 262144 := by rw [hto, List.length_map, list_len]; omega
      have c11 := run_any m (cut s) (by omega) _ _ rfl rfl p
      rw [show tr.runT m (cut s) = bs ((cut s).data.toList.map (f8 m)) by unfold tr.runT; rw [if_pos ⟨hr, by omega, hlt⟩, hto], show runE m (cut s) = 0 by unfold runE; rw [if_pos hr, if_pos ⟨by omega, hlt⟩]] at c11
      have d11 := c11 _ M5
      generalize cut s = u at *
      clear h1 h0 k1 k0 hr hone hxs hys hto hlt hst c22 hq c23 X2 X3 M2 M3 hA3 hA5 hcs
      go_wp2_with (first | (refine load_if (by kernel_rfl) 48 (.tmp 5) rfl w1.heap.size rfl 48 (cells48 xs) (0, 0) _ hA45.1 Try.underlying48 rfl (info48 _ hxl) ?_) | (refine load_if (by kernel_rfl) 48 (.tmp 7) rfl w4.heap.size rfl 48 (cells48 ys) (0, 0) _ hA7.1 Try.underlying48 rfl (info48 _ hyl) ?_) | (go_at_call 15; refine (c15 _).mono ?_; rintro e w6 ⟨rfl, h6⟩; obtain rfl := h6.symm) | (refine wpList_load_row rfl 26 (.tmp 2) rfl w.heap.size rfl 26 (mv m p) (0, 0) _ X5 Try.underlying26 rfl info26 ?_))
      go_at_call 11
      refine d11.mono ?_
      rintro e w7 ⟨rfl, b7⟩
      have hA8 := hA45.later b7 hA45.lt
      have HB7 := (show Hid _ from chain b5 b7)
      have hcv := Lib.run_convert_string_bytes (P := Try.prog) w7 9 51 5 u Try.underlying9 Try.underlying51 Try.underlying5
      have hrow := bytes_row w7 u
      obtain ⟨cap, hcap⟩ : ∃ cap, cap = grownCap w7 u.size 0 5 := ⟨_, rfl⟩
      obtain ⟨W, hW⟩ : ∃ W, W = Lib.bytesWorld w7 5 u := ⟨_, rfl⟩
      rw [← hcap, ← hW] at hcv
      rw [← hW] at hrow
      clear hcap hW d11 heq hst4 hA7 X5 M5
      obtain ⟨T, HT⟩ : ∃ T, Hid (T = bs (u.data.toList.map (f8 m))) := ⟨_, rfl⟩
      rw [← HT.out]
      have hul : u.data.toList.length = u.size := list_len u
      have hgl : w1.heap.size < w7.heap.size := hA8.lt
      have HA8 := (show Hid (∀ W, Below w7.heap.size w7 W → Arr W w1.heap.size xs) from fun W b => hA8.later b hgl)
      have HFX := (show Hid (∀ k, k < 256 → xs.getD k 0 = fbyte m 0 k) from fun k hk => by rw [HXS.out]; exact tb_get _ 256 k hk hk)
      clear hul
      go_wp2_with (fail)
      clear hcv
      go_loopw [53] (fun x wr => ∃ i : Nat, x = .int .i64 i ∧ i ≤ u.size ∧ Hid (RowB w7.heap.size (mp (f8 m) i u.data.toList) w7 wr)) (fun x _ => u.size - (intOf x).toNat)
      case atStart => exact ⟨0, rfl, by omega, by rw [mp_zero]; exact hrow⟩
      case round =>
        obtain ⟨i, rfl, hi, HR⟩ := hrel
        clear hrow
        by_cases hend : i < u.size
        · have hil : i < u.data.toList.length := by rw [list_len]; exact hend
          have hml := mp_len (f8 m) i u.data.toList (by omega)
          have k1 := HR.out.cell i (by rw [hml]; exact hil)
          have k2 := HR.out.free i (by rw [hml]; exact hil)
          rw [mp_at (f8 m) i u.data.toList hil] at k1
          have hk := u.data.toList[i].toNat_lt
          have k3 := (HA8.out wr HR.out.below).cell u.data.toList[i].toNat hk
          rw [HFX.out _ hk, ← f8_nat] at k3
          have HR2 := (show Hid _ from HR.out.put i (f8 m u.data.toList[i]) (by rw [hml]; exact hil))
          rw [mp_set (f8 m) i u.data.toList hil] at HR2
          have hf8 := (f8 m u.data.toList[i]).toNat_lt
          generalize (f8 m u.data.toList[i]).toNat = v at *
          generalize u.data.toList[i].toNat = k at *
          clear hml
          go_wp2_with (fail)
          go_roundw
          case rel => exact ⟨i + 1, by go_num, by omega, HR2⟩
          case measure => simp [intOf]; omega
        · have hrt := row_text HR.out u.size cap (by rw [mp_len _ _ _ (by rw [list_len]; exact hi), list_len])
          have e1 : (⟨(mp (f8 m) i u.data.toList).toArray⟩ : ByteArray) = T := by
            rw [HT.out, show i = u.data.toList.length by rw [list_len]; omega, mp_all]
          rw [e1] at hrt
          have hz1 : decide (i < u.size) = false := decide_eq_false hend
          have HBL := HR.out.below
          clear e1 HR
          go_wp2_with (fail)
          go_ret
          exact ⟨rfl, chain B0 (chain HB7.out HBL)⟩
    · obtain rfl : is = false := by
        cases is with
        | false => rfl
        | true => exact (hone (h1 rfl).2.1).elim
      obtain rfl : ok = false := by
        cases ok with
        | false => rfl
        | true => exact (hone (k1 rfl).2.1).elim
      clear h1 h0 k1 k0 hr hone
      go_wp2_with (fail)
      go_ret
      exact ⟨rfl, chain B0 b5⟩
end
theorem walk {m : Mc} {p : Mp} {w : World} (hM : MAt (In w) w m p) {s : ByteArray} (hs : s.size ≤ 140737488351232) (w0 : World) (hw0 : w0 = w := by rfl) :
    Calls Try.prog 7 #[.agg (mv m p), .string s] w0 fun e w' => e = .returned (.bool true) ∧ Below w0.heap.size w0 w' := by
  subst hw0
  exact walk_any hM hs

set_option maxRecDepth 100000 in
theorem lifted (os : Os) (started : os.Started) (H : Type) (enc : TypeId × Value → H) :
    ReturnsInHanded {} Try.checked os 7 .any (Rows.transBytesSpec.pre6 enc Try.prog Try.f7 Rows.transBytesRow.domain false) (Rows.transBytesSpec.post enc Try.prog Try.f7 false true false false) := by
  refine returnsInHanded_of_change_sized (C := Try.checked) own started (by kernel_rfl) Try.func7
    (ChangeSpec.witness6 (enc := enc) (C := Try.checked) false ⟨#[], #[.agg #[.slice none 0 0, .slice none 0 0, .slice none 0 0, .slice none 0 0], .string ByteArray.empty], []⟩ 8 (by kernel_rfl) (by kernel_rfl) (by kernel_rfl) (by kernel_rfl)) ?_
  intro W base args ds gs before hval0 hW hcnd hsz0 _
  have hsz : (DataW.weightsEach Try.prog (Try.f7.params.toList ++ Rows.transBytesSpec.plain.varTypes Try.prog) (ds ++ gs)).all (· ≤ reachBytes) = true := hsz0
  have hval : ∀ (j : Nat) t v, Try.f7.params[j]? = some t → args[j]? = some v → Value.okWide Try.prog W .any base t v := hval0
  have hW' := hW
  obtain ⟨p, q, hA0, hV, rfl, hfz, hnd⟩ := hW
  have hA : DataW.TrodAll enc Try.prog W 0 (fun _ => true) true Try.f7.params.toList args.toList ds p := hA0
  rw [Try.params7] at hA hval hsz
  obtain ⟨v0, vs0, d0, ds0, p0, q0, hargs, rfl, rfl, h0, r0⟩ := trodAll_cons hA
  obtain ⟨v1, vs1, d1, ds1, p1, q1, rfl, rfl, rfl, h1, r1⟩ := trodAll_cons r0
  obtain ⟨rfl, rfl, rfl⟩ := trodAll_nil r1
  obtain rfl : args = #[v0, v1] := by cases args; simp_all
  obtain ⟨rfl, rfl⟩ := trodVars_none hV
  have k0 := h0
  have lt0 : ∀ x ∈ p0, x.block < W.heap.size := by obtain ⟨m, hm⟩ := k0; exact DataW.trod_lt m _ _ _ hm
  obtain ⟨m0, mp0, rfl, F0⟩ := tr.open26 (hval 0 26 v0 rfl rfl) h0
  obtain ⟨a1, rfl, rfl, rfl, w1⟩ := open_string Try.underlying9 (hval 1 9 v1 rfl rfl) h1
  have F1 : a1.size ≤ 140737488351232 := by
    have := sized_string hsz (j := 1) (t := 9) rfl rfl
    simpa [reachBytes] using this
  clear hA0 hval0
  refine (walk F0 F1 W).mono fun e W' ⟨he, bel⟩ => ?_
  subst he
  exact ⟨_, rfl, _, _, _, [], _, [], hW', trodAll_mk1 (shut_bool Try.underlying4 _), (trodAll_cons_mk (Below.trod laidOut (by kernel_rfl) (of_decide_eq_true (by kernel_rfl)) k0 bel lt0) (trodAll_cons_mk (shut_string Try.underlying9 w1) trodAll_mk0)), rfl, bel.frame _, fun h => by cases h⟩

theorem over : Rows.transBytesRow.holds Try.pinned (OpenSpec.ofChange Rows.transBytesSpec) :=
  OpenClaim.holds_of_wide 7 Try.f7 rfl rfl rfl rfl rfl rfl rfl ⟨rfl, rfl, rfl, rfl, rfl⟩ rfl rfl rfl rfl rfl (by kernel_rfl) Try.func7 (by kernel_rfl)
    (of_decide_eq_true (by kernel_rfl)) (by unfold Func.isWrapper; first | (rw [if_pos (by decide +kernel)]; kernel_rfl) | (rw [if_neg (by decide +kernel)]; exact ⟨rfl, rfl⟩))
    (fun os started H enc _ => lifted os started H enc)

theorem proved : Rows.TransBytesSaid :=
  over
#print axioms proved
end Go.Proofs.Ytafcekognhkmgaa.transBytes
