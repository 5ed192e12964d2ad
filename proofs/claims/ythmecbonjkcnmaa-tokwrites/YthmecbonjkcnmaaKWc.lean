/-
  Contracts over this program: what ids write (tok.Text, tok.Show).
-/
import Derived.Test.YthmecbonjkcnmaaKWb
import Derived.Test.YthmecbonjkcnmaaKVi
namespace Go.Proofs.Ythmecbonjkcnmaa.tw
open Go.ChangeShapes Go.WideShapes Go.ChangeAt Go.RowKit Go.Shelf
open cf (Cf Cp cv CfAt CBox cfE cbox_new)
open mg (Row RowV IntsV StrsV In chain below_alloc Mgs errOf textsOf TextsOut atI InR cat AllIn)
set_option linter.unusedVariables false

def inB (c : Cf) (x : Int) : Bool := decide (0 ≤ x ∧ x < ((tsF c).length : Int))
def okB (c : Cf) (ids : List Int) : Bool := ids.all (inB c)
def outB (c : Cf) (ids : List Int) : ByteArray := ⟨(cat (tsF c) ids).toArray⟩
def Txt (c : Cf) (ids : List Int) (r : Nat) (t : ByteArray) : Prop :=
  (cfE c ≠ 0 ∧ r = cfE c ∧ t = e0) ∨ (cfE c = 0 ∧ 262144 < ids.length ∧ r = 2 ∧ t = e0) ∨ (cfE c = 0 ∧ ids.length ≤ 262144 ∧ okB c ids = false ∧ r = 1 ∧ t = e0) ∨ (cfE c = 0 ∧ ids.length ≤ 262144 ∧ okB c ids = true ∧ r = 0 ∧ t = outB c ids)
theorem Txt.one {c : Cf} {ids : List Int} {r r' : Nat} {t t' : ByteArray} (h : Txt c ids r t) (k : Txt c ids r' t') : r' = r ∧ t' = t := by
  rcases h with ⟨a, rfl, rfl⟩ | ⟨a, b, rfl, rfl⟩ | ⟨a, b, d, rfl, rfl⟩ | ⟨a, b, d, rfl, rfl⟩ <;> rcases k with ⟨a', rfl, rfl⟩ | ⟨a', b', rfl, rfl⟩ | ⟨a', b', d', rfl, rfl⟩ | ⟨a', b', d', rfl, rfl⟩
  all_goals first | exact ⟨rfl, rfl⟩ | omega | (rw [d] at d'; cases d')
theorem cat_take {ts : List ByteArray} {ids : List Int} {i : Nat} (h : i < ids.length) : cat ts (ids.take (i + 1)) = cat ts (ids.take i) ++ (atI ts ids[i]).data.toList := by
  unfold cat
  rw [List.take_succ_eq_append_getElem h, List.flatMap_append]
  simp
theorem cat_size {ts : List ByteArray} (h : ∀ t ∈ ts, t.size ≤ 64) : ∀ ids : List Int, (cat ts ids).length ≤ 64 * ids.length := by
  intro ids
  induction ids with
  | nil => simp [cat]
  | cons x l ih =>
    have h1 : (atI ts x).size ≤ 64 := by
      unfold atI
      rw [List.getD_eq_getElem?_getD]
      cases hx : ts[x.toNat]? with
      | none => decide
      | some t => exact h t (List.mem_of_getElem? hx)
    have h2 : (cat ts (x :: l)).length = (atI ts x).size + (cat ts l).length := by
      unfold cat
      rw [List.flatMap_cons, List.length_append, Array.length_toList]; rfl
    rw [h2, List.length_cons]
    omega
theorem okB_bad {c : Cf} {ids : List Int} {i : Nat} (h : i < ids.length) (hb : inB c ids[i] = false) : okB c ids = false := by
  unfold okB
  rw [List.all_eq_false]
  exact ⟨ids[i], List.getElem_mem h, by rw [hb]; simp⟩
def TextOut (c : Cf) (ids : List Int) (w : World) (e : Ending) (w' : World) : Prop := ∃ (r : Nat) (t : ByteArray), e = .returned (.tuple #[.string t, .int .i64 (r : Int)]) ∧ Txt c ids r t ∧ Below w.heap.size w w'
theorem info34 (c : Cf) (p : Cp) : (Try.prog.info? 34).map (·.size) = some (cv c p).size := by
  rw [show (cv c p).size = 13 from rfl]; kernel_rfl
set_option maxHeartbeats 2000000 in
set_option maxRecDepth 100000 in
theorem text_any (c : Cf) (p : Cp) (ids : List Int) (v : Value) (w : World) (hc : CfAt w c p) (hv : IntsV w v ids) : Calls Try.prog 4 #[.agg (cv c p), v] w (TextOut c ids w) := by
  obtain ⟨wA, hwA⟩ : ∃ wA, wA = w.alloc (.cells (cv c p) 34) := ⟨_, rfl⟩
  have B0 : Below w.heap.size w wA := by rw [hwA]; exact below_alloc _ _
  have hX0 : (w.alloc (.cells (cv c p) 34)).heap[w.heap.size]? = some (.cells (cv c p) 34 (0, 0)) := cbox_new w c p
  have HX := (show Hid (CBox wA w.heap.size c p) from by rw [hwA]; exact cbox_new w c p)
  have hi34 := info34 c p
  obtain ⟨o, cap, rfl, hrow⟩ := hv
  have HR := (show Hid (Row (In wA) wA mg.iv o cap ids) from hrow.later B0)
  have HC := (show Hid (CfAt wA c p) from hc.later B0)
  have f1 := hrow.fit
  have f2 := hrow.top
  have c9 := cf.right_any c p wA (hc.later B0) _ rfl
  clear hc hrow
  go_enter Try.func4, Try.ntmps4
  go_wp2_with (first | (refine wpList_load_row rfl 34 (.tmp 2) rfl w.heap.size rfl 34 (cv c p) (0, 0) _ hX0 Try.underlying34 rfl hi34 ?_))
  rw [← hwA]
  clear hwA hX0
  go_at_call 9
  refine c9.mono ?_
  rintro e w1 ⟨rfl, b1⟩
  clear c9
  by_cases h0 : cfE c = 0
  · rw [h0]
    by_cases hlong : 262144 < ids.length
    · have HO := (show Hid (TextOut c ids w (.returned (.tuple #[.string e0, .int .i64 2])) w1) from ⟨2, e0, rfl, .inr (.inl ⟨h0, hlong, rfl, rfl⟩), chain B0 b1⟩)
      clear h0
      go_wp2_with (fail)
      go_ret2
      exact HO.out
    · have hX1 : w1.heap[w.heap.size]? = some (.cells (cv c p) 34 (0, 0)) := HX.out.later b1
      have c10 := written_any c p w1 (HC.out.later b1) h0
      have HS := (show Hid (∀ t ∈ tsF c, t.size ≤ 64) from tsF_size h0)
      have HT0 := (show Hid (cfE c = 0) from h0)
      clear h0
      go_wp2_with (first | (refine wpList_load_row rfl 34 (.tmp 2) rfl w.heap.size rfl 34 (cv c p) (0, 0) _ hX1 Try.underlying34 rfl hi34 ?_))
      go_at_call 10
      refine c10.mono ?_
      rintro e w2 ⟨_, rfl, ⟨o7, cap7, rfl, hrow7⟩, b2⟩
      have HR2 := (show Hid (Row (In w2) w2 mg.iv o cap ids) from (HR.out.later b1).later b2)
      have HR7 := (show Hid (Row (In w2) w2 Value.string o7 cap7 (tsF c)) from hrow7)
      have g1 := hrow7.fit
      have g2 := hrow7.top
      obtain ⟨ts, hts⟩ : ∃ ts, ts = tsF c := ⟨_, rfl⟩
      have HTS := (show Hid (ts = tsF c) from hts)
      rw [← hts] at HR7 HS g1 ⊢
      obtain ⟨nt, hnt⟩ : ∃ nt, nt = ts.length := ⟨_, rfl⟩
      have HNT := (show Hid (nt = ts.length) from hnt)
      rw [← hnt] at g1 ⊢
      have hb12 : Below w.heap.size w w2 := chain (chain B0 b1) b2
      clear hrow7 hts hnt c10 hX1 b1 b2 B0
      go_wp2_with (fail)
      go_loopw [23] (fun y wr => ∃ i : Nat, y = .int .i64 (i : Int) ∧ i ≤ ids.length ∧ Lib.IsBuilderF 47 5 w2.heap.size w2.heap.size (Lib.byteCells (cat ts (ids.take i))) wr ∧ Below w2.heap.size w2 wr ∧ Hid ((ids.take i).all (inB c) = true)) (fun y _ => ids.length - (intOf y).toNat)
      case atStart => exact ⟨0, rfl, by omega, Lib.IsBuilderF.of (Lib.fresh_isBuilder 47 5 w2), (Below.refl _ w2).alloc (Nat.le_refl _) _, rfl⟩
      case round =>
        obtain ⟨i, rfl, hi, hI, hB, HO⟩ := hrel
        have hsz : w2.heap.size ≤ wr.heap.size := hB.size
        by_cases hlt : i < ids.length
        · obtain ⟨b, off, rfl, _, kx⟩ := (HR2.out.later hB).lie i hlt
          have HBAD := (show Hid (inB c ids[i] = false → TextOut c ids w (.returned (.tuple #[.string e0, .int .i64 1])) wr) from fun hb => ⟨1, e0, rfl, .inr (.inr (.inl ⟨HT0.out, by omega, okB_bad hlt hb, rfl, rfl⟩)), chain hb12 hB⟩)
          have HINB := (show Hid (∀ x, inB c x = decide (0 ≤ x ∧ x < (nt : Int))) from fun x => by unfold inB; rw [HNT.out, HTS.out])
          have HCT := (show Hid (cat ts (ids.take (i + 1)) = cat ts (ids.take i) ++ (atI ts ids[i]).data.toList) from cat_take hlt)
          have HAT := (show Hid (inB c ids[i] = true → (ids.take (i + 1)).all (inB c) = true) from fun h => by
            rw [List.take_succ_eq_append_getElem hlt, List.all_append, HO.out]
            simp [h])
          have HCS := (show Hid ((cat ts (ids.take i)).length ≤ 64 * ids.length) from by
            have h1 := cat_size HS.out (ids.take i)
            have h2 : (ids.take i).length ≤ ids.length := by rw [List.length_take]; omega
            show _ ≤ _
            omega)
          have kx2 : wr.cell? ⟨b, off + i, none⟩ = some (.int .i64 ids[i]) := kx
          generalize ids[i] = x at *
          clear kx
          by_cases hneg : x < 0
          · have HF := (show Hid _ from HBAD.out (by rw [HINB.out]; exact decide_eq_false (by omega)))
            have hb : decide (x < 0) = true := decide_eq_true hneg
            clear HBAD HINB HCT HAT HCS
            go_wp2_with (fail)
            go_ret2
            exact HF.out
          · obtain ⟨k, rfl⟩ := Int.eq_ofNat_of_zero_le (show 0 ≤ x by omega)
            by_cases hge : nt ≤ k
            · have HF := (show Hid _ from HBAD.out (by rw [HINB.out]; exact decide_eq_false (by omega)))
              clear HBAD HINB HCT HAT HCS hneg
              go_wp2_with (fail)
              go_ret2
              exact HF.out
            · have hk : k < ts.length := by rw [← HNT.out]; omega
              obtain ⟨b7, off7, rfl, _, kt⟩ := (HR7.out.later hB).lie k hk
              have ha : atI ts (k : Int) = ts[k] := by unfold atI; rw [List.getD_eq_getElem?_getD]; simp [hk]
              have hs64 := HS.out ts[k] (List.getElem_mem hk)
              rw [ha] at HCT
              have HA2 := (show Hid _ from HAT.out (by rw [HINB.out]; exact decide_eq_true (by omega)))
              generalize ts[k] = t at *
              have c11 := bw.write_any w2.heap.size w2.heap.size (cat ts (ids.take i)) t (by have := HCS.out; omega)
              clear HBAD HINB HAT HCS hneg ha
              have hkn : k < nt := by omega
              clear hge
              go_wp2_with (fail)
              go_at_call 11
              refine (c11 wr hI hsz).mono ?_
              rintro e w3 ⟨rfl, hI3, b3, _⟩
              go_wp2_with (fail)
              go_roundw
              case rel => exact ⟨i + 1, by go_num, by omega, (by rw [HCT.out]; exact hI3), hB.trans b3, HA2⟩
              case measure => simp [intOf]; omega
        · obtain rfl : i = ids.length := by omega
          have hall := HO.out
          rw [List.take_length] at hall hI
          have HF := (show Hid (∀ w', Below w2.heap.size wr w' → TextOut c ids w (.returned (.tuple #[.string ⟨(cat ts ids).toArray⟩, .int .i64 0])) w') from fun w' b => ⟨0, _, rfl, .inr (.inr (.inr ⟨HT0.out, by omega, hall, rfl, by unfold outB; rw [HTS.out]⟩)), chain hb12 (hB.trans b)⟩)
          have c12 := bw.string_any w2.heap.size w2.heap.size (cat ts ids) wr hI hsz
          clear hall
          go_wp2_with (fail)
          go_at_call 12
          refine c12.mono ?_
          rintro e w3 ⟨rfl, _, b3⟩
          go_wp2_with (fail)
          go_ret2
          exact HF.out w3 b3
  · have HO := (show Hid (TextOut c ids w (.returned (.tuple #[.string e0, .int .i64 (cfE c : Int)])) w1) from ⟨cfE c, e0, rfl, .inl ⟨h0, rfl, rfl⟩, chain B0 b1⟩)
    have hb1 : (((cfE c : Nat) : Int) == 0) = false := by rw [beq_eq_false_iff_ne]; omega
    have hb2 : (((cfE c : Nat) : Int) != 0) = true := by rw [bne_iff_ne]; omega
    generalize cfE c = r at *
    go_wp2_with (fail)
    go_ret2
    exact HO.out
end Go.Proofs.Ythmecbonjkcnmaa.tw
