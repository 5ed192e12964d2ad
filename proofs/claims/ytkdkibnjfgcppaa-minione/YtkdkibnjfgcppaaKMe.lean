/-
  Contracts over this program: number[sight]: keys of 257 numbers of 16 bits.
-/
import Derived.Test.YtkdkibnjfgcppaaKMd
import Derived.ChangeSame
import Derived.ChangeSlices
namespace Go.Proofs.Ytkdkibnjfgcppaa.mi
open Go.ChangeShapes Go.WideShapes Go.ChangeAt Go.RowKit Go.Shelf Go.Maps
set_option linter.unusedVariables false

/-- what is seen of a state: its part, and those to which it goes by each byte -/
abbrev Sg := List Nat
def OkG (s : Sg) : Prop := s.length = 257 ∧ ∀ x ∈ s, x ≤ 32767
def gcs (s : Sg) : Array Value := (s.map fun x : Nat => Value.int .i16 (x : Int)).toArray
theorem gcs_size (s : Sg) : (gcs s).size = s.length := by simp [gcs]
def gdt (l : List Nat) : List (DataW Unit) := l.map fun x : Nat => .lit (.int .i16 (x : Int))
def kg : Sg → Lit
  | [] => .int .i64 0
  | a :: l => (DataW.agg (H := Unit) [.lit (.int .i16 (a : Int)), .agg (gdt l)]).asKey
theorem wide161 : (match Try.prog.underlying 161 with | some (.array _ _) | some (.struct _) => true | _ => false) = true := by rw [Try.underlying161]
set_option maxRecDepth 100000 in
theorem law161 : Keyed Try.prog 161 := Keyed.of_law (deep_law_laid laidOut (m := 3) (by omega) (of_decide_eq_true (by kernel_rfl)) (by kernel_rfl) wide161)
theorem wf_i16 (n : Nat) (h : n ≤ 32767) : (Lit.int .i16 (n : Int)).wf = true := by
  have e1 : IntKind.i16.min = -32768 := by decide
  have e2 : IntKind.i16.max = 32767 := by decide
  simp [Lit.wf, e1, e2]
  omega
theorem c161 : Try.prog.cellsOf 161 = 257 := by kernel_rfl
theorem c158 : Try.prog.cellsOf 158 = 1 := by kernel_rfl
theorem c159 : Try.prog.cellsOf 159 = 256 := by kernel_rfl
theorem info161 (s : Sg) (h : OkG s) : (Try.prog.info? 161).map (·.size) = some (gcs s).size := by rw [gcs_size, h.1]; kernel_rfl
theorem trod159 (l : List Nat) (hl : l.length = 256) (hx : ∀ x ∈ l, x ≤ 32767) (m : Nat) : DataW.trod (H := Unit) (fun _ => ()) Try.prog (default : World) 0 (fun _ => true) true (m + 2) 159 (l.map fun x : Nat => Value.int .i16 (x : Int)) = some (.agg (gdt l), []) := by
  have hf : ∀ i, i < 256 → DataW.trod (H := Unit) (fun _ => ()) Try.prog (default : World) 0 (fun _ => true) true (m + 1) 158 (((l.map fun x : Nat => Value.int .i16 (x : Int)).drop (i * 1)).take 1) = some (.lit (.int .i16 ((l.getD i 0 : Nat) : Int)), []) := fun i hi => by
    have h1 : i < l.length := by omega
    rw [Nat.mul_one, ← List.map_drop, ← List.map_take, List.drop_eq_getElem_cons h1, List.take_succ_cons, List.take_zero, List.map_cons, List.map_nil]
    rw [trod_int_mk (enc := fun _ => ()) m Try.underlying158 (wf_i16 _ (hx _ (List.getElem_mem h1)))]
    simp [List.getD_eq_getElem?_getD, List.getElem?_eq_getElem h1]
  have hm := mapM_range_of 256 hf
  have e : (List.range 256).map (fun i => ((DataW.lit (H := Unit) (.int .i16 ((l.getD i 0 : Nat) : Int))), ([] : List MemPlace))) = l.map fun x : Nat => (DataW.lit (.int .i16 (x : Int)), []) := by
    apply List.ext_getElem
    · simp [hl]
    · intro i h1 h2
      simp at h1 h2
      simp [List.getD_eq_getElem?_getD, List.getElem?_eq_getElem h2]
  rw [e] at hm
  unfold DataW.trod
  rw [Try.underlying159]
  simp only [List.length_map, hl, c159, c158, if_true]
  rw [hm]
  simp [gdt, Function.comp_def]
set_option maxRecDepth 100000 in
theorem key161 (s : Sg) (h : OkG s) : keyOf Try.prog 161 (.agg (gcs s)) = some (kg s) := by
  obtain ⟨hl, hx⟩ := h
  match s, hl, hx with
  | a :: l, hl, hx =>
    have hl2 : l.length = 256 := by simpa using hl
    have hf : (Value.agg (gcs (a :: l))).formed Try.prog 161 = true := by
      have := gcs_size (a :: l)
      rw [hl] at this
      simp [Value.formed, Try.underlying161, c161, this]
    have hd : DataW.Trod (H := Unit) (fun _ => ()) Try.prog (default : World) 0 (fun _ => true) true 161 (.agg (gcs (a :: l))) (.agg [.lit (.int .i16 (a : Int)), .agg (gdt l)]) [] := by
      refine ⟨3, ?_⟩
      have e : (Value.agg (gcs (a :: l))).cells.toList = .int .i16 (a : Int) :: l.map fun x : Nat => Value.int .i16 (x : Int) := by simp [Value.cells, gcs]
      rw [e]
      refine trod_struct2_mk (y0 := (.lit (.int .i16 (a : Int)), [])) (y1 := (.agg (gdt l), [])) Try.underlying161 (by rw [c161]; simp [hl2]) ?_ ?_
      · show DataW.trod _ _ _ _ _ _ 2 158 ((List.drop 0 _).take (Try.prog.cellsOf 158)) = _
        rw [c158]
        exact trod_int_mk (enc := fun _ => ()) 1 Try.underlying158 (wf_i16 a (hx a (by simp)))
      · show DataW.trod _ _ _ _ _ _ 2 159 ((List.drop 1 _).take (Try.prog.cellsOf 159)) = _
        rw [c159, List.drop_succ_cons, List.drop_zero, List.take_of_length_le (by simp [hl2])]
        exact trod159 l hl2 (fun x h => hx x (by simp [h])) 0
    obtain ⟨h, _⟩ := keyOf_asKey (by kernel_rfl) wide161 hf hd
    exact h
theorem gcs_inj {s r : Sg} (h : gcs s = gcs r) : s = r := by
  unfold gcs at h
  have h := congrArg Array.toList h
  simp only at h
  exact List.map_inj_right (f := fun x : Nat => Value.int .i16 (x : Int)) (fun x y e => by simp at e; omega) |>.1 h
theorem kg_inj (s r : Sg) (hs : OkG s) (hr : OkG r) (h : kg s = kg r) : s = r := by
  have h1 := key161 s hs
  have h2 := key161 r hr
  rw [h] at h1
  exact gcs_inj (Value.agg.inj (law161.inj h1 h2))
/-- the numbers that sights have -/
def Ng (W : World) (m : Nat) (l : List Sg) : Prop := ∃ D, W.ownsMap Try.prog 161 (plainElem (H := Unit) Try.prog 3) m l.length D ∧ MapN kg OkG l D
theorem Ng.keep {W W' : World} {m : Nat} {l : List Sg} (h : Ng W m l) (e : W'.heap[m]? = W.heap[m]?) : Ng W' m l := by
  obtain ⟨D, h1, h2⟩ := h
  exact ⟨D, map_keep h1 e, h2⟩
theorem Ng.obj {W : World} {m : Nat} {l : List Sg} (h : Ng W m l) : ∃ es clock, W.heap[m]? = some (.map es clock) := by
  obtain ⟨D, ⟨es, clock, hb, _⟩, _⟩ := h
  exact ⟨es, clock, hb⟩
theorem Ng.lt {W : World} {m : Nat} {l : List Sg} (h : Ng W m l) : m < W.heap.size := by
  obtain ⟨es, c, h⟩ := h.obj
  exact (Array.getElem?_eq_some_iff.1 h).1
def NgOut (m : Nat) (l : List Sg) (s : Sg) (W : World) (e : Ending) (W' : World) : Prop :=
  ∃ (i : Nat) (l' : List Sg), e = .returned (.int .i64 (i : Int)) ∧ l'[i]? = some s ∧ (l' = l ∨ (s ∉ l ∧ l' = l ++ [s])) ∧ Ng W' m l' ∧ W.grownBy W' (some m)
theorem look156 {W : World} {m n : Nat} {D : DataW Unit} (hown : W.ownsMap Try.prog 161 (plainElem (H := Unit) Try.prog 3) m n D) (s : Sg) (hs : OkG s) :
    ∃ c : Int, (Instr.lookup 156 (.map (some m)) (.agg (gcs s)) true).run Try.prog W = .ok (.tuple #[.int .i64 c, .bool (Maps.has D (kg s))]) W ∧ D.atKey (kg s) (.lit (.int .i64 0)) = .lit (.int .i64 c) := by
  obtain ⟨v, ps, hrun, hv⟩ := hown.look_ok law161 Try.underlying156 (zero3 W) (plainElem_int Try.underlying3 (by decide)) (key161 s hs)
  obtain ⟨c, rfl, hc, hwc⟩ := plainElem_int_inv Try.underlying3 hv
  exact ⟨c, hrun, congrArg Prod.fst hc⟩
set_option maxHeartbeats 4000000 in
set_option maxRecDepth 100000 in
theorem numberg_any {m : Nat} {l : List Sg} {W : World} (k : Ng W m l) (s : Sg) (hs : OkG s) (hn : l.length ≤ 900000) :
    Calls Try.prog 87 #[.map (some m), .agg (gcs s)] W (NgOut m l s W) := by
  obtain ⟨wA, HWA⟩ : ∃ wA, Hid (wA = W.alloc (.cells (gcs s) 161)) := ⟨_, rfl⟩
  have B0 : Below W.heap.size W wA := by rw [HWA.out]; exact below_alloc W _
  have hA3 : wA.heap[W.heap.size]? = some (.cells (gcs s) 161 (0, 0)) := by rw [HWA.out]; exact heap_alloc_new W _
  have kA := k.keep (B0.block m k.lt)
  have hml := k.lt
  have hi161 := info161 s hs
  obtain ⟨D, hD, hMN⟩ := kA
  obtain ⟨c, hl0, hc⟩ := look156 (W := wA) hD s hs
  by_cases hin : s ∈ l
  · obtain ⟨i, hi⟩ := List.mem_iff_getElem?.1 hin
    have hci := hMN.at' i _ hi
    rw [hc] at hci
    simp only [DataW.lit.injEq, Lit.int.injEq, true_and] at hci
    subst hci
    have HI := (show Hid _ from hi)
    rw [(hMN.has _ hs).2 hin] at hl0
    have HN := (show Hid (Ng wA m l) from ⟨D, hD, hMN⟩)
    clear hc hin hi k hD hMN hs
    generalize gcs s = cs at *
    go_enter Try.func87, Try.ntmps87
    go_wp2_with (fail)
    rw [← HWA.out]
    clear HWA
    refine wp_load_row 161 (.tmp 3) rfl W.heap.size rfl 161 cs (0, 0) _ hA3 Try.underlying161 rfl hi161 ?_
    go_wp2_with (fail)
    go_ret
    exact ⟨i, l, rfl, HI.out, .inl rfl, HN.out.keep rfl, B0.os, B0.tape, B0.output, B0.size, fun g hg _ => B0.block g hg⟩
  · rw [show Maps.has D (kg s) = false from Bool.eq_false_iff.2 (fun h => hin ((hMN.has _ hs).1 h))] at hl0
    have HNI := (show Hid _ from hin)
    have HMN := (show Hid _ from hMN)
    have HD : Hid (wA.ownsMap Try.prog 161 (plainElem (H := Unit) Try.prog 3) m l.length D) := hD
    have hm2 := (show Hid _ from hMN.put (hD.tidy law161) kg_inj hs (law161.key (key161 s hs)) hin)
    have hkey := key161 s hs
    have h1 : (Builtin.len_ #[156] 3 #[.map (some m)]).run Try.prog wA = .ok (.int .i64 (l.length : Int)) wA := by
      rw [hD.len Try.underlying156 3, hMN.sz]
    generalize kg s = kl at *
    clear hc hin k hD hMN hs
    generalize gcs s = cs at *
    go_enter Try.func87, Try.ntmps87
    go_wp2_with (fail)
    rw [← HWA.out]
    clear HWA
    refine wp_load_row 161 (.tmp 3) rfl W.heap.size rfl 161 cs (0, 0) _ hA3 Try.underlying161 rfl hi161 ?_
    go_wp2_with (fail)
    refine wp_load_row 161 (.tmp 3) rfl W.heap.size rfl 161 cs (0, 0) _ hA3 Try.underlying161 rfl hi161 ?_
    go_wp2_with (fail)
    obtain ⟨w2, hrun, hD2, hg2⟩ := HD.out.update law161 Try.underlying156 (by unfold maxLen; omega) hkey (plainElem_int (a := (l.length : Int)) Try.underlying3 (WalkArith.wf_i64 (by omega)))
    rw [hrun]
    go_wp2_with (fail)
    go_ret
    refine ⟨l.length, l ++ [s], rfl, by simp, .inr ⟨HNI.out, rfl⟩, ⟨_, ?_, hm2.out⟩, ?_⟩
    · rw [List.length_append]
      exact hD2
    · exact ⟨hg2.os.trans B0.os, hg2.tape.trans B0.tape, hg2.output.trans B0.output, Nat.le_trans B0.size hg2.size, fun g hg hne => (hg2.block g (Nat.lt_of_lt_of_le hg B0.size) hne).trans (B0.block g hg)⟩
end Go.Proofs.Ytkdkibnjfgcppaa.mi
