/-
  Contracts over this program: fretsawref07's Ends.
-/
import Derived.Test.YtfilndgbgdnpiaaKXj
namespace Go.Proofs.Ytfilndgbgdnpiaa.nb
open Go.ChangeShapes Go.WideShapes Go.ChangeAt Go.RowKit
open st (Tr Q4 nodesOf goods okNode Is Box nthT)
open nf (Ed IRow icells dOf)
open df (Row iv In IntsV)
set_option linter.unusedVariables false

/-- the places that are marked, one behind the other -/
structure Lst (S : Nat → Prop) (i : Nat) (K : List Int) : Prop where
  up : K.Pairwise (· < ·)
  mem : ∀ u, u ∈ K ↔ ∃ j : Nat, j < i ∧ u = (j : Int) ∧ S j
  len : K.length ≤ i
theorem lst_nil (S : Nat → Prop) : Lst S 0 [] := ⟨List.Pairwise.nil, fun u => ⟨fun h => absurd h (by simp), fun ⟨j, h, _⟩ => by omega⟩, Nat.le_refl _⟩
theorem Lst.yes {S : Nat → Prop} {i : Nat} {K : List Int} (h : Lst S i K) (hs : S i) : Lst S (i + 1) (K ++ [(i : Int)]) := by
  refine ⟨List.pairwise_append.2 ⟨h.up, List.pairwise_singleton _ _, fun a ha b hb => ?_⟩, fun u => ?_, by rw [List.length_append]; have := h.len; simp; omega⟩
  · obtain ⟨j, h1, rfl, _⟩ := (h.mem a).1 ha
    rw [List.mem_singleton] at hb
    subst hb
    omega
  · rw [List.mem_append, h.mem, List.mem_singleton]
    constructor
    · rintro (⟨j, h1, h2, h3⟩ | rfl)
      · exact ⟨j, by omega, h2, h3⟩
      · exact ⟨i, by omega, rfl, hs⟩
    · rintro ⟨j, h1, h2, h3⟩
      by_cases e : j = i
      · subst e; exact .inr h2
      · exact .inl ⟨j, by omega, h2, h3⟩
theorem Lst.no {S : Nat → Prop} {i : Nat} {K : List Int} (h : Lst S i K) (hs : ¬ S i) : Lst S (i + 1) K := by
  refine ⟨h.up, fun u => ?_, Nat.le_succ_of_le h.len⟩
  rw [h.mem]
  constructor
  · rintro ⟨j, h1, h2, h3⟩
    exact ⟨j, by omega, h2, h3⟩
  · rintro ⟨j, h1, h2, h3⟩
    by_cases e : j = i
    · subst e; exact absurd h3 hs
    · exact ⟨j, by omega, h2, h3⟩
theorem owns_later2 {W W' : World} {B : Nat} {v : Value} {l : List Int} (h : df.Owns W B v l) (b : Below W.heap.size W W') : df.Owns W' B v l := by
  refine ⟨h.1, ?_⟩
  rcases h.2 with h0 | ⟨g, cap, cur, rfl, hb, hg, hr⟩
  · exact .inl h0
  · exact .inr ⟨g, cap, cur, rfl, hb, (b.block g (Array.getElem?_eq_some_iff.1 hg).1).trans hg, hr⟩
theorem info3b : (Try.prog.info? 3).map (fun i => (i.zero, i.size, i.bytes)) = some (some (.int .i64 0), 1, 8) := by kernel_rfl
def REndsIs (s : ByteArray) (t : Tr) (at' : Nat) (L : List Int) : Prop := ∀ (tv : Value) (w : World) (Q0 : Nat → Prop), Is w Q0 t tv → Calls Try.prog 15 #[trV t tv, .string s, .int .i64 (at' : Int)] w fun e w' => ∃ v, e = .returned v ∧ IntsV w' v L ∧ Below w.heap.size w w'
set_option maxHeartbeats 4000000 in
set_option maxRecDepth 100000 in
theorem rends_any (s : ByteArray) (hs : s.size ≤ 60) (t : Tr) (hfrom : FromIs s t) (at' : Nat) (hat : at' ≤ s.size) (L : List Int) (hL : Lst (fun j => Tk (txOf s) t at' j) (s.size + 1) L) : REndsIs s t at' L := by
  intro tv w Q0 hI
  obtain ⟨o, n0, cap0, rfl⟩ := hI.shape
  have hm : ∀ W, (Instr.makeSlice 79 (.int .i64 ((s.size : Int) + 1)) (.int .i64 ((s.size : Int) + 1))).run Try.prog W = .ok (.slice (some ⟨W.heap.size, 0, none⟩) (s.size + 1) (s.size + 1)) (W.alloc (.cells (icells (List.replicate (s.size + 1) 0)) 3)) := fun W => by
    have := make79 (s.size + 1) (by omega) W
    rw [Int.natCast_add] at this
    exact this
  obtain ⟨w2, HW2⟩ : ∃ w2, Hid (w2 = (w.alloc (.cells #[.int .i64 t.kind, .int .u64 t.set.a, .int .u64 t.set.b, .int .u64 t.set.c, .int .u64 t.set.d, .int .i64 t.min, .int .i64 t.max, .slice o n0 cap0] 28)).alloc (.cells (icells (List.replicate (s.size + 1) 0)) 3)) := ⟨_, rfl⟩
  have HT0 := (show Hid _ from two_new w t _ (s.size + 1) w2 HW2.out)
  have HT1 := (show Hid _ from HT0.out.put at' 1)
  have hw2s : w2.heap.size = w.heap.size + 1 + 1 := by rw [HW2.out]; simp
  have kc := HT0.out.out.cell at' (by simp; omega)
  have kf := HT0.out.out.fz at'
  rw [List.getElem_replicate] at kc
  have HP1 := (show Hid (PlOf (fun j => j = at') (s.size + 1) ((List.replicate (s.size + 1) (0 : Int)).set at' 1)) from ((plOf_none (s.size + 1)).put at' (by omega)).to fun j _ => ⟨fun h => h.elim (fun h => h.elim) id, .inr⟩)
  obtain ⟨w3, HW3⟩ : ∃ w3, Hid (w3 = (w2.setCell ⟨w.heap.size + 1, at', none⟩ (.int .i64 1)).alloc (.cells #[] 3)) := ⟨_, rfl⟩
  have hsz : (w2.setCell ⟨w.heap.size + 1, at', none⟩ (.int .i64 1)).heap.size = w2.heap.size := by simp
  have hb3 : Below (w2.setCell ⟨w.heap.size + 1, at', none⟩ (.int .i64 1)).heap.size (w2.setCell ⟨w.heap.size + 1, at', none⟩ (.int .i64 1)) w3 := by rw [HW3.out]; exact nf.below_alloc _ _
  have HT3 := (show Hid _ from HT1.out.later hb3)
  have hO3 : w3.ownsRow w.heap.size 3 1 (.slice (some ⟨w2.heap.size, 0, none⟩) 0 0) ([] : List Int).length (([] : List Int).map (Value.int .i64)) := ⟨rfl, .inr ⟨w2.heap.size, 0, #[], rfl, by omega, by rw [HW3.out, ← hsz]; exact heap_alloc_new _ _, Nat.le_refl _, by unfold maxLen; omega, rfl, rfl⟩⟩
  have HO3 := (show Hid _ from hO3)
  have c37 := hfrom _ _ _ _ w3 _ HP1.out HT3.out.out (hI.later HT3.out.be)
  have hbx := HT3.out.box
  have HSZ := (show Hid (w2.heap.size = w.heap.size + 1 + 1) from hw2s)
  have HIM := (show Hid (∀ j, Img (s.size + 1) (Tk (txOf s) t) (fun i => i = at') j ↔ Tk (txOf s) t at' j) from fun j => ⟨fun ⟨k, h1, h2, h3⟩ => by subst h2; exact h3, fun h => ⟨at', by omega, rfl, h⟩⟩)
  have hai : (at' : Int) < (s.size : Int) + 1 := by omega
  have HLL := (show Hid _ from hL)
  have hlt3 : w2.heap.size < w3.heap.size := by have := hb3.size; have h1 := (Array.getElem?_eq_some_iff.1 (show w3.heap[w2.heap.size]? = some _ from by rw [HW3.out, ← hsz]; exact heap_alloc_new _ (.cells #[] 3))).1; exact h1
  clear hI hfrom hL hw2s hO3 hb3
  rw [HW2.out] at kc kf
  unfold trV
  go_enter Try.func15, Try.ntmps15
  have hbx' : ((((w.alloc (.cells #[.int .i64 t.kind, .int .u64 t.set.a, .int .u64 t.set.b, .int .u64 t.set.c, .int .u64 t.set.d, .int .i64 t.min, .int .i64 t.max, .slice o n0 cap0] 28)).alloc (.cells (icells (List.replicate (s.size + 1) 0)) 3)).setCell ⟨w.heap.size + 1, at', none⟩ (.int .i64 1)).alloc (.cells #[] 3)).heap[w.heap.size]? = some (.cells #[.int .i64 t.kind, .int .u64 t.set.a, .int .u64 t.set.b, .int .u64 t.set.c, .int .u64 t.set.d, .int .i64 t.min, .int .i64 t.max, .slice o n0 cap0] 28 (0, 0)) := by
    rw [← HW2.out, ← HW3.out]; exact hbx
  unfold trV at c37
  have HWW := (show Hid ((((w.alloc (.cells #[.int .i64 t.kind, .int .u64 t.set.a, .int .u64 t.set.b, .int .u64 t.set.c, .int .u64 t.set.d, .int .i64 t.min, .int .i64 t.max, .slice o n0 cap0] 28)).alloc (.cells ((icells (List.replicate (s.size + 1) 0)).setIfInBounds at' (.int .i64 1)) 3)).alloc (.cells #[] 3)) = w3) from by rw [HW3.out, HW2.out]; rw [World.setCell_alloc_at _ _ _ _ _ (World.size_alloc ..).symm]; exact rfl)
  go_wp2_with (first | (refine wpList_load_row rfl 28 (.tmp 3) rfl w.heap.size rfl 28 _ (0, 0) _ hbx' Try.underlying28 rfl info28 ?_) | (go_at_call 37; rw [HWW.out]; refine c37.mono ?_; rintro e w4 ⟨g4, Q4, rfl, hg4, hr4, hp4, b4⟩))
  have HB4 := (show Hid (Below w.heap.size w w4) from nf.chain HT3.out.be b4)
  rw [HSZ.out] at HO3 hlt3
  have HO4 := (show Hid (df.Owns w4 w.heap.size (.slice (some ⟨w.heap.size + 1 + 1, 0, none⟩) 0 0) []) from owns_later2 HO3.out b4)
  have HR4 := (show Hid (IRow w4 g4 Q4) from hr4)
  have HP4 := (show Hid (PlOf (fun j => Tk (txOf s) t at' j) (s.size + 1) Q4) from hp4.to fun j _ => HIM.out j)
  have hq4 : Q4.length = s.size + 1 := hp4.len
  have HG4 := (show Hid (some g4 ≠ (Value.slice (some ⟨w.heap.size + 1 + 1, 0, none⟩) 0 0).ownBlock) from fun e => by
    have e2 : g4 = w.heap.size + 1 + 1 := Option.some.inj e
    omega)
  clear hr4 hp4 b4 HIM HO3 hbx' HWW hbx HT0 HT1 HT3 HP1 kc kf HW3 HW2 hsz hlt3 HSZ hg4 hm
  go_loopw [8, 24] (fun y x wr => ∃ (i : Nat) (K : List Int) (gy : Option Addr) (cy : Nat), y = .slice gy K.length cy ∧ x = .int .i64 i ∧ i ≤ s.size + 1 ∧ Hid (Lst (fun j => Tk (txOf s) t at' j) i K) ∧ Hid (df.Owns wr w.heap.size (.slice gy K.length cy) K) ∧ Hid (Below w.heap.size w wr) ∧ Hid (IRow wr g4 Q4) ∧ Hid (some g4 ≠ (Value.slice gy K.length cy).ownBlock)) (fun _ x _ => s.size + 1 - (intOf x).toNat)
  case atStart => exact ⟨0, [], _, 0, rfl, rfl, by omega, lst_nil _, HO4, HB4, HR4, HG4⟩
  case round =>
    obtain ⟨i, K, gy, cy, rfl, rfl, hi, HL, HO, HB, HR, HG⟩ := hrel
    clear HO4 HB4 HR4 HG4
    by_cases hend : i < s.size + 1
    · have hiq : i < Q4.length := by omega
      have hc := HR.out.cell i hiq
      have hln := HL.out.len
      have hsz := HB.out.size
      have hii : (i : Int) < (s.size : Int) + 1 := by omega
      rcases HP4.out.bit i hiq with ⟨hb, hS⟩ | ⟨hb, hS⟩
      · rw [hb] at hc
        have HL1 := (show Hid _ from HL.out.yes hS)
        clear hb hS
        go_wp2_with (at_builtin; refine nf.wpList_append_at rfl (.tmp 31) (.tmp 33) rfl w.heap.size _ K (i : Int) _ rfl rfl (owns_later2 HO.out (nf.below_alloc _ _)) (nf.tmp_cell _ _ _ rfl) (by omega) (by simp; omega) ?_; intro g' cap' w5 hown5 hgr5 hw5)
        have hR5 : IRow w5 g4 Q4 := (HR.out.alloc _).keep (hgr5.block g4 (HR.out.alloc _).lt HG.out)
        have hne : some g4 ≠ some g' := fun e => by
          rcases hw5 with h | h
          · exact HG.out (e.trans h)
          · have e2 := Option.some.inj e
            have := HR.out.lt
            simp at h
            omega
        go_roundw
        case rel => exact ⟨i + 1, K ++ [(i : Int)], some ⟨g', 0, none⟩, cap', by simp, by go_num, by omega, HL1, (show df.Owns _ _ _ _ from by simpa using hown5), (HB.out.alloc hsz _).grown hgr5 (by simp; omega) (df.own_ge HO.out), hR5, hne⟩
        case measure => simp [intOf]; omega
      · rw [hb] at hc
        have HL1 := (show Hid _ from HL.out.no hS)
        clear hb hS
        go_wp2_with (fail)
        go_roundw
        case rel => exact ⟨i + 1, K, gy, cy, rfl, by go_num, by omega, HL1, HO, HB, HR, HG⟩
        case measure => simp [intOf]; omega
    · have he : i = s.size + 1 := by omega
      subst he
      go_wp2_with (fail)
      go_ret
      have hKL : K = L := nf.up_eq K L HL.out.up HLL.out.up fun u => (HL.out.mem u).trans (HLL.out.mem u).symm
      exact ⟨_, rfl, by rw [← hKL]; exact df.ints_of_owns HO.out, HB.out⟩
end Go.Proofs.Ytfilndgbgdnpiaa.nb
