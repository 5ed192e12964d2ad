/-
  Contracts over this program: a tree is written (regex.write, writeWithin).
-/
import Derived.Test.YtfclidcfhadohaaDoorPh
import Derived.Test.YtfclidcfhadohaaDoorPk
import Derived.Test.YtfclidcfhadohaaDoorDp
import Derived.Test.YtfclidcfhadohaaDoorArg
import Derived.Deep.RegionHeld3
namespace Go.Proofs.YtfclidcfhadohaaDoor.bld
open Go.Shelf Go.RowKit
set_option linter.unusedVariables false
set_option maxHeartbeats 2000000 in
set_option maxRecDepth 100000 in
/-- a byte goes in behind what the builder holds -/
theorem writeByteK (B b : Nat) (bs : List Value) (c : Int) (w : World) (h : Lib.IsBuilderF 42 5 B b bs w) (hlen : bs.length + 1 ≤ 140737488355328) (hBw : B ≤ w.heap.size) :
    Calls Tryd.prog 24 #[.pointer (some ⟨b, 0, none⟩), .int .u8 c] w fun e w' => e = .returned .nilIface ∧ Lib.IsBuilderF 42 5 B b (bs ++ [.int .u8 c]) w' ∧ Below B w w' ∧ Lib.OthersKept 5 (some b) w w' := by
  obtain ⟨i0, hi, hz0, hz1, hz2⟩ := info_parts info5
  go_enter Tryd.func24, Tryd.ntmps24
  go_wp2_with (go_at_call 34; refine (check B b bs _ h).mono ?_)
  rintro e w1 ⟨rfl, at1, below1, kept1⟩
  have room := Nat.le_trans hBw below1.size
  have ha : Below w1.heap.size w1 (w1.alloc (.cells #[.int .u8 c] 5)) := (Below.refl _ _).alloc (Nat.le_refl _) _
  have room2 : B ≤ (w1.alloc (.cells #[.int .u8 c] 5)).heap.size := Nat.le_trans room ha.size
  have below1' : Below B w (w1.alloc (.cells #[.int .u8 c] 5)) := below1.alloc room _
  obtain ⟨v, c1, own, next⟩ := stored (at_later at1 ha) room2
  have c1' : w1.cell? ⟨b, 1, none⟩ = some v := by
    obtain ⟨_, v2, hbk, _⟩ := at1
    have hlt : b < w1.heap.size := (Array.getElem?_eq_some_iff.1 hbk).1
    rw [← ha.cell (p := ⟨b, 1, none⟩) hlt]
    exact c1
  go_wp2_with (at_builtin; refine wpList_append_ownF _ rfl _ _ 40 rfl B 5 i0 (.int .u8 0) 1 1 Tryd.underlying40 hi hz0 hz1 hz2 rfl (by decide) _ _ _ rfl own ⟨w1.heap.size, 0, none⟩ 1 1 [.int .u8 c] rfl rfl ?c1 ?c2 ?c3 ?c4 ?c5 ?_)
  case c1 =>
    intro j u hj
    match j, hj with
    | 0, hj => simp at hj; subst hj; simp [Addr.add]
  case c2 => intro u hu; simp at hu; subst hu; rfl
  case c3 => unfold maxLen; omega
  case c4 => omega
  case c5 => exact room2
  intro v' w2 own2 gr _
  obtain ⟨⟨a, n, cc, rfl⟩, ⟨c2, f2⟩, is2, below2, kept2⟩ := next v' w2 [.int .u8 c] (by rw [List.length_append]; exact own2) gr
  go_wp2
  go_ret
  exact ⟨rfl, is2, below1'.trans below2, (kept1.alloc _).trans kept2⟩
end Go.Proofs.YtfclidcfhadohaaDoor.bld
namespace Go.Proofs.YtfclidcfhadohaaDoor.rp
open Go.Proofs.YtfclidcfhadohaaDoor.st
open Go.Proofs.YtfclidcfhadohaaDoor.sp (chain)
open Go.ChangeShapes Go.WideShapes Go.ChangeAt Go.RowKit
set_option linter.unusedVariables false

abbrev Kp (b : Nat) (w w' : World) : Prop := Lib.OthersKept 5 (some b) w w'
theorem kp_below (b : Nat) {w w' : World} (h : Below w.heap.size w w') : Kp b w w' := fun k o hk _ _ => by
  rw [h.block k (Array.getElem?_eq_some_iff.1 hk).1]; exact hk
theorem bk_write (B b : Nat) (out r : L8) (hlen : out.length + r.length ≤ 140737488355328) (w : World) (h : Bd B b out w) (hB : B ≤ w.heap.size) :
    Calls Tryd.prog 21 #[.pointer (some ⟨b, 0, none⟩), .string (bs r)] w fun e w' => e = .returned (.tuple #[.int .i64 r.length, .nilIface]) ∧ Bd B b (out ++ r) w' ∧ Below B w w' ∧ Kp b w w' := by
  refine (bld.write_any B b out (bs r) (by rw [bs_size]; exact hlen) w h hB).mono ?_
  rintro e w' ⟨rfl, h1, h2, h3⟩
  exact ⟨by rw [bs_size], h1, h2, h3⟩
theorem bk_byte (B b : Nat) (out : L8) (c : Nat) (hc : c < 256) (hlen : out.length + 1 ≤ 140737488355328) (w : World) (h : Bd B b out w) (hB : B ≤ w.heap.size) :
    Calls Tryd.prog 24 #[.pointer (some ⟨b, 0, none⟩), .int .u8 c] w fun e w' => e = .returned .nilIface ∧ Bd B b (out ++ [UInt8.ofNat c]) w' ∧ Below B w w' ∧ Kp b w w' := by
  refine (bld.writeByteK B b (Lib.byteCells out) (c : Int) w h (by rw [bld.byteCells_length]; exact hlen) hB).mono ?_
  rintro e w' ⟨rfl, h1, h2, h3⟩
  refine ⟨rfl, ?_, h2, h3⟩
  unfold Bd
  rw [Lib.byteCells_append, sp.cells_one hc]
  exact h1
theorem bk_lit (B b : Nat) (out : L8) (c : Nat) (ci : Int) (cu : UInt8) (h1 : (c : Int) = ci) (h2 : UInt8.ofNat c = cu) (hc : c < 256) (hlen : out.length + 1 ≤ 140737488355328) (w : World) (h : Bd B b out w) (hB : B ≤ w.heap.size) :
    Calls Tryd.prog 24 #[.pointer (some ⟨b, 0, none⟩), .int .u8 ci] w fun e w' => e = .returned .nilIface ∧ Bd B b (out ++ [cu]) w' ∧ Below B w w' ∧ Kp b w w' := by
  rw [← h1, ← h2]
  exact bk_byte B b out c hc hlen w h hB
theorem Is.low {w w' : World} {B : Nat} {t : Tr} {v : Value} (h : Is w (· < B) t v) (b : Below B w w') : Is w' (· < B) t v :=
  h.carry b.size (fun k hk _ => hk) (fun k hk _ => b.block k hk)
theorem Box.kept {w w' : World} {g b : Nat} {t : Tr} {v : Value} (h : Box w g t v) (k : Kp b w w') (hne : g ≠ b) : Box w' g t v :=
  k g _ h (fun e => hne (Option.some.inj e)) (fun c fz e => by simp at e)

def AgT (t : Tr) (v : Value) : Value := .agg #[.int .i64 t.kind, .int .u64 t.set.a, .int .u64 t.set.b, .int .u64 t.set.c, .int .u64 t.set.d, .int .i64 t.min, .int .i64 t.max, v]
def WrIs (t : Tr) : Prop := ∀ (B b : Nat) (out : L8) (v : Value) (w : World), Is w (· < B) t v → Bd B b out w → b < w.heap.size → B ≤ w.heap.size → out.length + (txt t).length ≤ 4294967296 →
  Calls Tryd.prog 12 #[.pointer (some ⟨b, 0, none⟩), .agg #[.int .i64 t.kind, .int .u64 t.set.a, .int .u64 t.set.b, .int .u64 t.set.c, .int .u64 t.set.d, .int .i64 t.min, .int .i64 t.max, v]] w fun e w' => e = .returned (.tuple #[]) ∧ Bd B b (out ++ txt t) w' ∧ Below B w w' ∧ Kp b w w'
def WiIs (t : Tr) (n : Bool) : Prop := ∀ (B b : Nat) (out : L8) (v : Value) (w : World), Is w (· < B) t v → Bd B b out w → b < w.heap.size → B ≤ w.heap.size → out.length + (par n (txt t)).length ≤ 4294967296 →
  Calls Tryd.prog 23 #[.pointer (some ⟨b, 0, none⟩), .agg #[.int .i64 t.kind, .int .u64 t.set.a, .int .u64 t.set.b, .int .u64 t.set.c, .int .u64 t.set.d, .int .i64 t.min, .int .i64 t.max, v], .bool n] w fun e w' => e = .returned (.tuple #[]) ∧ Bd B b (out ++ par n (txt t)) w' ∧ Below B w w' ∧ Kp b w w'

set_option maxHeartbeats 2000000 in
set_option maxRecDepth 100000 in
theorem within_of (t : Tr) (h : WrIs t) (n : Bool) : WiIs t n := by
  intro B b out v w hI hO hb hB hlen
  obtain ⟨o, nn, cap, rfl⟩ := hI.shape
  have hb0 : Box (w.alloc (.cells #[.int .i64 t.kind, .int .u64 t.set.a, .int .u64 t.set.b, .int .u64 t.set.c, .int .u64 t.set.d, .int .i64 t.min, .int .i64 t.max, .slice o nn cap] 28)) w.heap.size t (.slice o nn cap) := box_new w t _
  have B0 : Below w.heap.size w (w.alloc (.cells #[.int .i64 t.kind, .int .u64 t.set.a, .int .u64 t.set.b, .int .u64 t.set.c, .int .u64 t.set.d, .int .i64 t.min, .int .i64 t.max, .slice o nn cap] 28)) := below_alloc _ _
  have hI0 := Is.low hI (B0.mono hB)
  have hO0 := Bd.later hO B0
  have hs0 : (w.alloc (.cells #[.int .i64 t.kind, .int .u64 t.set.a, .int .u64 t.set.b, .int .u64 t.set.c, .int .u64 t.set.d, .int .i64 t.min, .int .i64 t.max, .slice o nn cap] 28)).heap.size = w.heap.size + 1 := by simp
  have hK0 := kp_below b B0
  have BB := B0.mono hB
  have c := hb0.cells
  cases n
  · have hlen : out.length + (txt t).length ≤ 4294967296 := hlen
    have hc := h B b out _ (w.alloc (.cells #[.int .i64 t.kind, .int .u64 t.set.a, .int .u64 t.set.b, .int .u64 t.set.c, .int .u64 t.set.d, .int .i64 t.min, .int .i64 t.max, .slice o nn cap] 28)) hI0 hO0 (by omega) (by omega) (by omega)
    have hE : par false (txt t) = txt t := rfl
    rw [hE]
    obtain ⟨c0, c1, c2, c3, c4, c5, c6, c7⟩ := c
    clear hlen hs0
    generalize txt t = tt at *
    go_enter Tryd.func23, Tryd.ntmps23
    go_wp2_with (go_at_call 12; (with_reducible refine hc.mono ?_); rintro e w2 ⟨rfl, hO2, b2, k2⟩)
    (first | go_end0 | (((try simp only [Exit.inBlock, Exit.then]); refine bodyPost_ret (results_none rfl _ _ _) rfl ?_)))
    exact ⟨rfl, hO2, BB.trans b2, hK0.trans k2⟩
  · have hE : par true (txt t) = [40] ++ txt t ++ [41] := rfl
    rw [hE]
    have hlen : out.length + (txt t).length + 2 ≤ 4294967296 := by
      have := hlen
      rw [hE] at this
      simp at this
      omega
    have ha := bk_lit B b out 40 40 40 rfl rfl (by decide) (by omega)
    have hw := fun W h1 h2 h3 h4 => h B b (out ++ [40]) (.slice o nn cap) W h1 h2 h3 h4 (by simp; omega)
    have hz := bk_lit B b (out ++ [40] ++ txt t) 41 41 41 rfl rfl (by decide) (by simp; omega)
    rw [show out ++ ([40] ++ txt t ++ [41]) = out ++ [40] ++ txt t ++ [41] from by simp]
    have ha0 := ha (w.alloc (.cells #[.int .i64 t.kind, .int .u64 t.set.a, .int .u64 t.set.b, .int .u64 t.set.c, .int .u64 t.set.d, .int .i64 t.min, .int .i64 t.max, .slice o nn cap] 28)) hO0 (by omega)
    have HS0 := (show Hid ((w.alloc (.cells #[.int .i64 t.kind, .int .u64 t.set.a, .int .u64 t.set.b, .int .u64 t.set.c, .int .u64 t.set.d, .int .i64 t.min, .int .i64 t.max, .slice o nn cap] 28)).heap.size = w.heap.size + 1) from hs0)
    clear hlen hs0 ha hE c
    generalize txt t = tt at *
    generalize out ++ [40] = o1 at *
    generalize o1 ++ tt = o2 at *
    go_enter Tryd.func23, Tryd.ntmps23
    go_wp2_with (first | (go_at_call 24; (with_reducible refine ha0.mono ?_); rintro e w1 ⟨rfl, hO1, b1, k1⟩; have hB1 := BB.trans b1; have hb1 : Box w1 w.heap.size t (.slice o nn cap) := Box.kept hb0 k1 (by omega); obtain ⟨c0, c1, c2, c3, c4, c5, c6, c7⟩ := hb1.cells; have hc1 := hw w1 (Is.low hI0 b1) hO1 (Nat.lt_of_lt_of_le hb (Nat.le_trans B0.size b1.size)) (Nat.le_trans hB hB1.size)) | (go_at_call 12; (with_reducible refine hc1.mono ?_); rintro e w2 ⟨rfl, hO2, b2, k2⟩; have hB2 := hB1.trans b2; have hz1 := hz w2 hO2 (Nat.le_trans hB hB2.size)) | (go_at_call 24; refine hz1.mono ?_; rintro e w3 ⟨rfl, hO3, b3, k3⟩))
    (first | go_end0 | (((try simp only [Exit.inBlock, Exit.then]); refine bodyPost_ret (results_none rfl _ _ _) rfl ?_)))
    exact ⟨rfl, hO3, hB2.trans b3, ((hK0.trans k1).trans k2).trans k3⟩

theorem txts_append2 (k : Int) (f : Bool) (a c : List Tr) : ∃ r, txts k f (a ++ c) = txts k f a ++ r := by
  induction a generalizing f with
  | nil => exact ⟨_, rfl⟩
  | cons x a ih =>
    obtain ⟨r, hr⟩ := ih false
    exact ⟨r, by rw [List.cons_append, txts, hr, txts]; simp⟩
theorem txts_pre (k : Int) (l : List Tr) (i : Nat) : (txts k true (l.take i)).length ≤ (txts k true l).length := by
  obtain ⟨r, hr⟩ := txts_append2 k true (l.take i) (l.drop i)
  rw [List.take_append_drop] at hr
  rw [hr]
  simp
theorem par_ge (n : Bool) (l : L8) : l.length ≤ (par n l).length := by
  unfold par
  split <;> simp <;> omega
theorem low_cells {w w' : World} {B b o : Nat} {t : Tr} {v : Value} (h : Cells w b o t v) (hb : b < B) (e : Below B w w') : Cells w' b o t v := h.same (e.block b hb)
set_option maxHeartbeats 4000000 in
set_option maxRecDepth 100000 in
theorem write_set (q : Q4) (hq : Fits q) (mn mx : Int) (l : List Tr) : WrIs (.node 1 q mn mx l) := by
  intro B b out v w hI hO hb hB hlen
  obtain ⟨o, nn, cap, rfl⟩ := hI.shape
  simp only [Tr.kind, Tr.set, Tr.min, Tr.max]
  have he : txt (.node 1 q mn mx l) = setT q := by rw [txt_eq]; rfl
  rw [he] at hlen ⊢
  have B0 : Below w.heap.size w (w.alloc (.cells #[.int .i64 1, .int .u64 q.a, .int .u64 q.b, .int .u64 q.c, .int .u64 q.d, .int .i64 mn, .int .i64 mx, .slice o nn cap] 28)) := below_alloc _ _
  have hb0 : Box (w.alloc (.cells #[.int .i64 1, .int .u64 q.a, .int .u64 q.b, .int .u64 q.c, .int .u64 q.d, .int .i64 mn, .int .i64 mx, .slice o nn cap] 28)) w.heap.size (.node 1 q mn mx l) (.slice o nn cap) := box_new w (.node 1 q mn mx l) _
  have hO0 := Bd.later hO B0
  have BB := B0.mono hB
  have hK0 := kp_below b B0
  have hs := settext_any q hq _ rfl
  have hw := fun W h1 h2 => bk_write B b out (setT q) (by omega) W h1 h2
  obtain ⟨c0, c1, c2, c3, c4, c5, c6, c7⟩ := hb0.cells
  simp only [Tr.kind, Tr.set, Tr.min, Tr.max] at c0 c1 c2 c3 c4 c5 c6 c7
  unfold SetTextIs at hs
  generalize setT q = tt at *
  generalize bs tt = ts at *
  go_enter Tryd.func12, Tryd.ntmps12
  go_wp2_with (first | (go_at_call 22; (with_reducible refine (hs _).mono ?_); rintro e w1 ⟨rfl, b1⟩; have hO1 := Bd.later hO0 b1; have hB1 := BB.trans (b1.mono (Nat.le_trans hB BB.size)); have hw1 := hw w1 hO1 (Nat.le_trans hB hB1.size)) | (go_at_call 21; (with_reducible refine hw1.mono ?_); rintro e w2 ⟨rfl, hO2, b2, k2⟩))
  (first | go_end0 | (((try simp only [Exit.inBlock, Exit.then]); refine bodyPost_ret (results_none rfl _ _ _) rfl ?_)))
  exact ⟨rfl, hO2, hB1.trans b2, (hK0.trans (kp_below b b1)).trans k2⟩
set_option maxHeartbeats 4000000 in
set_option maxRecDepth 100000 in
theorem write_cat (q : Q4) (mn mx : Int) (l : List Tr) (ih : ∀ i, i < l.length → ∀ n, WiIs (nthT l i) n) : WrIs (.node 2 q mn mx l) := by
  intro B b out v w hI hO hb hB hlen
  have IH := (show Hid (∀ i, i < l.length → ∀ n, WiIs (nthT l i) n) from ih)
  clear ih
  obtain ⟨o, cap, b', off, vs, rfl, hcap, hk⟩ := hI.form
  simp only [Tr.kids] at hcap hk ⊢
  simp only [Tr.kind, Tr.set, Tr.min, Tr.max]
  have he : txt (.node 2 q mn mx l) = txts 2 true l := by rw [txt_eq]; rfl
  rw [he] at hlen ⊢
  have hll : l.length ≤ 9223372036854775807 := by
    by_cases h0 : 0 < l.length
    · have := (hk 0 h0).2.1; omega
    · omega
  have B0 : Below w.heap.size w (w.alloc (.cells #[.int .i64 2, .int .u64 q.a, .int .u64 q.b, .int .u64 q.c, .int .u64 q.d, .int .i64 mn, .int .i64 mx, .slice o l.length cap] 28)) := below_alloc _ _
  have hb0 : Box (w.alloc (.cells #[.int .i64 2, .int .u64 q.a, .int .u64 q.b, .int .u64 q.c, .int .u64 q.d, .int .i64 mn, .int .i64 mx, .slice o l.length cap] 28)) w.heap.size (.node 2 q mn mx l) (.slice o l.length cap) := box_new w (.node 2 q mn mx l) _
  have hO0 := Bd.later hO B0
  have BB := B0.mono hB
  have hK0 := kp_below b B0
  obtain ⟨c0, c1, c2, c3, c4, c5, c6, c7⟩ := hb0.cells
  simp only [Tr.kind, Tr.set, Tr.min, Tr.max] at c0 c1 c2 c3 c4 c5 c6 c7
  have hbb : b < (w.alloc (.cells #[.int .i64 2, .int .u64 q.a, .int .u64 q.b, .int .u64 q.c, .int .u64 q.d, .int .i64 mn, .int .i64 mx, .slice o l.length cap] 28)).heap.size := Nat.lt_of_lt_of_le hb B0.size
  clear hI hb0 B0
  go_enter Tryd.func12, Tryd.ntmps12
  go_wp2_with (fail)
  go_loopw [22] (fun x wr => ∃ i : Nat, x = .int .i64 (i : Int) ∧ i ≤ l.length ∧ Bd B b (out ++ txts 2 true (l.take i)) wr ∧ Below B w wr ∧ Kp b w wr ∧ b < wr.heap.size) (fun x _ => l.length - (intOf x).toNat)
  case atStart => exact ⟨0, rfl, by omega, by simpa [txts] using hO0, BB, hK0, hbb⟩
  case round =>
    obtain ⟨i, rfl, hi, hOr, hBr, hKr, hbr⟩ := hrel
    clear hO0 BB hK0 hbb c0 c1 c2 c3 c4 c5 c6 c7
    by_cases hin : i < l.length
    · obtain ⟨rfl, hcm, hbl, hbB, hcells, hkid⟩ := hk i hin
      have hcells2 := low_cells hcells hbB hBr
      have hkid2 := Is.low hkid hBr
      obtain ⟨o2, n2, cap2, hv2⟩ := hkid.shape
      rw [hv2] at hcells2 hkid2
      obtain ⟨k0, k1, k2, k3, k4, k5, k6, k7⟩ := hcells2
      have hwi := IH.out i hin (decide ((nthT l i).kind = 3))
      have HN := (show Hid (out ++ txts 2 true (l.take i) ++ par (decide ((nthT l i).kind = 3)) (txt (nthT l i)) = out ++ txts 2 true (l.take (i + 1))) from by
        show _ = _
        rw [txts_take 2 l i hin]
        simp [item])
      have hlen2 : (out ++ txts 2 true (l.take i)).length + (par (decide ((nthT l i).kind = 3)) (txt (nthT l i))).length ≤ 4294967296 := by
        have h1 := congrArg List.length (txts_take 2 l i hin)
        have h2 := txts_pre 2 l (i + 1)
        have h3 : (item 2 i (nthT l i)).length = (par (decide ((nthT l i).kind = 3)) (txt (nthT l i))).length := by simp [item]
        have h4 := par_ge (decide ((nthT l i).kind = 3)) (txt (nthT l i))
        have := hlen
        simp only [List.length_append] at h1 ⊢
        omega
      have hkk : ((nthT l i).kind == 3) = decide ((nthT l i).kind = 3) := rfl
      clear hcells hkid hk hv2
      generalize nthT l i = x at *
      generalize out ++ txts 2 true (l.take i) = oi at *
      generalize decide (x.kind = 3) = dk at *
      clear IH
      go_wp2_with (go_at_call 23; go_loud (refine (hwi B b oi _ _ (Is.low hkid2 ((below_alloc _ _).mono (Nat.le_trans hB hBr.size))) (Bd.later hOr (below_alloc _ _)) (Nat.lt_of_lt_of_le hbr (below_alloc _ _).size) (Nat.le_trans (Nat.le_trans hB hBr.size) (below_alloc _ _).size) hlen2).mono ?_; rintro e w2 ⟨rfl, hO2, b2, k2⟩))
      go_roundw
      case rel => exact ⟨i + 1, by go_num, by omega, by rw [← HN.out]; exact hO2, (hBr.trans ((below_alloc _ _).mono (Nat.le_trans hB hBr.size))).trans b2, (hKr.trans (kp_below b (below_alloc _ _))).trans k2, Nat.lt_of_lt_of_le (Nat.lt_of_lt_of_le hbr (below_alloc _ _).size) b2.size⟩
      case measure => simp [intOf]; omega
    · obtain rfl : i = l.length := by omega
      rw [List.take_length] at hOr
      clear IH hk
      go_wp2_with (fail)
      (first | go_end0 | (((try simp only [Exit.inBlock, Exit.then]); refine bodyPost_ret (results_none rfl _ _ _) rfl ?_)))
      exact ⟨rfl, hOr, hBr, hKr⟩
set_option maxHeartbeats 4000000 in
set_option maxRecDepth 100000 in
theorem write_alt (q : Q4) (mn mx : Int) (l : List Tr) (ih : ∀ i, i < l.length → WrIs (nthT l i)) : WrIs (.node 3 q mn mx l) := by
  intro B b out v w hI hO hb hB hlen
  have IH := (show Hid (∀ i, i < l.length → WrIs (nthT l i)) from ih)
  clear ih
  obtain ⟨o, cap, b', off, vs, rfl, hcap, hk⟩ := hI.form
  simp only [Tr.kids] at hcap hk ⊢
  simp only [Tr.kind, Tr.set, Tr.min, Tr.max]
  have he : txt (.node 3 q mn mx l) = txts 3 true l := by rw [txt_eq]; rfl
  rw [he] at hlen ⊢
  have hll : l.length ≤ 9223372036854775807 := by
    by_cases h0 : 0 < l.length
    · have := (hk 0 h0).2.1; omega
    · omega
  have B0 : Below w.heap.size w (w.alloc (.cells #[.int .i64 3, .int .u64 q.a, .int .u64 q.b, .int .u64 q.c, .int .u64 q.d, .int .i64 mn, .int .i64 mx, .slice o l.length cap] 28)) := below_alloc _ _
  have hb0 : Box (w.alloc (.cells #[.int .i64 3, .int .u64 q.a, .int .u64 q.b, .int .u64 q.c, .int .u64 q.d, .int .i64 mn, .int .i64 mx, .slice o l.length cap] 28)) w.heap.size (.node 3 q mn mx l) (.slice o l.length cap) := box_new w (.node 3 q mn mx l) _
  have hO0 := Bd.later hO B0
  have BB := B0.mono hB
  have hK0 := kp_below b B0
  obtain ⟨c0, c1, c2, c3, c4, c5, c6, c7⟩ := hb0.cells
  simp only [Tr.kind, Tr.set, Tr.min, Tr.max] at c0 c1 c2 c3 c4 c5 c6 c7
  have hbb : b < (w.alloc (.cells #[.int .i64 3, .int .u64 q.a, .int .u64 q.b, .int .u64 q.c, .int .u64 q.d, .int .i64 mn, .int .i64 mx, .slice o l.length cap] 28)).heap.size := Nat.lt_of_lt_of_le hb B0.size
  clear hI hb0 B0
  go_enter Tryd.func12, Tryd.ntmps12
  go_wp2_with (fail)
  go_loopw [38] (fun x wr => ∃ i : Nat, x = .int .i64 (i : Int) ∧ i ≤ l.length ∧ Bd B b (out ++ txts 3 true (l.take i)) wr ∧ Below B w wr ∧ Kp b w wr ∧ b < wr.heap.size) (fun x _ => l.length - (intOf x).toNat)
  case atStart => exact ⟨0, rfl, by omega, by simpa [txts] using hO0, BB, hK0, hbb⟩
  case round =>
    obtain ⟨i, rfl, hi, hOr, hBr, hKr, hbr⟩ := hrel
    clear hO0 BB hK0 hbb c0 c1 c2 c3 c4 c5 c6 c7
    by_cases hin : i < l.length
    · obtain ⟨rfl, hcm, hbl, hbB, hcells, hkid⟩ := hk i hin
      have hcells2 := low_cells hcells hbB hBr
      have hkid2 := Is.low hkid hBr
      obtain ⟨o2, n2, cap2, hv2⟩ := hkid.shape
      rw [hv2] at hcells2 hkid2
      obtain ⟨k0, k1, k2, k3, k4, k5, k6, k7⟩ := hcells2
      have hwi := IH.out i hin
      have HT := (show Hid (txts 3 true (l.take (i + 1)) = txts 3 true (l.take i) ++ ((if 0 < i then [124] else []) ++ txt (nthT l i))) from by
        show _ = _
        rw [txts_take 3 l i hin]
        simp [item, par])
      have hlen2 : (out ++ txts 3 true (l.take (i + 1))).length ≤ 4294967296 := by
        have h2 := txts_pre 3 l (i + 1)
        simp only [List.length_append]
        omega
      rw [HT.out] at hlen2
      clear hcells hkid hk hv2 IH
      by_cases h0 : 0 < i
      · have HN := (show Hid (out ++ txts 3 true (l.take i) ++ [124] ++ txt (nthT l i) = out ++ txts 3 true (l.take (i + 1))) from by
          show _ = _
          rw [HT.out, if_pos h0]; simp)
        rw [if_pos h0] at hlen2
        clear HT
        generalize nthT l i = x at *
        simp only [List.length_append, List.length_cons, List.length_nil] at hlen2
        have hbar := bk_lit B b (out ++ txts 3 true (l.take i)) 124 124 124 rfl rfl (by decide) (by simp only [List.length_append]; omega) _ (Bd.later hOr (below_alloc wr (.cells #[.int .i64 x.kind, .int .u64 x.set.a, .int .u64 x.set.b, .int .u64 x.set.c, .int .u64 x.set.d, .int .i64 x.min, .int .i64 x.max, .slice o2 n2 cap2] 28))) (Nat.le_trans (Nat.le_trans hB hBr.size) (below_alloc _ _).size)
        have hlen3 : (out ++ txts 3 true (l.take i) ++ [124]).length + (txt x).length ≤ 4294967296 := by simp only [List.length_append, List.length_cons, List.length_nil]; omega
        have hbx := heap_alloc_new wr (.cells #[.int .i64 x.kind, .int .u64 x.set.a, .int .u64 x.set.b, .int .u64 x.set.c, .int .u64 x.set.d, .int .i64 x.min, .int .i64 x.max, .slice o2 n2 cap2] 28)
        have hA := below_alloc wr (.cells #[.int .i64 x.kind, .int .u64 x.set.a, .int .u64 x.set.b, .int .u64 x.set.c, .int .u64 x.set.d, .int .i64 x.min, .int .i64 x.max, .slice o2 n2 cap2] 28)
        have hI2 := Is.low hkid2 (hA.mono (Nat.le_trans hB hBr.size))
        have hb2 : b < (wr.alloc (.cells #[.int .i64 x.kind, .int .u64 x.set.a, .int .u64 x.set.b, .int .u64 x.set.c, .int .u64 x.set.d, .int .i64 x.min, .int .i64 x.max, .slice o2 n2 cap2] 28)).heap.size := Nat.lt_of_lt_of_le hbr hA.size
        have hB2 := hBr.trans (hA.mono (Nat.le_trans hB hBr.size))
        have hK2 := hKr.trans (kp_below b hA)
        have hBox : Box (wr.alloc (.cells #[.int .i64 x.kind, .int .u64 x.set.a, .int .u64 x.set.b, .int .u64 x.set.c, .int .u64 x.set.d, .int .i64 x.min, .int .i64 x.max, .slice o2 n2 cap2] 28)) wr.heap.size x (.slice o2 n2 cap2) := hbx
        have hne : wr.heap.size ≠ b := by omega
        generalize out ++ txts 3 true (l.take i) = oi at *
        generalize oi ++ [124] = oj at *
        clear hbx hA
        have g0 : decide ((0 : Int) < (i : Int)) = true := decide_eq_true (by omega)
        go_wp2_with (first | (go_at_call 24; (with_reducible refine hbar.mono ?_); rintro e w1 ⟨rfl, hO1, b1, k1⟩; have hB3 := hB2.trans b1; have hBx := Box.kept hBox k1 hne; obtain ⟨c0, c1, c2, c3, c4, c5, c6, c7⟩ := hBx.cells; have hcall := hwi B b oj (.slice o2 n2 cap2) w1 (Is.low hI2 b1) hO1 (Nat.lt_of_lt_of_le hb2 b1.size) (Nat.le_trans hB hB3.size) hlen3) | (go_at_call 12; go_loud (refine hcall.mono ?_; rintro e w2 ⟨rfl, hO2, b2, k2⟩)))
        go_roundw
        case rel => exact ⟨i + 1, by go_num, by omega, by rw [← HN.out]; exact hO2, hB3.trans b2, (hK2.trans k1).trans k2, Nat.lt_of_lt_of_le (Nat.lt_of_lt_of_le hb2 b1.size) b2.size⟩
        case measure => simp [intOf]; omega
      · have HN := (show Hid (out ++ txts 3 true (l.take i) ++ txt (nthT l i) = out ++ txts 3 true (l.take (i + 1))) from by
          show _ = _
          rw [HT.out, if_neg h0]; simp)
        rw [if_neg h0] at hlen2
        clear HT
        generalize nthT l i = x at *
        simp only [List.length_append, List.length_nil] at hlen2
        have hlen3 : (out ++ txts 3 true (l.take i)).length + (txt x).length ≤ 4294967296 := by simp only [List.length_append]; omega
        generalize out ++ txts 3 true (l.take i) = oi at *
        have g0 : decide ((0 : Int) < (i : Int)) = false := decide_eq_false (by omega)
        go_wp2_with (go_at_call 12; go_loud (refine (hwi B b oi _ _ (Is.low hkid2 ((below_alloc _ _).mono (Nat.le_trans hB hBr.size))) (Bd.later hOr (below_alloc _ _)) (Nat.lt_of_lt_of_le hbr (below_alloc _ _).size) (Nat.le_trans (Nat.le_trans hB hBr.size) (below_alloc _ _).size) hlen3).mono ?_; rintro e w2 ⟨rfl, hO2, b2, k2⟩))
        go_roundw
        case rel => exact ⟨i + 1, by go_num, by omega, by rw [← HN.out]; exact hO2, (hBr.trans ((below_alloc _ _).mono (Nat.le_trans hB hBr.size))).trans b2, (hKr.trans (kp_below b (below_alloc _ _))).trans k2, Nat.lt_of_lt_of_le (Nat.lt_of_lt_of_le hbr (below_alloc _ _).size) b2.size⟩
        case measure => simp [intOf]; omega
    · obtain rfl : i = l.length := by omega
      rw [List.take_length] at hOr
      clear IH hk
      go_wp2_with (fail)
      (first | go_end0 | (((try simp only [Exit.inBlock, Exit.then]); refine bodyPost_ret (results_none rfl _ _ _) rfl ?_)))
      exact ⟨rfl, hOr, hBr, hKr⟩
theorem sanes_nth (l : List Tr) (h : sanes l) (i : Nat) (hi : i < l.length) : (nthT l i).sane := by
  induction l generalizing i with
  | nil => simp at hi
  | cons x l ih =>
    cases i with
    | zero => exact h.1
    | succ i => exact ih h.2 i (by simpa using hi)
theorem sane_nth (t : Tr) (h : t.sane) (i : Nat) (hi : i < t.kids.length) : (nthT t.kids i).sane := by
  cases t with
  | node k q mn mx l => exact sanes_nth l h.2.2.2.2 i hi
theorem sane_fits (t : Tr) (h : t.sane) : Fits t.set := by
  cases t with
  | node k q mn mx l => exact h.1
set_option maxHeartbeats 4000000 in
set_option maxRecDepth 100000 in
theorem write_rep (q : Q4) (mn mx : Int) (l : List Tr) (hT : timesOk mn mx = true) (h1 : l.length = 1) (ih : ∀ n, WiIs (nthT l 0) n) : WrIs (.node 4 q mn mx l) := by
  intro B b out v w hI hO hb hB hlen
  obtain ⟨o, cap, b', off, vs, rfl, hcap, hk⟩ := hI.form
  simp only [Tr.kids] at hcap hk ⊢
  simp only [Tr.kind, Tr.set, Tr.min, Tr.max]
  have he : txt (.node 4 q mn mx l) = par (!decide ((nthT l 0).kind = 1)) (txt (nthT l 0)) ++ timesT mn mx := by
    rw [txt_eq]
    match l, h1 with
    | [x], _ => rfl
  rw [he] at hlen ⊢
  obtain ⟨rfl, hcm, hbl, hbB, hcells, hkid⟩ := hk 0 (by omega)
  rw [h1]
  have B0 : Below w.heap.size w (w.alloc (.cells #[.int .i64 4, .int .u64 q.a, .int .u64 q.b, .int .u64 q.c, .int .u64 q.d, .int .i64 mn, .int .i64 mx, .slice (some ⟨b', off, none⟩) 1 cap] 28)) := below_alloc _ _
  have hb0 : Box (w.alloc (.cells #[.int .i64 4, .int .u64 q.a, .int .u64 q.b, .int .u64 q.c, .int .u64 q.d, .int .i64 mn, .int .i64 mx, .slice (some ⟨b', off, none⟩) 1 cap] 28)) w.heap.size (.node 4 q mn mx l) (.slice (some ⟨b', off, none⟩) 1 cap) := box_new w (.node 4 q mn mx l) _
  have BD : Below w.heap.size w (w.alloc (.cells #[.int .i64 4, .int .u64 q.a, .int .u64 q.b, .int .u64 q.c, .int .u64 q.d, .int .i64 mn, .int .i64 mx, .slice (some ⟨b', off, none⟩) 1 cap] 28)).drew := Below.drew B0
  have hO0 : Bd B b out (w.alloc (.cells #[.int .i64 4, .int .u64 q.a, .int .u64 q.b, .int .u64 q.c, .int .u64 q.d, .int .i64 mn, .int .i64 mx, .slice (some ⟨b', off, none⟩) 1 cap] 28)).drew := Bd.later hO BD
  have BB := BD.mono hB
  have hK0 := kp_below b BD
  have c := hb0.cells
  obtain ⟨c0, c1, c2, c3, c4, c5, c6, c7⟩ := c
  simp only [Tr.kind, Tr.set, Tr.min, Tr.max] at c0 c1 c2 c3 c4 c5 c6 c7
  have hbb : b < (w.alloc (.cells #[.int .i64 4, .int .u64 q.a, .int .u64 q.b, .int .u64 q.c, .int .u64 q.d, .int .i64 mn, .int .i64 mx, .slice (some ⟨b', off, none⟩) 1 cap] 28)).drew.heap.size := Nat.lt_of_lt_of_le hb BD.size
  have hne : w.heap.size ≠ b := by omega
  have hkid2 := Is.low hkid BB
  have hcells2 : Cells (w.alloc (.cells #[.int .i64 4, .int .u64 q.a, .int .u64 q.b, .int .u64 q.c, .int .u64 q.d, .int .i64 mn, .int .i64 mx, .slice (some ⟨b', off, none⟩) 1 cap] 28)) b' (off + 0 * 8) (nthT l 0) (vs 0) := low_cells hcells hbB (B0.mono hB)
  obtain ⟨o2, n2, cap2, hv2⟩ := hkid.shape
  rw [hv2] at hcells2 hkid2
  obtain ⟨k0, k1, k2, k3, k4, k5, k6, k7⟩ := hcells2
  have hwi := ih (!decide ((nthT l 0).kind = 1))
  have hlen2 : out.length + (par (!decide ((nthT l 0).kind = 1)) (txt (nthT l 0))).length ≤ 4294967296 := by
    have := hlen
    simp only [List.length_append] at this
    omega
  have ht := times_any mn mx hT _ rfl
  have hw := fun W x y => bk_write B b (out ++ par (!decide ((nthT l 0).kind = 1)) (txt (nthT l 0))) (timesT mn mx) (by have := hlen; simp only [List.length_append] at this ⊢; omega) W x y
  have hkk : ((nthT l 0).kind != 1) = !decide ((nthT l 0).kind = 1) := rfl
  rw [← List.append_assoc]
  have hcall := hwi B b out (.slice o2 n2 cap2) (w.alloc (.cells #[.int .i64 4, .int .u64 q.a, .int .u64 q.b, .int .u64 q.c, .int .u64 q.d, .int .i64 mn, .int .i64 mx, .slice (some ⟨b', off, none⟩) 1 cap] 28)).drew hkid2 hO0 hbb (Nat.le_trans hB BD.size) hlen2
  have hbD : Box (w.alloc (.cells #[.int .i64 4, .int .u64 q.a, .int .u64 q.b, .int .u64 q.c, .int .u64 q.d, .int .i64 mn, .int .i64 mx, .slice (some ⟨b', off, none⟩) 1 cap] 28)).drew w.heap.size (.node 4 q mn mx l) (.slice (some ⟨b', off, none⟩) 1 cap) := hb0
  clear hI hb0 hk hcells hkid hv2 ih hwi hlen hlen2 he hO0 B0
  unfold TimesIs at ht
  generalize out ++ par (!decide ((nthT l 0).kind = 1)) (txt (nthT l 0)) = oi at *
  generalize nthT l 0 = x at *
  generalize decide (x.kind = 1) = dk at *
  rw [← hkk] at hcall
  clear hkk
  generalize timesT mn mx = tt at *
  generalize bs tt = ts at *
  simp only [Nat.zero_mul, Nat.add_zero] at k0 k1 k2 k3 k4 k5 k6 k7
  clear hkid2
  go_enter Tryd.func12, Tryd.ntmps12
  go_wp2_with (fail)
  go_region_with (go_at_call 23; (with_reducible refine hcall.mono ?_); rintro e w1 ⟨rfl, hO1, b1, kp1⟩; have hBx := Box.kept hbD kp1 hne; obtain ⟨d0, d1, d2, d3, d4, d5, d6, d7⟩ := hBx.cells; simp only [Tr.min, Tr.max] at d5 d6; have hB1 := BB.trans b1; have hw1 := hw w1 hO1 (Nat.le_trans hB hB1.size))
  all_goals go_wp2_with (first | (go_at_call 25; (with_reducible refine (ht _).mono ?_); rintro e w2 ⟨rfl, hw2⟩; obtain rfl := hw2.symm) | (go_at_call 21; (with_reducible refine hw1.mono ?_); rintro e w3 ⟨rfl, hO3, b3, kp3⟩))
  all_goals (first | go_end0 | (((try simp only [Exit.inBlock, Exit.then]); refine bodyPost_ret (results_none rfl _ _ _) rfl ?_)))
  all_goals exact ⟨rfl, hO3, hB1.trans b3, (hK0.trans kp1).trans kp3⟩
theorem write_any (d : Nat) : ∀ t : Tr, t.depth ≤ d → t.good = true → t.sane → WrIs t := by
  induction d with
  | zero => intro t hd; have := t.depth_eq; omega
  | succ d ih =>
    intro t hd hg hs
    have hDe := t.depth_eq
    have hge := t.good_eq
    rw [hg] at hge
    have hok : okNode t = true := by
      cases hx : okNode t
      · rw [hx] at hge; simp at hge
      · rfl
    have hgs : goods t.kids = true := by rw [hok] at hge; simpa using hge.symm
    have kid : ∀ i, i < t.kids.length → WrIs (nthT t.kids i) := fun i hi => by
      refine ih _ ?_ ?_ ?_
      · have := depth_nth t.kids i hi; omega
      · cases hx : (nthT t.kids i).good
        · have := goods_false t.kids i hi hx
          rw [this] at hgs; simp at hgs
        · rfl
      · exact sane_nth t hs i hi
    have hk := ok_kind hok
    have hfit : Fits t.set := sane_fits t hs
    cases t with
    | node k q mn mx l =>
      simp only [Tr.kind, Tr.kids, Tr.set] at hk kid hfit
      rcases hk with rfl | rfl | rfl | rfl
      · exact write_set q hfit mn mx l
      · exact write_cat q mn mx l fun i hi n => within_of _ (kid i hi) n
      · exact write_alt q mn mx l kid
      · have ht := ok_times hok rfl
        simp only [Tr.min, Tr.max, Tr.kids] at ht
        exact write_rep q mn mx l ht.1 ht.2 fun n => within_of _ (kid 0 (by omega)) n
end Go.Proofs.YtfclidcfhadohaaDoor.rp
