/-
  Contracts over this program: the sets that are reached, as the document gathers them (fretsawref08.Sets).
-/
import Derived.Test.YthknhbmibmndoaaKCd
namespace Go.Proofs.Ythknhbmibmndoaa.bd
open Go.Sort Go.ChangeShapes Go.WideShapes Go.ChangeAt Go.RowKit Go.Maps
open df (Kp Row iv In IntsV Owns)
open nf (Nfa Ed Rt EdAt Eds nfaV IRow hasE Over)
open st (OwnSets)
set_option linter.unusedVariables false
set_option maxRecDepth 10000

def SetsIs (x : Nfa) (n : Nat) : Prop := ∀ o cap w, Eds w o cap x.edges → Calls Try.prog 28 #[nfaV x.n x.s x.e o x.edges.length cap, .int .i64 401] w fun e w' => ∃ (r : Nat) (L : List (List Bool)), e = .returned (.int .i64 (r : Int)) ∧ L.Nodup ∧ (∀ σ ∈ L, RSet x n σ) ∧ (r = 401 ∧ 401 ≤ L.length ∨ r = L.length ∧ ∀ σ, RSet x n σ → σ ∈ L) ∧ Below w.heap.size w w'
theorem sets_empty (w : World) (o : Obj) : OwnSets (w.heap.size + 1) ((w.alloc o).alloc (.cells #[] 60)) (.slice (some ⟨w.heap.size + 1, 0, none⟩) 0 0) [] :=
  ⟨rfl, .inr ⟨w.heap.size + 1, 0, #[], rfl, Nat.le_refl _, heap_alloc2_new w _ _, Nat.zero_le _, Nat.zero_le _, rfl, rfl⟩⟩
theorem yields_load24 {ops : Array Oper} {S : World → Prop} {op : Oper} {a : Act} (hw : Region.wanted op (yielded ops a.tmps) = true) (x : Operand) (ho : op.op = .load 24 x) (g : Nat) (hx : a.eval x = .pointer (some ⟨g, 0, none⟩)) (n s e : Int) (o : Option Addr) (m cap : Nat) (hS : ∀ W, S W → nf.Box W g n s e o m cap) : YieldsIf Try.prog ops S op (nfaV n s e o m cap) a :=
  .inl ⟨hw, fun w h => by
    unfold execOp
    simp only [ho, hx, Instr.loadAt, Instr.sureAddr, Sem.run_bind, Sem.run_pure, Result.andThen_ok, run_loadVar_row w g 24 24 _ (0, 0) _ (hS w h) Try.underlying24 rfl (by kernel_rfl)]⟩
theorem x_conv35 {o : Oper} {a : Act} {w : World} {x : Operand} {b : Nat} (h : o.op = .convert 3 5 x) (hx : a.eval x = .int .i64 (b : Int)) (hb : b < 256) : (execOp a.eval o).run Try.prog w = .ok (.value (.int .u8 (b : Int))) w := by
  have hm : IntKind.u8.wrap (b : Int) = (b : Int) := by rw [IntKind.wrap_u8]; omega
  unfold execOp; rw [h]; simp only [hx]; go_simp
/-- between two edges -/
structure L0 (w : World) (x : Nfa) (o : Option Addr) (cap : Nat) (v : Value) (pl : List st.Q4) (wr : World) : Prop where
  be : Below w.heap.size w wr
  bx : nf.Box wr w.heap.size x.n x.s x.e o x.edges.length cap
  pr : OwnSets (w.heap.size + 1) wr v pl
theorem L0.later {w wr w' : World} {x : Nfa} {o : Option Addr} {cap : Nat} {v : Value} {pl : List st.Q4} (h : L0 w x o cap v pl wr) (c : Below wr.heap.size wr w') : L0 w x o cap v pl w' := ⟨st.chain h.be c, h.bx.later c, ow.later h.pr c⟩
theorem L0.app {w wr w' : World} {x : Nfa} {o : Option Addr} {cap : Nat} {v : Value} {pl : List st.Q4} (h : L0 w x o cap v pl wr) {q : st.Q4} {g' cap' : Nat} (ho : w'.ownsRow (w.heap.size + 1) 60 4 (.slice (some ⟨g', 0, none⟩) (pl.length + 1) cap') (pl.length + 1) (st.cells4 pl ++ [Value.int .u64 q.a, .int .u64 q.b, .int .u64 q.c, .int .u64 q.d])) (hg : wr.grownBy w' v.ownBlock) : L0 w x o cap (.slice (some ⟨g', 0, none⟩) (pl.length + 1) cap') (pl ++ [q]) w' := by
  refine ⟨h.be.grown hg h.be.size (fun k e => by have := (ow.lt h.pr e).1; omega), (hg.block _ h.bx.lt (fun e => by have := (ow.lt h.pr e.symm).1; omega)).trans h.bx, ?_⟩
  unfold OwnSets
  rw [st.cells4_append, List.length_append]
  exact ho
set_option maxHeartbeats 8000000 in
set_option maxRecDepth 100000 in
theorem sets_any (x : Nfa) (n : Nat) (R : Rt x n) (hfit : ∀ e ∈ x.edges, nf.Fits e) : SetsIs x n := by
  intro o cap w hE
  have efit := hE.fit
  have etop := hE.top
  have hm16 := R.m
  have hn2 := R.n2
  have hn1 := R.n1
  have HR := (show Hid (Rt x n) from R)
  have HE := (show Hid (Eds w o cap x.edges) from hE)
  have HFIT := (show Hid (∀ e ∈ x.edges, nf.Fits e) from hfit)
  obtain ⟨w1, HW1⟩ : ∃ w1, Hid (w1 = (w.alloc (.cells #[.int .i64 x.n, .int .i64 x.s, .int .i64 x.e, .slice o x.edges.length cap] 24)).alloc (.cells #[] 60)) := ⟨_, rfl⟩
  have HST := (show Hid (L0 w x o cap (.slice (some ⟨w.heap.size + 1, 0, none⟩) 0 0) [] w1) from by
    show L0 _ _ _ _ _ _ _
    rw [HW1.out]
    exact ⟨((Below.refl _ _).alloc (Nat.le_refl _) _).alloc (by simp) _, (nf.box_new w _ _ _ _ _ _).later (nf.below_alloc _ _), sets_empty w _⟩)
  have hz := st.zero36
  have hcs := st.cells36_size st.noughts rfl
  clear R hfit hE
  go_enter Try.func28, Try.ntmps28
  go_wp2_with (fail)
  rw [← HW1.out]
  clear HW1
  go_loopw [5, 22] (fun v z wr => ∃ i : Nat, z = .int .i64 i ∧ i ≤ x.edges.length ∧ Hid (L0 w x o cap v (parts (x.edges.take i)) wr)) (fun _ z _ => x.edges.length - (intOf z).toNat)
  case atStart => exact ⟨0, rfl, by omega, HST⟩
  case round =>
    obtain ⟨i, rfl, hi, HI⟩ := hrel
    clear HST
    obtain ⟨v, rfl⟩ : ∃ v, v = u5 := ⟨_, rfl⟩
    by_cases hend : i < x.edges.length
    · obtain ⟨eb, eoff, rfl, heb, hed⟩ := (HE.out.later HI.out.be).lie i hend
      obtain ⟨c0, c1, c2, c3, c4, c5, c6⟩ := hed
      have HTK := (show Hid (x.edges.take (i + 1) = x.edges.take i ++ [x.edges[i]]) from List.take_succ_eq_append_getElem hend)
      have HLL := (show Hid ((x.edges.take i).length ≤ 1000000) from by show _ ≤ _; rw [List.length_take]; omega)
      generalize x.edges[i] = y at *
      generalize x.edges.take i = l at *
      clear heb hz hcs
      cases hf : y.free with
      | true =>
        rw [hf] at c2
        have HPF := (show Hid (parts (l ++ [y]) = parts l) from parts_free l y hf)
        clear hf
        go_wp2_with (fail)
        go_roundw
        case rel => exact ⟨i + 1, by go_num, by omega, by rw [HTK.out, HPF.out]; exact HI.out.later (nf.below_alloc _ _)⟩
        case measure => simp [intOf]; omega
      | false =>
        rw [hf] at c2
        have HPO := (show Hid (parts (l ++ [y]) = parts l ++ [nf.setOf y]) from parts_over l y hf)
        have HPL := (show Hid ((parts l).length ≤ 1000000) from Nat.le_trans (parts_len l) HLL.out)
        clear hf
        generalize parts l = pl at *
        have HL9 := (show Hid (L0 w x (some ⟨eb, eoff, none⟩) cap v pl ((wr.alloc (.cells #[.int .i64 y.fr, .int .i64 y.to, .bool false, .int .u64 y.a, .int .u64 y.b, .int .u64 y.c, .int .u64 y.d] 62)).alloc (.cells #[.int .u64 y.a, .int .u64 y.b, .int .u64 y.c, .int .u64 y.d] 60))) from (HI.out.later (nf.below_alloc _ _)).later (nf.below_alloc _ _))
        have HNW := (show Hid (∀ j u, [Value.int .u64 (y.a : Int), .int .u64 (y.b : Int), .int .u64 (y.c : Int), .int .u64 (y.d : Int)][j]? = some u → ((wr.alloc (.cells #[.int .i64 y.fr, .int .i64 y.to, .bool false, .int .u64 y.a, .int .u64 y.b, .int .u64 y.c, .int .u64 y.d] 62)).alloc (.cells #[.int .u64 y.a, .int .u64 y.b, .int .u64 y.c, .int .u64 y.d] 60)).cell? ((⟨wr.heap.size + 1, 0, none⟩ : Addr).add j) = some u) from by
          have := st.four_cells (wr.alloc (.cells #[.int .i64 y.fr, .int .i64 y.to, .bool false, .int .u64 y.a, .int .u64 y.b, .int .u64 y.c, .int .u64 y.d] 62)) (nf.setOf y)
          rw [World.size_alloc] at this
          exact this)
        go_wp2_with (at_builtin; refine ow.wpList_append (by rfl) (.tmp 29) (.tmp 32) 79 (by rfl) 60 _ 4 32 Try.underlying79 info60 (by rfl) (by decide) (by decide) (w.heap.size + 1) v pl.length (st.cells4 pl) (wr.heap.size + 1) [.int .u64 y.a, .int .u64 y.b, .int .u64 y.c, .int .u64 y.d] (by rfl) (by rfl) (by exact HL9.out.pr) (by rfl) (by exact HNW.out) (by exact st.four_one (nf.setOf y)) (by exact HPL.out) (by have := HL9.out.bx.lt; omega) ?_; intro g' cap' w12 ho hg hnw; have HN2 := (show Hid _ from HL9.out.app (q := nf.setOf y) ho hg); clear ho hg hnw)
        go_roundw
        case rel => exact ⟨i + 1, by go_num, by omega, by rw [HTK.out, HPO.out]; exact HN2⟩
        case measure => simp [intOf]; omega
    · have HI2 := (show Hid (L0 w x o cap v (parts x.edges) wr) from by have := HI.out; rw [List.take_of_length_le (by omega)] at this; exact this)
      have h44 : Calls Try.prog 44 #[v] wr fun e w' => e = .returned (.tuple #[.agg (st.cells36 (xsOf x)), .int .i64 ((lsOf x).length : Nat)]) ∧ Below wr.heap.size wr w' := st.rclasses_any (parts x.edges) (parts_fit HFIT.out) v wr HI2.out.pr.sets
      have HXL := (show Hid ((xsOf x).length = 256) from xs_len x)
      obtain ⟨cls, HC1, HC2, HC3, HC4⟩ : ∃ cls : Nat → Nat, Hid (∀ b, b < 256 → (xsOf x).getD b 0 = cls b) ∧ Hid (∀ y, y < 256 → cls y < (lsOf x).length) ∧ Hid (∀ b y, b < 256 → y < 256 → cls b = cls y → ∀ e ∈ x.edges, e.free = false → hasE e b = hasE e y) ∧ Hid (∀ c, c < (lsOf x).length → ∃ r, r < 256 ∧ cls r = c) := by
        refine ⟨st.clsBy (st.like (parts x.edges)), fun b hb => ?_, fun y hy => ?_, cls_like x, fun c hc => ?_⟩
        · rw [List.getD_eq_getElem?_getD, xs_at x b hb]; rfl
        · obtain ⟨z, h1, _⟩ := ls_same x y hy
          exact (List.getElem?_eq_some_iff.1 h1).1
        · exact ⟨(lsOf x)[c], ls_byte x _ (List.getElem_mem hc), ls_own x c _ (List.getElem?_eq_getElem hc)⟩
      have HMN := (show Hid ((lsOf x).length ≤ 256) from ls_most x)
      have HCB := (show Hid (∀ y, y < 256 → cls y < 256) from fun y hy => by have := HC2.out y hy; have := HMN.out; omega)
      generalize xsOf x = xs at *
      generalize (lsOf x).length = many at *
      have hmany := HMN.out
      have H14 := (show Hid (∀ w6, Below wr.heap.size wr w6 → Calls Try.prog 14 #[nfaV x.n x.s x.e o x.edges.length cap, .slice (some ⟨w6.heap.size, 0, none⟩) 1 1] (w6.alloc (.cells #[.int .i64 x.s] 3)) fun e w' => ∃ g σ, e = .returned (.slice (some ⟨g, 0, none⟩) n n) ∧ IRow w' g (mrk σ) ∧ IsSet n (Begin x) σ ∧ Below (w6.alloc (.cells #[.int .i64 x.s] 3)).heap.size (w6.alloc (.cells #[.int .i64 x.s] 3)) w') from fun w6 c6 => by
        have hb := st.chain HI2.out.be (st.chain c6 (nf.below_alloc w6 (.cells #[.int .i64 x.s] 3)))
        refine (nf.marks_any x n HR.out [x.s] o cap (some ⟨w6.heap.size, 0, none⟩) 1 _ (HE.out.later hb) ⟨Nat.le_refl _, by omega, fun i hi => ?_⟩).mono ?_
        · have e : i = 0 := by simp at hi; exact hi
          subst e
          exact ⟨w6.heap.size, 0, rfl, by show _ < _; simp, by rw [Lib.cell_of_heap (World.alloc_heap_new w6 _)]; rfl⟩
        · rintro e w' ⟨g, M, rfl, ir, hm, _, b'⟩
          obtain ⟨σ, rfl, hσ⟩ := begin_marks HR.out hm
          exact ⟨g, σ, rfl, ir, hσ, b'⟩)
      have HPUT := (show Hid (∀ w5, Below wr.heap.size wr w5 → ∀ w6, w6 = (w5.alloc (.cells (st.cells36 st.noughts) 33)).setRow w5.heap.size (st.cells36 xs) → Below wr.heap.size wr w6 ∧ st.Arr w6 w5.heap.size xs ∧ nf.Box w6 w.heap.size x.n x.s x.e o x.edges.length cap ∧ w.heap.size + 1 ≤ w6.heap.size) from by
        rintro w5 c5 w6 rfl
        have b6 : Below wr.heap.size wr ((w5.alloc (.cells (st.cells36 st.noughts) 33)).setRow w5.heap.size (st.cells36 xs)) := below_setRow (st.chain c5 (nf.below_alloc _ _)) c5.size _
        have bx := HI2.out.bx.later b6
        exact ⟨b6, ⟨setRow_heap _ _ _ _ _ _ (heap_alloc_new w5 _), HXL.out⟩, bx, bx.lt⟩)
      have HMM := (show Hid (∀ w5 w6 w8 g σ, Below wr.heap.size wr w6 → st.Arr w6 w5 xs → nf.Box w6 w.heap.size x.n x.s x.e o x.edges.length cap → w.heap.size + 1 ≤ w6.heap.size → Below (w6.alloc (.cells #[.int .i64 x.s] 3)).heap.size (w6.alloc (.cells #[.int .i64 x.s] 3)) w8 → IRow w8 g (mrk σ) → Mm w x n o cap w5 xs (.slice (some ⟨w8.heap.size, 0, none⟩) 1 1) [σ] [g] (w8.alloc (.cells #[.slice (some ⟨g, 0, none⟩) n n] 25))) from by
        intro w5 w6 w8 g σ c6 ar bx hsz c8 ir
        have c68 := st.chain (nf.below_alloc w6 (.cells #[.int .i64 x.s] 3)) c8
        have c9 := st.chain c68 (nf.below_alloc w8 (.cells #[sl n g] 25))
        refine ⟨st.chain HI2.out.be (st.chain c6 c9), bx.later c9, ar.later c9 ar.lt, own_one w8 _ 25 _ (by have := c68.size; omega), rfl, fun i τ k h1 h2 => ?_⟩
        have e : i = 0 := by have := (List.getElem?_eq_some_iff.1 h1).1; simp at this; exact this
        subst e
        simp at h1 h2
        subst h1 h2
        exact ir.later (nf.below_alloc _ _))
      clear HI hi HI2
      go_wp2_with (first | (go_at_call 44; refine h44.mono ?_; rintro ev w5 ⟨rfl, b5⟩; obtain ⟨w6, hw6⟩ : ∃ w6, w6 = (w5.alloc (.cells (st.cells36 st.noughts) 33)).setRow w5.heap.size (st.cells36 xs) := ⟨_, rfl⟩; obtain ⟨p1, p2, p3, p4⟩ := HPUT.out w5 b5 w6 hw6; have HP1 := (show Hid _ from p1); have HP2 := (show Hid (st.Arr w6 w5.heap.size xs) from p2); have HP3 := (show Hid (nf.Box w6 w.heap.size x.n x.s x.e o x.edges.length cap) from p3); have HP4 := (show Hid _ from p4); have q0 := p3.c0; have q1 := p3.c1; have q2 := p3.c2; have q3 := p3.c3; have h14 := H14.out w6 p1; have HW6 := (show Hid _ from hw6); clear p1 p2 p3 p4 hw6 b5) | (refine wpList_store_row (by rfl) 33 (.tmp 8) (.tmp 38) (by rfl) w5.heap.size (st.cells36 xs) (by rfl) (by rfl) 33 (st.cells36 st.noughts) (heap_alloc_new w5 _) (st.info36 xs HXL.out) (by rw [hcs, st.cells36_size xs HXL.out]) (st.cells36_one xs) ?_; rw [← HW6.out]) | (go_at_call 14; refine h14.mono ?_; rintro ev w8 ⟨g, σ, rfl, ir, hσ, b8⟩; have HM0 := (show Hid _ from HMM.out _ w6 w8 g σ HP1.out HP2.out HP3.out HP4.out b8 ir); have HS0 := (show Hid _ from sn_start (many := many) (cls := cls) hσ); clear ir hσ b8))
      clear hend HMM HPUT H14 h44 h14 q0 q1 q2 q3 HW6 hz hcs HP1 HP2 HP3 HP4
      obtain ⟨cb, HCB2⟩ : ∃ cb, Hid (cb = w5.heap.size) := ⟨_, rfl⟩
      rw [← HCB2.out] at HM0 ⊢
      clear HCB2
      go_loopw [10, 11] (fun v z wr => ∃ (a : Nat) (L : List (List Bool)) (gs : List Nat), z = .int .i64 a ∧ a ≤ L.length ∧ L.length ≤ 401 ∧ Hid (Mm w x n o cap cb xs v L gs wr) ∧ Hid (Sn x n many cls L a 0)) (fun _ z _ => 402 - (intOf z).toNat)
      case atStart => exact ⟨0, _, _, rfl, by simp, by simp, HM0, HS0⟩
      case round =>
        obtain ⟨a, L, gs, rfl, ha, hL4, HM, HS⟩ := hrel
        clear HM0 HS0
        obtain ⟨v2, rfl⟩ : ∃ v2, v2 = u10 := ⟨_, rfl⟩
        obtain ⟨vo, vcap, rfl, vf, vt⟩ := ow.form HM.out.rw
        by_cases hend2 : a < L.length
        · have HAL := (show Hid (a < L.length) from hend2)
          go_wp2_with (fail)
          obtain ⟨w20, rfl⟩ : ∃ w20 : World, w20 = wr := ⟨_, rfl⟩
          go_loopw [10, 12] (fun v z wr => ∃ (c : Nat) (L : List (List Bool)) (gs : List Nat), z = .int .i64 c ∧ c ≤ many ∧ L.length ≤ 401 ∧ Hid (a < L.length) ∧ Hid (Mm w x n o cap cb xs v L gs wr) ∧ Hid (Sn x n many cls L a c)) (fun _ z _ => many - (intOf z).toNat)
          case atStart => exact ⟨0, L, gs, rfl, by omega, hL4, HAL, HM, HS⟩
          case round =>
            clear HM HS HAL hend2 ha hL4 vf vt
            obtain ⟨c, L2, gs2, rfl, hc, hL4, HAL, HM, HS⟩ := hrel
            obtain ⟨v3, rfl⟩ : ∃ v3, v3 = u10 := ⟨_, rfl⟩
            by_cases hend3 : c < many
            · obtain ⟨rep, hr1, hr2⟩ := HC4.out c hend3
              go_wp2_with (fail)
              obtain ⟨w30, rfl⟩ : ∃ w30 : World, w30 = wr := ⟨_, rfl⟩
              go_loopw [13] (fun z wr => ∃ b : Nat, z = .int .i64 b ∧ b ≤ rep ∧ Hid (Mm w x n o cap cb xs v3 L2 gs2 wr)) (fun z _ => rep - (intOf z).toNat)
              case atStart => exact ⟨0, rfl, by omega, HM⟩
              case round =>
                clear HM
                obtain ⟨b, rfl, hb, HM⟩ := hrel
                have hb256 : b < 256 := by omega
                have hbc := HM.out.ar.cell b hb256
                rw [HC1.out b hb256] at hbc
                have hcb := HCB.out b hb256
                by_cases hbe : cls b = c
                · skip
                  subst hbe
                  obtain ⟨vb, vcap3, g3, rfl, e2, ir3, hg3⟩ := HM.out.at' a HAL.out
                  have HCL := (show Hid (∀ W, Mm w x n o cap cb xs (.slice (some ⟨vb, 0, none⟩) L2.length vcap3) L2 gs2 W → W.cell? ⟨vb, a, none⟩ = some (.slice (some ⟨g3, 0, none⟩) n n) ∧ IRow W g3 (mrk (L2[a]'HAL.out))) from fun W h => by
                    obtain ⟨vb', vc', g', q1, q2, q3, q4⟩ := h.at' a HAL.out
                    simp only [Value.slice.injEq, Option.some.injEq, Addr.mk.injEq, true_and] at q1
                    rw [hg3] at q4
                    cases q4
                    rw [q1.1.1]
                    exact ⟨q2, q3⟩)
                  have HSA := (show Hid (L2[a]? = some (L2[a]'HAL.out)) from List.getElem?_eq_getElem HAL.out)
                  have HSL := (show Hid ((L2[a]'HAL.out).length = n) from HS.out.ln _ (List.getElem_mem HAL.out))
                  have H45 := (show Hid (∀ W, Mm w x n o cap cb xs (.slice (some ⟨vb, 0, none⟩) L2.length vcap3) L2 gs2 W → Calls Try.prog 45 #[nfaV x.n x.s x.e o x.edges.length cap, .slice (some ⟨g3, 0, none⟩) n n, .int .u8 (b : Int)] W fun e w' => ∃ g' τ, e = .returned (.slice (some ⟨g', 0, none⟩) n n) ∧ IRow w' g' (mrk τ) ∧ IsSet n (To x b (L2[a]'HAL.out)) τ ∧ Below W.heap.size W w') from fun W h => (over_any x n HR.out HFIT.out _ HSL.out b hb256 o cap g3 W (HE.out.later h.be) (HCL.out W h).2).mono fun e w' ⟨g', τ, h1, h2, h3, h4, h5⟩ => ⟨g', τ, h1, h2, h3, h5⟩)
                  clear e2 ir3 hg3 HSL hr2
                  generalize hσ3 : L2[a]'HAL.out = σ3 at *
                  clear hσ3
                  have halt := HAL.out
                  go_wp2_with (fail)
                  refine wp_region_held (S := fun W => Mm w x n o cap cb xs (.slice (some ⟨vb, 0, none⟩) L2.length vcap3) L2 gs2 W) (by kernel_rfl) ?_
                  refine df.take_op (i := 0) 65 rfl rfl (yields_load24 rfl (.tmp 2) rfl w.heap.size rfl x.n x.s x.e o x.edges.length cap (fun W h => h.bx)) (by kernel_rfl) (by kernel_rfl) (by kernel_rfl) (fun _ _ _ h => h) HM.out.drew ?_
                  simp only [Act.put, List.setIfInBounds_toArray, List.set_cons_zero, List.set_cons_succ]
                  refine df.take_op (i := 1) 66 rfl rfl (df.yields_move rfl (.tmp 10) rfl) (by kernel_rfl) (by kernel_rfl) (by kernel_rfl) (fun _ _ _ h => h) HM.out.drew ?_
                  simp only [Act.put, List.setIfInBounds_toArray, List.set_cons_zero, List.set_cons_succ]
                  refine df.take_op (i := 2) 67 rfl rfl (df.yields_move rfl (.tmp 11) rfl) (by kernel_rfl) (by kernel_rfl) (by kernel_rfl) (fun _ _ _ h => h) HM.out.drew ?_
                  simp only [Act.put, List.setIfInBounds_toArray, List.set_cons_zero, List.set_cons_succ]
                  refine df.take_op (i := 3) 68 rfl rfl (.inl ⟨rfl, fun W h => x_index34 (b := vb) (n := L2.length) (cap := vcap3) (i := a) rfl rfl rfl halt⟩) (by kernel_rfl) (by kernel_rfl) (by kernel_rfl) (fun _ _ _ h => h) HM.out.drew ?_
                  simp only [Act.put, List.setIfInBounds_toArray, List.set_cons_zero, List.set_cons_succ]
                  refine df.take_op (i := 4) 69 rfl rfl (.inl ⟨rfl, fun W h => x_load25 (p := ⟨vb, a, none⟩) rfl rfl (HCL.out W h).1⟩) (by kernel_rfl) (by kernel_rfl) (by kernel_rfl) (fun _ _ _ h => h) HM.out.drew ?_
                  simp only [Act.put, List.setIfInBounds_toArray, List.set_cons_zero, List.set_cons_succ]
                  refine df.take_op (i := 5) 70 rfl rfl (df.yields_move rfl (.tmp 13) rfl) (by kernel_rfl) (by kernel_rfl) (by kernel_rfl) (fun _ _ _ h => h) HM.out.drew ?_
                  simp only [Act.put, List.setIfInBounds_toArray, List.set_cons_zero, List.set_cons_succ]
                  refine df.take_op (i := 6) 71 rfl rfl (.inl ⟨rfl, fun W h => x_conv35 (b := b) rfl rfl hb256⟩) (by kernel_rfl) (by kernel_rfl) (by kernel_rfl) (fun _ _ _ h => h) HM.out.drew ?_
                  simp only [Act.put, List.setIfInBounds_toArray, List.set_cons_zero, List.set_cons_succ]
                  refine df.call_op 7 72 (f := 45) (args := #[nfaV x.n x.s x.e o x.edges.length cap, .slice (some ⟨g3, 0, none⟩) n n, .int .u8 (b : Int)]) (by kernel_rfl) rfl rfl rfl (by kernel_rfl) ((H45.out _ HM.out.drew).mono ?_)
                  rintro e w10 ⟨g4, τ, rfl, ir4, hτ, b10⟩
                  have HM4 := (show Hid _ from HM.out.drew.later b10)
                  have HI4 := (show Hid (IRow w10 g4 (mrk τ)) from ir4)
                  have HT4 := (show Hid (IsSet n (To x b σ3) τ) from hτ)
                  refine ⟨_, rfl, HM4.out, ?_⟩
                  simp only [Act.put, List.setIfInBounds_toArray, List.set_cons_zero, List.set_cons_succ]
                  refine df.take_op (i := 8) 14 rfl rfl (df.yields_assign rfl (.tmp 72) rfl) (by kernel_rfl) (by kernel_rfl) (by kernel_rfl) (fun _ _ _ h => h) HM4.out ?_
                  simp only [Act.put, List.setIfInBounds_toArray, List.set_cons_zero, List.set_cons_succ]
                  refine df.done_op (by kernel_rfl) ?_
                  clear ir4 hτ b10 HM HCL H45 hbc
                  have h46 := empty_any n (by omega) τ HT4.out.len g4 w10 HI4.out
                  by_cases hoff : τ = off n
                  · rw [decide_eq_true hoff] at h46
                    have HS4 := (show Hid (Sn x n many cls L2 a (cls b + 1)) from HS.out.old HSA.out hb256 rfl HT4.out (.inl hoff))
                    clear hoff HS
                    go_wp2_with (go_at_call 46; refine h46.mono ?_; rintro ev w11 ⟨rfl, b11⟩; have HM5 := (show Hid _ from HM4.out.later b11); clear b11)
                    go_roundw
                    case rel => exact ⟨cls b + 1, L2, gs2, by go_num, by omega, hL4, HAL, HM5, HS4⟩
                    case measure => simp [intOf]; omega
                  · rw [decide_eq_false hoff] at h46
                    have HOFF := (show Hid (τ ≠ off n) from hoff)
                    clear hoff
                    go_wp2_with (go_at_call 46; refine h46.mono ?_; rintro ev w11 ⟨rfl, b11⟩; have HM5 := (show Hid _ from HM4.out.later b11); have HI5 := (show Hid (IRow w11 g4 (mrk τ)) from HI4.out.later b11); clear b11)
                    obtain ⟨w40, rfl⟩ : ∃ w40 : World, w40 = w11 := ⟨_, rfl⟩
                    go_loopw [15, 77] (fun q z wr => ∃ j : Nat, z = .int .i64 j ∧ j ≤ L2.length ∧ q = .bool (decide (τ ∈ L2.take j)) ∧ Hid (Mm w x n o cap cb xs (.slice (some ⟨vb, 0, none⟩) L2.length vcap3) L2 gs2 wr) ∧ Hid (IRow wr g4 (mrk τ))) (fun _ z _ => L2.length - (intOf z).toNat)
                    case atStart => exact ⟨0, rfl, by omega, by simp, HM5, HI5⟩
                    case round =>
                      clear HM4 HI4 HM5 HI5 h46
                      obtain ⟨j, rfl, hj, rfl, HM6, HI6⟩ := hrel
                      by_cases hend5 : j < L2.length
                      · obtain ⟨vb', vc', g5, q1, q2, q3, q4⟩ := HM6.out.at' j hend5
                        simp only [Value.slice.injEq, Option.some.injEq, Addr.mk.injEq, true_and] at q1
                        obtain ⟨⟨rfl, _⟩, rfl⟩ := q1
                        have HTK := (show Hid (L2.take (j + 1) = L2.take j ++ [L2[j]]) from List.take_succ_eq_append_getElem hend5)
                        have hlj : (L2[j]).length = n := HS.out.ln _ (List.getElem_mem hend5)
                        have q2' : wr.cell? ⟨vb, j, none⟩ = some (.slice (some ⟨g5, 0, none⟩) n n) := q2
                        cases hin : decide (τ ∈ L2.take j) with
                        | true =>
                          have HIN := (show Hid (decide (τ ∈ L2.take (j + 1)) = true) from decide_eq_true (by rw [HTK.out]; exact List.mem_append_left _ (of_decide_eq_true hin)))
                          clear hin q2 q3 q4 hlj
                          go_wp2_with (fail)
                          go_roundw
                          case rel => exact ⟨j + 1, by go_num, by omega, by rw [HIN.out], HM6, HI6⟩
                          case measure => simp [intOf]; omega
                        | false =>
                          have HIN := (show Hid (decide (τ ∈ L2.take (j + 1)) = decide (mrk τ = mrk L2[j])) from by
                            show _ = _
                            rw [decide_eq_decide, HTK.out]
                            constructor
                            · intro h
                              rcases List.mem_append.1 h with h | h
                              · exact absurd h (of_decide_eq_false hin)
                              · rw [List.mem_singleton.1 h]
                            · intro h
                              exact List.mem_append_right _ (List.mem_singleton.2 (mrk_inj h)))
                          have h15 := df.ints_any (mrk τ) (mrk L2[j]) _ rfl
                          unfold df.IntsIs at h15
                          have hv1 : IntsV wr (.slice (some ⟨g4, 0, none⟩) n n) (mrk τ) := ⟨_, n, by rw [mrk_len, HT4.out.len], by rw [mrk_len, HT4.out.len]; exact Nat.le_refl _, by omega, fun i hi => ⟨g4, 0, rfl, HI6.out.lt, by rw [Nat.zero_add]; exact HI6.out.cell i hi⟩⟩
                          have hv2 : IntsV wr (.slice (some ⟨g5, 0, none⟩) n n) (mrk L2[j]) := ⟨_, n, by rw [mrk_len, hlj], by rw [mrk_len, hlj]; exact Nat.le_refl _, by omega, fun i hi => ⟨g5, 0, rfl, q3.lt, by rw [Nat.zero_add]; exact q3.cell i hi⟩⟩
                          have h15' := h15 _ _ wr hv1 hv2
                          clear hin q2 q3 q4 hlj h15 hv1 hv2
                          generalize decide (mrk τ = mrk L2[j]) = rr at *
                          go_wp2_with (go_at_call 15; refine h15'.mono ?_; rintro ev w13 ⟨rfl, b13⟩; have HM7 := (show Hid _ from HM6.out.later b13); have HI7 := (show Hid (IRow w13 g4 (mrk τ)) from HI6.out.later b13); clear b13)
                          go_roundw
                          case rel => exact ⟨j + 1, by go_num, by omega, by rw [HIN.out], HM7, HI7⟩
                          case measure => simp [intOf]; omega
                      · have hje : j = L2.length := by omega
                        rw [hje, List.take_length]
                        clear hje hj hend5
                        by_cases hmem : τ ∈ L2
                        · rw [decide_eq_true hmem]
                          have HS4 := (show Hid (Sn x n many cls L2 a (cls b + 1)) from HS.out.old HSA.out hb256 rfl HT4.out (.inr hmem))
                          clear hmem HS
                          go_wp2_with (fail)
                          go_roundw
                          case rel => exact ⟨cls b + 1, L2, gs2, by go_num, by omega, hL4, HAL, HM6, HS4⟩
                          case measure => simp [intOf]; omega
                        · rw [decide_eq_false hmem]
                          have HS4 := (show Hid (Sn x n many cls (L2 ++ [τ]) a (cls b + 1)) from HS.out.new HSA.out hb256 rfl HT4.out HOFF.out hmem)
                          have HLN := (show Hid (L2.Nodup ∧ ∀ σ ∈ L2, RSet x n σ) from ⟨HS.out.nd, HS.out.rs⟩)
                          clear hmem HS
                          by_cases h401 : 401 ≤ L2.length
                          · go_wp2_with (fail)
                            go_ret
                            exact ⟨401, L2, rfl, HLN.out.1, HLN.out.2, .inl ⟨rfl, h401⟩, HM6.out.be⟩
                          · have HAP := (show Hid (∀ (g' cap' : Nat) (w14 : World), w14.ownsRow (w.heap.size + 1) 25 1 (.slice (some ⟨g', 0, none⟩) (L2.length + 1) cap') (L2.length + 1) (gs2.map (sl n) ++ [.slice (some ⟨g4, 0, none⟩) n n]) → (wr.alloc (.cells #[.slice (some ⟨g4, 0, none⟩) n n] 25)).grownBy w14 (Value.slice (some ⟨vb, 0, none⟩) L2.length vcap3).ownBlock → Mm w x n o cap cb xs (.slice (some ⟨g', 0, none⟩) (L2.length + 1) cap') (L2 ++ [τ]) (gs2 ++ [g4]) w14) from fun g' cap' w14 ho hg => (HM6.out.later (nf.below_alloc _ _)).app (HI6.out.later (nf.below_alloc _ _)) ho hg)
                            have HOW := (show Hid ((wr.alloc (.cells #[.slice (some ⟨g4, 0, none⟩) n n] 25)).ownsRow (w.heap.size + 1) 25 1 (.slice (some ⟨vb, 0, none⟩) L2.length vcap3) L2.length (gs2.map (sl n)) ∧ w.heap.size + 1 ≤ (wr.alloc (.cells #[.slice (some ⟨g4, 0, none⟩) n n] 25)).heap.size) from ⟨ow.later HM6.out.rw (nf.below_alloc _ _), by have := HM6.out.bx.lt; simp; omega⟩)
                            have HAL2 := (show Hid (a < (L2 ++ [τ]).length) from by show _ < _; rw [List.length_append]; omega)
                            have HL2 := (show Hid ((L2 ++ [τ]).length ≤ 401) from by show _ ≤ _; rw [List.length_append]; simp; omega)
                            generalize gs2.map (sl n) = rws at *
                            go_wp2_with (at_builtin; refine ow.wpList_append (by rfl) (.tmp 95) (.tmp 97) 34 (by rfl) 25 (.slice none 0 0) 1 24 Try.underlying34 info25 (by rfl) (by decide) (by decide) (w.heap.size + 1) (.slice (some ⟨vb, 0, none⟩) L2.length vcap3) L2.length rws wr.heap.size [.slice (some ⟨g4, 0, none⟩) n n] (by rfl) (by rfl) (by exact HOW.out.1) (by rfl) (by exact ow.new1 wr _ 25) (by exact ow.one1 _ rfl) (by omega) (by exact HOW.out.2) ?_; intro g' cap' w14 ho hg hw; have HM8 := (show Hid _ from HAP.out g' cap' w14 ho hg); clear ho hg hw)
                            go_roundw
                            case rel => exact ⟨cls b + 1, L2 ++ [τ], gs2 ++ [g4], by go_num, by omega, HL2.out, HAL2, HM8, HS4⟩
                            case measure => simp [intOf]; omega
                · have hne : ((cls b : Int) == (c : Int)) = false := by rw [beq_eq_false_iff_ne]; omega
                  have hbr : b < rep := by
                    rcases Nat.lt_or_ge b rep with h | h
                    · exact h
                    · exact absurd (by rw [show b = rep by omega]; exact hr2) hbe
                  have hne2 : ((cls b : Int) != (c : Int)) = true := by rw [bne, hne]; rfl
                  generalize cls b = k at *
                  go_wp2_with (fail)
                  go_roundw
                  case rel => exact ⟨b + 1, by go_num, by omega, HM⟩
                  case measure => simp [intOf]; omega
            · have HS2 := (show Hid (Sn x n many cls L2 (a + 1) 0) from by have := HS.out; rw [show c = many by omega] at this; exact this.row)
              have hae : a < 401 := by have := HAL.out; omega
              have HAL2 := (show Hid (a + 1 ≤ L2.length) from HAL.out)
              clear HS
              go_wp2_with (fail)
              go_roundw
              case rel => exact ⟨a + 1, L2, gs2, by go_num, HAL2.out, hL4, HM, HS2⟩
              case measure => simp [intOf]; omega
        · have hae : a = L.length := by omega
          have HALL := (show Hid (∀ σ, RSet x n σ → σ ∈ L) from fun σ r => by have := HS.out; rw [hae] at this; exact this.all HC2.out HC3.out r)
          have HLN := (show Hid (L.Nodup ∧ ∀ σ ∈ L, RSet x n σ) from ⟨HS.out.nd, HS.out.rs⟩)
          clear hae HS
          go_wp2_with (fail)
          go_ret
          exact ⟨L.length, L, rfl, HLN.out.1, HLN.out.2, .inr ⟨rfl, HALL.out⟩, HM.out.be⟩
end Go.Proofs.Ythknhbmibmndoaa.bd
