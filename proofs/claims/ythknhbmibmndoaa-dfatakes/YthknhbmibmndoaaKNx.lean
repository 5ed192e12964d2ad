/-
  Contracts over this program: the document's Runs (fretsawref07).
-/
import Derived.Test.YthknhbmibmndoaaKNw
namespace Go.Proofs.Ythknhbmibmndoaa.nf
open Go.RowKit Go.Shelf
set_option linter.unusedVariables false
open df (Kp Owns Row iv In IntsV)

structure RH (x : Nfa) (n : Nat) (s : ByteArray) (at' B : Nat) (w1 W : World) (g t : Nat) (M : List Int) (v : Value) (es : List Int) (k : Nat) : Prop where
  ir : IRow W g M
  st : Set1 n (Reach x (Base x (dOf s) at' k)) M
  so : SoFar x (dOf s) at' k es
  row : Owns W B v es
  ne : some g ≠ v.ownBlock
  be : Below B w1 W
  tk : t = at' + k
theorem one_row (W : World) (y : Int) : Row (In (W.alloc (.cells #[.int .i64 y] 3))) (W.alloc (.cells #[.int .i64 y] 3)) iv (some ⟨W.heap.size, 0, none⟩) 1 [y] :=
  ⟨Nat.le_refl _, by omega, fun i hi => by
    have h0 : i = 0 := by simp at hi; omega
    subst h0
    exact ⟨W.heap.size, 0, rfl, by show _ < _; simp, tmp_cell W _ _ rfl⟩⟩
theorem owns_new (W : World) (B : Nat) (h : B ≤ W.heap.size) : Owns (W.alloc (.cells #[] 3)) B (.slice (some ⟨W.heap.size, 0, none⟩) 0 0) [] := by
  refine ⟨rfl, .inr ⟨W.heap.size, 0, #[], rfl, h, ?_, Nat.le_refl _, Nat.zero_le _, rfl, rfl⟩⟩
  exact World.alloc_heap_new W (.cells #[] 3)
theorem owns_later {W W' : World} {B : Nat} {v : Value} {l : List Int} (h : Owns W B v l) (b : Below W.heap.size W W') : Owns W' B v l := by
  refine ⟨h.1, ?_⟩
  rcases h.2 with h | ⟨g, cap, cur, rfl, hb, hg, hr⟩
  · exact .inl h
  · exact .inr ⟨g, cap, cur, rfl, hb, (b.block g (Array.getElem?_eq_some_iff.1 hg).1).trans hg, hr⟩
theorem irow_grown {W W' : World} {g : Nat} {M : List Int} {r : Option Nat} (h : IRow W g M) (hg : W.grownBy W' r) (hn : some g ≠ r) : IRow W' g M := (hg.block g h.lt hn).trans h
theorem far_off {W : World} {B g : Nat} {v : Value} {l : List Int} (h : Owns W B v l) (hg : W.heap.size ≤ g) : some g ≠ v.ownBlock := fun e => by
  have := own_lt h e.symm
  omega
theorem chain' {N : Nat} {w W W' : World} (h : Below N w W) (b : Below W.heap.size W W') (hN : N ≤ W.heap.size := by omega) : Below N w W' := h.trans (b.mono hN)
theorem new_off {W : World} {g k cap : Nat} {M : List Int} (h : IRow W g M) : some g ≠ (Value.slice (some ⟨W.heap.size, 0, none⟩) k cap).ownBlock := fun e => by
  have := h.lt
  have e' : g = W.heap.size := by simpa [Value.ownBlock] using e
  omega
theorem row_off {W : World} {g g' k cap : Nat} {M : List Int} {r : Option Nat} {ob : Obj} (h : IRow W g M) (hn : some g ≠ r) (hp : some g' = r ∨ (W.alloc ob).heap.size ≤ g') : some g ≠ (Value.slice (some ⟨g', 0, none⟩) k cap).ownBlock := fun e => by
  have e' : g = g' := by simpa [Value.ownBlock] using e
  rcases hp with h1 | h1
  · exact hn (by rw [e']; exact h1)
  · have := h.lt
    simp at h1
    omega
set_option maxHeartbeats 8000000 in
set_option maxRecDepth 100000 in
theorem rends_yes (x : Nfa) (n : Nat) (R : Rt x n) (hfit : ∀ e ∈ x.edges, Fits e) (s : ByteArray) (at' : Nat) (hs : s.size ≤ 100000) (hat : at' ≤ s.size) (L : List Int) (hL0 : IsRuns x (dOf s) at' s.size L) : EnIs 17 x s at' L := by
  intro o cap w hE
  have hcap := hE.fit
  have htop := hE.top
  have hx := R.hx
  have hn1 := R.n1
  have hn2 := R.n2
  have hm := R.m
  have B1 := below_alloc w (.cells #[.int .i64 x.n, .int .i64 x.s, .int .i64 x.e, .slice o x.edges.length cap] 24)
  have b0 := box_new w x.n x.s x.e o x.edges.length cap
  obtain ⟨w1, hw1⟩ : ∃ w1, w1 = w.alloc (.cells #[.int .i64 x.n, .int .i64 x.s, .int .i64 x.e, .slice o x.edges.length cap] 24) := ⟨_, rfl⟩
  have s1 : w1.heap.size = w.heap.size + 1 := by rw [hw1]; simp
  have BA : Below w1.heap.size w1 (w1.alloc (.cells #[.int .i64 x.s] 3)) := below_alloc _ _
  rw [← hw1] at B1 b0
  have E1 := hE.later B1
  have h14 := fun l lo lcap W => marks_any x n R l o cap lo lcap W
  have r14 := h14 [x.s] (some ⟨w1.heap.size, 0, none⟩) 1 _ (E1.later BA) (one_row w1 x.s)
  have HE := (show Hid (Eds w o cap x.edges) from hE)
  have HX := (show Hid (x.n = (n : Int)) from hx)
  clear hE hx
  go_enter Try.func17, Try.ntmps17
  go_wp2_with (go_at_call 14; rw [← hw1]; rw [← s1]; refine r14.mono ?_; rintro e w2 ⟨g0, M0, rfl, hI0, hM0, hg0, b2⟩)
  have B2 : Below w1.heap.size w1 w2 := chain BA b2
  have hl2 := B2.size
  obtain ⟨en, hen⟩ : ∃ en : Nat, x.e = (en : Int) := ⟨x.e.toNat, by have := R.e; omega⟩
  have hen2 : en < n := by have := R.e; omega
  have HEN := (show Hid (x.e = (en : Int)) from hen)
  have hh : RH x n s at' w1.heap.size w1 (w2.alloc (.cells #[] 3)) g0 at' M0 (.slice (some ⟨w2.heap.size, 0, none⟩) 0 0) [] 0 := ⟨hI0.alloc _, set1_of hM0 (first_eq R), SoFar.zero _ _ _, owns_new w2 _ hl2, new_off hI0, B2.alloc hl2 _, rfl⟩
  clear hen r14 BA hw1 hI0 hM0
  go_loopw [2, 7, 8] (fun y2 y7 y8 wr => ∃ (g t k : Nat) (M : List Int) (v : Value) (es : List Int), y2 = .int .i64 (t : Int) ∧ y7 = .slice (some ⟨g, 0, none⟩) n n ∧ v = y8 ∧ t ≤ s.size ∧ Hid (RH x n s at' w1.heap.size w1 wr g t M v es k)) (fun y _ _ _ => s.size + 1 - (intOf y).toNat)
  case atStart => exact ⟨g0, at', 0, M0, _, _, rfl, rfl, rfl, hat, hh⟩
  case round =>
    clear hh
    obtain ⟨g, t, k, M, v, es, rfl, rfl, rfl, ht, HQ⟩ := hrel
    obtain ⟨wo, hwo⟩ : ∃ wo, wo = wr := ⟨_, rfl⟩
    subst hwo
    have hml := HQ.out.st.len
    have hb : Box wo w.heap.size x.n x.s x.e o x.edges.length cap := (HQ.out.be.block _ (by omega)).trans b0
    have d2 := hb.c2
    rw [HEN.out] at d2
    have hz := HQ.out.ir.cell en (by omega)
    have hesl : es.length ≤ 1000000 := by have := HQ.out.so.len; have := HQ.out.tk; omega
    have hsz := HQ.out.be.size
    obtain ⟨gv, cv, hgv⟩ := df.own_slice HQ.out.row
    subst hgv
    rcases HQ.out.st.one en (by omega) with ⟨he1, he2⟩ | ⟨he1, he2⟩
    · skip
      rw [he1] at hz
      have HS : Hid (SoFar x (dOf s) at' (k + 1) (es ++ [(t : Int)])) := by have := HQ.out.so.yes (by rw [HEN.out]; exact he2); rwa [← HQ.out.tk] at this
      have hrow := owns_later HQ.out.row (below_alloc wo (.cells #[.int .i64 (t : Int)] 3))
      have BAl := HQ.out.be.alloc hsz (.cells #[.int .i64 (t : Int)] 3)
      by_cases hend : s.size ≤ t
      · have HR : Hid (L = (es ++ [(t : Int)])) := runs_eq hL0 (HS.out.all (by have := HQ.out.tk; omega))
        go_wp2_with ((at_builtin; refine wpList_append_at rfl (.tmp 24) (.tmp 26) rfl w1.heap.size (.slice gv es.length cv) es (t : Int) wo.heap.size rfl rfl hrow (tmp_cell wo _ _ rfl) hesl BAl.size ?_; intro g' cap' w6 hown6 hgr6 hpl6; have B6 : Below w1.heap.size w1 w6 := BAl.grown hgr6 BAl.size (df.own_ge hrow); have I6 := irow_grown (HQ.out.ir.alloc (.cells #[.int .i64 (t : Int)] 3)) hgr6 HQ.out.ne; have N6 : some g ≠ (Value.slice (some ⟨g', 0, none⟩) (es.length + 1) cap').ownBlock := row_off HQ.out.ir HQ.out.ne hpl6))
        go_ret
        exact ⟨_, rfl, by rw [HR.out]; exact df.ints_of_owns hown6, chain B1 B6⟩
      · have htt2 : t < s.size := by omega
        have d3 := (hb.later (below_alloc wo (.cells #[] 3))).c3
        have hby := dOf_eq s t htt2
        go_wp2_with ((at_builtin; refine wpList_append_at rfl (.tmp 24) (.tmp 26) rfl w1.heap.size (.slice gv es.length cv) es (t : Int) wo.heap.size rfl rfl hrow (tmp_cell wo _ _ rfl) hesl BAl.size ?_; intro g' cap' w6 hown6 hgr6 hpl6; have B6 : Below w1.heap.size w1 w6 := BAl.grown hgr6 BAl.size (df.own_ge hrow); have I6 := irow_grown (HQ.out.ir.alloc (.cells #[.int .i64 (t : Int)] 3)) hgr6 HQ.out.ne; have N6 : some g ≠ (Value.slice (some ⟨g', 0, none⟩) (es.length + 1) cap').ownBlock := row_off HQ.out.ir HQ.out.ne hpl6; have hb6 : Box w6 w.heap.size x.n x.s x.e o x.edges.length cap := (B6.block _ (by omega)).trans b0; have d63 := (hb6.later (below_alloc w6 (.cells #[] 3))).c3))
        have hb6 : Box w6 w.heap.size x.n x.s x.e o x.edges.length cap := (B6.block _ (by omega)).trans b0
        have l6 := B6.size
        have n0 := owns_new w6 w6.heap.size (Nat.le_refl _)
        have nb : Below w6.heap.size w6 (w6.alloc (.cells #[] 3)) := below_alloc _ _
        go_loopw [9, 37] (fun y z wr2 => ∃ (i : Nat) (v9 : Value), v9 = y ∧ z = .int .i64 i ∧ i ≤ x.edges.length ∧ Hid (Owns wr2 w6.heap.size v9 (goes s[t].toNat M (x.edges.take i))) ∧ Hid (Below w6.heap.size w6 wr2)) (fun _ z _ => x.edges.length - (intOf z).toNat)
        case atStart => exact ⟨0, _, rfl, rfl, by omega, n0, nb⟩
        case round =>
          clear n0 nb
          obtain ⟨i, v9, rfl, rfl, hi, HO, HB⟩ := hrel
          have hl2 := HB.out.size
          obtain ⟨g9, c9, hg9⟩ := df.own_slice HO.out
          subst hg9
          have hgl := goes_len s[t].toNat M (x.edges.take i)
          rw [List.length_take] at hgl
          by_cases hend2 : i < x.edges.length
          · obtain ⟨b, off, rfl, hb2, hed⟩ := HE.out.lie i hend2
            have hold : ∀ b, b < w6.heap.size → wr.heap[b]? = w6.heap[b]? := fun b hb => HB.out.block b hb
            have hed2 := hed.same ((hold b (by omega)).trans ((B6.block b (by omega)).trans (B1.block b hb2)))
            obtain ⟨c0, c1, c2, c3, c4, c5, c6⟩ := hed2
            have hin : x.edges[i] ∈ x.edges := List.getElem_mem hend2
            have hfr := R.fr _ hin
            have hto := R.to _ hin
            have hfi := hfit _ hin
            have htk : x.edges.take (i + 1) = x.edges.take i ++ [x.edges[i]] := List.take_succ_eq_append_getElem hend2
            have HY := (show Hid (∀ r, (!x.edges[i].free && decide (M[x.edges[i].fr.toNat]? = some 1) && hasE x.edges[i] s[t].toNat) = r → goes s[t].toNat M (x.edges.take (i + 1)) = if r = true then goes s[t].toNat M (x.edges.take i) ++ [x.edges[i].to] else goes s[t].toNat M (x.edges.take i)) from fun r hr => by rw [htk]; cases r with | true => rw [goes_yes _ _ _ _ hr, if_pos rfl] | false => rw [goes_no _ _ _ _ hr, if_neg (by decide)])
            clear htk hed hin
            generalize x.edges[i] = y at *
            obtain ⟨p, hp⟩ : ∃ p : Nat, y.fr = (p : Int) := ⟨y.fr.toNat, by omega⟩
            obtain ⟨q, hq⟩ : ∃ q : Nat, y.to = (q : Int) := ⟨y.to.toNat, by omega⟩
            have hpl : p < M.length := by omega
            have hpM : M[y.fr.toNat]? = some (M[p]'hpl) := by rw [hp, Int.toNat_natCast, List.getElem?_eq_getElem hpl]
            rw [hpM, hq] at HY
            have hpn : p < n := by omega
            rw [hp] at c0
            rw [hq] at c1
            have A0 : IRow wr g M := (hold g I6.lt).trans I6
            have A := A0.alloc (.cells #[.int .i64 (p : Int), .int .i64 (q : Int), .bool y.free, .int .u64 y.a, .int .u64 y.b, .int .u64 y.c, .int .u64 y.d] 62)
            have q1 := A.cell p hpl
            have O2 := owns_later HO.out (below_alloc wr (.cells #[.int .i64 (p : Int), .int .i64 (q : Int), .bool y.free, .int .u64 y.a, .int .u64 y.b, .int .u64 y.c, .int .u64 y.d] 62))
            have BB := chain' HB.out (below_alloc wr (.cells #[.int .i64 (p : Int), .int .i64 (q : Int), .bool y.free, .int .u64 y.a, .int .u64 y.b, .int .u64 y.c, .int .u64 y.d] 62))
            have t1 := HQ.out.st.one p hpl
            have hone : M[p]'hpl = 0 ∨ M[p]'hpl = 1 := t1.elim (fun h => .inr h.1) (fun h => .inl h.1)
            clear hp hq hpM hfr hto t1 hold
            generalize M[p]'_ = z at *
            cases hf : y.free with
            | true =>
              rw [hf] at c2 A q1 O2 BB HY
              have HN : Hid (goes s[t].toNat M (x.edges.take (i + 1)) = goes s[t].toNat M (x.edges.take i)) := (HY.out false (by simp)).trans (if_neg (by decide))
              clear hf
              clear HY
              go_wp2_with (fail)
              go_quiet (fail)
              have OZ := fun nq => owns_later O2 (below_drewN (Below.refl _ _) nq)
              have BZ := fun nq => below_drewN BB nq
              go_wp2_with (fail)
              go_roundw
              case rel => exact ⟨i + 1, _, rfl, by go_num, by omega, by rw [HN.out]; exact OZ _, BZ _⟩
              case measure => simp [intOf]; omega
            | false =>
              rw [hf] at c2 A q1 O2 BB HY
              clear hf
              rcases hone with hz0 | hz1
              · skip
                have HN : Hid (goes s[t].toNat M (x.edges.take (i + 1)) = goes s[t].toNat M (x.edges.take i)) := (HY.out false (by rw [hz0]; simp)).trans (if_neg (by decide))
                rw [hz0] at q1
                clear hz0
                clear HY
                go_wp2_with (fail)
                go_quiet (fail)
                have OZ := fun nq => owns_later O2 (below_drewN (Below.refl _ _) nq)
                have BZ := fun nq => below_drewN BB nq
                go_wp2_with (fail)
                go_roundw
                case rel => exact ⟨i + 1, _, rfl, by go_num, by omega, by rw [HN.out]; exact OZ _, BZ _⟩
                case measure => simp [intOf]; omega
              · rw [hz1] at q1 HY
                clear hz1
                have h37 := st.rhas_any (setOf y) (fits_of hfi) s[t].toNat (UInt8.toNat_lt _) _ rfl
                unfold st.RHasIs setOf at h37
                dsimp only at h37
                have HBX := (show Hid ((wr.alloc (.cells #[.int .i64 (p : Int), .int .i64 (q : Int), .bool false, .int .u64 y.a, .int .u64 y.b, .int .u64 y.c, .int .u64 y.d] 62)).heap[wr.heap.size]? = some (.cells #[.int .i64 (p : Int), .int .i64 (q : Int), .bool false, .int .u64 y.a, .int .u64 y.b, .int .u64 y.c, .int .u64 y.d] 62 (0, 0))) from World.alloc_heap_new wr _)
                cases hh : hasE y s[t].toNat with
                | false =>
                  have hh2 : st.has ⟨y.a, y.b, y.c, y.d⟩ s[t].toNat = false := hh
                  rw [hh2] at h37
                  have HN : Hid (goes s[t].toNat M (x.edges.take (i + 1)) = goes s[t].toNat M (x.edges.take i)) := (HY.out false (by rw [hh]; simp)).trans (if_neg (by decide))
                  clear hh hh2 HY
                  go_wp2_with (fail)
                  go_region_with (go_at_call 37; refine (h37 _).mono ?_; rintro e w7 ⟨rfl, b7⟩; have b7' := same_below (wr.alloc (.cells #[.int .i64 (p : Int), .int .i64 (q : Int), .bool false, .int .u64 y.a, .int .u64 y.b, .int .u64 y.c, .int .u64 y.d] 62)) b7 rfl rfl rfl rfl)
                  all_goals (have OZ := owns_later O2 b7'; have BZ := chain' BB b7' (by simp; omega); go_wp2_with (fail); go_roundw; (case rel => exact ⟨i + 1, _, rfl, by go_num, by omega, by rw [HN.out]; exact OZ, BZ⟩); (case measure => simp [intOf]; omega))
                | true =>
                  have hh2 : st.has ⟨y.a, y.b, y.c, y.d⟩ s[t].toNat = true := hh
                  rw [hh2] at h37
                  have HN : Hid (goes s[t].toNat M (x.edges.take (i + 1)) = goes s[t].toNat M (x.edges.take i) ++ [(q : Int)]) := (HY.out true (by rw [hh]; simp)).trans (if_pos rfl)
                  clear hh hh2 HY
                  generalize goes s[t].toNat M (x.edges.take i) = nx at *
                  go_wp2_with (fail)
                  go_region_with (go_at_call 37; refine (h37 _).mono ?_; rintro e w7 ⟨rfl, b7⟩; have b7' := same_below (wr.alloc (.cells #[.int .i64 (p : Int), .int .i64 (q : Int), .bool false, .int .u64 y.a, .int .u64 y.b, .int .u64 y.c, .int .u64 y.d] 62)) b7 rfl rfl rfl rfl; have hb7 : w7.heap[wr.heap.size]? = some (.cells #[.int .i64 (p : Int), .int .i64 (q : Int), .bool false, .int .u64 y.a, .int .u64 y.b, .int .u64 y.c, .int .u64 y.d] 62 (0, 0)) := (b7'.block _ (by simp)).trans HBX.out; have k7 : w7.cell? ⟨wr.heap.size, 1, none⟩ = some (.int .i64 (q : Int)) := (by rw [Lib.cell_of_heap hb7]; rfl); have O7 := owns_later O2 b7'; have BZ := chain' BB b7' (by simp; omega))
                  all_goals (have O8 := owns_later O7 (below_alloc w7 (.cells #[.int .i64 (q : Int)] 3)); have B8 := BZ.alloc BZ.size (.cells #[.int .i64 (q : Int)] 3); have lz := BZ.size; go_wp2_with (at_builtin; refine wpList_append_at rfl (.tmp 60) (.tmp 63) rfl w6.heap.size (.slice g9 nx.length c9) nx (q : Int) w7.heap.size rfl rfl O8 (tmp_cell w7 _ _ rfl) (by omega) B8.size ?_; intro g' cap' w9 hown9 hgr9 hpl9; have B9 := B8.grown hgr9 B8.size (df.own_ge O8)); go_roundw; (case rel => exact ⟨i + 1, _, rfl, by go_num, by omega, by rw [HN.out]; exact hown9, B9⟩); (case measure => simp [intOf]; omega))
          · have ei : x.edges.take i = x.edges := List.take_of_length_le (by omega)
            rw [ei] at HO hgl ⊢
            have hE8 := eds_keep HE.out (fun b hb => (HB.out.block b (by omega)).trans ((B6.block b (by omega)).trans (B1.block b hb))) (by omega)
            have hb8 : Box wr w.heap.size x.n x.s x.e o x.edges.length cap := (HB.out.block _ (by omega)).trans hb6
            have d80 := hb8.c0
            have d81 := hb8.c1
            have d82 := hb8.c2
            have d83 := hb8.c3
            have r14 := h14 (goes s[t].toNat M x.edges) g9 c9 wr hE8 (own_row HO.out (fun b hb => own_lt HO.out hb.symm))
            have HNX : Hid (∀ t', Reach x (fun s' => s' ∈ goes s[t].toNat M x.edges ∧ 0 ≤ s' ∧ s' < x.n) t' ↔ Reach x (Base x (dOf s) at' (k + 1)) t') := next_eq R HQ.out.st _ (by rw [← HQ.out.tk, hby])
            generalize goes s[t].toNat M x.edges = nx at *
            go_wp2_with (go_at_call 14; refine r14.mono ?_; rintro e w8 ⟨g8, M8, rfl, hI8, hM8, hg8, b8⟩)
            go_roundw
            case rel => exact ⟨g8, t + 1, k + 1, M8, (.slice (some ⟨g', 0, none⟩) (es.length + 1) cap'), (es ++ [(t : Int)]), by go_num, rfl, rfl, by omega, ⟨hI8, set1_of hM8 HNX.out, HS.out, owns_later (owns_later hown6 HB.out) b8, far_off (owns_later hown6 HB.out) hg8, chain' (B6.trans (HB.out.mono l6)) b8 (by omega), by have := HQ.out.tk; omega⟩⟩
            case measure => simp [intOf]; omega
    · skip
      rw [he1] at hz
      have HS : Hid (SoFar x (dOf s) at' (k + 1) es) := HQ.out.so.no (by rw [HEN.out]; exact he2)
      have hown6 := HQ.out.row
      have B6 := HQ.out.be
      have I6 := HQ.out.ir
      have N6 := HQ.out.ne
      by_cases hend : s.size ≤ t
      · have HR : Hid (L = es) := runs_eq hL0 (HS.out.all (by have := HQ.out.tk; omega))
        go_wp2_with (fail)
        go_ret
        exact ⟨_, rfl, by rw [HR.out]; exact df.ints_of_owns hown6, chain B1 B6⟩
      · have htt2 : t < s.size := by omega
        have d3 := (hb.later (below_alloc wo (.cells #[] 3))).c3
        have hby := dOf_eq s t htt2
        go_wp2_with (fail)
        have hb6 : Box wo w.heap.size x.n x.s x.e o x.edges.length cap := (B6.block _ (by omega)).trans b0
        have l6 := B6.size
        have n0 := owns_new wo wo.heap.size (Nat.le_refl _)
        have nb : Below wo.heap.size wo (wo.alloc (.cells #[] 3)) := below_alloc _ _
        go_loopw [9, 37] (fun y z wr2 => ∃ (i : Nat) (v9 : Value), v9 = y ∧ z = .int .i64 i ∧ i ≤ x.edges.length ∧ Hid (Owns wr2 wo.heap.size v9 (goes s[t].toNat M (x.edges.take i))) ∧ Hid (Below wo.heap.size wo wr2)) (fun _ z _ => x.edges.length - (intOf z).toNat)
        case atStart => exact ⟨0, _, rfl, rfl, by omega, n0, nb⟩
        case round =>
          clear n0 nb
          obtain ⟨i, v9, rfl, rfl, hi, HO, HB⟩ := hrel
          have hl2 := HB.out.size
          obtain ⟨g9, c9, hg9⟩ := df.own_slice HO.out
          subst hg9
          have hgl := goes_len s[t].toNat M (x.edges.take i)
          rw [List.length_take] at hgl
          by_cases hend2 : i < x.edges.length
          · obtain ⟨b, off, rfl, hb2, hed⟩ := HE.out.lie i hend2
            have hold : ∀ b, b < wo.heap.size → wr.heap[b]? = wo.heap[b]? := fun b hb => HB.out.block b hb
            have hed2 := hed.same ((hold b (by omega)).trans ((B6.block b (by omega)).trans (B1.block b hb2)))
            obtain ⟨c0, c1, c2, c3, c4, c5, c6⟩ := hed2
            have hin : x.edges[i] ∈ x.edges := List.getElem_mem hend2
            have hfr := R.fr _ hin
            have hto := R.to _ hin
            have hfi := hfit _ hin
            have htk : x.edges.take (i + 1) = x.edges.take i ++ [x.edges[i]] := List.take_succ_eq_append_getElem hend2
            have HY := (show Hid (∀ r, (!x.edges[i].free && decide (M[x.edges[i].fr.toNat]? = some 1) && hasE x.edges[i] s[t].toNat) = r → goes s[t].toNat M (x.edges.take (i + 1)) = if r = true then goes s[t].toNat M (x.edges.take i) ++ [x.edges[i].to] else goes s[t].toNat M (x.edges.take i)) from fun r hr => by rw [htk]; cases r with | true => rw [goes_yes _ _ _ _ hr, if_pos rfl] | false => rw [goes_no _ _ _ _ hr, if_neg (by decide)])
            clear htk hed hin
            generalize x.edges[i] = y at *
            obtain ⟨p, hp⟩ : ∃ p : Nat, y.fr = (p : Int) := ⟨y.fr.toNat, by omega⟩
            obtain ⟨q, hq⟩ : ∃ q : Nat, y.to = (q : Int) := ⟨y.to.toNat, by omega⟩
            have hpl : p < M.length := by omega
            have hpM : M[y.fr.toNat]? = some (M[p]'hpl) := by rw [hp, Int.toNat_natCast, List.getElem?_eq_getElem hpl]
            rw [hpM, hq] at HY
            have hpn : p < n := by omega
            rw [hp] at c0
            rw [hq] at c1
            have A0 : IRow wr g M := (hold g I6.lt).trans I6
            have A := A0.alloc (.cells #[.int .i64 (p : Int), .int .i64 (q : Int), .bool y.free, .int .u64 y.a, .int .u64 y.b, .int .u64 y.c, .int .u64 y.d] 62)
            have q1 := A.cell p hpl
            have O2 := owns_later HO.out (below_alloc wr (.cells #[.int .i64 (p : Int), .int .i64 (q : Int), .bool y.free, .int .u64 y.a, .int .u64 y.b, .int .u64 y.c, .int .u64 y.d] 62))
            have BB := chain' HB.out (below_alloc wr (.cells #[.int .i64 (p : Int), .int .i64 (q : Int), .bool y.free, .int .u64 y.a, .int .u64 y.b, .int .u64 y.c, .int .u64 y.d] 62))
            have t1 := HQ.out.st.one p hpl
            have hone : M[p]'hpl = 0 ∨ M[p]'hpl = 1 := t1.elim (fun h => .inr h.1) (fun h => .inl h.1)
            clear hp hq hpM hfr hto t1 hold
            generalize M[p]'_ = z at *
            cases hf : y.free with
            | true =>
              rw [hf] at c2 A q1 O2 BB HY
              have HN : Hid (goes s[t].toNat M (x.edges.take (i + 1)) = goes s[t].toNat M (x.edges.take i)) := (HY.out false (by simp)).trans (if_neg (by decide))
              clear hf
              clear HY
              go_wp2_with (fail)
              go_quiet (fail)
              have OZ := fun nq => owns_later O2 (below_drewN (Below.refl _ _) nq)
              have BZ := fun nq => below_drewN BB nq
              go_wp2_with (fail)
              go_roundw
              case rel => exact ⟨i + 1, _, rfl, by go_num, by omega, by rw [HN.out]; exact OZ _, BZ _⟩
              case measure => simp [intOf]; omega
            | false =>
              rw [hf] at c2 A q1 O2 BB HY
              clear hf
              rcases hone with hz0 | hz1
              · skip
                have HN : Hid (goes s[t].toNat M (x.edges.take (i + 1)) = goes s[t].toNat M (x.edges.take i)) := (HY.out false (by rw [hz0]; simp)).trans (if_neg (by decide))
                rw [hz0] at q1
                clear hz0
                clear HY
                go_wp2_with (fail)
                go_quiet (fail)
                have OZ := fun nq => owns_later O2 (below_drewN (Below.refl _ _) nq)
                have BZ := fun nq => below_drewN BB nq
                go_wp2_with (fail)
                go_roundw
                case rel => exact ⟨i + 1, _, rfl, by go_num, by omega, by rw [HN.out]; exact OZ _, BZ _⟩
                case measure => simp [intOf]; omega
              · rw [hz1] at q1 HY
                clear hz1
                have h37 := st.rhas_any (setOf y) (fits_of hfi) s[t].toNat (UInt8.toNat_lt _) _ rfl
                unfold st.RHasIs setOf at h37
                dsimp only at h37
                have HBX := (show Hid ((wr.alloc (.cells #[.int .i64 (p : Int), .int .i64 (q : Int), .bool false, .int .u64 y.a, .int .u64 y.b, .int .u64 y.c, .int .u64 y.d] 62)).heap[wr.heap.size]? = some (.cells #[.int .i64 (p : Int), .int .i64 (q : Int), .bool false, .int .u64 y.a, .int .u64 y.b, .int .u64 y.c, .int .u64 y.d] 62 (0, 0))) from World.alloc_heap_new wr _)
                cases hh : hasE y s[t].toNat with
                | false =>
                  have hh2 : st.has ⟨y.a, y.b, y.c, y.d⟩ s[t].toNat = false := hh
                  rw [hh2] at h37
                  have HN : Hid (goes s[t].toNat M (x.edges.take (i + 1)) = goes s[t].toNat M (x.edges.take i)) := (HY.out false (by rw [hh]; simp)).trans (if_neg (by decide))
                  clear hh hh2 HY
                  go_wp2_with (fail)
                  go_region_with (go_at_call 37; refine (h37 _).mono ?_; rintro e w7 ⟨rfl, b7⟩; have b7' := same_below (wr.alloc (.cells #[.int .i64 (p : Int), .int .i64 (q : Int), .bool false, .int .u64 y.a, .int .u64 y.b, .int .u64 y.c, .int .u64 y.d] 62)) b7 rfl rfl rfl rfl)
                  all_goals (have OZ := owns_later O2 b7'; have BZ := chain' BB b7' (by simp; omega); go_wp2_with (fail); go_roundw; (case rel => exact ⟨i + 1, _, rfl, by go_num, by omega, by rw [HN.out]; exact OZ, BZ⟩); (case measure => simp [intOf]; omega))
                | true =>
                  have hh2 : st.has ⟨y.a, y.b, y.c, y.d⟩ s[t].toNat = true := hh
                  rw [hh2] at h37
                  have HN : Hid (goes s[t].toNat M (x.edges.take (i + 1)) = goes s[t].toNat M (x.edges.take i) ++ [(q : Int)]) := (HY.out true (by rw [hh]; simp)).trans (if_pos rfl)
                  clear hh hh2 HY
                  generalize goes s[t].toNat M (x.edges.take i) = nx at *
                  go_wp2_with (fail)
                  go_region_with (go_at_call 37; refine (h37 _).mono ?_; rintro e w7 ⟨rfl, b7⟩; have b7' := same_below (wr.alloc (.cells #[.int .i64 (p : Int), .int .i64 (q : Int), .bool false, .int .u64 y.a, .int .u64 y.b, .int .u64 y.c, .int .u64 y.d] 62)) b7 rfl rfl rfl rfl; have hb7 : w7.heap[wr.heap.size]? = some (.cells #[.int .i64 (p : Int), .int .i64 (q : Int), .bool false, .int .u64 y.a, .int .u64 y.b, .int .u64 y.c, .int .u64 y.d] 62 (0, 0)) := (b7'.block _ (by simp)).trans HBX.out; have k7 : w7.cell? ⟨wr.heap.size, 1, none⟩ = some (.int .i64 (q : Int)) := (by rw [Lib.cell_of_heap hb7]; rfl); have O7 := owns_later O2 b7'; have BZ := chain' BB b7' (by simp; omega))
                  all_goals (have O8 := owns_later O7 (below_alloc w7 (.cells #[.int .i64 (q : Int)] 3)); have B8 := BZ.alloc BZ.size (.cells #[.int .i64 (q : Int)] 3); have lz := BZ.size; go_wp2_with (at_builtin; refine wpList_append_at rfl (.tmp 60) (.tmp 63) rfl wo.heap.size (.slice g9 nx.length c9) nx (q : Int) w7.heap.size rfl rfl O8 (tmp_cell w7 _ _ rfl) (by omega) B8.size ?_; intro g' cap' w9 hown9 hgr9 hpl9; have B9 := B8.grown hgr9 B8.size (df.own_ge O8)); go_roundw; (case rel => exact ⟨i + 1, _, rfl, by go_num, by omega, by rw [HN.out]; exact hown9, B9⟩); (case measure => simp [intOf]; omega))
          · have ei : x.edges.take i = x.edges := List.take_of_length_le (by omega)
            rw [ei] at HO hgl ⊢
            have hE8 := eds_keep HE.out (fun b hb => (HB.out.block b (by omega)).trans ((B6.block b (by omega)).trans (B1.block b hb))) (by omega)
            have hb8 : Box wr w.heap.size x.n x.s x.e o x.edges.length cap := (HB.out.block _ (by omega)).trans hb6
            have d80 := hb8.c0
            have d81 := hb8.c1
            have d82 := hb8.c2
            have d83 := hb8.c3
            have r14 := h14 (goes s[t].toNat M x.edges) g9 c9 wr hE8 (own_row HO.out (fun b hb => own_lt HO.out hb.symm))
            have HNX : Hid (∀ t', Reach x (fun s' => s' ∈ goes s[t].toNat M x.edges ∧ 0 ≤ s' ∧ s' < x.n) t' ↔ Reach x (Base x (dOf s) at' (k + 1)) t') := next_eq R HQ.out.st _ (by rw [← HQ.out.tk, hby])
            generalize goes s[t].toNat M x.edges = nx at *
            go_wp2_with (go_at_call 14; refine r14.mono ?_; rintro e w8 ⟨g8, M8, rfl, hI8, hM8, hg8, b8⟩)
            go_roundw
            case rel => exact ⟨g8, t + 1, k + 1, M8, (.slice gv es.length cv), es, by go_num, rfl, rfl, by omega, ⟨hI8, set1_of hM8 HNX.out, HS.out, owns_later (owns_later hown6 HB.out) b8, far_off (owns_later hown6 HB.out) hg8, chain' (B6.trans (HB.out.mono l6)) b8 (by omega), by have := HQ.out.tk; omega⟩⟩
            case measure => simp [intOf]; omega
end Go.Proofs.Ythknhbmibmndoaa.nf
