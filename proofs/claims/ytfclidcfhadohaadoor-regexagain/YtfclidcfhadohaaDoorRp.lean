/-
  Contracts over this program: kids laid behind others (regex.laid), a node grown of its kids (regex.grown).
-/
import Derived.Test.YtfclidcfhadohaaDoorRa
import Derived.Test.YtfclidcfhadohaaDoorNd0
namespace Go.Proofs.YtfclidcfhadohaaDoor.st
open Go.ChangeShapes Go.WideShapes Go.ChangeAt Go.RowKit
set_option linter.unusedVariables false

theorem append_kids (w : World) (ty : TypeId) (B : Nat) (v : Value) (n : Nat) (xs : List Value) (hown : w.ownsRow B 28 8 v n xs) (ad : Addr) (m c : Nat) (news : List Value) (hl : news.length = m * 8) (hnews : ∀ j u, news[j]? = some u → w.cell? (ad.add j) = some u) (h1 : ∀ u ∈ news, u.oneCell' = true)
    (hsm : n + m ≤ 1000000) (hB : B ≤ w.heap.size) : ∃ v' w', (Builtin.append_ #[26, 26] ty #[v, .slice (some ad) m c]).run Tryd.prog w = .ok v' w' ∧ w'.ownsRow B 28 8 v' (n + m) (xs ++ news) ∧ w.grownBy w' v.ownBlock ∧ (v'.ownBlock = v.ownBlock ∨ ∃ k, v'.ownBlock = some k ∧ w.heap.size ≤ k) := by
  obtain ⟨i0, hi, hz0, hz1, hz2⟩ := info_parts info28
  have h63 : n + m ≤ maxLen := by unfold maxLen; omega
  obtain ⟨v', w', hr, h2, h3, h4⟩ := run_append_own (P := Tryd.prog) w B 26 ty 28 i0 _ 8 80 Tryd.underlying26 hi hz0 hz1 hz2 rfl (by decide) v n xs hown ad m c news hl hnews h1 h63 (by omega) hB
  refine ⟨v', w', hr, h2, h3, ?_⟩
  have hl2 : news.length = m * i0.size := by rw [hz1]; exact hl
  rcases hown.2 with ⟨rfl, rfl⟩ | ⟨g, cap, cur, rfl, hbg, hg, hnc, hcm, hcs, htake⟩
  · by_cases hm : m = 0
    · have e := h4.2 ⟨rfl, hm⟩
      rw [e]; exact .inl rfl
    · have hr2 := run_append_nil (P := Tryd.prog) w 26 ty 28 i0 _ Tryd.underlying26 hi hz0 ad m c news hl2 hnews (by omega) (by omega) (by rw [hz2]; omega)
      rw [hr2] at hr
      injection hr with e1 e2
      rw [← e1]
      exact .inr ⟨w.heap.size, rfl, Nat.le_refl _⟩
  · by_cases hroom : n + m ≤ cap
    · have hfit : n * i0.size + news.length ≤ cur.size := by rw [hl2, hcs, hz1, ← Nat.add_mul]; exact Nat.mul_le_mul_right _ hroom
      have hr2 := run_append_room (P := Tryd.prog) w 26 ty 28 i0 Tryd.underlying26 hi g n cap cur hg ad m c news hl2 hnews h1 hroom hfit
      rw [hr2] at hr
      injection hr with e1 e2
      rw [← e1]
      exact .inl rfl
    · have hr2 := run_append_grow (P := Tryd.prog) w 26 ty 28 i0 _ Tryd.underlying26 hi hz0 ⟨g, 0, none⟩ n cap xs (by rw [hz1]; exact hown.1) (hown.cells (g := g) rfl) ad m c news hl2 hnews (by omega) (by omega) (growslice_fits (by omega) (by rw [hz2]; omega))
      rw [hr2] at hr
      injection hr with e1 e2
      rw [← e1]
      exact .inr ⟨w.heap.size, rfl, Nat.le_refl _⟩

theorem wpList_kids {ops : Array Oper} {rest : List Oper} {o : Oper} {a : Act} {Q : Exit → Act → World → Prop} (w : World) (hgd : o.guard = none) (s x : Operand) (ho : o.op = .call { callee := .builtin .append, args := #[s, x], argTypes := #[26, 26] })
    (B : Nat) (v : Value) (l m : List (Tr × Value)) (hs : a.eval s = v) (hown : OwnK B w v l) (ad : Addr) (c : Nat) (hx : a.eval x = .slice (some ad) m.length c)
    (hnews : ∀ j u, (cellsL m)[j]? = some u → w.cell? (ad.add j) = some u) (h1 : ∀ u ∈ cellsL m, u.oneCell' = true) (hm : ∀ x ∈ m, Is w (fun b => B ≤ b ∧ v.ownBlock ≠ some b) x.1 x.2) (hlen : l.length + m.length ≤ 1000000) (hB : B ≤ w.heap.size)
    (h : ∀ v' w', OwnK B w' v' (l ++ m) → w.grownBy w' v.ownBlock → wpList Tryd.prog ops Q rest (a.put o.dst v') w') : wpList Tryd.prog ops Q (o :: rest) a w := by
  refine wpList_plain hgd fun K hK => ?_
  obtain ⟨v', w', hr, h2, h3, h4⟩ := append_kids w o.type B v l.length (cellsL l) hown.row ad m.length c (cellsL m) (cellsL_length m) hnews h1 hlen hB
  unfold Oper.wp execOp
  simp only [ho, resolve, invoke, builtin, Sem.run_bind, Sem.run_pure, Result.andThen_ok, List.map_toArray, List.map_cons, List.map_nil, hs, hx, hr]
  exact hK _ _ (h v' w' (own_more hown hm h2 h3 h4) h3)

/-- cells that a list of kids lies in -/
theorem Is.pairs {w : World} {P : Nat → Prop} {t : Tr} {v : Value} (h : Is w P t v) (hne : t.kids ≠ []) : ∃ (m : List (Tr × Value)) (ad : Addr) (c : Nat), m.map Prod.fst = t.kids ∧ v = .slice (some ad) m.length c ∧ (∀ j u, (cellsL m)[j]? = some u → w.cell? (ad.add j) = some u) ∧ (∀ x ∈ m, Is w P x.1 x.2) := by
  cases h with
  | leaf k q mn mx a cap => exact absurd rfl hne
  | node k q mn mx l b off cap vs hl hc hb hP cells kids =>
    refine ⟨(List.range l.length).map (fun i => (nthT l i, vs i)), ⟨b, off, none⟩, cap, ?_, ?_, ?_, ?_⟩
    · apply List.ext_getElem?
      intro i
      by_cases hi : i < l.length
      · simp [Tr.kids, hi, nthT_lt l i hi]
      · simp [Tr.kids, hi]
    · simp
    · intro j u hu
      have hj : j < l.length * 8 := by
        have := (List.getElem?_eq_some_iff.1 hu).1
        rw [cellsL_length] at this
        simpa using this
      have hi : j / 8 < l.length := by omega
      have hc8 := cells (j / 8) hi
      rw [show j = j / 8 * 8 + j % 8 by omega, cellsL_at _ (j / 8) (j % 8) (by simpa using hi) (by omega)] at hu
      simp only [List.getElem_map, List.getElem_range] at hu
      have hadd : ∀ j, (⟨b, off, none⟩ : Addr).add j = ⟨b, off + j, none⟩ := fun j => by simp [Addr.add]
      rw [hadd, show off + j = off + j / 8 * 8 + j % 8 by omega]
      have h8 : j % 8 < 8 := by omega
      obtain ⟨d0, d1, d2, d3, d4, d5, d6, d7⟩ := hc8
      generalize j % 8 = r at *
      match r, h8, hu with
      | 0, _, hu => simp [cells8] at hu; rw [← hu]; exact d0
      | 1, _, hu => simp [cells8] at hu; rw [← hu]; exact d1
      | 2, _, hu => simp [cells8] at hu; rw [← hu]; exact d2
      | 3, _, hu => simp [cells8] at hu; rw [← hu]; exact d3
      | 4, _, hu => simp [cells8] at hu; rw [← hu]; exact d4
      | 5, _, hu => simp [cells8] at hu; rw [← hu]; exact d5
      | 6, _, hu => simp [cells8] at hu; rw [← hu]; exact d6
      | 7, _, hu => simp [cells8] at hu; rw [← hu]; exact d7
    · intro x hx
      obtain ⟨i, hi, rfl⟩ := List.mem_map.1 hx
      exact kids i (List.mem_range.1 hi)

theorem ones_cell {w : World} {P : Nat → Prop} {m : List (Tr × Value)} (h : ∀ x ∈ m, Is w P x.1 x.2) : ∀ u ∈ cellsL m, u.oneCell' = true := by
  induction m with
  | nil => intro u hu; simp [cellsL] at hu
  | cons x m ih =>
    intro u hu
    rcases List.mem_append.1 hu with h1 | h1
    · obtain ⟨o, n, c, hv⟩ := (h x (by simp)).shape
      simp [cells8, hv] at h1
      rcases h1 with rfl | rfl | rfl | rfl | rfl | rfl | rfl | rfl <;> rfl
    · exact ih (fun y hy => h y (by simp [hy])) u h1

theorem addr_add (g j : Nat) : (⟨g, 0, none⟩ : Addr).add j = ⟨g, 0 + j, none⟩ := by unfold Addr.add; split <;> simp_all
theorem append_none (w : World) (ty : TypeId) (x : Option Addr) (n cap c : Nat) (hx : x = none → n = 0 ∧ cap = 0) (hn : n ≤ cap) (hc : cap ≤ 9223372036854775807) : (Builtin.append_ #[26, 26] ty #[.slice x n cap, .slice none 0 c]).run Tryd.prog w = .ok (.slice x n cap) w := by
  obtain ⟨i0, hi, hz0, hz1, hz2⟩ := info_parts info28
  cases x with
  | none =>
    obtain ⟨rfl, rfl⟩ := hx rfl
    simp [Builtin.append_, run_underlying Tryd.underlying26, sizeOf, typeInfo, hi, Builtin.lenOf, Builtin.firstCells]
  | some a =>
    simp [Builtin.append_, run_underlying Tryd.underlying26, sizeOf, typeInfo, hi, Builtin.lenOf, Builtin.firstCells, loadCells, storeCells, hn]

theorem wpList_same {ops : Array Oper} {rest : List Oper} {o : Oper} {a : Act} {Q : Exit → Act → World → Prop} (w : World) (hgd : o.guard = none) (s x : Operand) (ho : o.op = .call { callee := .builtin .append, args := #[s, x], argTypes := #[26, 26] })
    (v y : Value) (hs : a.eval s = v) (hx : a.eval x = y) (hr : ∀ ty W, (Builtin.append_ #[26, 26] ty #[v, y]).run Tryd.prog W = .ok v W) (h : wpList Tryd.prog ops Q rest (a.put o.dst v) w) : wpList Tryd.prog ops Q (o :: rest) a w := by
  refine wpList_plain hgd fun K hK => ?_
  unfold Oper.wp execOp
  simp only [ho, resolve, invoke, builtin, Sem.run_bind, Sem.run_pure, Result.andThen_ok, List.map_toArray, List.map_cons, List.map_nil, hs, hx, hr]
  exact hK _ _ h

def LaidIs (B : Nat) (l : List (Tr × Value)) (t : Tr) (k : Int) : Prop := ∀ v tv w, OwnK B w v l → Is w (fun b => B ≤ b ∧ v.ownBlock ≠ some b) t tv → B ≤ w.heap.size → Calls Tryd.prog 63 #[v, .agg #[.int .i64 t.kind, .int .u64 t.set.a, .int .u64 t.set.b, .int .u64 t.set.c, .int .u64 t.set.d, .int .i64 t.min, .int .i64 t.max, tv], .int .i64 k] w fun e w' =>
  ∃ v' l', e = .returned v' ∧ OwnK B w' v' l' ∧ l'.map Prod.fst = laid (l.map Prod.fst) t k ∧ w.grownBy w' v.ownBlock

theorem own_form {B : Nat} {w : World} {v : Value} {l : List (Tr × Value)} (h : OwnK B w v l) : (v = .slice none 0 0 ∧ l = []) ∨ ∃ g cap, v = .slice (some ⟨g, 0, none⟩) l.length cap ∧ l.length ≤ cap ∧ cap ≤ 9223372036854775807 := by
  rcases h.row.2 with ⟨h1, h2⟩ | ⟨g, cap, cur, h1, _, _, h2, h3, _⟩
  · exact .inl ⟨h1, List.eq_nil_of_length_eq_zero h2⟩
  · exact .inr ⟨g, cap, h1, h2, by unfold maxLen at h3; omega⟩

set_option maxHeartbeats 2000000 in
set_option maxRecDepth 100000 in
theorem laid_any (B : Nat) (l : List (Tr × Value)) (t : Tr) (k : Int) (hlen : l.length + t.kids.length + 1 ≤ 1000000) : LaidIs B l t k := by
  intro v tv w hown ht hB
  have hkids := fun o => ht.later (below_alloc w o)
  have hown1 := fun o => hown.below (below_alloc w o)
  have hbox := box_new w t tv
  by_cases hk : t.kind = k
  · by_cases hne : t.kids = []
    · have HL : Hid ((l.map Prod.fst) = laid (l.map Prod.fst) t k) := by show _ = _; unfold laid; rw [if_pos hk, hne]; simp
      have htv : ∃ a c, tv = .slice a 0 c := by
        obtain ⟨o, cap, b, off, vs, h1, _⟩ := ht.form
        rw [hne] at h1
        exact ⟨o, cap, h1⟩
      obtain ⟨a, c, rfl⟩ := htv
      clear hne hkids
      cases a with
      | some ad =>
        have h1 : ∀ u ∈ cellsL [], u.oneCell' = true := by intro u hu; simp [cellsL] at hu
        have hc : ∀ o (j : Nat) (u : Value), (cellsL [])[j]? = some u → (w.alloc o).cell? (ad.add j) = some u := fun o j u hu => by simp [cellsL] at hu
        have hm5 : ∀ o, ∀ x ∈ ([] : List (Tr × Value)), Is (w.alloc o) (fun b => B ≤ b ∧ v.ownBlock ≠ some b) x.1 x.2 := fun o x hx => by simp at hx
        generalize t.set = q at *
        generalize t.min = mn at *
        generalize t.max = mx at *
        generalize t.kind = kd at *
        subst hk
        go_enter Tryd.func63, Tryd.ntmps63
        go_wp2_with (at_builtin; refine wpList_kids _ rfl (.tmp 11) (.tmp 13) rfl B v l [] rfl (hown1 _) ad c rfl (hc _) h1 (hm5 _) (by simp; omega) (by simp; omega) ?_; intro v' w2 o2 g2)
        go_ret
        exact ⟨v', l ++ [], rfl, o2, by rw [List.append_nil]; exact HL.out, touch_trans (touch_below _ (below_alloc _ _)) g2⟩
      | none =>
        have happ : ∃ x n cap, v = .slice x n cap ∧ ∀ ty W, (Builtin.append_ #[26, 26] ty #[.slice x n cap, .slice none 0 c]).run Tryd.prog W = .ok (.slice x n cap) W := by
          rcases own_form hown with ⟨h1, h2⟩ | ⟨g, cap, h1, h2, h3⟩
          · exact ⟨none, 0, 0, h1, fun ty W => append_none W ty none 0 0 c (fun _ => ⟨rfl, rfl⟩) (by omega) (by omega)⟩
          · exact ⟨_, _, _, h1, fun ty W => append_none W ty _ _ _ c (fun h => by cases h) h2 h3⟩
        obtain ⟨x, n, cap, rfl, happ⟩ := happ
        have HA : Hid (∀ ty W, (Builtin.append_ #[26, 26] ty #[.slice x n cap, .slice none 0 c]).run Tryd.prog W = .ok (.slice x n cap) W) := happ
        clear happ
        generalize t.set = q at *
        generalize t.min = mn at *
        generalize t.max = mx at *
        generalize t.kind = kd at *
        subst hk
        go_enter Tryd.func63, Tryd.ntmps63
        go_wp2_with (at_builtin; refine wpList_same _ rfl (.tmp 11) (.tmp 13) rfl (.slice x n cap) (.slice none 0 c) rfl rfl HA.out ?_)
        go_ret
        exact ⟨_, l, rfl, hown1 _, HL.out, touch_below _ (below_alloc _ _)⟩
    · obtain ⟨m, ad, c, hm1, rfl, hm3, hm4⟩ := ht.pairs hne
      have HL : Hid (((l ++ m).map Prod.fst) = laid (l.map Prod.fst) t k) := by show _ = _; unfold laid; rw [if_pos hk, List.map_append, hm1]
      have hlm : l.length + m.length ≤ 1000000 := by have := congrArg List.length hm1; simp at this; omega
      have h1 := ones_cell hm4
      have hc : ∀ o j u, (cellsL m)[j]? = some u → (w.alloc o).cell? (ad.add j) = some u := fun o j u hu => by
        have h0 := hm3 j u hu
        rw [(below_alloc w o).cell (World.block_lt_of_cell? w _ h0)]; exact h0
      have hm5 : ∀ o, ∀ x ∈ m, Is (w.alloc o) (fun b => B ≤ b ∧ v.ownBlock ≠ some b) x.1 x.2 := fun o x hx => (hm4 x hx).later (below_alloc w o)
      clear hm1 hm3 hm4 hne hkids
      generalize t.set = q at *
      generalize t.min = mn at *
      generalize t.max = mx at *
      generalize t.kind = kd at *
      subst hk
      go_enter Tryd.func63, Tryd.ntmps63
      go_wp2_with (at_builtin; refine wpList_kids _ rfl (.tmp 11) (.tmp 13) rfl B v l m rfl (hown1 _) ad c rfl (hc _) h1 (hm5 _) hlm (by simp; omega) ?_; intro v' w2 o2 g2)
      go_ret
      exact ⟨v', l ++ m, rfl, o2, HL.out, touch_trans (touch_below _ (below_alloc _ _)) g2⟩
  · have HL : Hid (((l ++ [(t, tv)]).map Prod.fst) = laid (l.map Prod.fst) t k) := by show _ = _; unfold laid; rw [if_neg hk, List.map_append]; rfl
    have hkn := beqf hk
    obtain ⟨ta, tn, tc, htv⟩ := ht.shape
    subst htv
    have hB2 : ∀ o o', Below w.heap.size w ((w.alloc o).alloc o') := fun o o' => (below_alloc w o).trans ((below_alloc _ _).mono (below_alloc w o).size)
    have hown2 := fun o o' => hown.below (hB2 o o')
    have h1 : ∀ u ∈ cellsL [(t, (.slice ta tn tc : Value))], u.oneCell' = true := ones_cell (m := [(t, .slice ta tn tc)]) (by intro x hx; simp at hx; subst hx; exact ht)
    have hm5 : ∀ o o', ∀ x ∈ [(t, (.slice ta tn tc : Value))], Is ((w.alloc o).alloc o') (fun b => B ≤ b ∧ v.ownBlock ≠ some b) x.1 x.2 := fun o o' x hx => by simp at hx; subst hx; exact ht.later (hB2 o o')
    have hb2 : ∀ o, Box ((w.alloc o).alloc (.cells #[.int .i64 t.kind, .int .u64 t.set.a, .int .u64 t.set.b, .int .u64 t.set.c, .int .u64 t.set.d, .int .i64 t.min, .int .i64 t.max, .slice ta tn tc] 28)) (w.heap.size + 1) t (.slice ta tn tc) := fun o => heap_alloc2_new w _ _
    have hc : ∀ o j u, (cellsL [(t, (.slice ta tn tc : Value))])[j]? = some u → ((w.alloc o).alloc (.cells #[.int .i64 t.kind, .int .u64 t.set.a, .int .u64 t.set.b, .int .u64 t.set.c, .int .u64 t.set.d, .int .i64 t.min, .int .i64 t.max, .slice ta tn tc] 28)).cell? ((⟨w.heap.size + 1, 0, none⟩ : Addr).add j) = some u := fun o j u hu => by
      have hadd : ∀ j, (⟨w.heap.size + 1, 0, none⟩ : Addr).add j = ⟨w.heap.size + 1, j, none⟩ := fun j => by unfold Addr.add; split <;> simp_all
      rw [hadd, Lib.cell_of_heap (hb2 o)]
      simpa [cellsL, cells8] using hu
    clear hkids hk
    go_enter Tryd.func63, Tryd.ntmps63
    go_wp2_with (at_builtin; refine wpList_kids _ rfl (.tmp 15) (.tmp 17) rfl B v l [(t, .slice ta tn tc)] rfl (hown2 _ _) ⟨w.heap.size + 1, 0, none⟩ 1 rfl (hc _) h1 (hm5 _ _) (by simp; omega) (by simp; omega) ?_; intro v' w2 o2 g2)
    go_ret
    exact ⟨v', l ++ [(t, .slice ta tn tc)], rfl, o2, HL.out, touch_trans (touch_below _ (hB2 _ _)) g2⟩

/-- a tree that is handed back through a cell -/
theorem ret28 {fn : Func} {p : Tmp} (h : fn.results = #[.cell p 28]) {a : Act} {W : World} {R : Ending → World → Prop} (g : Nat) (t : Tr) (v : Value) (hp : a.tmps.getD p undef = .pointer (some ⟨g, 0, none⟩)) (hb : Box W g t v) (hd : a.defers = [])
    (hR : R (.returned (.agg #[.int .i64 t.kind, .int .u64 t.set.a, .int .u64 t.set.b, .int .u64 t.set.c, .int .u64 t.set.d, .int .i64 t.min, .int .i64 t.max, v])) W) : bodyPost Tryd.prog fn R .ret a W :=
  bodyPost_ret (results_cell_row h _ _ g 28 _ (0, 0) _ hp hb Tryd.underlying28 rfl (by kernel_rfl)) hd hR
theorem s8_0 (a0 a1 a2 a3 a4 a5 a6 a7 x : Value) : #[a0, a1, a2, a3, a4, a5, a6, a7].setIfInBounds 0 x = #[x, a1, a2, a3, a4, a5, a6, a7] := rfl
theorem s8_1 (a0 a1 a2 a3 a4 a5 a6 a7 x : Value) : #[a0, a1, a2, a3, a4, a5, a6, a7].setIfInBounds 1 x = #[a0, x, a2, a3, a4, a5, a6, a7] := rfl
theorem s8_2 (a0 a1 a2 a3 a4 a5 a6 a7 x : Value) : #[a0, a1, a2, a3, a4, a5, a6, a7].setIfInBounds 2 x = #[a0, a1, x, a3, a4, a5, a6, a7] := rfl
theorem s8_3 (a0 a1 a2 a3 a4 a5 a6 a7 x : Value) : #[a0, a1, a2, a3, a4, a5, a6, a7].setIfInBounds 3 x = #[a0, a1, a2, x, a4, a5, a6, a7] := rfl
theorem s8_4 (a0 a1 a2 a3 a4 a5 a6 a7 x : Value) : #[a0, a1, a2, a3, a4, a5, a6, a7].setIfInBounds 4 x = #[a0, a1, a2, a3, x, a5, a6, a7] := rfl
theorem s8_5 (a0 a1 a2 a3 a4 a5 a6 a7 x : Value) : #[a0, a1, a2, a3, a4, a5, a6, a7].setIfInBounds 5 x = #[a0, a1, a2, a3, a4, x, a6, a7] := rfl
theorem s8_6 (a0 a1 a2 a3 a4 a5 a6 a7 x : Value) : #[a0, a1, a2, a3, a4, a5, a6, a7].setIfInBounds 6 x = #[a0, a1, a2, a3, a4, a5, x, a7] := rfl
theorem s8_7 (a0 a1 a2 a3 a4 a5 a6 a7 x : Value) : #[a0, a1, a2, a3, a4, a5, a6, a7].setIfInBounds 7 x = #[a0, a1, a2, a3, a4, a5, a6, x] := rfl
theorem box_set {W : World} {g : Nat} {t0 : Tr} {v0 : Value} (h : Box W g t0 v0) (t : Tr) (v : Value) :
    Box ((((((((W.setCell ⟨g, 0, none⟩ (.int .i64 t.kind)).setCell ⟨g, 1, none⟩ (.int .u64 t.set.a)).setCell ⟨g, 2, none⟩ (.int .u64 t.set.b)).setCell ⟨g, 3, none⟩ (.int .u64 t.set.c)).setCell ⟨g, 4, none⟩ (.int .u64 t.set.d)).setCell ⟨g, 5, none⟩ (.int .i64 t.min)).setCell ⟨g, 6, none⟩ (.int .i64 t.max)).setCell ⟨g, 7, none⟩ v) g t v := by
  have h0 := set_heap1 _ g _ _ 0 (.int .i64 t.kind) h
  rw [s8_0] at h0
  have h1 := set_heap1 _ g _ _ 1 (.int .u64 t.set.a) h0
  rw [s8_1] at h1
  have h2 := set_heap1 _ g _ _ 2 (.int .u64 t.set.b) h1
  rw [s8_2] at h2
  have h3 := set_heap1 _ g _ _ 3 (.int .u64 t.set.c) h2
  rw [s8_3] at h3
  have h4 := set_heap1 _ g _ _ 4 (.int .u64 t.set.d) h3
  rw [s8_4] at h4
  have h5 := set_heap1 _ g _ _ 5 (.int .i64 t.min) h4
  rw [s8_5] at h5
  have h6 := set_heap1 _ g _ _ 6 (.int .i64 t.max) h5
  rw [s8_6] at h6
  have h7 := set_heap1 _ g _ _ 7 v h6
  rw [s8_7] at h7
  exact h7
theorem touch_set8 (W : World) (g : Nat) (t : Tr) (v : Value) :
    W.grownBy ((((((((W.setCell ⟨g, 0, none⟩ (.int .i64 t.kind)).setCell ⟨g, 1, none⟩ (.int .u64 t.set.a)).setCell ⟨g, 2, none⟩ (.int .u64 t.set.b)).setCell ⟨g, 3, none⟩ (.int .u64 t.set.c)).setCell ⟨g, 4, none⟩ (.int .u64 t.set.d)).setCell ⟨g, 5, none⟩ (.int .i64 t.min)).setCell ⟨g, 6, none⟩ (.int .i64 t.max)).setCell ⟨g, 7, none⟩ v) (some g) :=
  touch_trans (touch_trans (touch_trans (touch_trans (touch_trans (touch_trans (touch_trans (touch_cell _ _ _ _) (touch_cell _ _ _ _)) (touch_cell _ _ _ _)) (touch_cell _ _ _ _)) (touch_cell _ _ _ _)) (touch_cell _ _ _ _)) (touch_cell _ _ _ _)) (touch_cell _ _ _ _)

def GrownIs (B : Nat) (l : List (Tr × Value)) (k : Int) (t : Tr) : Prop := ∀ v w, OwnK B w v l → Calls Tryd.prog 66 #[.int .i64 k, v] w fun e w' => ∃ tv, e = .returned (.agg #[.int .i64 t.kind, .int .u64 t.set.a, .int .u64 t.set.b, .int .u64 t.set.c, .int .u64 t.set.d, .int .i64 t.min, .int .i64 t.max, tv]) ∧ Is w' (fun b => B ≤ b) t tv ∧ Below w.heap.size w w'
set_option maxHeartbeats 1000000 in
set_option maxRecDepth 100000 in
theorem grown_any (B : Nat) (l : List (Tr × Value)) (k : Int) (t : Tr) (ht : t = grown k (l.map Prod.fst)) (hlen : l.length ≤ 1000000) : GrownIs B l k t := by
  intro v w hown
  have hz := box_new w Tr.zero (.slice none 0 0)
  by_cases h1 : l.length = 1
  · obtain ⟨x, rfl⟩ := List.length_eq_one_iff.1 h1
    have e : t = x.1 := by rw [ht]; rfl
    obtain ⟨g, cap, hv, hb, hlt, hc⟩ : ∃ g cap, v = .slice (some ⟨g, 0, none⟩) 1 cap ∧ 1 ≤ cap ∧ g < w.heap.size ∧ Cells w g 0 x.1 x.2 := by
      have hi := hown.is 0 none4 0 0
      obtain ⟨o, cap, b, off, vs, f1, f2, f3⟩ := hi.form
      rcases own_form hown with ⟨_, h2⟩ | ⟨g, cap2, h2, h3, h4⟩
      · cases h2
      · rcases hown.row.2 with ⟨r1, r2⟩ | ⟨g', cap', cur, r1, r2, r3, _⟩
        · simp at r2
        · have hcl := World.ownsRow.cells hown.row (g := g') (by rw [r1]; rfl)
          have hat : ∀ j u, (cells8 x)[j]? = some u → w.cell? ⟨g', 0 + j, none⟩ = some u := fun j u hu => by
            have := hcl j u (by show (cells8 x ++ cellsL [])[j]? = some u; rw [show cellsL [] = [] from rfl, List.append_nil]; exact hu)
            rw [addr_add] at this; exact this
          exact ⟨g', cap', r1, by rename_i hh; exact hh.1, (Array.getElem?_eq_some_iff.1 r3).1, hat 0 _ rfl, hat 1 _ rfl, hat 2 _ rfl, hat 3 _ rfl, hat 4 _ rfl, hat 5 _ rfl, hat 6 _ rfl, hat 7 _ rfl⟩
    subst hv
    subst e
    have hx := (hown.kids x (by simp)).weaken (fun b p => p.1)
    obtain ⟨xa, xn, xc, hxv⟩ := hx.shape
    rw [hxv] at hc hx
    have hc2 := hc.same ((below_alloc w (.cells #[.int .i64 0, .int .u64 0, .int .u64 0, .int .u64 0, .int .u64 0, .int .i64 0, .int .i64 0, .slice none 0 0] 28)).block g hlt)
    obtain ⟨c0, c1, c2, c3, c4, c5, c6, c7⟩ := hc2
    simp only [Nat.zero_add] at c0 c1 c2 c3 c4 c5 c6 c7
    clear ht hc hown
    go_enter Tryd.func66, Tryd.ntmps66
    go_wp2_with (fail)
    refine ret28 Tryd.results66 w.heap.size x.1 (.slice xa xn xc) rfl (box_new w x.1 _) rfl ?_
    exact ⟨_, rfl, hx.later (below_alloc _ _), below_alloc _ _⟩
  · have e : t = .node k none4 0 0 (l.map Prod.fst) := by rw [ht]; unfold grown; rw [if_neg (by simpa using h1)]
    have hi := hown.is k none4 0 0
    obtain ⟨a, cap, hv, hcap⟩ := hown.shape
    subst hv
    subst e
    have hne : ((l.length : Int) == 1) = false := by rw [beq_eq_false_iff_ne]; omega
    generalize l.length = n at *
    clear ht hown h1
    go_enter Tryd.func66, Tryd.ntmps66
    go_wp2_with (fail)
    refine ret28 Tryd.results66 w.heap.size (.node k none4 0 0 (l.map Prod.fst)) (.slice a n cap) rfl (box_new w (.node k none4 0 0 (l.map Prod.fst)) _) rfl ?_
    exact ⟨_, rfl, hi.later (below_alloc _ _), below_alloc _ _⟩
end Go.Proofs.YtfclidcfhadohaaDoor.st
