/-
  Contracts over this program: the document's Free (fretsawref07): 1 of the states that are reached over nothing.
-/
import Derived.Test.YthknhbmibmndoaaKNl
import Derived.Deep.LoopGhost
namespace Go.Proofs.Ythknhbmibmndoaa.nf
open Go.RowKit Go.Shelf
set_option linter.unusedVariables false
open df (Kp Owns Row iv In IntsV)

/-- marks 0 and 1 of n states -/
structure Mk (x : Nfa) (n : Nat) (P : Int → Prop) (M : List Int) : Prop where
  len : M.length = n
  two : ∀ i (h : i < M.length), M[i] = 0 ∨ M[i] = 1
  reach : ∀ i (h : i < M.length), M[i] = 1 → Reach x P (i : Int)
def zeros (M : List Int) : Nat := M.count 0
theorem zeros_set (M : List Int) (i : Nat) (h : i < M.length) (h0 : M[i] = 0) : zeros (M.set i 1) < zeros M := by
  unfold zeros
  rw [List.count_set h]
  have : 0 < M.count 0 := List.count_pos_iff.2 (h0 ▸ List.getElem_mem h)
  simp [h0]
  omega
theorem Mk.set {x : Nfa} {n : Nat} {P : Int → Prop} {M : List Int} (h : Mk x n P M) (i : Nat) (hr : Reach x P (i : Int)) : Mk x n P (M.set i 1) := by
  refine ⟨by rw [List.length_set]; exact h.len, fun j hj => ?_, fun j hj h1 => ?_⟩
  · rw [List.getElem_set]
    split
    · exact .inr rfl
    · exact h.two j (by simpa using hj)
  · rw [List.getElem_set] at h1
    split at h1
    · rename_i e; subst e; exact hr
    · exact h.reach j (by simpa using hj) h1
theorem set_mono {M : List Int} {i j : Nat} (hj : j < M.length) (h1 : M[j] = 1) : (M.set i 1)[j]'(by simpa using hj) = 1 := by
  rw [List.getElem_set]
  split
  · rfl
  · exact h1
/-- what the document's Free answers -/
structure IsMarks (x : Nfa) (n : Nat) (P : Int → Prop) (M : List Int) : Prop where
  base : Mk x n P M
  all : ∀ i (h : i < M.length), Reach x P (i : Int) → M[i] = 1

theorem marks_all {x : Nfa} {n : Nat} (R : Rt x n) {P : Int → Prop} {M : List Int} (h : Mk x n P M) (hP : ∀ t, P t → ∀ j (hj : j < M.length), t = (j : Int) → M[j] = 1) (hc : ∀ e ∈ x.edges, e.free = true → ∀ a b (ha : a < M.length) (hb : b < M.length), e.fr = (a : Int) → e.to = (b : Int) → M[a] = 1 → M[b] = 1) : IsMarks x n P M := by
  refine ⟨h, fun i hi hr => ?_⟩
  have key := hr.least (Q := fun t => ∀ j (hj : j < M.length), t = (j : Int) → M[j] = 1) hP (fun e he hf hq j hj ej => by
    have r1 := R.fr e he
    have hl := h.len
    exact hc e he hf e.fr.toNat j (by omega) hj (by omega) ej (hq e.fr.toNat (by omega) (by omega)))
  exact key i hi rfl
def MIs (x : Nfa) (n : Nat) (l : List Int) : Prop := ∀ o cap lo lcap w, Eds w o cap x.edges → Row (In w) w iv lo lcap l → Calls Try.prog 14 #[nfaV x.n x.s x.e o x.edges.length cap, .slice lo l.length lcap] w fun e w' => ∃ g M, e = .returned (.slice (some ⟨g, 0, none⟩) n n) ∧ IRow w' g M ∧ IsMarks x n (fun s => s ∈ l ∧ 0 ≤ s ∧ s < x.n) M ∧ w.heap.size ≤ g ∧ Below w.heap.size w w'
set_option maxHeartbeats 4000000 in
set_option maxRecDepth 100000 in
theorem marks_any (x : Nfa) (n : Nat) (R : Rt x n) (l : List Int) : MIs x n l := by
  intro o cap lo lcap w hE hL
  have hcap := hE.fit
  have htop := hE.top
  have hlf := hL.fit
  have hlt := hL.top
  have hx := R.hx
  have hn1 := R.n1
  have hn2 := R.n2
  have hm := R.m
  have mk := make25 n (by omega)
  have HR := (show Hid (Rt x n) from R)
  have HX := (show Hid (x.n = (n : Int)) from hx)
  rw [hx]
  have B1 := below_alloc w (.cells #[.int .i64 (n : Int), .int .i64 x.s, .int .i64 x.e, .slice o x.edges.length cap] 24)
  have b0 := box_new w (n : Int) x.s x.e o x.edges.length cap
  have HE := (show Hid (Eds w o cap x.edges) from hE)
  have HL := (show Hid (Row (In w) w iv lo lcap l) from hL)
  have g0 := irow_new (w.alloc (.cells #[.int .i64 (n : Int), .int .i64 x.s, .int .i64 x.e, .slice o x.edges.length cap] 24)) (List.replicate n 0)
  have b1 := b0.later (below_alloc _ (.cells (icells (List.replicate n 0)) 3))
  have B2 := chain B1 (below_alloc _ (.cells (icells (List.replicate n 0)) 3))
  rw [World.size_alloc] at g0
  have M0 : Mk x n (fun s => s ∈ l ∧ 0 ≤ s ∧ s < x.n) (List.replicate n 0) := ⟨by simp, fun i hi => .inl (by simp), fun i hi h => by simp at h⟩
  clear hE hL hx R
  go_enter Try.func14, Try.ntmps14
  go_wp2_with (fail)
  obtain ⟨w2, hw2⟩ : ∃ w2, w2 = (w.alloc (.cells #[.int .i64 (n : Int), .int .i64 x.s, .int .i64 x.e, .slice o x.edges.length cap] 24)).alloc (.cells (icells (List.replicate n 0)) 3) := ⟨_, rfl⟩
  rw [← hw2] at g0 b1 B2 ⊢
  clear hw2 b0 B1
  go_loopw [16] (fun y wr => ∃ (i : Nat) (M : List Int), y = .int .i64 i ∧ i ≤ l.length ∧ Hid (Mk x n (fun s => s ∈ l ∧ 0 ≤ s ∧ s < x.n) M) ∧ Hid (∀ j (h : j < M.length), (j : Int) ∈ l.take i → M[j] = 1) ∧ IRow wr (w.heap.size + 1) M ∧ Below w.heap.size w wr ∧ Box wr w.heap.size (n : Int) x.s x.e o x.edges.length cap) (fun y _ => l.length - (intOf y).toNat)
  case atStart => exact ⟨0, List.replicate n 0, rfl, by omega, M0, fun j h hj => by simp at hj, g0, B2, b1⟩
  case round =>
    obtain ⟨i, M, rfl, hi, HM, HT, hI, hB, hX⟩ := hrel
    clear g0 b1 B2 M0 mk
    have d0 := hX.c0
    have hml := HM.out.len
    by_cases hend : i < l.length
    · obtain ⟨b, off, rfl, hb, hc⟩ := HL.out.lie i hend
      have hc2 := (hB.cell (p := ⟨b, off + i, none⟩) hb).trans hc
      have hmem : l[i] ∈ l := List.getElem_mem hend
      have htk : l.take (i + 1) = l.take i ++ [l[i]] := List.take_succ_eq_append_getElem hend
      have HTK := (show Hid (l.take (i + 1) = l.take i ++ [l[i]]) from htk)
      have HMEM := (show Hid (l[i] ∈ l) from hmem)
      generalize l[i] = u at *
      clear hc htk hmem
      by_cases hu : 0 ≤ u ∧ u < (n : Int)
      · obtain ⟨k, rfl⟩ : ∃ k : Nat, u = (k : Int) := ⟨u.toNat, by omega⟩
        have hk : k < n := by omega
        have f1 : decide ((0 : Int) ≤ (k : Int)) = true := decide_eq_true (by omega)
        have f2 : decide ((k : Int) < (n : Int)) = true := decide_eq_true (by omega)
        have hkl : k < M.length := by omega
        have q1 := hI.cell k hkl
        have q2 := hI.fz k
        have HN : Hid (Mk x n (fun s => s ∈ l ∧ 0 ≤ s ∧ s < x.n) (M.set k 1)) := HM.out.set k (.base ⟨HMEM.out, by omega, by rw [HX.out]; omega⟩)
        have HT2 : Hid (∀ j (h : j < (M.set k 1).length), (j : Int) ∈ l.take (i + 1) → (M.set k 1)[j] = 1) := fun j h hj => by
          rw [HTK.out] at hj
          rcases List.mem_append.1 hj with h1 | h1
          · exact set_mono (by simpa using h) (HT.out j (by simpa using h) h1)
          · simp at h1
            have h2 : j = k := by omega
            subst h2
            rw [List.getElem_set, if_pos rfl]
        have hne : (w.heap.size : Nat) ≠ w.heap.size + 1 := by omega
        clear HT HM hu HTK HMEM
        generalize M[k]'_ = z at *
        go_wp2_with (fail)
        go_roundw
        case rel => exact ⟨i + 1, M.set k 1, by go_num, by omega, HN, HT2, hI.put k 1, hB.setCell (p := ⟨w.heap.size + 1, k, none⟩) (by show w.heap.size ≤ w.heap.size + 1; omega) _, (Below.heap_setCell _ _ _ _ (fun e => hne e)).trans hX⟩
        case measure => simp [intOf]; omega
      · have HT2 : Hid (∀ j (h : j < M.length), (j : Int) ∈ l.take (i + 1) → M[j] = 1) := fun j h hj => by
          rw [HTK.out] at hj
          rcases List.mem_append.1 hj with h1 | h1
          · exact HT.out j h h1
          · simp at h1
            omega
        by_cases h0 : 0 ≤ u
        · have f1 : decide ((0 : Int) ≤ u) = true := decide_eq_true h0
          have f2 : decide (u < (n : Int)) = false := decide_eq_false (by omega)
          clear hu h0 HT HTK HMEM
          go_wp2_with (fail)
          go_roundw
          case rel => exact ⟨i + 1, M, by go_num, by omega, HM, HT2, hI, hB, hX⟩
          case measure => simp [intOf]; omega
        · have f1 : decide ((0 : Int) ≤ u) = false := decide_eq_false h0
          clear hu h0 HT HTK HMEM
          go_wp2_with (fail)
          go_roundw
          case rel => exact ⟨i + 1, M, by go_num, by omega, HM, HT2, hI, hB, hX⟩
          case measure => simp [intOf]; omega
    · have HT2 : Hid (∀ j (h : j < M.length), (j : Int) ∈ l → M[j] = 1) := fun j h hj => HT.out j h (by rw [List.take_of_length_le (by omega)]; exact hj)
      clear HT
      go_wp2_with (fail)
      go_loopg [8] (zeros M + 1) (fun k y wr => ∃ (M' : List Int) (more : Bool), y = .bool more ∧ Hid (k = zeros M' + if more = true then 1 else 0) ∧ Hid (Mk x n (fun s => s ∈ l ∧ 0 ≤ s ∧ s < x.n) M') ∧ Hid (∀ j (h : j < M'.length), (j : Int) ∈ l → M'[j] = 1) ∧ Hid (more = false → ∀ e ∈ x.edges, e.free = true → ∀ a b (ha : a < M'.length) (hb : b < M'.length), e.fr = (a : Int) → e.to = (b : Int) → M'[a] = 1 → M'[b] = 1) ∧ IRow wr (w.heap.size + 1) M' ∧ Below w.heap.size w wr ∧ Box wr w.heap.size (n : Int) x.s x.e o x.edges.length cap)
      case atStart => exact ⟨M, true, rfl, rfl, HM, HT2, fun h => by (cases h), hI, hB, hX⟩
      case round =>
        obtain ⟨M1, more, rfl, HK, HM1, HT1, HCL, hI1, hB1, hX1⟩ := hrel
        cases more with
        | false =>
          have HA : Hid (IsMarks x n (fun s => s ∈ l ∧ 0 ≤ s ∧ s < x.n) M1) := marks_all HR.out HM1.out (fun t ht j hj ej => HT1.out j hj (by rw [← ej]; exact ht.1)) (HCL.out rfl)
          clear HCL HK HT1 HM1 HT2 HM hI
          go_wp2_with (fail)
          go_ret
          exact ⟨w.heap.size + 1, M1, rfl, hI1, by have := HA.out; rw [HX.out] at this; exact this, by omega, hB1⟩
        | true =>
          have e3 := hX1.c3
          clear HCL HT2 HM hI hB hX d0 hml
          go_wp2_with (fail)
          go_loopw [8, 36] (fun y z wr => ∃ (i : Nat) (M2 : List Int) (ch : Bool), y = .bool ch ∧ z = .int .i64 i ∧ i ≤ x.edges.length ∧ Hid (Mk x n (fun s => s ∈ l ∧ 0 ≤ s ∧ s < x.n) M2) ∧ Hid (∀ j (h : j < M2.length), (j : Int) ∈ l → M2[j] = 1) ∧ Hid (ch = true → zeros M2 < zeros M1) ∧ Hid (ch = false → M2 = M1 ∧ ∀ e ∈ x.edges.take i, e.free = true → ∀ a b (ha : a < M2.length) (hb : b < M2.length), e.fr = (a : Int) → e.to = (b : Int) → M2[a] = 1 → M2[b] = 1) ∧ Hid (zeros M2 ≤ zeros M1) ∧ IRow wr (w.heap.size + 1) M2 ∧ Below w.heap.size w wr ∧ Box wr w.heap.size (n : Int) x.s x.e o x.edges.length cap) (fun _ z _ => x.edges.length - (intOf z).toNat)
          case atStart => exact ⟨0, M1, false, rfl, rfl, by omega, HM1, HT1, fun h => (by cases h), fun _ => ⟨rfl, by simp⟩, Nat.le_refl _, hI1, hB1, hX1⟩
          case round =>
            obtain ⟨i, M2, ch, rfl, rfl, hi2, HM2, HT2, HC1, HC2, HZ, hI2, hB2, hX2⟩ := hrel
            clear hI1 hB1 hX1 e3
            by_cases hend2 : i < x.edges.length
            · obtain ⟨b, off, rfl, hb, hed⟩ := HE.out.lie i hend2
              have hed2 := hed.same (hB2.block b hb)
              obtain ⟨c0, c1, c2, c3, c4, c5, c6⟩ := hed2
              have hin : x.edges[i] ∈ x.edges := List.getElem_mem hend2
              have hfr := HR.out.fr _ hin
              have hto := HR.out.to _ hin
              have htk : x.edges.take (i + 1) = x.edges.take i ++ [x.edges[i]] := List.take_succ_eq_append_getElem hend2
              have HTK := (show Hid _ from htk)
              have HIN := (show Hid _ from hin)
              generalize x.edges[i] = y at *
              obtain ⟨p, hp⟩ : ∃ p : Nat, y.fr = (p : Int) := ⟨y.fr.toNat, by omega⟩
              obtain ⟨q, hq⟩ : ∃ q : Nat, y.to = (q : Int) := ⟨y.to.toNat, by omega⟩
              have HP := (show Hid (y.fr = (p : Int)) from hp)
              have HQ := (show Hid (y.to = (q : Int)) from hq)
              rw [hp] at c0
              rw [hq] at c1
              have hpn : p < n := by omega
              have hqn : q < n := by omega
              have hml2 := HM2.out.len
              have hpl : p < M2.length := by omega
              have hql : q < M2.length := by omega
              have A := hI2.alloc (.cells #[.int .i64 (p : Int), .int .i64 (q : Int), .bool y.free, .int .u64 y.a, .int .u64 y.b, .int .u64 y.c, .int .u64 y.d] 62)
              have BB := chain hB2 (below_alloc wr (.cells #[.int .i64 (p : Int), .int .i64 (q : Int), .bool y.free, .int .u64 y.a, .int .u64 y.b, .int .u64 y.c, .int .u64 y.d] 62))
              have XX := hX2.later (below_alloc wr (.cells #[.int .i64 (p : Int), .int .i64 (q : Int), .bool y.free, .int .u64 y.a, .int .u64 y.b, .int .u64 y.c, .int .u64 y.d] 62))
              have q1 := A.cell p hpl
              have q2 := A.cell q hql
              have q3 := A.fz q
              have t1 := HM2.out.two p hpl
              have t2 := HM2.out.two q hql
              have HRE : Hid (y.free = true → M2[p] = 1 → Reach x (fun s => s ∈ l ∧ 0 ≤ s ∧ s < x.n) (q : Int)) := fun hf h1 => by
                have := Reach.step (e := y) (by rw [HP.out]; exact HM2.out.reach p hpl h1) HIN.out hf
                rw [HQ.out] at this
                exact this
              have HST : Hid (M2[q] = 0 → zeros (M2.set q 1) < zeros M2) := zeros_set M2 q hql
              have HSM : Hid (y.free = true → M2[p] = 1 → Mk x n (fun s => s ∈ l ∧ 0 ≤ s ∧ s < x.n) (M2.set q 1)) := fun hf h1 => HM2.out.set q (HRE.out hf h1)
              have HSB : Hid (∀ j (h : j < (M2.set q 1).length), (j : Int) ∈ l → (M2.set q 1)[j] = 1) := fun j h hj => set_mono (by simpa using h) (HT2.out j (by simpa using h) hj)
              have HCN : Hid ((y.free = true → M2[p] = 1 → M2[q] = 1) → ch = false → M2 = M1 ∧ ∀ e ∈ x.edges.take (i + 1), e.free = true → ∀ a b (ha : a < M2.length) (hb : b < M2.length), e.fr = (a : Int) → e.to = (b : Int) → M2[a] = 1 → M2[b] = 1) := fun hh hc => by
                obtain ⟨e1, e2⟩ := HC2.out hc
                refine ⟨e1, fun e he hf a b ha hb h1 h2 h3 => ?_⟩
                rw [HTK.out] at he
                rcases List.mem_append.1 he with h4 | h4
                · exact e2 e h4 hf a b ha hb h1 h2 h3
                · simp at h4
                  subst h4
                  have ea : a = p := by have := HP.out; omega
                  have eb : b = q := by have := HQ.out; omega
                  subst ea eb
                  exact hh hf h3
              clear hed hp hq hfr hto hin htk HC2 HTK HRE
              have HZ2 := HZ
              cases hf : y.free with
              | false =>
                have HG : Hid (ch = false → M2 = M1 ∧ ∀ e ∈ x.edges.take (i + 1), e.free = true → ∀ a b (ha : a < M2.length) (hb : b < M2.length), e.fr = (a : Int) → e.to = (b : Int) → M2[a] = 1 → M2[b] = 1) := HCN.out (fun h => by rw [hf] at h; cases h)
                rw [hf] at c2 A BB XX q1 q2 q3
                have HA := (show Hid _ from A)
                have HBB := (show Hid _ from BB)
                have HXX := (show Hid _ from XX)
                clear HCN HST HSM HSB t1 t2 hf A BB XX
                go_wp2_with (fail)
                go_roundw
                case rel => exact ⟨i + 1, M2, ch, rfl, by go_num, by omega, HM2, HT2, HC1, HG, HZ, HA.out, HBB.out, HXX.out⟩
                case measure => simp [intOf]; omega
              | true =>
                rw [hf] at c2 A BB XX q1 q2 q3 HSM HCN
                have HA := (show Hid _ from A)
                have HBB := (show Hid _ from BB)
                have HXX := (show Hid _ from XX)
                rcases t1 with t1 | t1
                · have HG : Hid (ch = false → M2 = M1 ∧ ∀ e ∈ x.edges.take (i + 1), e.free = true → ∀ a b (ha : a < M2.length) (hb : b < M2.length), e.fr = (a : Int) → e.to = (b : Int) → M2[a] = 1 → M2[b] = 1) := HCN.out (fun _ h => by rw [t1] at h; cases h)
                  rw [t1] at q1
                  clear HCN HST HSM HSB t1 t2 hf A BB XX
                  go_wp2_with (fail)
                  go_roundw
                  case rel => exact ⟨i + 1, M2, ch, rfl, by go_num, by omega, HM2, HT2, HC1, HG, HZ, HA.out, HBB.out, HXX.out⟩
                  case measure => simp [intOf]; omega
                · rcases t2 with t2 | t2
                  · have HN : Hid (Mk x n (fun s => s ∈ l ∧ 0 ≤ s ∧ s < x.n) (M2.set q 1)) := HSM.out rfl t1
                    have HLT : Hid (zeros (M2.set q 1) < zeros M1) := Nat.lt_of_lt_of_le (HST.out t2) HZ.out
                    rw [t1] at q1
                    rw [t2] at q2
                    have hne : (w.heap.size : Nat) ≠ w.heap.size + 1 := by omega
                    clear HCN HST HSM t1 t2 hf A BB XX
                    go_wp2_with (fail)
                    go_roundw
                    case rel => exact ⟨i + 1, M2.set q 1, true, rfl, by go_num, by omega, HN, HSB, fun _ => HLT.out, fun h => (by cases h), Nat.le_of_lt HLT.out, IRow.put HA.out q 1, HBB.out.setCell (p := ⟨w.heap.size + 1, q, none⟩) (by show w.heap.size ≤ w.heap.size + 1; omega) _, (Below.heap_setCell _ _ _ _ (fun e => hne e)).trans HXX.out⟩
                    case measure => simp [intOf]; omega
                  · have HG : Hid (ch = false → M2 = M1 ∧ ∀ e ∈ x.edges.take (i + 1), e.free = true → ∀ a b (ha : a < M2.length) (hb : b < M2.length), e.fr = (a : Int) → e.to = (b : Int) → M2[a] = 1 → M2[b] = 1) := HCN.out (fun _ _ => t2)
                    rw [t1] at q1
                    rw [t2] at q2
                    clear HCN HST HSM HSB t1 t2 hf A BB XX
                    go_wp2_with (fail)
                    go_roundw
                    case rel => exact ⟨i + 1, M2, ch, rfl, by go_num, by omega, HM2, HT2, HC1, HG, HZ, HA.out, HBB.out, HXX.out⟩
                    case measure => simp [intOf]; omega
            · have HCF : Hid (ch = false → ∀ e ∈ x.edges, e.free = true → ∀ a b (ha : a < M2.length) (hb : b < M2.length), e.fr = (a : Int) → e.to = (b : Int) → M2[a] = 1 → M2[b] = 1) := fun h => by
                have := (HC2.out h).2
                rw [List.take_of_length_le (by omega)] at this
                exact this
              have HLT : Hid (zeros M2 + (if ch = true then 1 else 0) < gk) := by
                show _ < _
                rw [HK.out]
                cases ch with
                | true => have := HC1.out rfl; simp; omega
                | false => rw [(HC2.out rfl).1]; simp
              clear HC1 HC2 HZ HK
              go_wp2_with (fail)
              go_roundg (zeros M2 + (if ch = true then 1 else 0))
              case rel => exact ⟨M2, ch, rfl, rfl, HM2, HT2, HCF, hI2, hB2, hX2⟩
              case measure => exact HLT.out
end Go.Proofs.Ythknhbmibmndoaa.nf
