/-
  Contracts over this program: what a text is read as, as the document says (fretsawref04's Get).
-/
import Derived.Test.YtjnjjbacfodacaaGet
namespace Go.Proofs.Ytjnjjbacfodacaa.pk
open Go.ChangeShapes Go.WideShapes Go.ChangeAt Go.RowKit
set_option linter.unusedVariables false

def RGetsIs (s : ByteArray) (ls : List Sec) (e : Nat) : Prop := ∀ w, Calls Try.prog 13 #[.string s] w fun r w' => ∃ v, r = .returned (.tuple #[v, .int .i64 e]) ∧ Secs w' v ls ∧ Below w.heap.size w w'

theorem rgets_short (s : ByteArray) (h : s.size < 9) : RGetsIs s [] 20 := by
  intro w
  go_enter Try.func13, Try.ntmps13
  go_wp2
  go_ret2
  exact ⟨_, rfl, secs_none _, Below.refl _ _⟩

theorem rgets_magic (s : ByteArray) (h9 : 9 ≤ s.size) (hs : s.size ≤ 140737488351232) (h : s.extract 0 5 ≠ mark) : RGetsIs s [] 40 := by
  intro w
  have hu : ((s.extract 0 5).toList == [70, 83, 65, 87, 1]) = false := by
    have := crc.unlike h
    rwa [mark_toList] at this
  clear h
  go_enter Try.func13, Try.ntmps13
  go_wp2
  go_ret2
  exact ⟨_, rfl, secs_none _, Below.refl _ _⟩

/-- a text that begins with the mark -/
theorem not_magic (s : ByteArray) (h : s.extract 0 5 = mark) : ((s.extract 0 5).toList == [70, 83, 65, 87, 1]) = true := by
  rw [h, mark_toList]
  simp

set_option maxRecDepth 100000 in
theorem rgets_sum (s : ByteArray) (h9 : 9 ≤ s.size) (hs : s.size ≤ 140737488351232) (hm : s.extract 0 5 = mark) (k : Nat) (hk : k = s.size - 4) (h : s.extract k s.size ≠ seal4 (s.extract 0 k)) : RGetsIs s [] 41 := by
  intro w
  have hm2 := not_magic s hm
  have hlen : (s.size : Int) - 4 = (k : Int) := by omega
  have hle : k ≤ s.size := by omega
  have hez : (s.extract 0 k).size ≤ 140737488351232 := by rw [ByteArray.size_extract]; omega
  obtain ⟨n, hn⟩ : ∃ n, n = crc.crc 0 (s.extract 0 k) := ⟨_, rfl⟩
  have p24 := crc.rof_is (s.extract 0 k) n (by omega) hn
  have p23 := num.rputFour_is n (by rw [hn]; exact crc.crc_lt 0 _) (seal4 (s.extract 0 k)) (by
    rw [seal4_list, hn]
    rfl)
  have hu : ((seal4 (s.extract 0 k)).toList == (s.extract k s.size).toList) = false := crc.unlike (Ne.symm h)
  generalize seal4 (s.extract 0 k) = f at *
  clear hn h hk hez hm
  go_enter Try.func13, Try.ntmps13
  go_wp2
  go_region_held3 (fun _ => True) (trivial) (first | (go_at_call 24; refine (p24 _).mono ?_; rintro e w1 ⟨rfl, rfl⟩) | (go_at_call 23; refine (p23 _).mono ?_; rintro e w2 ⟨rfl, b2⟩))
  go_wp2
  go_ret2
  exact ⟨_, rfl, secs_none _, chain2 ((Below.refl _ _).drew) b2⟩

/-- what the walk needs of a text whose mark and sum fit -/
structure Good (s u f : ByteArray) (k n4 : Nat) : Prop where
  nine : 9 ≤ s.size
  most : s.size ≤ 140737488351232
  mag : ((s.extract 0 5).toList == [70, 83, 65, 87, 1]) = true
  len : (s.size : Int) - 4 = (k : Int)
  le : k ≤ s.size
  cut : s.extract 0 k = u
  size : u.size = k
  sum : crc.ROfIs u n4
  four : num.RPutFourIs n4 f
  fits : (f.toList == (s.extract k s.size).toList) = true

theorem good_of (s : ByteArray) (h9 : 9 ≤ s.size) (hs : s.size ≤ 140737488351232) (hm : s.extract 0 5 = mark) (h : s.extract (s.size - 4) s.size = seal4 (s.extract 0 (s.size - 4))) : Good s (s.extract 0 (s.size - 4)) (seal4 (s.extract 0 (s.size - 4))) (s.size - 4) (crc.crc 0 (s.extract 0 (s.size - 4))) := by
  have hz : (s.extract 0 (s.size - 4)).size = s.size - 4 := by rw [ByteArray.size_extract]; omega
  exact ⟨h9, hs, not_magic s hm, by omega, by omega, rfl, hz, crc.rof_is _ _ (by omega) rfl, num.rputFour_is _ (crc.crc_lt 0 _) _ (by rw [seal4_list]; rfl), by rw [h]; simp⟩

set_option maxRecDepth 100000 in
theorem rgets_num (s u f : ByteArray) (k n4 : Nat) (h : Good s u f k n4) (n q e : Nat) (he : e ≠ 0) (p30 : num.RGetIs u 5 n q e) : RGetsIs s [] e := by
  intro w
  obtain ⟨h9, hs, hm, hlen, hle, hcut, hsz, p24, p23, hfit⟩ := h
  have hne : ((e : Int) != 0) = true := by rw [bne_iff_ne]; omega
  go_enter Try.func13, Try.ntmps13
  go_wp2
  go_region_held3 (fun _ => True) (trivial) (first | (go_at_call 24; refine (p24 _).mono ?_; rintro e w1 ⟨rfl, rfl⟩) | (go_at_call 23; refine (p23 _).mono ?_; rintro e w2 ⟨rfl, b2⟩))
  go_wp2_with (go_at_call 30; refine (p30 _).mono ?_; rintro e w3 ⟨rfl, b3⟩)
  go_ret2
  exact ⟨_, rfl, secs_none _, chain2 (chain2 ((Below.refl _ _).drew) b2) b3⟩

set_option maxRecDepth 100000 in
theorem rgets_many (s u f : ByteArray) (k n4 : Nat) (h : Good s u f k n4) (n q : Nat) (hn : 64 < n) (p30 : num.RGetIs u 5 n q 0) : RGetsIs s [] 2 := by
  intro w
  obtain ⟨h9, hs, hm, hlen, hle, hcut, hsz, p24, p23, hfit⟩ := h
  go_enter Try.func13, Try.ntmps13
  go_wp2
  go_region_held3 (fun _ => True) (trivial) (first | (go_at_call 24; refine (p24 _).mono ?_; rintro e w1 ⟨rfl, rfl⟩) | (go_at_call 23; refine (p23 _).mono ?_; rintro e w2 ⟨rfl, b2⟩))
  go_wp2_with (go_at_call 30; refine (p30 _).mono ?_; rintro e w3 ⟨rfl, b3⟩)
  go_ret2
  exact ⟨_, rfl, secs_none _, chain2 (chain2 ((Below.refl _ _).drew) b2) b3⟩

/-- what is told of all that was read -/
def fin (u : ByteArray) (R : List Sec × Nat × Nat) : List Sec × Nat :=
  if R.2.2 ≠ 0 then ([], R.2.2) else if R.2.1 ≠ u.size then ([], 21) else if 8388608 < total R.1 then ([], 2) else (R.1, 0)

theorem own_empty (w : World) (B : Nat) (h : B ≤ w.heap.size) : Own B (w.alloc (.cells #[] 40)) (.slice (some ⟨w.heap.size, 0, none⟩) 0 0) [] := World.ownsRow_made w #[] 0 h (Nat.zero_le _) rfl

theorem total_bound (l : List Sec) (h : ∀ x ∈ l, x.body.size ≤ 8388608) : total l ≤ 8388608 * l.length := by
  induction l with
  | nil => simp [total]
  | cons x l ih =>
    have h1 := h x (by simp)
    have h2 := ih (fun y hy => h y (by simp [hy]))
    rw [total, List.length_cons]
    omega

/-- a section behind what the call owns -/
theorem wpList_own {ops : Array Oper} {rest : List Oper} {o : Oper} {a : Act} {Q : Exit → Act → World → Prop} (w : World) (hgd : o.guard = none) (s x : Operand) (ho : o.op = .call { callee := .builtin .append, args := #[s, x], argTypes := #[22, 22] })
    (B : Nat) (v : Value) (l : List Sec) (y : Sec) (hs : a.eval s = v) (hown : Own B w v l) (ad : Addr) (hx : a.eval x = .slice (some ad) 1 1)
    (hnews : ∀ j u, [Value.int .u64 y.kind, .string y.body][j]? = some u → w.cell? (ad.add j) = some u) (hlen : l.length ≤ 1000000) (hB : B ≤ w.heap.size)
    (h : ∀ v' w', Own B w' v' (l ++ [y]) → w.grownBy w' v.ownBlock → wpList Try.prog ops Q rest (a.put o.dst v') w') : wpList Try.prog ops Q (o :: rest) a w := by
  obtain ⟨i0, hi, hz0, hz1, hz2⟩ := info_parts info40
  refine wpList_append_own w hgd s x 22 ho B 40 i0 _ 2 24 Try.underlying22 hi hz0 hz1 hz2 rfl (by decide) v l.length (cellsOf l) hs hown ad 1 1 [.int .u64 y.kind, .string y.body] hx rfl hnews (by intro u hu; simp at hu; rcases hu with rfl | rfl <;> rfl) (by unfold maxLen; omega) (by omega) hB ?_
  intro v' w' h1 h2 _
  refine h v' w' ?_ h2
  unfold Own
  rw [cellsOf_append, List.length_append]
  exact h1

theorem Own.last {B : Nat} {w : World} {v : Value} {l : List Sec} (h : Own B w v l) (j : Nat) (hj : l.length = j + 1) : ∃ b cap, v = .slice (some ⟨b, 0, none⟩) (j + 1) cap ∧ b < w.heap.size ∧ B ≤ b ∧ w.cell? ⟨b, j * 2, none⟩ = some (.int .u64 (nth l j).kind) ∧ lastKind l = some (nth l j).kind := by
  have hs := h.secs
  rcases h.2 with ⟨rfl, h0⟩ | ⟨g, cap, cur, rfl, hb, hg, _⟩
  · omega
  · rcases hs with ⟨rfl, _⟩ | ⟨b, off, cap', hv, _, _, hlt, hc⟩
    · simp at hj
    · simp only [Value.slice.injEq, Option.some.injEq, Addr.mk.injEq, and_true, true_and] at hv
      obtain ⟨⟨rfl, rfl⟩, rfl⟩ := hv
      have h1 := (hc j (by omega)).1
      rw [Nat.zero_add] at h1
      refine ⟨g, cap, by rw [hj], hlt, hb, h1, ?_⟩
      rw [last_nth l (by omega), hj, Nat.add_sub_cancel]
theorem Own.later {B : Nat} {w w' : World} {v : Value} {l : List Sec} (h : Own B w v l) (b : Below w.heap.size w w') : Own B w' v l := World.ownsRow.kept (row := none) h (touch_below none b) (by cases v.ownBlock <;> simp)

theorem alloc_le2 (w : World) (o : Obj) (B : Nat) (h : B ≤ w.heap.size) : B ≤ (w.alloc o).heap.size := by simp; omega

set_option maxHeartbeats 4000000 in
set_option maxRecDepth 100000 in
theorem rgets_main (s u f : ByteArray) (k n4 : Nat) (h : Good s u f k n4) (n q : Nat) (hn : n ≤ 64) (p30 : num.RGetIs u 5 n q 0) (hq : q ≤ u.size) (ls : List Sec) (er : Nat) (hfin : fin u (jn [] (rdS u n none q)) = (ls, er)) : RGetsIs s ls er := by
  intro w
  obtain ⟨h9, hs, hm, hlen, hle, hcut, hsz, p24, p23, hfit⟩ := h
  obtain ⟨R, hR⟩ : ∃ R, jn [] (rdS u n none q) = R := ⟨_, rfl⟩
  rw [hR] at hfin
  have HF : Hid (fin u R = (ls, er)) := hfin
  have HR : Hid (jn [] (rdS u n none q) = R) := hR
  have hconv : IntKind.i64.wrap (n : Int) = (n : Int) := IntWalk.i64_in _ ⟨by omega, by omega⟩
  clear hR hfin
  go_enter Try.func13, Try.ntmps13
  go_wp2
  go_region_held3 (fun _ => True) (trivial) (first | (go_at_call 24; refine (p24 _).mono ?_; rintro e w1 ⟨rfl, rfl⟩) | (go_at_call 23; refine (p23 _).mono ?_; rintro e w2 ⟨rfl, b2⟩))
  go_wp2_with (go_at_call 30; refine (p30 _).mono ?_; rintro e w3 ⟨rfl, b3⟩)
  have hB0 : Below w.heap.size w (w3.alloc (.cells #[] 40)) := (chain2 (chain2 ((Below.refl _ _).drew) b2) b3).alloc (Nat.le_trans b2.size b3.size) _
  have hO0 := own_empty w3 w.heap.size (Nat.le_trans b2.size b3.size)
  clear p23 p24 p30 hfit hm b2 b3 hconv
  go_loopw [6, 8, 9, 10] (fun a v z i wr => ∃ (p j t : Nat) (acc : List Sec), a = .int .i64 p ∧ z = .int .i64 t ∧ i = .int .i64 j ∧ p ≤ u.size ∧ j ≤ n ∧ t ≤ 536870912 ∧ Own w.heap.size wr v acc ∧ Below w.heap.size w wr ∧ Hid (acc.length = j ∧ total acc = t) ∧ Hid (∀ x ∈ acc, x.body.size ≤ 8388608) ∧ Hid (jn acc (rdS u (n - j) (lastKind acc) p) = R)) (fun _ _ _ i _ => n - (intOf i).toNat)
  case atStart => exact ⟨q, 0, 0, [], rfl, rfl, rfl, hq, by omega, by omega, hO0, hB0, ⟨rfl, rfl⟩, by intro x hx; simp at hx, HR⟩
  case round =>
    clear hB0 hO0 HR
    rename_i v _
    obtain ⟨p, j, t, acc, rfl, rfl, rfl, hp, hj, ht, hown, hB, HL, HB, HJ⟩ := hrel
    have hconv : IntKind.i64.wrap (n : Int) = (n : Int) := IntWalk.i64_in _ ⟨by omega, by omega⟩
    by_cases hend : j < n
    · obtain ⟨kd, q2, e2, hg⟩ : ∃ kd q2 e2, num.gets u.data.toList p = (kd, q2, e2) := ⟨_, _, _, rfl⟩
      have hb := num.gets_bounds hg (by rw [num.size_list]; exact hp)
      rw [num.size_list] at hb
      have p30 := num.rget_in u p (by omega) hp kd q2 e2 hg
      have em : n - j = (n - (j + 1)) + 1 := by omega
      have HJ2 : Hid (jn acc (rdS u ((n - (j + 1)) + 1) (lastKind acc) p) = R) := by
        show _ = _
        rw [← em]; exact HJ.out
      clear HJ em
      by_cases h0 : e2 = 0
      · subst h0
        have hq2 : q2 ≤ u.size := by rcases hb.2 with h1 | h1 <;> omega
        obtain ⟨tx, r2, f2, hT⟩ : ∃ tx r2 f2, getT u q2 = (tx, r2, f2) := ⟨_, _, _, rfl⟩
        have hTB := text_both u q2 (by omega) hq2 tx r2 f2 hT
        have p31 := hTB.2.1
        have hlen : acc.length ≤ 1000000 := by have := HL.out.1; omega
        have HTX : Hid ((f2 = 0 ∧ r2 ≤ u.size ∧ tx.size ≤ 8388608) ∨ f2 ≠ 0) := by
          rcases hTB.2.2 with ⟨h1, _, h2, h3, _⟩ | ⟨h1, _⟩
          · exact .inl ⟨h1, h2, h3⟩
          · exact .inr (by omega)
        have HTE : Hid (over (lastKind acc) kd = true → f2 ≠ 0 → ls = [] ∧ er = f2) := by
          intro hov hf
          have h1 := HJ2.out
          rw [jn_text hg hov hT hf] at h1
          have h2 := HF.out
          rw [← h1] at h2
          simp only [fin, ne_eq, hf, not_false_eq_true, if_true, Prod.mk.injEq] at h2
          exact ⟨h2.1.symm, h2.2.symm⟩
        have HTK : Hid (over (lastKind acc) kd = true → f2 = 0 → jn (acc ++ [(⟨kd, tx⟩ : Sec)]) (rdS u (n - (j + 1)) (lastKind (acc ++ [(⟨kd, tx⟩ : Sec)])) r2) = R) := by
          intro hov hf
          subst hf
          rw [last_append, ← jn_ok hg hov hT]
          exact HJ2.out
        have HTN : Hid (over (lastKind acc) kd = false → ls = [] ∧ er = 21) := by
          intro hov
          have h1 := HJ2.out
          rw [jn_kind hg hov] at h1
          have h2 := HF.out
          rw [← h1, show fin u ([], 0, 21) = ([], 21) from by simp [fin]] at h2
          simp only [Prod.mk.injEq] at h2
          exact ⟨h2.1.symm, h2.2.symm⟩
        have HNL : Hid (tx.size ≤ 8388608 → (acc ++ [(⟨kd, tx⟩ : Sec)]).length = j + 1 ∧ total (acc ++ [(⟨kd, tx⟩ : Sec)]) = t + tx.size ∧ t + tx.size ≤ 536870912 ∧ ∀ x ∈ acc ++ [(⟨kd, tx⟩ : Sec)], x.body.size ≤ 8388608) := by
          intro htx
          have hall : ∀ x ∈ acc ++ [(⟨kd, tx⟩ : Sec)], x.body.size ≤ 8388608 := by
            intro x hx
            rcases List.mem_append.1 hx with hx | hx
            · exact HB.out x hx
            · simp at hx; subst hx; exact htx
          have h1 : (acc ++ [(⟨kd, tx⟩ : Sec)]).length = j + 1 := by rw [List.length_append, HL.out.1]; rfl
          have h2 : total (acc ++ [(⟨kd, tx⟩ : Sec)]) = t + tx.size := by rw [total_append, HL.out.2]; rfl
          have h3 := total_bound _ hall
          exact ⟨h1, h2, by omega, hall⟩
        have HLK : Hid (acc.length = j) := HL.out.1
        clear HJ2 HL HB hb hg hT hTB hq2 HF
        by_cases hj0 : j ≤ 0
        · have hov : over (lastKind acc) kd = true := by
            have : acc = [] := List.eq_nil_of_length_eq_zero (by have := HLK.out; omega)
            rw [this]; rfl
          by_cases hf : f2 = 0
          · have hx : r2 ≤ u.size ∧ tx.size ≤ 8388608 := by rcases HTX.out with h1 | h1; exact h1.2; exact absurd hf h1
            have HK := HTK.out hov hf
            have HK2 : Hid (jn (acc ++ [(⟨kd, tx⟩ : Sec)]) (rdS u (n - (j + 1)) (lastKind (acc ++ [(⟨kd, tx⟩ : Sec)])) r2) = R) := HK
            have hnl := HNL.out hx.2
            have HN1 : Hid ((acc ++ [(⟨kd, tx⟩ : Sec)]).length = j + 1 ∧ total (acc ++ [(⟨kd, tx⟩ : Sec)]) = t + tx.size) := ⟨hnl.1, hnl.2.1⟩
            have HN2 : Hid (∀ x ∈ acc ++ [(⟨kd, tx⟩ : Sec)], x.body.size ≤ 8388608) := hnl.2.2.2
            have ht2 := hnl.2.2.1
            have hx1 := hx.1
            subst hf
            clear HTX HTE HTK HTN HNL HLK hov HK hnl hx
            go_wp2_with (first | (go_at_call 30; refine (p30 _).mono ?_; rintro e w4 ⟨rfl, b4⟩) | (go_at_call 31; refine (p31 _).mono ?_; rintro e w5 ⟨rfl, b5⟩; have o5 := ((hown.later b4).later b5).alloc (.cells #[.int .u64 kd, .string tx] 40); have hs5 := alloc_le2 w5 (.cells #[.int .u64 kd, .string tx] 40) _ (Nat.le_trans hB.size (Nat.le_trans b4.size b5.size))) | (at_builtin; refine wpList_own _ rfl (.tmp 92) (.tmp 96) rfl w.heap.size _ acc ⟨kd, tx⟩ rfl o5 ⟨w5.heap.size, 0, none⟩ rfl (two_cells w5 ⟨kd, tx⟩ _ rfl) hlen hs5 ?_; intro v6 w6 o6 g6))
            go_roundw
            case rel => exact ⟨r2, j + 1, t + tx.size, _, rfl, by go_num, by go_num, hx1, by omega, ht2, o6, ((chain2 (chain2 hB b4) b5).alloc (Nat.le_trans hB.size (Nat.le_trans b4.size b5.size)) _).grown g6 hs5 o5.row, HN1, HN2, HK2⟩
            case measure => simp [intOf]; omega
          · have HE : Hid (ls = [] ∧ er = f2) := HTE.out hov hf
            have hne : ((f2 : Int) != 0) = true := by rw [bne_iff_ne]; omega
            clear HTX HTE HTK HTN HNL HLK hov
            go_wp2_with (first | (go_at_call 30; refine (p30 _).mono ?_; rintro e w4 ⟨rfl, b4⟩) | (go_at_call 31; refine (p31 _).mono ?_; rintro e w5 ⟨rfl, b5⟩))
            go_ret2
            exact ⟨_, by rw [HE.out.2]; rfl, by rw [HE.out.1]; exact secs_none _, chain2 (chain2 hB b4) b5⟩
        · obtain ⟨jj, rfl⟩ : ∃ jj, j = jj + 1 := ⟨j - 1, by omega⟩
          obtain ⟨b, cap, rfl, hblt, hbB, hcl, hlast⟩ := hown.last jj HLK.out
          have hkw : IntKind.i64.wrap (jj : Int) = (jj : Int) := IntWalk.i64_in _ ⟨by omega, by omega⟩
          generalize nth acc jj = y at *
          by_cases hlt2 : y.kind < kd
          · have hov : over (lastKind acc) kd = true := by rw [hlast]; exact decide_eq_true hlt2
            by_cases hf : f2 = 0
            · have hx : r2 ≤ u.size ∧ tx.size ≤ 8388608 := by rcases HTX.out with h1 | h1; exact h1.2; exact absurd hf h1
              have HK2 : Hid (jn (acc ++ [(⟨kd, tx⟩ : Sec)]) (rdS u (n - (jj + 1 + 1)) (lastKind (acc ++ [(⟨kd, tx⟩ : Sec)])) r2) = R) := HTK.out hov hf
              have hnl := HNL.out hx.2
              have HN1 : Hid ((acc ++ [(⟨kd, tx⟩ : Sec)]).length = jj + 1 + 1 ∧ total (acc ++ [(⟨kd, tx⟩ : Sec)]) = t + tx.size) := ⟨hnl.1, hnl.2.1⟩
              have HN2 : Hid (∀ x ∈ acc ++ [(⟨kd, tx⟩ : Sec)], x.body.size ≤ 8388608) := hnl.2.2.2
              have ht2 := hnl.2.2.1
              have hx1 := hx.1
              subst hf
              clear HTX HTE HTK HTN HNL HLK hov hnl hx hlast
              go_wp2_with (first | (go_at_call 30; refine (p30 _).mono ?_; rintro e w4 ⟨rfl, b4⟩; have hcl4 : w4.cell? ⟨b, jj * 2, none⟩ = some (.int .u64 y.kind) := (b4.cell (p := ⟨b, jj * 2, none⟩) hblt).trans hcl) | (go_at_call 31; refine (p31 _).mono ?_; rintro e w5 ⟨rfl, b5⟩; have o5 := ((hown.later b4).later b5).alloc (.cells #[.int .u64 kd, .string tx] 40); have hs5 := alloc_le2 w5 (.cells #[.int .u64 kd, .string tx] 40) _ (Nat.le_trans hB.size (Nat.le_trans b4.size b5.size))) | (at_builtin; refine wpList_own _ rfl (.tmp 92) (.tmp 96) rfl w.heap.size _ acc ⟨kd, tx⟩ rfl o5 ⟨w5.heap.size, 0, none⟩ rfl (two_cells w5 ⟨kd, tx⟩ _ rfl) hlen hs5 ?_; intro v6 w6 o6 g6))
              go_roundw
              case rel => exact ⟨r2, jj + 1 + 1, t + tx.size, _, rfl, by go_num, by go_num, hx1, by omega, ht2, o6, ((chain2 (chain2 hB b4) b5).alloc (Nat.le_trans hB.size (Nat.le_trans b4.size b5.size)) _).grown g6 hs5 o5.row, HN1, HN2, HK2⟩
              case measure => simp [intOf]; omega
            · have HE : Hid (ls = [] ∧ er = f2) := HTE.out hov hf
              have hne : ((f2 : Int) != 0) = true := by rw [bne_iff_ne]; omega
              clear HTX HTE HTK HTN HNL HLK hov hlast
              go_wp2_with (first | (go_at_call 30; refine (p30 _).mono ?_; rintro e w4 ⟨rfl, b4⟩; have hcl4 : w4.cell? ⟨b, jj * 2, none⟩ = some (.int .u64 y.kind) := (b4.cell (p := ⟨b, jj * 2, none⟩) hblt).trans hcl) | (go_at_call 31; refine (p31 _).mono ?_; rintro e w5 ⟨rfl, b5⟩))
              go_ret2
              exact ⟨_, by rw [HE.out.2]; rfl, by rw [HE.out.1]; exact secs_none _, chain2 (chain2 hB b4) b5⟩
          · have HE : Hid (ls = [] ∧ er = 21) := HTN.out (by rw [hlast]; exact decide_eq_false hlt2)
            have hle2 : kd ≤ y.kind := by omega
            clear HTX HTE HTK HTN HNL HLK hlast
            go_wp2_with (first | (go_at_call 30; refine (p30 _).mono ?_; rintro e w4 ⟨rfl, b4⟩; have hcl4 : w4.cell? ⟨b, jj * 2, none⟩ = some (.int .u64 y.kind) := (b4.cell (p := ⟨b, jj * 2, none⟩) hblt).trans hcl))
            go_ret2
            exact ⟨_, by rw [HE.out.2]; rfl, by rw [HE.out.1]; exact secs_none _, chain2 hB b4⟩
      · have hne : ((e2 : Int) != 0) = true := by rw [bne_iff_ne]; omega
        have HE : Hid (ls = [] ∧ er = e2) := by
          have h1 := HJ2.out
          rw [jn_num hg h0] at h1
          have h2 := HF.out
          rw [← h1] at h2
          simp only [fin, ne_eq, h0, not_false_eq_true, if_true, Prod.mk.injEq] at h2
          exact ⟨h2.1.symm, h2.2.symm⟩
        clear HJ2 HL HB hb hg
        go_wp2_with (go_at_call 30; refine (p30 _).mono ?_; rintro e w4 ⟨rfl, b4⟩)
        go_ret2
        exact ⟨_, by rw [HE.out.2]; rfl, by rw [HE.out.1]; exact secs_none _, chain2 hB b4⟩
    · have HE : Hid (fin u (acc, p, 0) = (ls, er)) := by
        have h1 := HJ.out
        rw [show n - j = 0 from by omega, jn_end] at h1
        rw [h1]
        exact HF.out
      clear HJ
      by_cases hP : p = k
      · have hpk : ((p : Int) != (k : Int)) = false := by simp; omega
        by_cases hT : 8388608 < t
        · have HZ : Hid (ls = [] ∧ er = 2) := by
            have h2 := HE.out
            simp only [fin, ne_eq, not_true_eq_false, if_false, hsz, hP, HL.out.2, hT, if_true, Prod.mk.injEq] at h2
            exact ⟨h2.1.symm, h2.2.symm⟩
          clear HE HL HB hP
          go_wp2
          go_ret2
          exact ⟨_, by rw [HZ.out.2]; rfl, by rw [HZ.out.1]; exact secs_none _, hB⟩
        · have HZ : Hid (ls = acc ∧ er = 0) := by
            have h2 := HE.out
            simp only [fin, ne_eq, not_true_eq_false, if_false, hsz, hP, HL.out.2, hT, Prod.mk.injEq] at h2
            exact ⟨h2.1.symm, h2.2.symm⟩
          clear HE HL HB hP
          go_wp2
          go_ret2
          exact ⟨_, by rw [HZ.out.2]; rfl, by rw [HZ.out.1]; exact hown.secs, hB⟩
      · have hpk : ((p : Int) != (k : Int)) = true := by rw [bne_iff_ne]; omega
        have HZ : Hid (ls = [] ∧ er = 21) := by
          have h2 := HE.out
          have hP2 : ¬ p = u.size := by rw [hsz]; exact hP
          simp only [fin, ne_eq, not_true_eq_false, if_false, hP2, not_false_eq_true, if_true, Prod.mk.injEq] at h2
          exact ⟨h2.1.symm, h2.2.symm⟩
        clear HE HL HB
        go_wp2
        go_ret2
        exact ⟨_, by rw [HZ.out.2]; rfl, by rw [HZ.out.1]; exact secs_none _, hB⟩
end Go.Proofs.Ytjnjjbacfodacaa.pk
