/-
  Plain mathematics: what a text is read as, if it is a pack; what sections are written as; that both undo one another; that bits turned within 32 are found.
-/
import Derived.Test.YtjnjjbacfodacaaPk
namespace Go.Proofs.Ytjnjjbacfodacaa.pk
open Go.ChangeShapes Go.WideShapes Go.ChangeAt Go.RowKit
set_option linter.unusedVariables false

/-- what stands behind the mark of a text without its sum -/
def inner (u : ByteArray) : List Sec × Nat :=
  if (num.gets u.data.toList 5).2.2 ≠ 0 then ([], (num.gets u.data.toList 5).2.2)
  else if 64 < (num.gets u.data.toList 5).1 then ([], 2)
  else if (rdS u (num.gets u.data.toList 5).1 none (num.gets u.data.toList 5).2.1).2.2 ≠ 0 then ([], (rdS u (num.gets u.data.toList 5).1 none (num.gets u.data.toList 5).2.1).2.2)
  else if (rdS u (num.gets u.data.toList 5).1 none (num.gets u.data.toList 5).2.1).2.1 ≠ u.size then ([], 21)
  else if 8388608 < total (rdS u (num.gets u.data.toList 5).1 none (num.gets u.data.toList 5).2.1).1 then ([], 2)
  else ((rdS u (num.gets u.data.toList 5).1 none (num.gets u.data.toList 5).2.1).1, 0)

/-- the four bytes of a text's sum -/
def seal4 (u : ByteArray) : ByteArray := ⟨(num.four (csum u.data.toList)).toArray⟩
theorem seal4_list (u : ByteArray) : (seal4 u).data.toList = num.four (csum u.data.toList) := by simp [seal4]
theorem seal4_size (u : ByteArray) : (seal4 u).size = 4 := rfl
def mark : ByteArray := ⟨#[70, 83, 65, 87, 1]⟩

def getP (s : ByteArray) : List Sec × Nat :=
  if s.size < 9 then ([], 20)
  else if s.extract 0 5 ≠ mark then ([], 40)
  else if s.extract (s.size - 4) s.size ≠ seal4 (s.extract 0 (s.size - 4)) then ([], 41)
  else inner (s.extract 0 (s.size - 4))

def putP (l : List Sec) : ByteArray × Nat :=
  if 64 < l.length ∨ 8388608 < total l then (⟨#[]⟩, 2)
  else if rises none l = false then (⟨#[]⟩, 1)
  else (packed l, 0)

theorem inner_ok (u : ByteArray) (hs : u.size ≤ 140737488351232) (h5 : 5 ≤ u.size) (ls : List Sec) (h : inner u = (ls, 0)) :
    ls.length ≤ 64 ∧ total ls ≤ 8388608 ∧ rises none ls = true ∧ (∀ x ∈ ls, Fits x ∧ x.body.size ≤ 8388608) ∧ u.data.toList.drop 5 = num.digs ls.length ++ secs ls := by
  obtain ⟨n, q, e, hg⟩ : ∃ n q e, num.gets u.data.toList 5 = (n, q, e) := ⟨_, _, _, rfl⟩
  have hb := num.gets_bounds hg (by rw [num.size_list]; exact h5)
  rw [num.size_list] at hb
  unfold inner at h
  rw [hg] at h
  simp only at h
  obtain ⟨l2, z, f, hr⟩ : ∃ l2 z f, rdS u n none q = (l2, z, f) := ⟨_, _, _, rfl⟩
  rw [hr] at h
  simp only at h
  by_cases h0 : e = 0
  · subst h0
    rw [if_neg (by simp)] at h
    have hq : 5 < q ∧ q ≤ u.size ∧ num.rd (u.data.toList.drop 5) = (n, q - 5, 0) := by
      rcases hb.2 with h1 | h1
      · exact ⟨h1.2.1, h1.2.2.2.1, h1.2.2.2.2⟩
      · omega
    by_cases h1 : 64 < n
    · rw [if_pos h1] at h; simp at h
    · rw [if_neg h1] at h
      by_cases h2 : f = 0
      · subst h2
        rw [if_neg (by simp)] at h
        by_cases h3 : z ≠ u.size
        · rw [if_pos h3] at h; simp at h
        · rw [if_neg h3] at h
          by_cases h4 : 8388608 < total l2
          · rw [if_pos h4] at h; simp at h
          · rw [if_neg h4] at h
            simp only [Prod.mk.injEq] at h
            obtain ⟨rfl, _⟩ := h
            obtain ⟨i1, i2, i3, i4, i5, i6⟩ := secs_rdS u n none q hs hq.2.1 l2 z hr
            have hk := (num.rd_ok hq.2.2).1
            refine ⟨by omega, by omega, i5, i6, ?_⟩
            rw [i1, hk, i4, show z = u.size from by omega, ← num.size_list u, List.take_length]
            have e1 : u.data.toList.drop 5 = (u.data.toList.drop 5).take (q - 5) ++ (u.data.toList.drop 5).drop (q - 5) := (List.take_append_drop _ _).symm
            conv => lhs; rw [e1, List.drop_drop, show 5 + (q - 5) = q from by omega]
      · rw [if_pos h2] at h
        simp only [Prod.mk.injEq] at h
        omega
  · rw [if_pos h0] at h
    simp only [Prod.mk.injEq] at h
    omega

theorem extract_whole (s : ByteArray) (k : Nat) (h : k ≤ s.size) : s.extract 0 k ++ s.extract k s.size = s := by
  rw [ByteArray.extract_append_extract, show min 0 k = 0 from by omega, show max k s.size = s.size from by omega, ByteArray.extract_zero_size]

theorem inner_err (u : ByteArray) (ls : List Sec) (e : Nat) (h : inner u = (ls, e)) (he : e ≠ 0) : ls = [] := by
  unfold inner at h
  repeat' split at h
  all_goals simp only [Prod.mk.injEq] at h
  all_goals first | exact h.1.symm | omega
theorem getP_err (s : ByteArray) (ls : List Sec) (e : Nat) (h : getP s = (ls, e)) (he : e ≠ 0) : ls = [] := by
  unfold getP at h
  split at h
  · simp only [Prod.mk.injEq] at h; exact h.1.symm
  · split at h
    · simp only [Prod.mk.injEq] at h; exact h.1.symm
    · split at h
      · simp only [Prod.mk.injEq] at h; exact h.1.symm
      · exact inner_err _ _ _ h he

theorem list_append (a b : ByteArray) : (a ++ b).data.toList = a.data.toList ++ b.data.toList := by simp
theorem mark_list : mark.data.toList = magic := rfl

/-- what is got, put again, is the bytes that were got -/
theorem once (s : ByteArray) (hs : s.size ≤ 140737488351232) (ls : List Sec) (h : getP s = (ls, 0)) : putP ls = (s, 0) ∧ ls.length ≤ 64 ∧ total ls ≤ 8388608 ∧ ∀ x ∈ ls, Fits x := by
  unfold getP at h
  by_cases h0 : s.size < 9
  · rw [if_pos h0] at h; simp at h
  · rw [if_neg h0] at h
    by_cases h1 : s.extract 0 5 ≠ mark
    · rw [if_pos h1] at h; simp at h
    · rw [if_neg h1] at h
      by_cases h2 : s.extract (s.size - 4) s.size ≠ seal4 (s.extract 0 (s.size - 4))
      · rw [if_pos h2] at h; simp at h
      · rw [if_neg h2] at h
        have h1 : s.extract 0 5 = mark := Classical.not_not.1 h1
        have h2 : s.extract (s.size - 4) s.size = seal4 (s.extract 0 (s.size - 4)) := Classical.not_not.1 h2
        have hz : (s.extract 0 (s.size - 4)).size = s.size - 4 := by rw [ByteArray.size_extract]; omega
        obtain ⟨i1, i2, i3, i4, i5⟩ := inner_ok _ (by omega) (by omega) ls h
        refine ⟨?_, i1, i2, fun x hx => (i4 x hx).1⟩
        unfold putP
        rw [if_neg (by omega), if_neg (by rw [i3]; simp)]
        suffices e : packed ls = s by rw [e]
        refine num.bytes_ext ?_
        have hw := extract_whole s (s.size - 4) (by omega)
        have hcore : core ls = (s.extract 0 (s.size - 4)).data.toList := by
          unfold core
          rw [← i5]
          have e2 : (s.extract 0 (s.size - 4)).data.toList.take 5 = magic := by
            rw [num.cut_list, List.drop_zero, List.take_take, show min 5 (s.size - 4) = 5 from by omega, ← mark_list, ← h1, num.cut_list, List.drop_zero]
          rw [← e2]
          exact List.take_append_drop _ _
        rw [packed_list, hcore]
        have e3 : s.data.toList = (s.extract 0 (s.size - 4)).data.toList ++ num.four (csum (s.extract 0 (s.size - 4)).data.toList) := by
          rw [← seal4_list, ← h2, ← list_append, hw]
        rw [sealed, ← e3]

theorem take_core (l : List Sec) : (core l).take 5 = magic := by unfold core; rfl
theorem core_length (l : List Sec) : 6 ≤ (core l).length := by
  have := num.digs_pos l.length
  unfold core
  rw [List.length_append, List.length_append]
  show 6 ≤ 5 + _
  omega
theorem four_length (n : Nat) : (num.four n).length = 4 := rfl
theorem packed_size (l : List Sec) : (packed l).size = (core l).length + 4 := by
  rw [← num.size_list, packed_list, sealed, List.length_append, four_length]

/-- what is put is got again -/
theorem back (l : List Sec) (hl : ∀ x ∈ l, Fits x) (h64 : l.length ≤ 64) (ht : total l ≤ 8388608) (hr : rises none l = true) : getP (packed l) = (l, 0) := by
  have hc := core_length l
  have hz := packed_size l
  have hbody : ∀ x ∈ l, Fits x ∧ x.body.size ≤ 8388608 := by
    intro x hx
    refine ⟨hl x hx, ?_⟩
    clear hr hl h64 hc hz
    induction l with
    | nil => simp at hx
    | cons y l ih =>
      rw [total] at ht
      rcases List.mem_cons.1 hx with rfl | hx
      · omega
      · exact ih (by omega) hx
  have hsl := secs_length l hl
  have hdl := num.digs_length l.length (by omega)
  have hcl : (core l).length ≤ 10000000 := by
    unfold core
    rw [List.length_append, List.length_append]
    show 5 + _ ≤ _
    omega
  have hu : ((packed l).extract 0 ((packed l).size - 4)).data.toList = core l := by
    rw [num.cut_list, List.drop_zero, packed_list, hz, Nat.add_sub_cancel, sealed, List.take_left]
  have huz : ((packed l).extract 0 ((packed l).size - 4)).size = (core l).length := by rw [← num.size_list, hu]
  unfold getP
  rw [if_neg (by omega), if_neg, if_neg]
  · generalize (packed l).extract 0 ((packed l).size - 4) = u at *
    have hd5 : u.data.toList.drop 5 = num.digs l.length ++ secs l := by rw [hu]; rfl
    have hg : num.gets u.data.toList 5 = (l.length, 5 + (num.digs l.length).length, 0) := by
      refine num.gets_ok ?_
      rw [hd5]
      exact num.rd_digs _ _ (by omega)
    have hrd := rdS_secs u l none (5 + (num.digs l.length).length) [] (by omega) hbody hr (by rw [← List.drop_drop, hd5, List.drop_left, List.append_nil])
    unfold inner
    rw [hg]
    simp only
    rw [hrd]
    simp only
    rw [if_neg (by simp), if_neg (by omega), if_neg (by simp), if_neg, if_neg (by omega)]
    simp only [ne_eq, Classical.not_not]
    rw [huz, core, List.length_append, List.length_append]
    show _ = 5 + _
    omega
  · simp only [ne_eq, Classical.not_not]
    refine num.bytes_ext ?_
    rw [seal4_list, hu, num.cut_list, ← num.size_list, List.take_length, packed_list, sealed, List.length_append, four_length, Nat.add_sub_cancel, List.drop_left]
  · simp only [ne_eq, Classical.not_not]
    refine num.bytes_ext ?_
    rw [mark_list, num.cut_list, List.drop_zero, packed_list, sealed, List.take_append_of_le_length (by omega), take_core]

theorem four_num (n : Nat) (h : n < 4294967296) : crc.num (num.four n) = n := by
  have hb : ∀ m, m < 256 → (UInt8.ofNat m).toNat = m := fun m hm => num.byte_toNat hm
  unfold num.four
  simp only [crc.num]
  rw [hb _ (by omega), hb _ (by omega), hb _ (by omega), hb _ (by omega)]
  omega
theorem sealed_reg (l : List UInt8) : crc.reg 4294967295 (sealed l) = crc.nts 32 4294967295 := by
  unfold sealed
  exact crc.seal_reg l _ (four_num _ (csum_lt l)) (four_length _)

/-- bits turned within 32 of a pack are found -/
theorem torn (l : List Sec) (t : ByteArray) (f p : Nat) (hp : p < 4294967296) (hf : f ≤ 8 * (packed l).size) (hz : t.size = (packed l).size)
    (hn : crc.num t.data.toList = crc.num (packed l).data.toList ^^^ crc.till p f (8 * (packed l).size) 32) (hne : ¬ t = packed l) : (getP t).2 = 41 ∨ (getP t).2 = 40 := by
  have hs := packed_size l
  have hc := core_length l
  unfold getP
  rw [if_neg (by omega)]
  by_cases h1 : t.extract 0 5 ≠ mark
  · rw [if_pos h1]; exact .inr rfl
  · rw [if_neg h1]
    by_cases h2 : t.extract (t.size - 4) t.size ≠ seal4 (t.extract 0 (t.size - 4))
    · rw [if_pos h2]; exact .inl rfl
    · exfalso
      have h2 : t.extract (t.size - 4) t.size = seal4 (t.extract 0 (t.size - 4)) := Classical.not_not.1 h2
      refine hne (crc.burst_reg (packed l) t 4294967295 f p hp hf hz hn ?_).symm
      have e : t.data.toList = sealed (t.extract 0 (t.size - 4)).data.toList := by
        rw [sealed, ← seal4_list, ← h2, ← list_append, extract_whole t (t.size - 4) (by omega)]
      rw [packed_list, e, sealed_reg, sealed_reg]
end Go.Proofs.Ytjnjjbacfodacaa.pk
