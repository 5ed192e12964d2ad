/-
  Plain mathematics: what ends where is told by languages alone; what is made may be; a dfa whose classes are another's.
-/
import Derived.Test.YtkdkibnjfgcppaaKMz
namespace Go.Proofs.Ytkdkibnjfgcppaa.mi
set_option linter.unusedVariables false

def hereL (L : Lg) (t : Nat) : List Int := if L [] then [(t : Int)] else []
def endsL (s : ByteArray) : Nat → Lg → Nat → List Int
  | 0, L, t => hereL L t
  | f + 1, L, t => hereL L t ++ endsL s f (dv L (by8 (df.byteAt s t))) (t + 1)
theorem endsL_nil (s : ByteArray) : ∀ f t, endsL s f nil t = []
  | 0, t => rfl
  | f + 1, t => by
    show hereL nil t ++ endsL s f nil (t + 1) = []
    rw [endsL_nil s f (t + 1)]
    rfl
theorem by8_nat (n : Nat) (h : n < 256) : (by8 n).toNat = n := by simp [by8]; omega
theorem ends_lang (d : df.Dfa) (s : ByteArray) : ∀ (f : Nat) (x : Option Nat) (t : Nat), df.ends d s f (st x) t = endsL s f ((dm d).lang x) t
  | f, none, t => by
    rw [lang_none, endsL_nil]
    exact df.ends_neg d s f _ t (by decide)
  | 0, some q, t => df.ends_zero d s q t
  | f + 1, some q, t => by
    show df.ends d s (f + 1) (q : Int) t = hereL ((dm d).lang (some q)) t ++ endsL s f (dv ((dm d).lang (some q)) (by8 (df.byteAt s t))) (t + 1)
    rw [df.ends_succ, lang_dv, ← ends_lang d s f]
    congr 1
    have hb := by8_nat _ (df.byte_lt s t)
    have e : (dm d).goO (some q) (by8 (df.byteAt s t)) = if 0 ≤ df.nxt d q (d.cls (df.byteAt s t)) then some (df.nxt d q (d.cls (df.byteAt s t))).toNat else none := by
      show (if 0 ≤ df.nxt d q (d.cls (by8 (df.byteAt s t)).toNat) then some (df.nxt d q (d.cls (by8 (df.byteAt s t)).toNat)).toNat else none) = _
      rw [hb]
    rw [e]
    by_cases h : 0 ≤ df.nxt d q (d.cls (df.byteAt s t))
    · rw [if_pos h]
      show df.ends d s f _ (t + 1) = df.ends d s f ((df.nxt d q (d.cls (df.byteAt s t))).toNat : Int) (t + 1)
      rw [Int.toNat_of_nonneg h]
    · rw [if_neg h, df.ends_neg d s f _ _ (by omega), df.ends_neg d s f _ _ (by decide)]
theorem dm_mach (d : df.Dfa) : dm d = mach ((List.range 256).map d.cls) d.next d.acc := by
  unfold dm mach
  congr 1
  funext i b
  have hb : b.toNat < 256 := b.toNat_lt
  have e1 : ((List.range 256).map d.cls).getD b.toNat 0 = d.cls b.toNat := by
    rw [List.getD_eq_getElem?_getD, List.getElem?_map, List.getElem?_range hb]; rfl
  simp only [e1]
  show (if 0 ≤ df.nxt d i (d.cls b.toNat) then _ else _) = _
  unfold df.nxt
  rw [List.getD_eq_getElem?_getD, List.getD_eq_getElem?_getD]
theorem Least.right {L0 : Lg} {d : df.Dfa} (h : Least L0 ((List.range 256).map d.cls) d.next d.acc) (hn : d.next.length ≤ 400) : df.right d = true := by
  obtain ⟨_, h0, ha, _, ⟨c, hc1, hc2, hc3, hc4⟩, hv⟩ := h.takes
  have hw : df.width d = c := by
    unfold df.width
    rw [List.getElem?_eq_getElem h0]
    exact hc1 _ (List.getElem_mem h0)
  unfold df.right
  rw [hw]
  simp only [Bool.and_eq_true, decide_eq_true_eq, beq_iff_eq]
  refine ⟨⟨⟨⟨⟨⟨h0, hn⟩, ha⟩, hc3⟩, hc4⟩, List.all_eq_true.2 fun r hr => ?_⟩, ?_⟩
  · unfold df.rowOk df.goOn
    simp only [Bool.and_eq_true, beq_iff_eq, List.all_eq_true, decide_eq_true_eq]
    exact ⟨hc1 r hr, fun x hx => hv r hr x hx⟩
  · unfold df.clsOk
    rw [hw]
    refine List.all_eq_true.2 fun i hi => ?_
    simp only [decide_eq_true_eq]
    exact hc2 _ (List.mem_map.2 ⟨i, hi, rfl⟩)
theorem Least.lang {L0 : Lg} {d : df.Dfa} (h : Least L0 ((List.range 256).map d.cls) d.next d.acc) : (dm d).lang (some 0) = L0 := by
  rw [dm_mach]; exact h.takes.1
theorem ends_same {d e : df.Dfa} (hd : df.right d = true) (he : df.right e = true) (hl : (dm e).lang (some 0) = (dm d).lang (some 0)) (s : ByteArray) (at' : Int) : df.endsOf e s at' = df.endsOf d s at' := by
  unfold df.endsOf
  by_cases h : 0 ≤ at' ∧ at' ≤ (s.size : Int)
  · rw [if_pos ⟨he, h⟩, if_pos ⟨hd, h⟩]
    have h1 := ends_lang d s (s.size - at'.toNat) (some 0) at'.toNat
    have h2 := ends_lang e s (s.size - at'.toNat) (some 0) at'.toNat
    rw [hl, ← h1] at h2
    exact h2
  · rw [if_neg fun k => h k.2, if_neg fun k => h k.2]
theorem ends_mp (d : df.Dfa) (T : List Nat) {s t : ByteArray} (hT : ∀ i, i < s.size → df.byteAt t i = T.getD (df.byteAt s i) 0) : ∀ (f : Nat) (q : Int) (k : Nat), k + f ≤ s.size → df.ends (mp d T) s f q k = df.ends d t f q k
  | 0, q, k, _ => rfl
  | f + 1, q, k, h => by
    rcases Int.lt_or_le q 0 with hq | hq
    · rw [df.ends_neg _ _ _ _ _ hq, df.ends_neg _ _ _ _ _ hq]
    · obtain ⟨n, rfl⟩ := Int.eq_ofNat_of_zero_le hq
      rw [df.ends_succ, df.ends_succ, ends_mp d T hT f _ (k + 1) (by omega), mp_cls d T _ (df.byte_lt s k), hT k (by omega)]
      rfl
theorem ends_map {d n : df.Dfa} {T : List Nat} (hd : df.right d = true) (hT8 : ∀ i, i < 256 → T.getD i 0 < 256) (hn : df.right n = true) (hl : (dm n).lang (some 0) = (dm (mp d T)).lang (some 0)) {s t : ByteArray} (hs : t.size = s.size) (hT : ∀ i, i < s.size → df.byteAt t i = T.getD (df.byteAt s i) 0) (at' : Int) : df.endsOf n s at' = df.endsOf d t at' := by
  have hm := mp_right d T hd hT8
  rw [ends_same hm hn hl]
  unfold df.endsOf
  rw [hs]
  by_cases h : 0 ≤ at' ∧ at' ≤ (s.size : Int)
  · rw [if_pos ⟨hm, h⟩, if_pos ⟨hd, h⟩]
    exact ends_mp d T hT _ _ _ (by omega)
  · rw [if_neg fun k => h k.2, if_neg fun k => h k.2]
end Go.Proofs.Ytkdkibnjfgcppaa.mi
