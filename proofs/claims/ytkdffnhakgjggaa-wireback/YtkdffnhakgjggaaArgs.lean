/-
  Both ways to read a list of numbers at any place, and a list of numbers that came in as an argument.
-/
import Derived.Test.YtkdffnhakgjggaaAll
namespace Go.Proofs.Ytkdffnhakgjggaa.num
open Go.ChangeShapes Go.WideShapes Go.ChangeAt Go.RowKit
set_option linter.unusedVariables false

theorem rdN_err (m : Nat) (l : List UInt8) : (rdN m l).2.2 = 0 ∨ (rdN m l).2.2 = 20 ∨ (rdN m l).2.2 = 21 := by
  induction m generalizing l with
  | zero => exact .inl rfl
  | succ m ih =>
    rw [rdN]
    split
    · split
      · exact .inl rfl
      · exact ih _
    · rename_i h
      rcases rd_err l with h1 | h1 | h1
      · exact absurd h1 h
      · rw [h1]; exact .inr (.inl rfl)
      · rw [h1]; exact .inr (.inr rfl)

theorem lists_bounds {l : List UInt8} {p n to e : Nat} {ns : List Nat} (h : lists l p n = (ns, to, e)) (hp : p ≤ l.length) :
    (e = 0 ∧ ns.length = n ∧ p + n ≤ to ∧ to ≤ l.length ∧ puts ns = (l.drop p).take (to - p) ∧ ∀ x ∈ ns, x < 18446744073709551616) ∨ (ns = [] ∧ to = 0 ∧ (e = 20 ∨ e = 21)) := by
  unfold lists join at h
  by_cases h0 : (rdN n (l.drop p)).2.2 = 0
  · rw [if_pos h0] at h
    simp only [Prod.mk.injEq, List.nil_append] at h
    obtain ⟨rfl, rfl, rfl⟩ := h
    obtain ⟨h1, h2, h3, h4, h5⟩ := rdN_ok n (l.drop p) h0
    rw [List.length_drop] at h3
    exact .inl ⟨rfl, h1, by omega, by omega, by rw [h2, Nat.add_sub_cancel_left], h5⟩
  · rw [if_neg h0] at h
    simp only [Prod.mk.injEq] at h
    obtain ⟨rfl, rfl, rfl⟩ := h
    rcases rdN_err n (l.drop p) with h1 | h1 | h1
    · exact absurd h1 h0
    · exact .inr ⟨rfl, rfl, .inl h1⟩
    · exact .inr ⟨rfl, rfl, .inr h1⟩

theorem both_all (s : ByteArray) (i most : Int) (hs : s.size ≤ 140737488351232) (hm : -9223372036854775808 ≤ most ∧ most < 9223372036854775808) (hb : s.size ≤ 1000000000000) :
    ∃ (ns : List Nat) (to e : Nat), GetAllIs s i most ns to e ∧ RGetAllIs s i most ns to e ∧ to ≤ s.size ∧ e ≤ 21 ∧ ns.length ≤ s.size := by
  obtain ⟨n, p, e, g, r, hn, hp, he⟩ := both_get s i hs
  by_cases h0 : e = 0
  · subst h0
    by_cases h1 : n ≤ most.toNat
    · obtain ⟨ns, to, f, hl⟩ : ∃ ns to f, lists s.data.toList p n = (ns, to, f) := ⟨_, _, _, rfl⟩
      have hbd := lists_bounds hl (by rw [size_list]; exact hp)
      rw [size_list] at hbd
      have h2 : ns.length ≤ s.size := by rcases hbd with h | ⟨rfl, _⟩; (omega); simp
      exact ⟨ns, to, f, all_list s i most n p (size_ok s i most n p hn hm g h1) ns to f (list_any s p n (by omega) hp (by omega) (.inr hb) ns to f hl), rall_list s i most n p hs hn hm r h1 hp (.inr hb) ns to f hl, by omega, by omega, h2⟩
    · exact ⟨[], 0, 2, all_err s i most 0 0 2 (size_long s i most n p hn hm g (by omega)) (by omega), rall_long s i most n p hn hm r (by omega), by omega, by omega, by simp⟩
  · exact ⟨[], 0, e, all_err s i most 0 0 e (size_err s i most n p e g h0) h0, rall_err s i most n p e r h0, by omega, he, by simp⟩

theorem nums_of (w : World) (a : Option Addr) (len cap : Nat) (zs : List Int)
    (h : (a = none ∧ len = 0 ∧ cap = 0 ∧ zs = []) ∨ ∃ x, a = some x ∧ len ≤ cap ∧ cap ≤ maxLen ∧ zs.length = cap ∧ (∀ i, i < zs.length → w.cell? (x.add i) = some (.int .u64 (zs.getD i 0))) ∧ ∀ n ∈ zs, (Lit.int .u64 n).wf = true) :
    ∃ ns : List Nat, Nums w (.slice a len cap) ns ∧ ns.length = len ∧ ∀ n ∈ ns, n < 18446744073709551616 := by
  rcases h with ⟨rfl, rfl, rfl, rfl⟩ | ⟨x, rfl, hl, hm, hz, hcell, hwz⟩
  · exact ⟨[], .inl ⟨rfl, _, _, rfl⟩, rfl, by simp⟩
  · by_cases h0 : len = 0
    · subst h0
      exact ⟨[], .inl ⟨rfl, _, _, rfl⟩, rfl, by simp⟩
    · obtain ⟨b, off, spot⟩ := x
      have hc := hcell 0 (by omega)
      have hspot : spot = none := by simpa [Addr.add] using World.cell?_spot hc
      subst hspot
      have hadd : ∀ i, (⟨b, off, none⟩ : Addr).add i = ⟨b, off + i, none⟩ := fun i => by simp [Addr.add]
      have hlt : b < w.heap.size := by
        rw [hadd] at hc
        unfold World.cell? at hc
        by_cases hb : b < w.heap.size
        · exact hb
        · rw [Array.getElem?_eq_none (by simpa using hb)] at hc
          simp at hc
      refine ⟨(zs.take len).map Int.toNat, .inr ⟨b, off, cap, ?_, hlt, fun i hi => ?_⟩, by simp; omega, ?_⟩
      · congr 1
        simp; omega
      · simp only [List.length_map, List.length_take] at hi
        have h1 := hcell i (by omega)
        rw [hadd] at h1
        rw [h1]
        have hi2 : i < zs.length := by omega
        have hg : zs.getD i 0 = zs[i] := by rw [List.getD_eq_getElem?_getD, List.getElem?_eq_getElem hi2]; rfl
        have hw := u64_range (hwz _ (List.getElem_mem hi2))
        have e : ((zs.take len).map Int.toNat).getD i 0 = zs[i].toNat := by
          rw [List.getD_eq_getElem?_getD, List.getElem?_map, List.getElem?_take_of_lt (by omega), List.getElem?_eq_getElem hi2]
          rfl
        rw [e, hg]
        congr 2
        omega
      · intro n hn
        rw [List.mem_map] at hn
        obtain ⟨z, hz1, rfl⟩ := hn
        have := u64_range (hwz z (List.mem_of_mem_take hz1))
        omega
end Go.Proofs.Ytkdffnhakgjggaa.num
