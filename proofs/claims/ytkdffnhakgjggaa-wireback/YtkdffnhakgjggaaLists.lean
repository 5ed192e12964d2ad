/-
  Contracts over this program: lists of numbers (wire.PutAll, wire.list, wire.GetAll, the document's, and Like).
-/
import Derived.Test.YtkdffnhakgjggaaTexts
import Derived.Deep.QuietTactic
import Derived.WalkSmall
namespace Go.Proofs.Ytkdffnhakgjggaa.num
open Go.ChangeShapes Go.WideShapes Go.ChangeAt Go.RowKit
set_option linter.unusedVariables false

/-- a value that reads, in a world, as a list of numbers -/
def Nums (w : World) (v : Value) (ns : List Nat) : Prop :=
  (ns = [] ∧ ∃ a cap, v = .slice a 0 cap) ∨
  (∃ b off cap, v = .slice (some ⟨b, off, none⟩) ns.length cap ∧ b < w.heap.size ∧ ∀ i, i < ns.length → w.cell? ⟨b, off + i, none⟩ = some (.int .u64 (ns.getD i 0 : Nat)))

theorem Nums.below {w w' : World} {v : Value} {ns : List Nat} (h : Nums w v ns) (hb : Below w.heap.size w w') : Nums w' v ns := by
  rcases h with h | ⟨b, off, cap, hv, hlt, hc⟩
  · exact .inl h
  · exact .inr ⟨b, off, cap, hv, Nat.lt_of_lt_of_le hlt hb.size, fun i hi => by rw [hb.cell hlt]; exact hc i hi⟩

theorem puts_drop (ns : List Nat) (i : Nat) (h : i < ns.length) : puts (ns.drop i) = digs (ns.getD i 0) ++ puts (ns.drop (i + 1)) := by
  rw [List.drop_eq_getElem_cons h, puts]
  congr 2
  rw [List.getD_eq_getElem?_getD, List.getElem?_eq_getElem h]
  rfl
theorem puts_length (ns : List Nat) (h : ∀ n ∈ ns, n < 18446744073709551616) : (puts ns).length ≤ 10 * ns.length := by
  induction ns with
  | nil => simp [puts]
  | cons n ns ih =>
    have h1 := digs_length n (h n (by simp))
    have h2 := ih (fun m hm => h m (by simp [hm]))
    simp only [puts, List.length_append, List.length_cons]
    omega
theorem getD_lt (ns : List Nat) (h : ∀ n ∈ ns, n < 18446744073709551616) (i : Nat) : ns.getD i 0 < 18446744073709551616 := by
  rw [List.getD_eq_getElem?_getD]
  by_cases hi : i < ns.length
  · rw [List.getElem?_eq_getElem hi]; exact h _ (List.getElem_mem hi)
  · rw [List.getElem?_eq_none (by omega)]; simp

def PutAllIs (ns : List Nat) (t : ByteArray) : Prop := ∀ v w, Nums w v ns → Calls Try.prog 23 #[v] w fun e w' => e = .returned (.string t) ∧ Below w.heap.size w w'

set_option maxHeartbeats 2000000 in
set_option maxRecDepth 100000 in
theorem putAll_any (ns : List Nat) (hn : ∀ n ∈ ns, n < 18446744073709551616) (hl : ns.length ≤ 1000000000) : PutAllIs ns ⟨(digs ns.length ++ puts ns).toArray⟩ := by
  intro v w hv
  have hd := digits_any w w.heap.size [] ns.length (by omega) (by simp) _ w (own_nil w)
  rw [List.nil_append] at hd
  have hpl := puts_length ns hn
  have hdl := digs_length ns.length (by omega)
  rcases hv with ⟨rfl, a, cap, rfl⟩ | ⟨b, off, cap, rfl, hlt, hc⟩
  · go_enter Try.func23, Try.ntmps23
    go_wp2_with (go_at_call 29; refine hd.mono ?_; rintro e w1 ⟨v', rfl, hb⟩)
    go_loopw [3, 12] (fun u x wr => u = v' ∧ x = .int .i64 0 ∧ wr = w1) (fun _ _ _ => 0)
    case atStart => exact ⟨rfl, rfl, rfl⟩
    case round =>
      obtain ⟨rfl, rfl, rfl⟩ := hrel
      have hcv := conv_own hb.1
      go_wp2
      go_ret
      exact ⟨by rw [show digs 0 ++ puts [] = digs 0 from by simp [puts]]; rfl, hb.2.1⟩
  · go_enter Try.func23, Try.ntmps23
    go_wp2_with (go_at_call 29; refine hd.mono ?_; rintro e w1 ⟨v', rfl, hb⟩)
    go_loopw [3, 12] (fun u x wr => ∃ (i : Nat) (acc : List UInt8), x = .int .i64 i ∧ i ≤ ns.length ∧ Lib.OwnBuf w.heap.size 5 u acc.length (Lib.byteCells acc) w wr ∧ Hid (acc ++ puts (ns.drop i) = digs ns.length ++ puts ns)) (fun _ x _ => ns.length - (intOf x).toNat)
    case atStart => exact ⟨0, digs ns.length, rfl, by omega, hb, by rw [List.drop_zero]; rfl⟩
    case round =>
      obtain ⟨i, acc, rfl, hi, hbuf, HA⟩ := hrel
      have hal : acc.length ≤ 20000000000 := by
        have h1 := congrArg List.length HA.out
        rw [List.length_append, List.length_append] at h1
        omega
      by_cases hend : i < ns.length
      · have hci := hc i hend
        rw [← hbuf.2.1.cell (p := ⟨b, off + i, none⟩) hlt] at hci
        have hgi := getD_lt ns hn i
        have hdg := digits_any w w.heap.size acc (ns.getD i 0) hgi (by omega) _ wr hbuf
        have HE : Hid ((acc ++ digs (ns.getD i 0)) ++ puts (ns.drop (i + 1)) = digs ns.length ++ puts ns) := by
          show _ = _
          rw [← HA.out, puts_drop ns i hend, List.append_assoc]
        generalize ns.getD i 0 = n at *
        go_wp2_with (go_at_call 29; refine hdg.mono ?_; rintro e w2 ⟨v2, rfl, hb2⟩)
        go_roundw
        case rel => exact ⟨i + 1, acc ++ digs n, by go_num, by omega, hb2, HE⟩
        case measure => simp [intOf]; omega
      · have HE : Hid (acc = digs ns.length ++ puts ns) := by
          show _ = _
          rw [← HA.out, List.drop_eq_nil_of_le (by omega)]
          simp [puts]
        have hcv := conv_own hbuf.1
        go_wp2
        go_ret
        exact ⟨by rw [← HE.out]; rfl, hbuf.2.1⟩

theorem putAll_is (ns : List Nat) (hn : ∀ n ∈ ns, n < 18446744073709551616) (hl : ns.length ≤ 1000000000) (t : ByteArray) (ht : t.data.toList = digs ns.length ++ puts ns) : PutAllIs ns t := by
  have e : (⟨(digs ns.length ++ puts ns).toArray⟩ : ByteArray) = t := bytes_ext (by rw [ht])
  rw [← e]; exact putAll_any ns hn hl

def RPutAllIs (ns : List Nat) (t : ByteArray) : Prop := ∀ v w, Nums w v ns → Calls Try.prog 24 #[v] w fun e w' => e = .returned (.string t) ∧ Below w.heap.size w w'

theorem list_append (a b : ByteArray) : (a ++ b).data.toList = a.data.toList ++ b.data.toList := by simp

set_option maxHeartbeats 2000000 in
set_option maxRecDepth 100000 in
theorem rputAll_is (ns : List Nat) (hn : ∀ n ∈ ns, n < 18446744073709551616) (hl : ns.length ≤ 1000000000) (r : ByteArray) (hr : r.data.toList = digs ns.length ++ puts ns) : RPutAllIs ns r := by
  intro v w hv
  obtain ⟨d, hd⟩ := text (digs ns.length)
  have h12 := rput_is ns.length (by omega) d hd
  have hpl := puts_length ns hn
  have hdl := digs_length ns.length (by omega)
  have HR : Hid (r.data.toList = d.data.toList ++ puts ns) := by show _ = _; rw [hr, hd]
  have hrz : r.data.toList.length ≤ 20000000000 := by rw [hr, List.length_append]; omega
  clear hr hd hpl hdl
  rcases hv with ⟨rfl, a, cap, rfl⟩ | ⟨b, off, cap, rfl, hlt, hc⟩
  · have HE : Hid (r = d) := bytes_ext (by rw [HR.out]; simp [puts])
    go_enter Try.func24, Try.ntmps24
    go_wp2_with (go_at_call 12; refine (h12 _).mono ?_; rintro e w1 ⟨rfl, hb⟩)
    go_loopw [3, 12] (fun u x wr => u = .string d ∧ x = .int .i64 0 ∧ wr = w1) (fun _ _ _ => 0)
    case atStart => exact ⟨rfl, rfl, rfl⟩
    case round =>
      obtain ⟨rfl, rfl, rfl⟩ := hrel
      go_wp2
      go_ret
      exact ⟨by rw [HE.out]; rfl, hb⟩
  · go_enter Try.func24, Try.ntmps24
    go_wp2_with (go_at_call 12; refine (h12 _).mono ?_; rintro e w1 ⟨rfl, hb⟩)
    go_loopw [3, 12] (fun u x wr => ∃ (i : Nat) (t : ByteArray), u = .string t ∧ x = .int .i64 i ∧ i ≤ ns.length ∧ Below w.heap.size w wr ∧ Hid (t.data.toList ++ puts (ns.drop i) = r.data.toList)) (fun _ x _ => ns.length - (intOf x).toNat)
    case atStart => exact ⟨0, d, rfl, rfl, by omega, hb, by rw [List.drop_zero]; exact HR.out.symm⟩
    case round =>
      obtain ⟨i, t, rfl, rfl, hi, hB, HA⟩ := hrel
      have hal : t.size ≤ 20000000000 := by
        have h1 := congrArg List.length HA.out
        rw [List.length_append, size_list] at h1
        omega
      by_cases hend : i < ns.length
      · have hci := hc i hend
        rw [← hB.cell (p := ⟨b, off + i, none⟩) hlt] at hci
        have hgi := getD_lt ns hn i
        obtain ⟨g, hg⟩ := text (digs (ns.getD i 0))
        have hp := rput_is (ns.getD i 0) hgi g hg
        have hgz : g.size ≤ 10 := by have := digs_length (ns.getD i 0) hgi; rwa [← hg, size_list] at this
        have HE : Hid ((t ++ g).data.toList ++ puts (ns.drop (i + 1)) = r.data.toList) := by
          show _ = _
          rw [← HA.out, puts_drop ns i hend, list_append, hg, List.append_assoc]
        clear hg HA
        generalize ns.getD i 0 = n at *
        go_wp2_with (go_at_call 12; refine (hp _).mono ?_; rintro e w2 ⟨rfl, hb2⟩)
        go_roundw
        case rel => exact ⟨i + 1, t ++ g, rfl, by go_num, by omega, hB.trans (hb2.mono hB.size), HE⟩
        case measure => simp [intOf]; omega
      · have HE : Hid (r = t) := by
          refine bytes_ext ?_
          rw [← HA.out, List.drop_eq_nil_of_le (by omega)]
          simp [puts]
        go_wp2
        go_ret
        exact ⟨by rw [HE.out]; rfl, hB⟩

theorem Nums.nil {w : World} {v : Value} (h : Nums w v []) : ∃ a cap, v = .slice a 0 cap := by
  rcases h with ⟨_, h⟩ | ⟨b, off, cap, hv, _, _⟩
  · exact h
  · exact ⟨_, _, hv⟩
theorem Nums.row {w : World} {v : Value} {ns : List Nat} (h : Nums w v ns) (hne : ns ≠ []) : ∃ b off cap, v = .slice (some ⟨b, off, none⟩) ns.length cap ∧ b < w.heap.size ∧ ∀ i, i < ns.length → w.cell? ⟨b, off + i, none⟩ = some (.int .u64 (ns.getD i 0 : Nat)) := by
  rcases h with ⟨h, _⟩ | h
  · exact absurd h hne
  · exact h

def LikeIs (ns : List Nat) : Prop := ∀ v u w, Nums w v ns → Nums w u ns → Calls Try.prog 25 #[v, u] w fun e w' => e = .returned (.bool true) ∧ Below w.heap.size w w'

set_option maxHeartbeats 2000000 in
set_option maxRecDepth 100000 in
theorem like_any (ns : List Nat) (hl : ns.length ≤ 1000000000000000) : LikeIs ns := by
  intro v u w hv hu
  by_cases hne : ns = []
  · subst hne
    obtain ⟨a, cap, rfl⟩ := hv.nil
    obtain ⟨a', cap', rfl⟩ := hu.nil
    go_enter Try.func25, Try.ntmps25
    go_wp2
    go_loop [13] (fun x => x = .int .i64 0) (fun _ => 0)
    case atStart => rfl
    case round =>
      obtain rfl := hrel
      go_wp2
      go_ret
      exact ⟨rfl, Below.refl _ _⟩
  · obtain ⟨b, off, cap, rfl, hlt, hc⟩ := hv.row hne
    obtain ⟨b', off', cap', rfl, hlt', hc'⟩ := hu.row hne
    clear hne hv hu
    have heq : ((ns.length : Int) != (ns.length : Int)) = false := by simp
    go_enter Try.func25, Try.ntmps25
    go_wp2
    go_loopw [13] (fun x wr => ∃ i : Nat, x = .int .i64 i ∧ i ≤ ns.length ∧ Below w.heap.size w wr) (fun x _ => ns.length - (intOf x).toNat)
    case atStart => exact ⟨0, rfl, by omega, Below.refl _ _⟩
    case round =>
      obtain ⟨i, rfl, hi, hB⟩ := hrel
      by_cases hend : i < ns.length
      · have hci := hc i hend
        rw [← hB.cell (p := ⟨b, off + i, none⟩) hlt] at hci
        have hci' := hc' i hend
        rw [← hB.cell (p := ⟨b', off' + i, none⟩) hlt'] at hci'
        generalize ns.getD i 0 = n at *
        clear hc hc'
        go_wp2
        go_quiet (fail)
        go_wp2
        go_roundw
        case rel => exact ⟨i + 1, by go_num, by omega, below_drewN hB _⟩
        case measure => simp [intOf]; omega
      · go_wp2
        go_ret
        exact ⟨rfl, hB⟩
end Go.Proofs.Ytkdffnhakgjggaa.num
