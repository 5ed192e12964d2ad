/-
  For every three texts, every number of kind uint64, every one of kind uint32 and every list of numbers the law WireBack of package fretsawlaw02 returns true (what is written, with any bytes ahead of it and behind it, is read again, up to its end), and the arguments read as before. No condition.
-/
import Derived.Test.YtkdffnhakgjggaaRows
import Derived.Test.YtkdffnhakgjggaaArgs
import Derived.Test.YtkdffnhakgjggaaFours
import Derived.SizedLaws
import Derived.WalkKit
import Derived.ProofKit
import Derived.OpenShut
import Derived.ShutString
import Derived.ChangeOld
import Derived.Below
namespace Go.Proofs.Ytkdffnhakgjggaa.wireBack
open Go.ChangeShapes Go.WideShapes Go.ChangeAt Go.RowKit
open Go.ChangeMaps (open_string shut_string)
set_option linter.unusedVariables false

theorem own : ownKnob Try.prog.godebug = none := by kernel_rfl
theorem laidOut : laidOutB Try.prog = true := by kernel_rfl

/-- WHAT THE WALK IS TOLD OF A SLICE OF INTEGERS THAT CAME IN: it is nil; or it leads to a row of 'cap' cells, the numbers 'zs' (the first 'len' are its elements, the rest its spare room), each fitting its kind. -/
def IsRow (k : IntKind) (w : World) (a : Option Addr) (len cap : Nat) (zs : List Int) : Prop :=
  (a = none ∧ len = 0 ∧ cap = 0 ∧ zs = []) ∨
  ∃ x, a = some x ∧ len ≤ cap ∧ cap ≤ maxLen ∧ zs.length = cap ∧ (∀ i, i < zs.length → w.cell? (x.add i) = some (.int k (zs.getD i 0))) ∧ ∀ n ∈ zs, (Lit.int k n).wf = true

theorem drop_ahead (a d b : ByteArray) : ((a ++ d) ++ b).data.toList.drop a.size = d.data.toList ++ b.data.toList := by
  rw [num.list_append, num.list_append, List.append_assoc, ← num.size_list a, List.drop_left]
theorem size_three (a d b : ByteArray) : ((a ++ d) ++ b).size = a.size + d.size + b.size := by simp

theorem back_get (a d b : ByteArray) (n : Nat) (hn : n < 18446744073709551616) (hd : d.data.toList = num.digs n) (hz : ((a ++ d) ++ b).size ≤ 1125899906842624) : num.GetIs ((a ++ d) ++ b) a.size n (a.size + d.size : Nat) 0 := by
  refine num.get_in _ a.size hz (by rw [size_three]; omega) n (a.size + d.size) 0 (num.gets_ok ?_)
  rw [drop_ahead, hd, num.rd_digs n b.data.toList hn, ← hd, num.size_list]

/-- a text behind its length, or a list behind how many they are: its first number -/
theorem back_size (a d r b : ByteArray) (n most : Nat) (hn : n < 9223372036854775808) (hm : n ≤ most) (hm2 : most < 9223372036854775808) (hd : d.data.toList = num.digs n) (hz : ((a ++ (d ++ r)) ++ b).size ≤ 1125899906842624) : num.SizeIs ((a ++ (d ++ r)) ++ b) a.size most n (a.size + d.size : Nat) 0 := by
  refine num.size_ok _ a.size most n (a.size + d.size) (by omega) ⟨by omega, by omega⟩ ?_ (by omega)
  refine num.get_in _ a.size hz (by rw [size_three]; omega) n (a.size + d.size) 0 (num.gets_ok ?_)
  rw [drop_ahead, num.list_append, List.append_assoc, hd, num.rd_digs n _ (by omega), ← hd, num.size_list]

theorem back_text (a d t b : ByteArray) (ht : t.size ≤ 140737488351232) (hd : d.data.toList = num.digs t.size) (hz : ((a ++ (d ++ t)) ++ b).size ≤ 1125899906842624) : num.GetTextIs ((a ++ (d ++ t)) ++ b) a.size t.size t (a.size + d.size + t.size : Nat) 0 := by
  have hs := back_size a d t b t.size t.size (by omega) (Nat.le_refl _) (by omega) hd hz
  have e1 : (d ++ t).size = d.size + t.size := by simp
  have hx := num.text_ok ((a ++ (d ++ t)) ++ b) a.size t.size t.size (a.size + d.size) hz ht hs (by rw [size_three, e1]; omega)
  have e : ((a ++ (d ++ t)) ++ b).extract (a.size + d.size) (a.size + d.size + t.size) = t := num.bytes_ext (by
    rw [num.cut_take, ← List.drop_drop, drop_ahead, num.list_append, List.append_assoc, ← num.size_list d, List.drop_left, ← num.size_list t, List.take_left])
  rwa [e] at hx

theorem back_four (a d b : ByteArray) (n : Nat) (hn : n < 4294967296) (hd : d.data.toList = num.four n) (hz : ((a ++ d) ++ b).size ≤ 1125899906842624) : num.Get4Is ((a ++ d) ++ b) a.size n (a.size + 4 : Nat) 0 := by
  have h4 : d.size = 4 := by rw [← num.size_list, hd]; rfl
  refine num.get4_in _ a.size hz (by rw [size_three]; omega) n ?_
  rw [drop_ahead, hd, show (4 : Nat) = (num.four n).length from rfl, List.take_left, num.val_four n hn]

theorem back_all (a d r b : ByteArray) (ns : List Nat) (hns : ∀ n ∈ ns, n < 18446744073709551616) (hl : ns.length ≤ 20000) (hd : d.data.toList = num.digs ns.length) (hr : r.data.toList = num.puts ns) (hz : ((a ++ (d ++ r)) ++ b).size ≤ 1125899906842624) : num.GetAllIs ((a ++ (d ++ r)) ++ b) a.size ns.length ns (a.size + d.size + r.size : Nat) 0 := by
  have hs := back_size a d r b ns.length ns.length (by omega) (Nat.le_refl _) (by omega) hd hz
  have e1 : (d ++ r).size = d.size + r.size := by simp
  refine num.all_list _ a.size ns.length ns.length (a.size + d.size) hs ns (a.size + d.size + r.size) 0 ?_
  refine num.list_any _ (a.size + d.size) ns.length hz (by rw [size_three, e1]; omega) (by omega) (.inl (by omega)) ns (a.size + d.size + r.size) 0 ?_
  unfold num.lists
  rw [← List.drop_drop, drop_ahead, num.list_append, List.append_assoc, ← num.size_list d, List.drop_left, hr, num.rdN_puts ns _ hns]
  unfold num.join
  rw [if_pos rfl, List.nil_append, ← hr, num.size_list]

theorem walk_big (a b t : ByteArray) (n k : Int) (v : Value) (p : Option Addr) (len cap : Nat) (hv : v = .slice p len cap) (hbig : 20000 < len) (w : World) :
    Calls Try.prog 7 #[.string a, .string b, .string t, .int .u64 n, .int .u32 k, v] w fun e w' => e = .returned (.bool true) ∧ Below w.heap.size w w' := by
  subst hv
  go_enter Try.func7, Try.ntmps7
  go_wp2
  go_ret
  exact ⟨rfl, Below.refl _ _⟩

set_option maxHeartbeats 4000000 in
set_option maxRecDepth 100000 in
theorem walk_small (a b t : ByteArray) (n k : Nat) (v : Value) (p : Option Addr) (len cap : Nat) (hv : v = .slice p len cap) (ns : List Nat) (hlen : ns.length = len) (hns : ∀ n ∈ ns, n < 18446744073709551616) (hsm : len ≤ 20000) (hn : n < 18446744073709551616) (hk : k < 4294967296) (ha : a.size ≤ 140737488351232) (hb : b.size ≤ 140737488351232) (ht : t.size ≤ 140737488351232) (w : World) (hN : num.Nums w v ns) :
    Calls Try.prog 7 #[.string a, .string b, .string t, .int .u64 n, .int .u32 k, v] w fun e w' => e = .returned (.bool true) ∧ Below w.heap.size w w' := by
  obtain ⟨d1, hd1⟩ := num.text (num.digs n)
  obtain ⟨d2, hd2⟩ := num.text (num.digs t.size)
  obtain ⟨d3, hd3⟩ := num.text (num.four k)
  obtain ⟨d4, hd4⟩ := num.text (num.digs ns.length)
  obtain ⟨r, hr⟩ := num.text (num.puts ns)
  have l1 := num.digs_length n hn
  have l2 := num.digs_length t.size (by omega)
  have l4 := num.digs_length ns.length (by omega)
  have l5 := num.puts_length ns hns
  rw [← hd1, num.size_list] at l1
  rw [← hd2, num.size_list] at l2
  rw [← hd4, num.size_list] at l4
  rw [← hr, num.size_list] at l5
  have l3 : d3.size = 4 := by rw [← num.size_list, hd3]; rfl
  have e2 : (d2 ++ t).size = d2.size + t.size := by simp
  have e4 : (d4 ++ r).size = d4.size + r.size := by simp
  have p11 := num.put_is n hn d1 hd1
  have g9 := back_get a d1 b n hn hd1 (by rw [size_three]; omega)
  have p15 := num.putText_any t d2 ht hd2
  have g13 := back_text a d2 t b ht hd2 (by rw [size_three, e2]; omega)
  have p19 := num.putFour_is k hk d3 hd3
  have g17 := back_four a d3 b k hk hd3 (by rw [size_three]; omega)
  have p23 := num.putAll_is ns hns (by omega) (d4 ++ r) (by rw [num.list_append, hd4, hr])
  have g21 := back_all a d4 r b ns hns (by omega) hd4 hr (by rw [size_three, e4]; omega)
  have hlike := num.like_any ns (by omega)
  have z2 : d2.size + t.size = (d2 ++ t).size := e2.symm
  have z4 : d4.size + r.size = (d4 ++ r).size := e4.symm
  rw [Nat.add_assoc, z2] at g13
  rw [Nat.add_assoc, z4] at g21
  have m2 : (d2 ++ t).size ≤ 140737488351300 := by omega
  have m4 : (d4 ++ r).size ≤ 1000000 := by omega
  generalize d2 ++ t = s2 at *
  generalize d4 ++ r = s4 at *
  obtain ⟨q1, hq1⟩ : ∃ q, q = a.size + d1.size := ⟨_, rfl⟩
  obtain ⟨q2, hq2⟩ : ∃ q, q = a.size + s2.size := ⟨_, rfl⟩
  obtain ⟨q3, hq3⟩ : ∃ q, q = a.size + 4 := ⟨_, rfl⟩
  obtain ⟨q4, hq4⟩ : ∃ q, q = a.size + s4.size := ⟨_, rfl⟩
  rw [← hq1] at g9
  rw [← hq2] at g13
  rw [← hq3] at g17
  rw [← hq4] at g21
  have t1 : ((q1 : Int) != (a.size : Int) + (d1.size : Int)) = false := by rw [hq1]; simp
  have t2 : ((q2 : Int) != (a.size : Int) + (s2.size : Int)) = false := by rw [hq2]; simp
  have t3 : ((q3 : Int) != (a.size : Int) + 4) = false := by rw [hq3]; simp
  have t4 : ((q4 : Int) == (a.size : Int) + (s4.size : Int)) = true := by rw [hq4]; simp
  rw [hlen] at g21
  subst hv
  clear hd1 hd2 hd3 hd4 hr l5 e2 e4 z2 z4 hq1 hq2 hq3 hq4
  go_enter Try.func7, Try.ntmps7
  go_wp2_with (first | (go_at_call 11; refine (p11 _).mono ?_; rintro e w1 ⟨rfl, b1⟩; have n1 := hN.below b1) | (go_at_call 9; refine (g9 _).mono ?_; rintro e w2 ⟨rfl, rfl⟩) | (go_at_call 15; refine (p15 _).mono ?_; rintro e w3 ⟨rfl, b3⟩; have n3 := n1.below b3) | (go_at_call 13; refine (g13 _).mono ?_; rintro e w4 ⟨rfl, b4⟩; have n4 := n3.below b4) | (go_at_call 19; refine (p19 _).mono ?_; rintro e w5 ⟨rfl, b5⟩; have n5 := n4.below b5) | (go_at_call 17; refine (g17 _).mono ?_; rintro e w6 ⟨rfl, rfl⟩) | (go_at_call 23; refine (p23 _ _ n5).mono ?_; rintro e w7 ⟨rfl, b7⟩; have n7 := n5.below b7) | (go_at_call 21; refine (g21 _).mono ?_; rintro e w8 ⟨v8, rfl, m8, b8⟩; have n8 := n7.below b8) | (go_at_call 25; refine (hlike _ _ _ m8 n8).mono ?_; rintro e w9 ⟨rfl, b9⟩))
  go_ret
  exact ⟨rfl, num.chain (num.chain (num.chain (num.chain (num.chain (num.chain b1 b3) b4) b5) b7) b8) b9⟩

theorem walk (a0 : ByteArray) (a1 : ByteArray) (a2 : ByteArray) (a3 : Int) (a4 : Int) (a5 : Option Addr) (len5 cap5 : Nat) (z5 : List Int) (w : World) (w0 : a0.size ≤ 140737488351232) (w1 : a1.size ≤ 140737488351232) (w2 : a2.size ≤ 140737488351232) (w3 : (Lit.int .u64 a3).wf = true) (w4 : (Lit.int .u32 a4).wf = true) (w5 : IsRow .u64 w a5 len5 cap5 z5) :
    Calls Try.prog 7 #[.string a0, .string a1, .string a2, .int .u64 a3, .int .u32 a4, .slice a5 len5 cap5] w fun e w' => e = .returned (.bool true) ∧ Below w.heap.size w w' := by
  obtain ⟨ns, hN, hlen, hns⟩ := num.nums_of w a5 len5 cap5 z5 w5
  obtain ⟨h0, h1⟩ := num.u64_range w3
  obtain ⟨n, rfl⟩ := Int.eq_ofNat_of_zero_le h0
  obtain ⟨h2, h3⟩ := num.u32_range w4
  obtain ⟨k, rfl⟩ := Int.eq_ofNat_of_zero_le h2
  by_cases hbig : 20000 < len5
  · exact walk_big a0 a1 a2 n k _ a5 len5 cap5 rfl hbig w
  · exact walk_small a0 a1 a2 n k _ a5 len5 cap5 rfl ns hlen hns (by omega) (by omega) (by omega) w0 w1 w2 w hN


set_option maxRecDepth 100000 in
theorem lifted (os : Os) (started : os.Started) (H : Type) (enc : TypeId × Value → H) :
    ReturnsInHanded {} Try.checked os 7 .any (Rows.wireBackSpec.pre6 enc Try.prog Try.f7 Rows.wireBackRow.domain false) (Rows.wireBackSpec.post enc Try.prog Try.f7 false true false false) := by
  refine returnsInHanded_of_change_sized (C := Try.checked) own started (by kernel_rfl) Try.func7
    (ChangeSpec.witness6 (enc := enc) (C := Try.checked) false ⟨#[], #[.string ByteArray.empty, .string ByteArray.empty, .string ByteArray.empty, .int .u64 0, .int .u32 0, .slice none 0 0], []⟩ 8 (by kernel_rfl) (by kernel_rfl) (by kernel_rfl) (by kernel_rfl)) ?_
  intro W base args ds gs before hval0 hW hcnd hsz0 _
  have hsz : (DataW.weightsEach Try.prog (Try.f7.params.toList ++ Rows.wireBackSpec.plain.varTypes Try.prog) (ds ++ gs)).all (· ≤ reachBytes) = true := hsz0
  have hval : ∀ (j : Nat) t v, Try.f7.params[j]? = some t → args[j]? = some v → Value.okWide Try.prog W .any base t v := hval0
  have hW' := hW
  obtain ⟨p, q, hA0, hV, rfl, hfz, hnd⟩ := hW
  have hA : DataW.TrodAll enc Try.prog W 0 (fun _ => true) true Try.f7.params.toList args.toList ds p := hA0
  rw [Try.params7] at hA hval hsz
  obtain ⟨v0, vs0, d0, ds0, p0, q0, hargs, rfl, rfl, h0, r0⟩ := trodAll_cons hA
  obtain ⟨v1, vs1, d1, ds1, p1, q1, rfl, rfl, rfl, h1, r1⟩ := trodAll_cons r0
  obtain ⟨v2, vs2, d2, ds2, p2, q2, rfl, rfl, rfl, h2, r2⟩ := trodAll_cons r1
  obtain ⟨v3, vs3, d3, ds3, p3, q3, rfl, rfl, rfl, h3, r3⟩ := trodAll_cons r2
  obtain ⟨v4, vs4, d4, ds4, p4, q4, rfl, rfl, rfl, h4, r4⟩ := trodAll_cons r3
  obtain ⟨v5, vs5, d5, ds5, p5, q5, rfl, rfl, rfl, h5, r5⟩ := trodAll_cons r4
  obtain ⟨rfl, rfl, rfl⟩ := trodAll_nil r5
  obtain rfl : args = #[v0, v1, v2, v3, v4, v5] := by cases args; simp_all
  obtain ⟨rfl, rfl⟩ := trodVars_none hV
  obtain ⟨a0, rfl, rfl, rfl, w0⟩ := open_string Try.underlying9 (hval 0 9 v0 rfl rfl) h0
  obtain ⟨a1, rfl, rfl, rfl, w1⟩ := open_string Try.underlying9 (hval 1 9 v1 rfl rfl) h1
  obtain ⟨a2, rfl, rfl, rfl, w2⟩ := open_string Try.underlying9 (hval 2 9 v2 rfl rfl) h2
  obtain ⟨a3, rfl, rfl, rfl, w3⟩ := open_int Try.underlying22 (hval 3 22 v3 rfl rfl) h3
  obtain ⟨a4, rfl, rfl, rfl, w4⟩ := open_int Try.underlying32 (hval 4 32 v4 rfl rfl) h4
  obtain ⟨a5, len5, cap5, rfl⟩ := okWide_slice Try.underlying37 (hval 5 37 v5 rfl rfl)
  have k5 := h5
  have lt5 : ∀ x ∈ p5, x.block < W.heap.size := by obtain ⟨m, hm⟩ := k5; exact DataW.trod_lt m _ _ _ hm
  obtain ⟨z5, w5⟩ : ∃ zs, IsRow .u64 W a5 len5 cap5 zs := by
    obtain ⟨fuel, hf⟩ := h5
    rcases open_ints Try.underlying37 Try.underlying22 (by kernel_rfl) hf with ⟨hcs, _⟩ | ⟨x, l, c, zs, hcs, _, hl, hm, hz, _, hcell, hwz⟩
    · simp [Value.cells] at hcs
      obtain ⟨rfl, rfl, rfl⟩ := hcs
      exact ⟨[], .inl ⟨rfl, rfl, rfl, rfl⟩⟩
    · simp [Value.cells] at hcs
      obtain ⟨rfl, rfl, rfl⟩ := hcs
      exact ⟨zs, .inr ⟨_, rfl, hl, hm, by simpa using hz, hcell, hwz⟩⟩
  clear hA0 hval0
  have z0 : a0.size ≤ 140737488351232 := by
    have := sized_string hsz (j := 0) (t := 9) rfl rfl
    simpa [reachBytes] using this
  have z1 : a1.size ≤ 140737488351232 := by
    have := sized_string hsz (j := 1) (t := 9) rfl rfl
    simpa [reachBytes] using this
  have z2 : a2.size ≤ 140737488351232 := by
    have := sized_string hsz (j := 2) (t := 9) rfl rfl
    simpa [reachBytes] using this
  refine (walk a0 a1 a2 a3 a4 a5 len5 cap5 z5 W z0 z1 z2 w3 w4 w5).mono fun e W' ⟨he, bel⟩ => ?_
  subst he
  exact ⟨_, rfl, _, _, _, [], _, [], hW', trodAll_mk1 (shut_bool Try.underlying4 _), (trodAll_cons_mk (shut_string Try.underlying9 w0) (trodAll_cons_mk (shut_string Try.underlying9 w1) (trodAll_cons_mk (shut_string Try.underlying9 w2) (trodAll_cons_mk (shut_int Try.underlying22 w3) (trodAll_cons_mk (shut_int Try.underlying32 w4) (trodAll_cons_mk (Below.trod laidOut (by kernel_rfl) (of_decide_eq_true (by kernel_rfl)) k5 bel lt5) trodAll_mk0)))))), rfl, bel.frame _, fun h => by cases h⟩

theorem over : Rows.wireBackRow.holds Try.pinned (OpenSpec.ofChange Rows.wireBackSpec) :=
  OpenClaim.holds_of_wide 7 Try.f7 rfl rfl rfl rfl rfl rfl rfl ⟨rfl, rfl, rfl, rfl, rfl⟩ rfl rfl rfl rfl rfl (by kernel_rfl) Try.func7 (by kernel_rfl)
    (of_decide_eq_true (by kernel_rfl)) (by unfold Func.isWrapper; first | (rw [if_pos (by decide +kernel)]; kernel_rfl) | (rw [if_neg (by decide +kernel)]; exact ⟨rfl, rfl⟩))
    (fun os started H enc _ => lifted os started H enc)

theorem proved : Rows.WireBackSaid := over
#print axioms proved
end Go.Proofs.Ytkdffnhakgjggaa.wireBack
