/-
  Contracts over this program: sections are put, or refused, as the document says (fretsawref04's Put).
-/
import Derived.Test.YtjnjjbacfodacaaPut
namespace Go.Proofs.Ytjnjjbacfodacaa.pk
open Go.ChangeShapes Go.WideShapes Go.ChangeAt Go.RowKit
set_option linter.unusedVariables false

theorem hold_next {W W' w : World} {g : Nat} {x : Sec} (h : W.cell? ⟨g, 0, none⟩ = some (.int .u64 x.kind) ∧ W.cell? ⟨g, 1, none⟩ = some (.string x.body) ∧ One W g x ∧ Below w.heap.size w W) (b : Below W.heap.size W W') :
    W'.cell? ⟨g, 0, none⟩ = some (.int .u64 x.kind) ∧ W'.cell? ⟨g, 1, none⟩ = some (.string x.body) ∧ One W' g x ∧ Below w.heap.size w W' :=
  ⟨(h.2.2.1.later b).cell0, (h.2.2.1.later b).cell1, h.2.2.1.later b, chain h.2.2.2 b⟩
theorem hold_of {W w : World} {g : Nat} {x : Sec} (h : One W g x) (hb : Below w.heap.size w W) : W.cell? ⟨g, 0, none⟩ = some (.int .u64 x.kind) ∧ W.cell? ⟨g, 1, none⟩ = some (.string x.body) ∧ One W g x ∧ Below w.heap.size w W :=
  ⟨h.cell0, h.cell1, h, hb⟩

set_option maxHeartbeats 4000000 in
set_option maxRecDepth 100000 in
theorem rputs_small (l : List Sec) (hl : ∀ x ∈ l, Fits x) (h64 : l.length ≤ 64) (ht53 : total l ≤ 9007199254740992) (t : ByteArray) (e : Nat) (hp : putP l = (t, e)) : RPutsIs l t e := by
  intro v w hv
  obtain ⟨a, cap, rfl, hl63, hc⟩ := hv.form
  have hsl := secs_length l hl
  have HP : Hid (putP l = (t, e)) := hp
  clear hv hp
  go_enter Try.func11, Try.ntmps11
  go_wp2
  go_loopw [4, 12] (fun u x wr => ∃ (i t : Nat), u = .int .i64 t ∧ x = .int .i64 i ∧ i ≤ l.length ∧ Below w.heap.size w wr ∧ Hid (t + total (l.drop i) = total l)) (fun _ x _ => l.length - (intOf x).toNat)
  case atStart => exact ⟨0, 0, rfl, rfl, by omega, Below.refl _ _, by rw [List.drop_zero, Nat.zero_add]; rfl⟩
  case round =>
    obtain ⟨i, z, rfl, rfl, hi, hB, HT⟩ := hrel
    by_cases hend : i < l.length
    · obtain ⟨b, off, rfl, hcap, hlt, hc1, hc2⟩ := hc i hend
      rw [← hB.cell (p := ⟨b, off + i * 2, none⟩) hlt] at hc1
      rw [← hB.cell (p := ⟨b, off + i * 2 + 1, none⟩) hlt] at hc2
      have HN : Hid (z + (nth l i).body.size + total (l.drop (i + 1)) = total l) := by
        show _ = _
        rw [← HT.out, drop_nth l i hend, total, Nat.add_assoc]
      have hle : z + (nth l i).body.size ≤ 9007199254740992 := by have := HN.out; omega
      generalize nth l i = x at *
      clear hc HT HP
      go_wp2
      go_roundw
      case rel => exact ⟨i + 1, z + x.body.size, by go_num, by go_num, by omega, hB.alloc hB.size _, HN⟩
      case measure => simp [intOf]; omega
    · have hz : z = total l := by
        rw [← HT.out, List.drop_eq_nil_of_le (by omega)]
        rfl
      clear HT
      by_cases hbig : 8388608 < z
      · have HE : Hid (t = ⟨#[]⟩ ∧ e = 2) := by
          have h := HP.out
          unfold putP at h
          rw [if_pos (.inr (by omega))] at h
          simp only [Prod.mk.injEq] at h
          exact ⟨h.1.symm, h.2.symm⟩
        clear hz HP hc
        go_wp2
        go_ret2
        exact ⟨by rw [HE.out.1, HE.out.2]; rfl, hB⟩
      · have hcl : (core l).length ≤ 10000000 := by
          have := num.digs_length l.length (by omega)
          unfold core
          rw [List.length_append, List.length_append]
          show 5 + _ ≤ _
          omega
        have HQ : Hid (putP l = if rises none l = false then (⟨#[]⟩, 1) else (packed l, 0)) := by
          show _ = _
          unfold putP
          rw [if_neg (by omega)]
        have HPQ : Hid (putP l = (t, e)) := HP
        clear HP
        obtain ⟨d, hd⟩ := num.text (num.digs l.length)
        have p21 := num.rput_is l.length (by omega) d hd
        have hd10 : d.size ≤ 10 := by have := num.digs_length l.length (by omega); rwa [← hd, num.size_list] at this
        obtain ⟨s0, hs0⟩ : ∃ s0 : ByteArray, s0 = (⟨#[70, 83, 65, 87, 1]⟩ : ByteArray) ++ d := ⟨_, rfl⟩
        have HS : Hid (s0.data.toList ++ secs (l.drop 0) = core l) := by
          show _ = _
          rw [hs0, list_append, hd, List.drop_zero, List.append_assoc]
          rfl
        clear hz hd
        go_wp2_with (go_at_call 21; refine (p21 _).mono ?_; rintro e w1 ⟨rfl, b1⟩)
        have hB1 := chain hB b1
        clear hB b1 p21
        rw [← hs0]
        clear hs0 hd10
        go_loopw [7, 36] (fun u x wr => ∃ (i : Nat) (s : ByteArray), u = .string s ∧ x = .int .i64 i ∧ i ≤ l.length ∧ Below w.heap.size w wr ∧ Hid (s.data.toList ++ secs (l.drop i) = core l) ∧ Hid (rises (lastKind (l.take i)) (l.drop i) = rises none l)) (fun _ x _ => l.length - (intOf x).toNat)
        case atStart => exact ⟨0, s0, rfl, rfl, by omega, hB1, HS, rfl⟩
        case round =>
          clear HS hB1
          obtain ⟨i, s, rfl, rfl, hi, hB, HA, HR⟩ := hrel
          have hsz : s.size ≤ 10000000 := by
            have h1 := congrArg List.length HA.out
            rw [List.length_append, num.size_list] at h1
            omega
          by_cases hend : i < l.length
          · obtain ⟨b, off, rfl, hcap, hlt, hc1, hc2⟩ := hc i hend
            rw [← hB.cell (p := ⟨b, off + i * 2, none⟩) hlt] at hc1
            rw [← hB.cell (p := ⟨b, off + i * 2 + 1, none⟩) hlt] at hc2
            have hfx := hl _ (nth_mem l i hend)
            have HN : Hid (secs (l.drop i) = (num.digs (nth l i).kind ++ (num.digs (nth l i).body.size ++ (nth l i).body.data.toList)) ++ secs (l.drop (i + 1))) := secs_drop l i hend
            have HR2 : Hid ((over (lastKind (l.take i)) (nth l i).kind && rises (lastKind (l.take (i + 1))) (l.drop (i + 1))) = rises none l) := by
              show _ = _
              rw [← HR.out, drop_nth l i hend, rises, take_nth l i hend, last_append]
            clear HR
            have hpre : (i ≤ 0 ∧ lastKind (l.take i) = none) ∨ ∃ k : Nat, i = k + 1 ∧ lastKind (l.take i) = some (nth l k).kind ∧ wr.cell? ⟨b, off + k * 2, none⟩ = some (.int .u64 (nth l k).kind) := by
              by_cases h0 : i = 0
              · exact .inl ⟨by omega, by rw [h0]; rfl⟩
              · refine .inr ⟨i - 1, by omega, ?_, ?_⟩
                · have e : i = (i - 1) + 1 := by omega
                  conv => lhs; rw [e]
                  rw [take_nth l (i - 1) (by omega), last_append]
                · obtain ⟨b', off', e, _, _, hd1, _⟩ := hc (i - 1) (by omega)
                  simp only [Option.some.injEq, Addr.mk.injEq, and_true] at e
                  obtain ⟨rfl, rfl⟩ := e
                  rw [hB.cell (p := ⟨b, off + (i - 1) * 2, none⟩) hlt]
                  exact hd1
            generalize nth l i = x at *
            obtain ⟨dk, hdk⟩ := num.text (num.digs x.kind)
            obtain ⟨ds, hds⟩ := num.text (num.digs x.body.size)
            have hk10 : dk.size ≤ 10 := by have := num.digs_length x.kind hfx.1; rwa [← hdk, num.size_list] at this
            have p1 := num.rput_is x.kind hfx.1 dk hdk
            have p2 := num.rputText_any x.body ds hfx.2 hds
            have HE : Hid ((s ++ dk ++ (ds ++ x.body)).data.toList ++ secs (l.drop (i + 1)) = core l) := by
              show _ = _
              rw [← HA.out, HN.out, list_append, list_append, list_append, hdk, hds]
              simp only [List.append_assoc]
            have hu : (ds ++ x.body).size ≤ 10000000 := by
              have h1 := congrArg List.length HE.out
              rw [List.length_append, list_append, List.length_append, num.size_list, num.size_list] at h1
              omega
            generalize ds ++ x.body = u at *
            have hcat1 : ¬ 9223372036854775807 < s.size + dk.size := by omega
            have hcat2 : ¬ 9223372036854775807 < s.size + dk.size + u.size := by omega
            clear hc HA HN hdk hds hfx
            rcases hpre with ⟨h0, hlast⟩ | ⟨k, rfl, hlast, hck⟩
            · have HR3 : Hid (rises (lastKind (l.take (i + 1))) (l.drop (i + 1)) = rises none l) := by
                show _ = _
                rw [← HR2.out, hlast, over, Bool.true_and]
              clear HR2 hlast
              have hg0 : decide (0 < i) = false := by simp; omega
              go_wp2
              go_quiet (fail)
              go_wp2
              go_region_held3 (fun W => W.cell? ⟨wr.heap.size, 0, none⟩ = some (.int .u64 x.kind) ∧ W.cell? ⟨wr.heap.size, 1, none⟩ = some (.string x.body) ∧ One W wr.heap.size x ∧ Below w.heap.size w W) (first | assumption | exact hold_of (One.new wr x) (drewN_below (hB.alloc hB.size _) _).drew | exact hold_next (by assumption) (by assumption)) (first | (go_at_call 21; refine (p1 _).mono ?_; rintro e w1 ⟨rfl, b1⟩) | (go_at_call 22; refine (p2 _).mono ?_; rintro e w2 ⟨rfl, b2⟩))
              go_wp2
              go_roundw
              case rel => exact ⟨i + 1, s ++ dk ++ u, rfl, by go_num, by omega, chain (chain (drewN_below (hB.alloc hB.size _) _) b1) b2, HE, HR3⟩
              case measure => simp [intOf]; omega
            · by_cases hlt2 : (nth l k).kind < x.kind
              · have HR3 : Hid (rises (lastKind (l.take (k + 1 + 1))) (l.drop (k + 1 + 1)) = rises none l) := by
                  show _ = _
                  rw [← HR2.out, hlast, over, decide_eq_true hlt2, Bool.true_and]
                clear HR2 hlast
                generalize nth l k = y at *
                have hkl : k < l.length := by omega
                have hkw : IntKind.i64.wrap (k : Int) = (k : Int) := IntWalk.i64_in _ ⟨by omega, by omega⟩
                have hck2 : (wr.alloc (.cells #[.int .u64 x.kind, .string x.body] 40)).cell? ⟨b, off + k * 2, none⟩ = some (.int .u64 y.kind) := by
                  rw [(hB.alloc hB.size _).cell (p := ⟨b, off + k * 2, none⟩) hlt, ← hB.cell (p := ⟨b, off + k * 2, none⟩) hlt]
                  exact hck
                go_wp2
                go_quiet (fail)
                go_wp2
                go_region_held3 (fun W => W.cell? ⟨wr.heap.size, 0, none⟩ = some (.int .u64 x.kind) ∧ W.cell? ⟨wr.heap.size, 1, none⟩ = some (.string x.body) ∧ One W wr.heap.size x ∧ Below w.heap.size w W) (first | assumption | exact hold_of (One.new wr x) (drewN_below (hB.alloc hB.size _) _).drew | exact hold_next (by assumption) (by assumption)) (first | (go_at_call 21; refine (p1 _).mono ?_; rintro e w1 ⟨rfl, b1⟩) | (go_at_call 22; refine (p2 _).mono ?_; rintro e w2 ⟨rfl, b2⟩))
                go_wp2
                go_roundw
                case rel => exact ⟨k + 1 + 1, s ++ dk ++ u, rfl, by go_num, by omega, chain (chain (drewN_below (hB.alloc hB.size _) _) b1) b2, HE, HR3⟩
                case measure => simp [intOf]; omega
              · have HF : Hid (t = ⟨#[]⟩ ∧ e = 1) := by
                  have h1 : rises none l = false := by rw [← HR2.out, hlast, over, decide_eq_false hlt2, Bool.false_and]
                  have h2 := HQ.out
                  rw [HPQ.out, if_pos h1] at h2
                  simp only [Prod.mk.injEq] at h2
                  exact h2
                clear HR2 hlast
                generalize nth l k = y at *
                have hkl : k < l.length := by omega
                have hle2 : x.kind ≤ y.kind := by omega
                have hkw : IntKind.i64.wrap (k : Int) = (k : Int) := IntWalk.i64_in _ ⟨by omega, by omega⟩
                have hck2 : (wr.alloc (.cells #[.int .u64 x.kind, .string x.body] 40)).cell? ⟨b, off + k * 2, none⟩ = some (.int .u64 y.kind) := by
                  rw [(hB.alloc hB.size _).cell (p := ⟨b, off + k * 2, none⟩) hlt, ← hB.cell (p := ⟨b, off + k * 2, none⟩) hlt]
                  exact hck
                go_wp2
                go_quiet (fail)
                go_wp2
                go_ret2
                exact ⟨by rw [HF.out.1, HF.out.2]; rfl, drewN_below (hB.alloc hB.size _) _⟩
          · have HF : Hid (t = packed l ∧ e = 0) := by
              have h1 : rises none l = true := by rw [← HR.out, List.drop_eq_nil_of_le (by omega)]; rfl
              have h2 := HQ.out
              rw [HPQ.out, h1, if_neg (by simp)] at h2
              simp only [Prod.mk.injEq] at h2
              exact h2
            have HS2 : Hid (s.data.toList = core l) := by
              show _ = _
              rw [← HA.out, List.drop_eq_nil_of_le (by omega), secs, List.append_nil]
            obtain ⟨n, hn⟩ : ∃ n, n = crc.crc 0 s := ⟨_, rfl⟩
            have p24 := crc.rof_is s n (by omega) hn
            have hn32 : n < 4294967296 := by rw [hn]; exact crc.crc_lt 0 s
            obtain ⟨f, hf⟩ := num.text (num.four n)
            have p23 := num.rputFour_is n hn32 f hf
            have hf4 : f.size ≤ 4 := by rw [← num.size_list, hf]; exact Nat.le_refl 4
            have HZ : Hid (s ++ f = t) := by
              refine num.bytes_ext ?_
              have e1 : n = csum (core l) := by
                rw [hn, crc.crc, HS2.out]
                rfl
              rw [HF.out.1, packed_list, list_append, HS2.out, hf, e1, sealed]
            clear HA HR hn hf HS2 hc hn32
            go_wp2_with (first | (go_at_call 24; refine (p24 _).mono ?_; rintro e w1 ⟨rfl, rfl⟩) | (go_at_call 23; refine (p23 _).mono ?_; rintro e w2 ⟨rfl, b2⟩))
            go_ret2
            exact ⟨by rw [← HZ.out, HF.out.2]; rfl, chain hB b2⟩

theorem total_small (l : List Sec) (hl : ∀ x ∈ l, Fits x) : total l ≤ 140737488351232 * l.length := by
  induction l with
  | nil => simp [total]
  | cons x l ih =>
    have h1 := (hl x (by simp)).2
    have h2 := ih (fun y hy => hl y (by simp [hy]))
    rw [total, List.length_cons]
    omega
theorem rputs_any (l : List Sec) (hl : ∀ x ∈ l, Fits x) (t : ByteArray) (e : Nat) (h : putP l = (t, e)) : RPutsIs l t e := by
  by_cases h64 : 64 < l.length
  · unfold putP at h
    rw [if_pos (.inl h64)] at h
    simp only [Prod.mk.injEq] at h
    obtain ⟨rfl, rfl⟩ := h
    exact rputs_many l h64
  · have := total_small l hl
    exact rputs_small l hl (by omega) (by omega) t e h
end Go.Proofs.Ytjnjjbacfodacaa.pk
