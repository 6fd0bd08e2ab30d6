/- The contract of the program's reader of numbers. -/
import Derived.Test.YtnjjihikjcfliaaPrRd
namespace Go.Proofs.Ytnjjihikjcfliaa
open Go.RowKit
set_option linter.unusedVariables false

theorem val_first (k : Nat) (r : List Int) (hk : 1 ≤ k) (hl : k ≤ r.length) (hb : Bytes8 r) : val (r.take k) / 256 ^ (k - 1) = (r.getD 0 0).toNat := by
  cases r with
  | nil => simp at hl; omega
  | cons x t =>
    obtain ⟨j, rfl⟩ : ∃ j, k = j + 1 := ⟨k - 1, by omega⟩
    have ht : Bytes8 (t.take j) := fun z hz => hb z (List.mem_cons_of_mem _ (List.mem_of_mem_take hz))
    have h1 := val_lt ht
    simp only [List.length_cons] at hl
    have h2 : (t.take j).length = j := by rw [List.length_take]; omega
    rw [List.take_succ_cons, val_cons, h2, Nat.add_sub_cancel]
    rw [h2] at h1
    rw [Nat.mul_add_div (Nat.pow_pos (by omega)), Nat.div_eq_of_lt h1]
    simp
theorem or_low (v : Nat) (x : Int) (hv : v < 72057594037927936) (h0 : 0 ≤ x) (h1 : x ≤ 255) : bits .or .u64 ((v : Int) * 256) x = 256 * (v : Int) + x := by
  rw [bits_join .u64 64 (by decide) (fun n h0 h1 => IntWalk.u64_in n (by omega)) 8 ((v : Int) * 256) x (by omega) (by omega) (by omega) h0 (by omega) (by omega)]
  omega

set_option maxRecDepth 100000 in
set_option maxHeartbeats 4000000 in
theorem rdNumber_any (g : Nat) (gb : Option Nat) (s : Option (List Int)) (w : World) (hr : PR w g gb s) :
    Calls Try.prog 15 #[.pointer (some ⟨g, 0, none⟩)] w (PRPost w g gb (.int .u64 (rdNum s).1) (rdNum s).2) := by
  have HR := Lib.hid hr
  have hb8 : ∀ r, s = some r → Bytes8 r := by
    obtain ⟨a, n, cap, bad, hd, hgb, hne, hnone, hsome⟩ := hr
    exact fun r h => (hsome r h).2.1.bytes
  have HB8 := Lib.hid hb8
  clear hr hb8
  go_enter Try.func15, Try.ntmps15
  go_wp2_with fail
  refine (rdByte_any g gb s _ HR.out).mono ?_
  rintro _ w1 ⟨rfl, hpr, hg1⟩
  have HG1 := Lib.hid hg1
  clear hg1
  cases hs : (rdByte s).2 with
  | none =>
    obtain ⟨e1, e2⟩ := rdNum_of_byte s hs
    rw [e1, e2]
    rw [hs] at hpr
    have HPR := Lib.hid hpr
    clear hpr
    go_wp2_with fail
    go_ret
    rw [e1]
    exact ⟨rfl, HPR.out, HG1.out⟩
  | some r =>
    have e1 := rdByte_some hs
    rw [hs] at hpr
    have hc := HB8.out _ e1 (rdByte s).1 (by simp)
    generalize (rdByte s).1 = c at *
    subst e1
    have hr8 : Bytes8 r := fun z hz => HB8.out _ rfl z (List.mem_cons_of_mem _ hz)
    clear hs
    by_cases h1 : c ≤ 247
    · have e2 : rdNum (some (c :: r)) = (c.toNat, some r) := by simp [rdNum, getNum, show c < 248 by omega]
      have HPR := Lib.hid hpr
      clear hpr
      go_wp2_with fail
      go_ret
      rw [e2]
      exact ⟨by rw [show ((c.toNat : Nat) : Int) = c by omega]; rfl, HPR.out, HG1.out⟩
    · obtain ⟨k, hk, hk1, hk8⟩ : ∃ k : Nat, c - 247 = (k : Int) ∧ 1 ≤ k ∧ k ≤ 8 := ⟨(c - 247).toNat, by omega, by omega, by omega⟩
      have e2 := rdNum_big c k r hk hk1
      have HBA := Lib.hid e2
      have ek : IntKind.i64.wrap (c - 247) = (k : Int) := by rw [hk]; exact IntWalk.i64_in _ (by omega)
      obtain ⟨a, n, cap, bad, hd, hgb, hne, hnone, hsome⟩ := hpr
      obtain ⟨rfl, hin, hmx⟩ := hsome r rfl
      have hl := hin.len
      have c0 := hd.cell0
      have f0 := hd.frozen 0
      have HD := Lib.hid hd
      have HIN := Lib.hid hin
      have HF := Lib.hid (fun W h => fail_any g a n cap false W h)
      clear hk e2 hd hin hnone hsome HR
      by_cases h2 : r.length < k
      · have h3 : (n : Int) < (k : Int) := by omega
        go_wp2_with (first
          | (go_at_call 26
             (with_reducible refine (HF.out _ HD.out).mono ?_)
             rintro _ w2 ⟨rfl, hd2, hg2⟩
             have HD2 := Lib.hid hd2
             have HG2 := Lib.hid hg2
             clear hd2 hg2))
        go_ret
        rw [HBA.out, if_pos h2]
        exact ⟨rfl, ⟨none, 0, 0, true, HD2.out, (fun ad h => by cases h), hne, fun _ => ⟨rfl, rfl, rfl, rfl⟩, (fun r h => by cases h)⟩, only_trans HG1.out HG2.out⟩
      · have h3 : ¬ (n : Int) < (k : Int) := by omega
        obtain ⟨ga, off, rfl, hga, hseg⟩ := HIN.out.place (by omega)
        obtain rfl : gb = some ga := hgb _ rfl
        have hcell : ∀ i, i < k → w1.cell? ⟨ga, off + i, none⟩ = some (.int .u8 (r.getD i 0)) := fun i hi => hseg.cellD i (by omega)
        have HCE := Lib.hid hcell
        clear hcell hseg hgb
        go_wp2_with fail
        go_loopw [5, 26] (fun s5 s26 wx => ∃ i : Nat, i ≤ k ∧ s5 = .int .u64 (val (r.take i)) ∧ s26 = .int .i64 i ∧ wx = w1) (fun _ s26 _ => k - (intOf s26).toNat)
        case atStart => exact ⟨0, by omega, rfl, rfl, rfl⟩
        case round =>
          obtain ⟨i, hi, rfl, rfl, rfl⟩ := hrel
          have hv1 := val_lt (l := r.take i) (fun z hz => hr8 z (List.mem_of_mem_take hz))
          have hv2 : 256 ^ (r.take i).length = 256 ^ i := by rw [List.length_take, Nat.min_eq_left (by omega)]
          rw [hv2] at hv1
          by_cases hlt : i < k
          · have cb := HCE.out i hlt
            have hx := byte_at hr8 i
            have hv3 : 256 ^ i ≤ 256 ^ 7 := Nat.pow_le_pow_right (by omega) (by omega)
            have hnx : val (r.take (i + 1)) = 256 * val (r.take i) + (r.getD i 0).toNat := by
              rw [List.take_succ_eq_append_getElem (by omega), val_snoc]
              simp [List.getD, show i < r.length by omega]
            have HNX := Lib.hid hnx
            have e5 : (256 : Nat) ^ 7 = 72057594037927936 := by decide
            generalize val (r.take i) = v at *
            generalize r.getD i 0 = x at *
            have hor := or_low v x (by omega) hx.1 hx.2
            have q8 : (i : Int) < (k : Int) := by omega
            have q9 : (i : Int) < (n : Int) := by omega
            have q7 : IntKind.u64.wrap x = x := IntWalk.u64_in _ (by omega)
            have hv4 : (v : Int) < 72057594037927936 := by omega
            clear hnx hv1 hv2 hv3 e5
            go_wp2_with fail
            refine ⟨⟨i + 1, by omega, ?_, by go_num, trivial⟩, by simp [intOf]; omega⟩
            rw [HNX.out]
            go_num
          · obtain rfl : i = k := by omega
            have hx := byte_at hr8 0
            have hfi := val_first i r hk1 (by omega) hr8
            have hba := HBA.out
            rw [if_neg h2] at hba
            have hv9 : 256 ^ i ≤ 256 ^ 8 := Nat.pow_le_pow_right (by omega) (by omega)
            have e8 : (256 : Nat) ^ 8 = 18446744073709551616 := by decide
            generalize val (r.take i) = v at *
            generalize r.getD 0 0 = x at *
            have hsh : (v : Int) / 2 ^ (8 * ((i : Int) - 1)).toNat = x := by
              have h := shr_is v (i - 1)
              rw [show ((i - 1 : Nat) : Int) = (i : Int) - 1 by omega, hfi] at h
              rw [h]; omega
            have q1 : (0 : Int) ≤ 8 * ((i : Int) - 1) := by omega
            have q2 : 8 * ((i : Int) - 1) ≤ 64 := by omega
            have q5 : ¬ (i : Int) < (i : Int) := by omega
            have q6 : (i : Int) ≤ (n : Int) := by omega
            have q3 : (0 : Int) ≤ (i : Int) := by omega
            have HBA2 := Lib.hid hba
            clear hba HBA hv1 hv2 hv9 e8 HCE hfi
            by_cases hv0 : v < 248
            · have hv1 : (v : Int) ≤ 247 := by omega
              go_wp2_with (first
                | (go_at_call 26
                   (with_reducible refine (HF.out _ HD.out).mono ?_)
                   rintro _ w2 ⟨rfl, hd2, hg2⟩
                   have HD2 := Lib.hid hd2
                   have HG2 := Lib.hid hg2
                   clear hd2 hg2))
              go_ret
              rw [HBA2.out, if_pos (.inr hv0)]
              exact ⟨rfl, ⟨none, 0, 0, true, HD2.out, (fun ad h => by cases h), hne, fun _ => ⟨rfl, rfl, rfl, rfl⟩, (fun r h => by cases h)⟩, only_trans HG1.out HG2.out⟩
            · have hv1 : ¬ (v : Int) ≤ 247 := by omega
              have hv2 : decide ((v : Int) ≤ 247) = false := by simpa using hv1
              by_cases hx0 : x = 0
              · subst hx0
                go_wp2_with (first
                  | (go_at_call 26
                     (with_reducible refine (HF.out _ HD.out).mono ?_)
                     rintro _ w2 ⟨rfl, hd2, hg2⟩
                     have HD2 := Lib.hid hd2
                     have HG2 := Lib.hid hg2
                     clear hd2 hg2))
                go_ret
                rw [HBA2.out, if_pos (by simp)]
                exact ⟨rfl, ⟨none, 0, 0, true, HD2.out, (fun ad h => by cases h), hne, fun _ => ⟨rfl, rfl, rfl, rfl⟩, (fun r h => by cases h)⟩, only_trans HG1.out HG2.out⟩
              · have hx1 : (x == 0) = false := by simpa using hx0
                go_wp2_with fail
                all_goals
                  go_ret
                  have hpr := PR.move HD.out rfl hne HIN.out i (by omega) hmx
                  rw [HBA2.out, if_neg (by omega)]
                · rw [if_pos h, h, Nat.sub_self] at hpr
                  exact ⟨rfl, hpr, only_set HG1.out 0 _⟩
                · rw [if_neg h] at hpr
                  exact ⟨rfl, hpr, only_set HG1.out 0 _⟩
end Go.Proofs.Ytnjjihikjcfliaa
