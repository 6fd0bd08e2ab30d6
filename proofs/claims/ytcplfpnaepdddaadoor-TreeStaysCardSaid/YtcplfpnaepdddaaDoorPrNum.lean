/- The contracts of the program's Number and Bytes. -/
import Derived.Test.YtcplfpnaepdddaaDoorPrLen
import Derived.Test.YtcplfpnaepdddaaDoorCodMath
import Derived.Test.YtcplfpnaepdddaaDoorInfo
namespace Go.Proofs.YtcplfpnaepdddaaDoor
open Go.RowKit
set_option linter.unusedVariables false

theorem nd_of_len {v : Nat} {r : Int} (h : LenAt v r) : ∃ L : Nat, r = (L : Int) ∧ L ≤ 64 ∧ (L + 7) / 8 = nd v := by
  obtain ⟨k, l, rfl, h1, h2, h3, h4, h5⟩ := h
  have e0 : ((v : Int) / 256 ^ k) = ((v / 256 ^ k : Nat) : Int) := by rw [Int.natCast_ediv, Int.natCast_pow]; rfl
  rw [e0] at h3 h4
  have hn : k + 1 = nd v := by
    refine nd_unique ?_ (.inr ?_)
    · rw [← div_step]; omega
    · rw [Nat.add_sub_cancel]; omega
  exact ⟨8 * k + l.toNat, by omega, by omega, by omega⟩
theorem len64_any (v : Nat) (w : World) (hp : 0 < v) (hv : v < 18446744073709551616) :
    Calls Tryd.prog 74 #[.int .u64 v] w (fun e w' => (∃ L : Nat, e = .returned (.int .i64 L) ∧ L ≤ 64 ∧ (L + 7) / 8 = nd v) ∧ w' = w) :=
  (len64_raw v w (by omega) (by omega)).mono fun e w' ⟨⟨r, h1, h2⟩, h3⟩ => by
    obtain ⟨L, rfl, h⟩ := nd_of_len h2
    exact ⟨⟨L, h1, h⟩, h3⟩

/-- What has been written when i of the m bytes are there. -/
def part (m v i : Nat) : List Int := ((247 + m : Nat) : Int) :: (List.replicate (m - i) 0 ++ be i v)
theorem part_length (m v i : Nat) (h : i ≤ m) : (part m v i).length = m + 1 := by simp [part, be_length]; omega
theorem part_zero (m v : Nat) : part m v 0 = ((247 + m : Nat) : Int) :: List.replicate m 0 := by simp [part, be]
theorem part_set (m v i : Nat) (h : i < m) : (part m v i).set (m - i) ((v / 256 ^ i % 256 : Nat) : Int) = part m v (i + 1) := by
  have e1 : m - i = (m - (i + 1)) + 1 := by omega
  have e2 : List.replicate (m - i) (0 : Int) = List.replicate (m - (i + 1)) 0 ++ [0] := by rw [e1, List.replicate_succ']
  unfold part
  rw [e2]
  conv => lhs; rw [e1]
  rw [List.set_cons_succ, List.append_assoc, List.set_append_right _ _ (by simp)]
  simp [be]
theorem shr_is (v i : Nat) : (v : Int) / 2 ^ (8 * (i : Int)).toNat = ((v / 256 ^ i : Nat) : Int) := by
  rw [show (8 * (i : Int)).toNat = 8 * i by omega, Int.natCast_ediv, Int.natCast_pow, Int.pow_mul]
  rfl

set_option maxRecDepth 100000 in
set_option maxHeartbeats 2000000 in
theorem number_any (v : Nat) (w : World) (hv : v < 18446744073709551616) :
    Calls Tryd.prog 70 #[.int .u64 v] w (OwnPost w (numL v)) := by
  obtain ⟨i0, hi0, hz0, hz1, hz2⟩ := info_parts infoU8
  go_enter Tryd.func70, Tryd.ntmps70
  by_cases h : v < 248
  · have hb : (v : Int) ≤ 247 := by omega
    go_wp2_with fail
    go_ret
    have e : numL v = [(v : Int)] := by unfold numL; rw [if_pos h]
    rw [e]
    exact ⟨w.heap.size, 1, rfl, own_new w 5 .u8 [(v : Int)] w.heap.size (Nat.le_refl _) (by simp [maxLen]), (Below.refl _ _).alloc (Nat.le_refl _) _⟩
  · have hb : ¬ (v : Int) ≤ 247 := by omega
    have hm1 := nd_one (v := v) (by omega)
    have hm8 := nd_64 hv
    have hlen := Lib.hid (fun W => len64_any v W (by omega) hv)
    obtain ⟨m, hm⟩ : ∃ m, m = nd v := ⟨_, rfl⟩
    rw [← hm] at hm1 hm8 hlen
    have HM := Lib.hid hm
    clear hm
    go_wp2_with (first
      | (go_at_call 74
         (with_reducible refine (hlen.out _).mono ?_)
         rintro _ w1 ⟨⟨L, rfl, hL1, hL2⟩, rfl⟩
         have hLq : ((L : Int) + 7) / 8 = (m : Int) := by omega
         have hLq2 : ((L : Int) + 7).tdiv 8 = (m : Int) := by rw [Int.tdiv_eq_ediv_of_nonneg (by omega)]; exact hLq)
      | (at_make
         refine wpList_make_ints _ rfl (.tmp 16) (.tmp 16) 22 rfl 5 i0 .u8 Tryd.underlying22 hi0 hz0 hz1 .i64 .i64 _ _ (1 + m) rfl rfl (by push_cast; omega) (by push_cast; omega) (by rw [hz2]; omega) (by simp only [maxLen]; omega) ?_
         intro w2 hr2 hb2 hs2
         obtain ⟨z0, hc0⟩ := hr2.has 0 (by simp; omega)
         have hf0 := hr2.frozen 0
         have HR2 := Lib.hid hr2
         have HB2 := Lib.hid hb2
         clear hr2 hs2 hb2))
    have hrow : Row .u8 (w2.setCell ⟨w1.heap.size, 0, none⟩ (.int .u8 (247 + (m : Int)))) 5 w1.heap.size (part m v 0) := by
      have h := HR2.out.set 0 (247 + (m : Int))
      rw [part_zero, show (((247 + m : Nat)) : Int) = 247 + (m : Int) by omega]
      rwa [Nat.add_comm 1 m, List.replicate_succ, List.set_cons_zero] at h
    have hbel : Below w1.heap.size w1 (w2.setCell ⟨w1.heap.size, 0, none⟩ (.int .u8 (247 + (m : Int)))) := HB2.out.setCell (Nat.le_refl _) _
    have H0 := Lib.hid (And.intro hrow hbel)
    clear hrow hbel HR2 HB2 hc0 hf0 hLq hLq2 hL1 hL2 hlen
    go_loopw [24] (fun s24 wx => ∃ i : Nat, i ≤ m ∧ s24 = .int .i64 i ∧ Row .u8 wx 5 w1.heap.size (part m v i) ∧ Below w1.heap.size w1 wx) (fun s24 _ => m - (intOf s24).toNat)
    case atStart => exact ⟨0, by omega, rfl, H0.out.1, H0.out.2⟩
    case round =>
      obtain ⟨i, hi, rfl, hr, hbl⟩ := hrel
      by_cases hlt : i < m
      · have q1 : (i : Int) < (m : Int) := by omega
        have q2 : (0 : Int) ≤ (m : Int) - (i : Int) := by omega
        have q3 : (m : Int) - (i : Int) < 1 + (m : Int) := by omega
        have q4 : ((m : Int) - (i : Int)).toNat = m - i := by omega
        have q5 : (0 : Int) ≤ 8 * (i : Int) := by omega
        have q6 : 8 * (i : Int) ≤ 64 := by omega
        obtain ⟨z, hc⟩ := hr.has (m - i) (by rw [part_length _ _ _ hi]; omega)
        have hf := hr.frozen (m - i)
        have hsh := shr_is v i
        have HR := Lib.hid hr
        have HB := Lib.hid hbl
        have hset := part_set m v i hlt
        have HSET := Lib.hid hset
        clear hr hbl hset H0
        go_wp2_with fail
        have e : ((v : Int) / 256 ^ i % 256) = ((v / 256 ^ i % 256 : Nat) : Int) := by push_cast; rfl
        rw [e]
        refine ⟨⟨i + 1, by omega, by go_num, ?_, HB.out.setCell (Nat.le_refl _) _⟩, by simp [intOf]; omega⟩
        rw [← HSET.out]
        exact HR.out.set _ _
      · obtain rfl : i = m := by omega
        have q1 : ¬ (i : Int) < (i : Int) := by omega
        have HR := Lib.hid hr
        have HB := Lib.hid hbl
        clear hr hbl H0
        go_wp2_with fail
        go_ret
        have hm := HM.out
        have e : numL v = part i v i := by unfold numL part; rw [if_neg h, ← hm]; simp
        have hl := part_length i v i hi
        have hr := HR.out
        rw [e]
        refine ⟨w1.heap.size, i + 1, by rw [hl, Nat.add_comm 1 i]; rfl, ?_, HB.out⟩
        rw [hl]
        exact ⟨by simp [hl], .inr ⟨w1.heap.size, i + 1, _, rfl, Nat.le_refl _, hr, Nat.le_refl _, by simp only [maxLen]; omega, by simp [hl], by rw [Nat.mul_one]; exact List.take_of_length_le (by simp [hl])⟩⟩

set_option maxRecDepth 100000 in
set_option maxHeartbeats 2000000 in
theorem bytes_any (a : Option Addr) (n cap : Nat) (bs : List Int) (w : World) (hin : InBytes w a n cap bs) (hn : n ≤ 140737488351232) :
    Calls Tryd.prog 62 #[.slice a n cap] w (OwnPost w (bytL bs)) := by
  obtain ⟨i0, hi0, hz0, hz1, hz2⟩ := info_parts infoU8
  have hlen := hin.len
  have h9 := numL_le (v := n) (by omega)
  have hnum := Lib.hid (fun W => number_any n W (by omega))
  have HIN := Lib.hid hin
  clear hin
  go_enter Tryd.func62, Tryd.ntmps62
  go_wp2_with (first
    | (go_at_call 70
       (with_reducible refine (hnum.out _).mono ?_)
       rintro _ w1 ⟨g1, c1, rfl, hown1, hb1⟩
       have HO1 := Lib.hid hown1
       have HB1 := Lib.hid hb1
       clear hown1 hb1)
    | (at_builtin
       refine wpList_append_bytes' _ rfl (.tmp 6) (.tmp 7) 22 rfl w.heap.size 5 i0 _ 1 Tryd.underlying22 hi0 hz0 hz1 hz2 rfl g1 (numL n).length c1 ((numL n).map (Value.int .u8)) rfl HO1.out a n cap bs rfl (HIN.out.below HB1.out) (by simp only [maxLen]; omega) (by omega) HB1.out.size ?_
       intro g2 c2 w2 hown2 hg2
       have HO2 := Lib.hid hown2
       have HB2 : Hid (Below w.heap.size w w2) := Lib.hid (below_only HB1.out hg2 HB1.out.size (HO1.out.lt g1 rfl).1)
       clear hown2 hg2))
  go_ret
  have e : (bytL bs).length = (numL n).length + n := by unfold bytL; rw [List.length_append, hlen]
  refine ⟨g2, c2, by rw [e]; rfl, ?_, HB2.out⟩
  rw [e]
  have h := HO2.out
  rw [← List.map_append] at h
  unfold bytL
  rw [hlen]
  exact h
end Go.Proofs.YtcplfpnaepdddaaDoor
