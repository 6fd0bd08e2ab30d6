/- The contracts of the program's Number and Bytes. The contracts of the program's preimages. The contract of the program's digest. The contract of the document's digest of a tree. The contract of the document's Empty of spans. The contract of the document's Check of proofs. The contract of the document's Check of proofs, the whole. The contract of whether a proof covers a span. -/
import Derived.Test.YtlbiefddcimdgaaDoorPrLen
import Derived.Test.YtlbiefddcimdgaaDoorMAA
import Derived.Test.YtlbiefddcimdgaaDoorMAB
import Derived.Test.YtlbiefddcimdgaaDoorMAD
import Derived.Test.YtlbiefddcimdgaaDoorMAC
/- The contracts of the program's Number and Bytes. -/
namespace Go.Proofs.YtlbiefddcimdgaaDoor
open Go.RowKit
set_option linter.unusedVariables false

theorem nd_of_len {v : Nat} {r : Int} (h : LenAt v r) : ∃ L : Nat, r = (L : Int) ∧ L ≤ 64 ∧ (L + 7) / 8 = nd v := by
  obtain ⟨k, l, rfl, h1, h2, h3, h4, h5⟩ := h
  have e0 : ((v : Int) / 256 ^ k) = ((v / 256 ^ k : Nat) : Int) := by rw [Int.natCast_ediv, Int.natCast_pow]; rfl
  rw [e0] at h3 h4
  have hn : k + 1 = nd v := by
    refine nd_unique ?_ (.inr ?_)
    · rw [← div_step]; omega
    · rw [Nat.add_sub_cancel]; omega
  exact ⟨8 * k + l.toNat, by omega, by omega, by omega⟩
theorem len64_any (v : Nat) (w : World) (hp : 0 < v) (hv : v < 18446744073709551616) :
    Calls Tryd.prog 109 #[.int .u64 v] w (fun e w' => (∃ L : Nat, e = .returned (.int .i64 L) ∧ L ≤ 64 ∧ (L + 7) / 8 = nd v) ∧ w' = w) :=
  (len64_raw v w (by omega) (by omega)).mono fun e w' ⟨⟨r, h1, h2⟩, h3⟩ => by
    obtain ⟨L, rfl, h⟩ := nd_of_len h2
    exact ⟨⟨L, h1, h⟩, h3⟩

/-- What has been written when i of the m bytes are there. -/
def part (m v i : Nat) : List Int := ((247 + m : Nat) : Int) :: (List.replicate (m - i) 0 ++ be i v)
theorem part_length (m v i : Nat) (h : i ≤ m) : (part m v i).length = m + 1 := by simp [part, be_length]; omega
theorem part_zero (m v : Nat) : part m v 0 = ((247 + m : Nat) : Int) :: List.replicate m 0 := by simp [part, be]
theorem part_set (m v i : Nat) (h : i < m) : (part m v i).set (m - i) ((v / 256 ^ i % 256 : Nat) : Int) = part m v (i + 1) := by
  have e1 : m - i = (m - (i + 1)) + 1 := by omega
  have e2 : List.replicate (m - i) (0 : Int) = List.replicate (m - (i + 1)) 0 ++ [0] := by rw [e1, List.replicate_succ']
  unfold part
  rw [e2]
  conv => lhs; rw [e1]
  rw [List.set_cons_succ, List.append_assoc, List.set_append_right _ _ (by simp)]
  simp [be]
theorem shr_is (v i : Nat) : (v : Int) / 2 ^ (8 * (i : Int)).toNat = ((v / 256 ^ i : Nat) : Int) := by
  rw [show (8 * (i : Int)).toNat = 8 * i by omega, Int.natCast_ediv, Int.natCast_pow, Int.pow_mul]
  rfl

set_option maxRecDepth 100000 in
set_option maxHeartbeats 2000000 in
theorem number_any (v : Nat) (w : World) (hv : v < 18446744073709551616) :
    Calls Tryd.prog 103 #[.int .u64 v] w (OwnPost w (numL v)) := by
  obtain ⟨i0, hi0, hz0, hz1, hz2⟩ := info_parts infoU8
  go_enter Tryd.func103, Tryd.ntmps103
  by_cases h : v < 248
  · have hb : (v : Int) ≤ 247 := by omega
    go_wp2_with fail
    go_ret
    have e : numL v = [(v : Int)] := by unfold numL; rw [if_pos h]
    rw [e]
    exact ⟨w.heap.size, 1, rfl, own_new w 5 .u8 [(v : Int)] w.heap.size (Nat.le_refl _) (by simp [maxLen]), (Below.refl _ _).alloc (Nat.le_refl _) _⟩
  · have hb : ¬ (v : Int) ≤ 247 := by omega
    have hm1 := nd_one (v := v) (by omega)
    have hm8 := nd_64 hv
    have hlen := Lib.hid (fun W => len64_any v W (by omega) hv)
    obtain ⟨m, hm⟩ : ∃ m, m = nd v := ⟨_, rfl⟩
    rw [← hm] at hm1 hm8 hlen
    have HM := Lib.hid hm
    clear hm
    go_wp2_with (first
      | (go_at_call 109
         (with_reducible refine (hlen.out _).mono ?_)
         rintro _ w1 ⟨⟨L, rfl, hL1, hL2⟩, rfl⟩
         have hLq : ((L : Int) + 7) / 8 = (m : Int) := by omega
         have hLq2 : ((L : Int) + 7).tdiv 8 = (m : Int) := by rw [Int.tdiv_eq_ediv_of_nonneg (by omega)]; exact hLq)
      | (at_make
         refine wpList_make_ints _ rfl (.tmp 16) (.tmp 16) 22 rfl 5 i0 .u8 Tryd.underlying22 hi0 hz0 hz1 .i64 .i64 _ _ (1 + m) rfl rfl (by push_cast; omega) (by push_cast; omega) (by rw [hz2]; omega) (by simp only [maxLen]; omega) ?_
         intro w2 hr2 hb2 hs2
         obtain ⟨z0, hc0⟩ := hr2.has 0 (by simp; omega)
         have hf0 := hr2.frozen 0
         have HR2 := Lib.hid hr2
         have HB2 := Lib.hid hb2
         clear hr2 hs2 hb2))
    have hrow : Row .u8 (w2.setCell ⟨w1.heap.size, 0, none⟩ (.int .u8 (247 + (m : Int)))) 5 w1.heap.size (part m v 0) := by
      have h := HR2.out.set 0 (247 + (m : Int))
      rw [part_zero, show (((247 + m : Nat)) : Int) = 247 + (m : Int) by omega]
      rwa [Nat.add_comm 1 m, List.replicate_succ, List.set_cons_zero] at h
    have hbel : Below w1.heap.size w1 (w2.setCell ⟨w1.heap.size, 0, none⟩ (.int .u8 (247 + (m : Int)))) := HB2.out.setCell (Nat.le_refl _) _
    have H0 := Lib.hid (And.intro hrow hbel)
    clear hrow hbel HR2 HB2 hc0 hf0 hLq hLq2 hL1 hL2 hlen
    go_loopw [24] (fun s24 wx => ∃ i : Nat, i ≤ m ∧ s24 = .int .i64 i ∧ Row .u8 wx 5 w1.heap.size (part m v i) ∧ Below w1.heap.size w1 wx) (fun s24 _ => m - (intOf s24).toNat)
    case atStart => exact ⟨0, by omega, rfl, H0.out.1, H0.out.2⟩
    case round =>
      obtain ⟨i, hi, rfl, hr, hbl⟩ := hrel
      by_cases hlt : i < m
      · have q1 : (i : Int) < (m : Int) := by omega
        have q2 : (0 : Int) ≤ (m : Int) - (i : Int) := by omega
        have q3 : (m : Int) - (i : Int) < 1 + (m : Int) := by omega
        have q4 : ((m : Int) - (i : Int)).toNat = m - i := by omega
        have q5 : (0 : Int) ≤ 8 * (i : Int) := by omega
        have q6 : 8 * (i : Int) ≤ 64 := by omega
        obtain ⟨z, hc⟩ := hr.has (m - i) (by rw [part_length _ _ _ hi]; omega)
        have hf := hr.frozen (m - i)
        have hsh := shr_is v i
        have HR := Lib.hid hr
        have HB := Lib.hid hbl
        have hset := part_set m v i hlt
        have HSET := Lib.hid hset
        clear hr hbl hset H0
        go_wp2_with fail
        have e : ((v : Int) / 256 ^ i % 256) = ((v / 256 ^ i % 256 : Nat) : Int) := by push_cast; rfl
        rw [e]
        refine ⟨⟨i + 1, by omega, by go_num, ?_, HB.out.setCell (Nat.le_refl _) _⟩, by simp [intOf]; omega⟩
        rw [← HSET.out]
        exact HR.out.set _ _
      · obtain rfl : i = m := by omega
        have q1 : ¬ (i : Int) < (i : Int) := by omega
        have HR := Lib.hid hr
        have HB := Lib.hid hbl
        clear hr hbl H0
        go_wp2_with fail
        go_ret
        have hm := HM.out
        have e : numL v = part i v i := by unfold numL part; rw [if_neg h, ← hm]; simp
        have hl := part_length i v i hi
        have hr := HR.out
        rw [e]
        refine ⟨w1.heap.size, i + 1, by rw [hl, Nat.add_comm 1 i]; rfl, ?_, HB.out⟩
        rw [hl]
        exact ⟨by simp [hl], .inr ⟨w1.heap.size, i + 1, _, rfl, Nat.le_refl _, hr, Nat.le_refl _, by simp only [maxLen]; omega, by simp [hl], by rw [Nat.mul_one]; exact List.take_of_length_le (by simp [hl])⟩⟩

set_option maxRecDepth 100000 in
set_option maxHeartbeats 2000000 in
theorem bytes_any (a : Option Addr) (n cap : Nat) (bs : List Int) (w : World) (hin : InBytes w a n cap bs) (hn : n ≤ 140737488351232) :
    Calls Tryd.prog 92 #[.slice a n cap] w (OwnPost w (bytL bs)) := by
  obtain ⟨i0, hi0, hz0, hz1, hz2⟩ := info_parts infoU8
  have hlen := hin.len
  have h9 := numL_le (v := n) (by omega)
  have hnum := Lib.hid (fun W => number_any n W (by omega))
  have HIN := Lib.hid hin
  clear hin
  go_enter Tryd.func92, Tryd.ntmps92
  go_wp2_with (first
    | (go_at_call 103
       (with_reducible refine (hnum.out _).mono ?_)
       rintro _ w1 ⟨g1, c1, rfl, hown1, hb1⟩
       have HO1 := Lib.hid hown1
       have HB1 := Lib.hid hb1
       clear hown1 hb1)
    | (at_builtin
       refine wpList_append_bytes' _ rfl (.tmp 6) (.tmp 7) 22 rfl w.heap.size 5 i0 _ 1 Tryd.underlying22 hi0 hz0 hz1 hz2 rfl g1 (numL n).length c1 ((numL n).map (Value.int .u8)) rfl HO1.out a n cap bs rfl (HIN.out.below HB1.out) (by simp only [maxLen]; omega) (by omega) HB1.out.size ?_
       intro g2 c2 w2 hown2 hg2
       have HO2 := Lib.hid hown2
       have HB2 : Hid (Below w.heap.size w w2) := Lib.hid (below_only HB1.out hg2 HB1.out.size (HO1.out.lt g1 rfl).1)
       clear hown2 hg2))
  go_ret
  have e : (bytL bs).length = (numL n).length + n := by unfold bytL; rw [List.length_append, hlen]
  refine ⟨g2, c2, by rw [e]; rfl, ?_, HB2.out⟩
  rw [e]
  have h := HO2.out
  rw [← List.map_append] at h
  unfold bytL
  rw [hlen]
  exact h
end Go.Proofs.YtlbiefddcimdgaaDoor

/- The contracts of the program's preimages. -/
namespace Go.Proofs.YtlbiefddcimdgaaDoor
open Go.RowKit
set_option linter.unusedVariables false

/-- New memory that holds the bytes zs, and no error. -/
def OwnPost2 (w : World) (zs : List Int) (e : Ending) (w' : World) : Prop :=
  ∃ g c, e = .returned (.tuple #[.slice (some ⟨g, 0, none⟩) zs.length c, .nilIface]) ∧ w'.ownsRow w.heap.size 5 1 (.slice (some ⟨g, 0, none⟩) zs.length c) zs.length (zs.map (Value.int .u8)) ∧ Below w.heap.size w w'
/-- No bytes, and the error ErrArg. -/
def ArgPost (w : World) (e : Ending) (w' : World) : Prop :=
  e = .returned (.tuple #[.slice none 0 0, .iface 56 (.int .i64 1)]) ∧ Below w.heap.size w w'

set_option maxRecDepth 100000 in
set_option maxHeartbeats 2000000 in
/-- isWidth is true from 1 to 32, and changes nothing. -/
theorem width_ok (x : Int) (w : World) (hx1 : 1 ≤ x) (hx2 : x ≤ 32) :
    Calls Tryd.prog 68 #[.int .i64 x] w (fun e w' => e = .returned (.bool true) ∧ w' = w) := by
  go_enter Tryd.func68, Tryd.ntmps68
  go_wp2
  go_ret
  exact ⟨by simp, rfl⟩
set_option maxRecDepth 100000 in
set_option maxHeartbeats 2000000 in
theorem value_any (a : Option Addr) (n cap : Nat) (bs : List Int) (w : World) (hin : InBytes w a n cap bs) (hn : n ≤ 140737488351232) :
    Calls Tryd.prog 70 #[.slice a n cap] w (OwnPost w (valL bs)) := by
  obtain ⟨i0, hi0, hz0, hz1, hz2⟩ := info_parts infoU8
  have hbl := hin.len
  have HIN := Lib.hid hin
  clear hin
  go_enter Tryd.func70, Tryd.ntmps70
  go_wp2_with (first
    | (at_builtin
       refine wpList_append_bytes' _ rfl (.tmp 3) (.tmp 4) 22 rfl w.heap.size 5 i0 _ 1 Tryd.underlying22 hi0 hz0 hz1 hz2 rfl w.heap.size 1 1 [.int .u8 0] rfl (own_new w 5 .u8 [0] w.heap.size (Nat.le_refl _) (by simp [maxLen])) a n cap bs rfl (HIN.out.below ((Below.refl _ _).alloc (Nat.le_refl _) _)) (by simp only [maxLen]; omega) (by omega) (by simp) ?_
       intro g1 c1 w1 hown1 hg1
       have HO1 := Lib.hid (own_app (xs := [0]) (ys := bs) hown1 rfl hbl.symm)
       have HB1 : Hid (Below w.heap.size w w1) := Lib.hid (below_only ((Below.refl _ _).alloc (Nat.le_refl _) _) hg1 (by simp) (Nat.le_refl _))
       clear hown1 hg1))
  go_ret
  have e : (valL bs).length = 1 + n := by simp [valL, hbl]; omega
  exact ⟨g1, c1, by rw [e]; rfl, HO1.out, HB1.out⟩
set_option maxRecDepth 100000 in
set_option maxHeartbeats 2000000 in
theorem none_any (w : World) : Calls Tryd.prog 44 #[] w (OwnPost w [3]) := by
  go_enter Tryd.func44, Tryd.ntmps44
  go_wp2
  go_ret
  exact ⟨w.heap.size, 1, rfl, own_new w 5 .u8 [3] w.heap.size (Nat.le_refl _) (by simp [maxLen]), (Below.refl _ _).alloc (Nat.le_refl _) _⟩
set_option maxRecDepth 100000 in
set_option maxHeartbeats 2000000 in
theorem pair_ok (x : Int) (a : Option Addr) (n cap : Nat) (bs : List Int) (a2 : Option Addr) (n2 cap2 : Nat) (ds : List Int) (w : World) (hin : InBytes w a n cap bs) (hn : n ≤ 140737488351232) (hin2 : InBytes w a2 n2 cap2 ds) (hx0 : 1 ≤ x) (hx1 : x ≤ 32) (hx : (n2 : Int) = x) :
    Calls Tryd.prog 71 #[.int .i64 x, .slice a n cap, .slice a2 n2 cap2] w (OwnPost2 w (pairL bs ds)) := by
  obtain ⟨i0, hi0, hz0, hz1, hz2⟩ := info_parts infoU8
  have hbl := hin.len
  have hbl2 := hin2.len
  have h8 := bytL_bytes hin.bytes (by omega)
  have h9 := numL_le (v := n) (by omega)
  have hlen : (bytL bs).length = (numL n).length + n := by unfold bytL; rw [List.length_append, hbl]
  have HIN := Lib.hid hin
  have HIN2 := Lib.hid hin2
  have H8 := Lib.hid h8
  obtain ⟨bl, hble⟩ : ∃ bl, bl = (bytL bs).length := ⟨_, rfl⟩
  have HBL := Lib.hid hble
  have hbl3 : bl ≤ n + 9 := by omega
  clear hin hin2 h8 hble hlen h9
  go_enter Tryd.func71, Tryd.ntmps71
  go_wp2_with (first
    | (go_at_call 68
       (with_reducible refine (width_ok x _ (by omega) (by omega)).mono ?_)
       rintro _ w9 ⟨rfl, hw9⟩
       rw [hw9]
       clear hw9)
    | (go_at_call 92
       (with_reducible refine (bytes_any a n cap bs _ ?_ hn).mono ?_)
       · exact HIN.out.below ((Below.refl _ _).alloc (Nat.le_refl _) _)
       rintro _ w1 ⟨g1, c1, rfl, ho1, hb1⟩
       rw [← HBL.out] at ho1 ⊢
       have HI1 := Lib.hid (InBytes.of_own ho1 H8.out)
       have HO0 := Lib.hid (own_below (own_new w 5 .u8 [1] w.heap.size (Nat.le_refl _) (by simp [maxLen])) hb1 (by simp))
       have HB1 : Hid (Below w.heap.size w w1) := Lib.hid ((((Below.refl w.heap.size w).alloc (Nat.le_refl _) _)).trans (hb1.mono (by simp)))
       clear ho1 hb1)
    | (at_builtin
       refine wpList_append_bytes' _ rfl (.tmp 19) (.tmp 21) 22 rfl w.heap.size 5 i0 _ 1 Tryd.underlying22 hi0 hz0 hz1 hz2 rfl w.heap.size 1 1 [.int .u8 1] rfl HO0.out (some ⟨g1, 0, none⟩) bl c1 (bytL bs) rfl HI1.out (by simp only [maxLen]; omega) (by omega) HB1.out.size ?_
       intro g2 c2 w2 hown2 hg2
       have hown2' := own_app (xs := [1]) (ys := bytL bs) hown2 rfl HBL.out
       have e2 : ([1] ++ bytL bs).length = 1 + bl := by rw [List.length_append, ← HBL.out]; rfl
       rw [e2] at hown2'
       have HO2 := Lib.hid hown2'
       have HB2 : Hid (Below w.heap.size w w2) := Lib.hid (below_only HB1.out hg2 HB1.out.size (Nat.le_refl _))
       clear hown2 hg2 hown2' e2)
    | (at_builtin
       refine wpList_append_bytes' _ rfl (.tmp 23) (.tmp 24) 22 rfl w.heap.size 5 i0 _ 1 Tryd.underlying22 hi0 hz0 hz1 hz2 rfl g2 (1 + bl) c2 (([1] ++ bytL bs).map (Value.int .u8)) rfl HO2.out a2 n2 cap2 ds rfl (HIN2.out.below HB2.out) (by simp only [maxLen]; omega) (by omega) HB2.out.size ?_
       intro g3 c3 w3 hown3 hg3
       have HO3 := Lib.hid (own_app (xs := [1] ++ bytL bs) (ys := ds) hown3 (by rw [List.length_append, ← HBL.out]; rfl) hbl2.symm)
       have HB3 : Hid (Below w.heap.size w w3) := Lib.hid (below_only HB2.out hg3 HB2.out.size (HO2.out.lt g2 rfl).1)
       clear hown3 hg3))
  go_ret2
  have e : pairL bs ds = [1] ++ bytL bs ++ ds := by unfold pairL; simp
  have e2 : (pairL bs ds).length = 1 + bl + n2 := by rw [e, List.length_append, List.length_append, ← HBL.out, hbl2]; rfl
  refine ⟨g3, c3, by rw [e2]; rfl, ?_, HB3.out⟩
  rw [e]
  exact HO3.out
set_option maxRecDepth 100000 in
set_option maxHeartbeats 2000000 in
theorem node_ok (x : Int) (a : Option Addr) (n cap : Nat) (ls : List Int) (a2 : Option Addr) (n2 cap2 : Nat) (ps : List Int) (a3 : Option Addr) (n3 cap3 : Nat) (rs : List Int) (w : World) (hin : InBytes w a n cap ls) (hin2 : InBytes w a2 n2 cap2 ps) (hin3 : InBytes w a3 n3 cap3 rs) (hx0 : 1 ≤ x) (hx1 : x ≤ 32) (h1 : (n : Int) = x) (h2 : (n2 : Int) = x) (h3 : (n3 : Int) = x) :
    Calls Tryd.prog 47 #[.int .i64 x, .slice a n cap, .slice a2 n2 cap2, .slice a3 n3 cap3] w (OwnPost2 w (nodeL ls ps rs)) := by
  obtain ⟨i0, hi0, hz0, hz1, hz2⟩ := info_parts infoU8
  have hl1 := hin.len
  have hl2 := hin2.len
  have hl3 := hin3.len
  have HIN := Lib.hid hin
  have HIN2 := Lib.hid hin2
  have HIN3 := Lib.hid hin3
  clear hin hin2 hin3
  go_enter Tryd.func47, Tryd.ntmps47
  go_wp2_with (first
    | (go_at_call 68
       (with_reducible refine (width_ok x _ (by omega) (by omega)).mono ?_)
       rintro _ w9 ⟨rfl, hw9⟩
       rw [hw9]
       clear hw9)
    | (at_builtin
       refine wpList_append_bytes' _ rfl (.tmp 33) (.tmp 34) 22 rfl w.heap.size 5 i0 _ 1 Tryd.underlying22 hi0 hz0 hz1 hz2 rfl w.heap.size 1 1 [.int .u8 2] rfl (own_new w 5 .u8 [2] w.heap.size (Nat.le_refl _) (by simp [maxLen])) a n cap ls rfl (HIN.out.below ((Below.refl _ _).alloc (Nat.le_refl _) _)) (by simp only [maxLen]; omega) (by omega) (by simp) ?_
       intro g1 c1 w1 hown1 hg1
       have hown1' := own_app (xs := [2]) (ys := ls) hown1 rfl hl1.symm
       have e1 : ([2] ++ ls).length = 1 + n := by rw [List.length_append, hl1]; rfl
       rw [e1] at hown1'
       have HO1 := Lib.hid hown1'
       have HB1 : Hid (Below w.heap.size w w1) := Lib.hid (below_only ((Below.refl _ _).alloc (Nat.le_refl _) _) hg1 (by simp) (Nat.le_refl _))
       clear hown1 hg1 hown1' e1)
    | (at_builtin
       refine wpList_append_bytes' _ rfl (.tmp 36) (.tmp 37) 22 rfl w.heap.size 5 i0 _ 1 Tryd.underlying22 hi0 hz0 hz1 hz2 rfl g1 (1 + n) c1 (([2] ++ ls).map (Value.int .u8)) rfl HO1.out a2 n2 cap2 ps rfl (HIN2.out.below HB1.out) (by simp only [maxLen]; omega) (by omega) HB1.out.size ?_
       intro g2 c2 w2 hown2 hg2
       have hown2' := own_app (xs := [2] ++ ls) (ys := ps) hown2 (by rw [List.length_append, hl1]; rfl) hl2.symm
       have e2 : ([2] ++ ls ++ ps).length = 1 + n + n2 := by rw [List.length_append, List.length_append, hl1, hl2]; rfl
       rw [e2] at hown2'
       have HO2 := Lib.hid hown2'
       have HB2 : Hid (Below w.heap.size w w2) := Lib.hid (below_only HB1.out hg2 HB1.out.size (HO1.out.lt g1 rfl).1)
       clear hown2 hg2 hown2' e2)
    | (at_builtin
       refine wpList_append_bytes' _ rfl (.tmp 39) (.tmp 40) 22 rfl w.heap.size 5 i0 _ 1 Tryd.underlying22 hi0 hz0 hz1 hz2 rfl g2 (1 + n + n2) c2 (([2] ++ ls ++ ps).map (Value.int .u8)) rfl HO2.out a3 n3 cap3 rs rfl (HIN3.out.below HB2.out) (by simp only [maxLen]; omega) (by omega) HB2.out.size ?_
       intro g3 c3 w3 hown3 hg3
       have HO3 := Lib.hid (own_app (xs := [2] ++ ls ++ ps) (ys := rs) hown3 (by rw [List.length_append, List.length_append, hl1, hl2]; rfl) hl3.symm)
       have HB3 : Hid (Below w.heap.size w w3) := Lib.hid (below_only HB2.out hg3 HB2.out.size (HO2.out.lt g2 rfl).1)
       clear hown3 hg3))
  go_ret2
  have e : nodeL ls ps rs = [2] ++ ls ++ ps ++ rs := by unfold nodeL; simp
  have e2 : (nodeL ls ps rs).length = 1 + n + n2 + n3 := by rw [e, List.length_append, List.length_append, List.length_append, hl1, hl2, hl3]; rfl
  refine ⟨g3, c3, by rw [e2]; rfl, ?_, HB3.out⟩
  rw [e]
  exact HO3.out
end Go.Proofs.YtlbiefddcimdgaaDoor

/- The contract of the program's digest. -/
namespace Go.Proofs.YtlbiefddcimdgaaDoor
open Go.RowKit
set_option linter.unusedVariables false

/-- A slice of new memory, the first k bytes of a sum, and no error. -/
def OfPost2 (w : World) (k : Nat) (bs : List Int) (e : Ending) (w' : World) : Prop :=
  ∃ g, w.heap.size ≤ g ∧ e = .returned (.tuple #[.slice (some ⟨g, 0, none⟩) k k, .nilIface]) ∧ Row .u8 w' 5 g (sumL bs) ∧ Below w.heap.size w w'

set_option maxRecDepth 100000 in
set_option maxHeartbeats 2000000 in
theorem of_ok (k : Nat) (a : Option Addr) (n cap : Nat) (bs : List Int) (w : World) (hin : InBytes w a n cap bs) (hn : (n : Int) ≤ 1125899906842624) (hT : TabLies w) (hk1 : 1 ≤ k) (hk2 : k ≤ 32) :
    Calls Tryd.prog 43 #[.int .i64 k, .slice a n cap] w (OfPost2 w k bs) := by
  have HS := Lib.hid (Sum_any a n cap bs w hin hn hT)
  have hk3 : (k : Int) ≤ 32 := by omega
  have hk4 : (0 : Int) ≤ (k : Int) := by omega
  clear hin hT
  go_enter Tryd.func43, Tryd.ntmps43
  go_wp2_with (first
    | (go_at_call 68
       (with_reducible refine (width_ok _ _ (by omega) (by omega)).mono ?_)
       rintro _ w9 ⟨rfl, hw9⟩
       rw [hw9]
       clear hw9)
    | (go_at_call 69
       (with_reducible refine HS.out.mono ?_)
       rintro _ w1 ⟨g1, hg1, rfl, hr1, hb1⟩
       have H1 := Lib.hid (And.intro hg1 (And.intro hr1 hb1))
       clear hg1 hr1 hb1))
  go_ret2
  obtain ⟨hg1, hr1, hb1⟩ := H1.out
  exact ⟨g1, hg1, rfl, hr1, hb1⟩

/-- The first k bytes of a sum, as an argument of capacity 32. -/
theorem of_in32 {w : World} {g k : Nat} {bs : List Int} {t : TypeId} (h : Row .u8 w t g (sumL bs)) (hk : k ≤ 32) : InBytes w (some ⟨g, 0, none⟩) k 32 ((sumL bs).take k) := by
  have hsl32 := sumL_length bs
  have h1 := InBytes.of_row h (sumL_bytes bs) (by rw [hsl32]; omega)
  rw [hsl32] at h1
  exact h1.upto k hk
/-- The first k bytes of a sum, as an argument of capacity k. -/
theorem of_in {w : World} {g k : Nat} {bs : List Int} {t : TypeId} (h : Row .u8 w t g (sumL bs)) (hk : k ≤ 32) : InBytes w (some ⟨g, 0, none⟩) k k ((sumL bs).take k) :=
  have h1 := of_in32 h hk
  ⟨h1.len, h1.bytes, Nat.le_refl _, by simp only [maxLen]; omega, (fun h => by cases h), h1.place⟩
end Go.Proofs.YtlbiefddcimdgaaDoor

/- The contract of the document's digest of a tree. -/
namespace Go.Proofs.YtlbiefddcimdgaaDoor
open Go.RowKit
set_option linter.unusedVariables false

/-- What the document's digest needs of a world: the tables' box, the tree's box, the constants. -/
structure DW (w W : World) (gk ck : Nat) (h : TH) : Prop where
  tab : TB W w.heap.size (.slice (some ⟨gk, 0, none⟩) 64 ck) hTab
  box : Box W 27 (w.heap.size + 1) h
  ks : Seg .u32 W gk 0 kTab
  b : Below w.heap.size w W
  gk : gk < w.heap.size
theorem DW.below {w W W' : World} {gk ck : Nat} {h : TH} (d : DW w W gk ck h) (hb : Below W.heap.size W W') : DW w W' gk ck h :=
  ⟨d.tab.below hb d.tab.lt, d.box.below hb d.box.lt, d.ks.below hb (Nat.lt_of_lt_of_le d.gk d.b.size), d.b.trans (hb.mono d.b.size), d.gk⟩
theorem DW.drew {w W : World} {gk ck : Nat} {h : TH} (d : DW w W gk ck h) : DW w W.drew gk ck h := d.below (Below.refl _ _).drew
theorem DW.nine {w W : World} {gk ck : Nat} {h : TH} (d : DW w W gk ck h) : W.cell? ⟨w.heap.size, 0, none⟩ = some (.slice (some ⟨gk, 0, none⟩) 64 ck) ∧ W.cell? ⟨w.heap.size, 1, none⟩ = some (.int .u32 1779033703) ∧ W.cell? ⟨w.heap.size, 2, none⟩ = some (.int .u32 3144134277) ∧ W.cell? ⟨w.heap.size, 3, none⟩ = some (.int .u32 1013904242) ∧ W.cell? ⟨w.heap.size, 4, none⟩ = some (.int .u32 2773480762) ∧ W.cell? ⟨w.heap.size, 5, none⟩ = some (.int .u32 1359893119) ∧ W.cell? ⟨w.heap.size, 6, none⟩ = some (.int .u32 2600822924) ∧ W.cell? ⟨w.heap.size, 7, none⟩ = some (.int .u32 528734635) ∧ W.cell? ⟨w.heap.size, 8, none⟩ = some (.int .u32 1541459225) := ⟨d.tab.cell0, tb_cells d.tab⟩
theorem DW.of {w W : World} {gk ck : Nat} {h : TH} (d : DW w W gk ck h) {k : Nat} (hk1 : 1 ≤ k) (hk2 : k ≤ 32) {a : Option Addr} {n cap : Nat} {bs : List Int} (hin : InBytes W a n cap bs) (hn : n ≤ 20000) :
    Calls Tryd.prog 60 #[.agg #[.slice (some ⟨gk, 0, none⟩) 64 ck, .int .u32 1779033703, .int .u32 3144134277, .int .u32 1013904242, .int .u32 2773480762, .int .u32 1359893119, .int .u32 2600822924, .int .u32 528734635, .int .u32 1541459225], .int .i64 k, .slice a n cap] W (OfPost W k bs) :=
  refOf_any k hk1 hk2 a n cap gk ck bs W hin hn d.ks (Nat.lt_of_lt_of_le d.gk d.b.size)

/-- The digest and true, or something and false. -/
def DigPost (w : World) (k : Nat) (t : Tr) (e : Ending) (w' : World) : Prop :=
  ∃ a n c is, e = .returned (.tuple #[.slice a n c, .bool is]) ∧ ((is = true ∧ ∃ zs, digT k t = some zs ∧ InBytes w' a n c zs) ∨ (is = false ∧ digT k t = none)) ∧ Below w.heap.size w w'
set_option maxRecDepth 100000 in
set_option maxHeartbeats 8000000 in
theorem refDigest_any (k : Nat) (hk1 : 1 ≤ k) (hk2 : k ≤ 32) (gk ck : Nat) : ∀ (t : Tr) (h : TH) (w : World), InTree w h t → formedT t = true → Seg .u32 w gk 0 kTab → gk < w.heap.size →
    Calls Tryd.prog 33 #[tabV gk ck, .int .i64 k, h.v] w (DigPost w k t) := by
  intro t
  induction t using Tr.ind with
  | h t ih =>
  intro h w ht hf hks hgk
  obtain ⟨hpb, hfk⟩ := formed_kids hf
  unfold TH.v tabV
  obtain ⟨H, hp⟩ := ht.parts
  have hkl := hp.key.len
  have hvl := hp.val.len
  have hdl := hp.dig.len
  have htl := hp.len
  have HK := Lib.hid hp.hk
  have htc := hp.sl.le
  have HP := Lib.hid hp
  have IH := Lib.hid ih
  clear hp ht ih
  have HPB := Lib.hid (partB_head HP.out)
  have HF := Lib.hid (And.intro hpb hfk)
  have hd0 : DW w ((w.alloc (.cells (Value.slice (some ⟨gk, 0, none⟩) 64 ck :: hTab.map (Value.int .u32)).toArray 41)).alloc (.cells #[.int .i64 h.k, .slice h.ka h.kn h.kc, .slice h.va h.vn h.vc, .slice h.da h.dn h.dc, .slice h.ta h.tn h.tc] 27)) gk ck h := by
    have b1 : Below w.heap.size w (w.alloc (.cells (Value.slice (some ⟨gk, 0, none⟩) 64 ck :: hTab.map (Value.int .u32)).toArray 41)) := (Below.refl _ _).alloc (Nat.le_refl _) _
    have b2 := b1.alloc b1.size (.cells #[.int .i64 h.k, .slice h.ka h.kn h.kc, .slice h.va h.vn h.vc, .slice h.da h.dn h.dc, .slice h.ta h.tn h.tc] 27)
    refine ⟨?_, ?_, hks.below b2 hgk, b2, hgk⟩
    · exact TB.below (heap_alloc_new w _) ((Below.refl _ _).alloc (Nat.le_refl _) _) (by simp)
    · have := Box.new (w.alloc (.cells (Value.slice (some ⟨gk, 0, none⟩) 64 ck :: hTab.map (Value.int .u32)).toArray 41)) 27 h
      simpa using this
  have HD := Lib.hid hd0
  have c1 : 1 ≤ (k : Int) := by omega
  clear hd0 hks hf hpb hfk
  go_enter Tryd.func33, Tryd.ntmps33
  go_upto_region 1 with fail
  generalize (w.alloc (.cells (Value.slice (some ⟨gk, 0, none⟩) 64 ck :: hTab.map (Value.int .u32)).toArray 41)).alloc (.cells #[.int .i64 h.k, .slice h.ka h.kn h.kc, .slice h.va h.vn h.vc, .slice h.da h.dn h.dc, .slice h.ta h.tn h.tc] 27) = w0 at *
  obtain ⟨x0, x1, x2, x3, x4⟩ := HD.out.box.cells
  have hnine := HD.out.nine
  obtain ⟨t0, t1, t2, t3, t4, t5, t6, t7, t8⟩ := hnine
  have hk := HK.out
  have HPK := Lib.hid (part_kids HF.out.1)
  cases e0 : (h.k == 0)
  rotate_left
  · have HE : Hid (t.k = 0) := Lib.hid (by rw [← HK.out]; simpa using e0)
    clear hk
    have hin3 : InBytes (w0.alloc (.cells #[.int .u8 3] 5)) (some ⟨w0.heap.size, 0, none⟩) 1 1 [3] := InBytes.of_own (own_new w0 5 .u8 [3] w0.heap.size (Nat.le_refl _) (by simp [maxLen])) (fun z hz => by simp at hz; omega)
    have HI3 := Lib.hid hin3
    clear hin3
    go_wp2_with (first
      | (go_at_call 60
         (with_reducible refine ((HD.out.below ((Below.refl _ _).alloc (Nat.le_refl _) _)).of hk1 hk2 HI3.out (by omega)).mono ?_)
         rintro _ w1 ⟨g1, hg1, rfl, hr1, hb1⟩
         have HB1 : Hid (Below w.heap.size w w1) := Lib.hid ((HD.out.below ((Below.refl _ _).alloc (Nat.le_refl _) _)).below hb1).b
         have HR1 := Lib.hid (of_in32 hr1 hk2)
         clear hg1 hr1 hb1))
    go_ret2
    exact ⟨_, _, _, true, rfl, .inl ⟨rfl, _, digT_0 HE.out, HR1.out⟩, HB1.out⟩
  cases e3 : (h.k == 3)
  rotate_left
  · have HE : Hid (t.k = 3) := Lib.hid (by rw [← HK.out]; simpa using e3)
    clear hk
    go_upto_region 5 with fail
    refine wp_region_held_drew (S := (fun W => W.cell? ⟨w.heap.size + 1, 3, none⟩ = some (.slice h.da h.dn h.dc))) (by kernel_rfl) x3 (fun hHeld => ?_)
    refine take_w (i := 0) (oi := ?oZ1) (v := ?vZ1) ?hiZ1 (by kernel_rfl) (by kernel_rfl) (by kernel_rfl) ?hQZ1 ?hwZ1 ?hyZ1 (by assumption) ?restZ1
    case hiZ1 => (simp only [List.getElem?_toArray, List.getElem?_cons_zero] <;> rfl)
    case hQZ1 => exact (fun _ _ _ h => h)
    case hwZ1 => rfl
    case hyZ1 => (intro w hSw; (try dsimp only at hSw); go_simp; try with_reducible rfl)
    (try simp only [Act.put, List.setIfInBounds_toArray, List.set_cons_zero, List.set_cons_succ])
    refine take_w (i := 1) (oi := ?oZ2) (v := ?vZ2) ?hiZ2 (by kernel_rfl) (by kernel_rfl) (by kernel_rfl) ?hQZ2 ?hwZ2 ?hyZ2 (by assumption) ?restZ2
    case hiZ2 => (simp only [List.getElem?_toArray, List.getElem?_cons_succ, List.getElem?_cons_zero] <;> rfl)
    case hQZ2 => exact (fun _ _ _ h => h)
    case hwZ2 => rfl
    case hyZ2 => (intro w hSw; (try dsimp only at hSw); go_simp; try with_reducible rfl)
    (try simp only [Act.put, List.setIfInBounds_toArray, List.set_cons_zero, List.set_cons_succ])
    refine take_w (i := 2) (oi := ?oZ3) (v := ?vZ3) ?hiZ3 (by kernel_rfl) (by kernel_rfl) (by kernel_rfl) ?hQZ3 ?hwZ3 ?hyZ3 (by assumption) ?restZ3
    case hiZ3 => (simp only [List.getElem?_toArray, List.getElem?_cons_succ, List.getElem?_cons_zero] <;> rfl)
    case hQZ3 => exact (fun _ _ _ h => h)
    case hwZ3 => rfl
    case hyZ3 => (intro w hSw; (try dsimp only at hSw); go_simp; try with_reducible rfl)
    (try simp only [Act.put, List.setIfInBounds_toArray, List.set_cons_zero, List.set_cons_succ])
    refine take_w (i := 3) (oi := ?oZ4) (v := ?vZ4) ?hiZ4 (by kernel_rfl) (by kernel_rfl) (by kernel_rfl) ?hQZ4 ?hwZ4 ?hyZ4 (by assumption) ?restZ4
    case hiZ4 => (simp only [List.getElem?_toArray, List.getElem?_cons_succ, List.getElem?_cons_zero] <;> rfl)
    case hQZ4 => exact (fun _ _ _ h => h)
    case hwZ4 => rfl
    case hyZ4 => (intro w hSw; (try dsimp only at hSw); go_simp; try with_reducible rfl)
    (try simp only [Act.put, List.setIfInBounds_toArray, List.set_cons_zero, List.set_cons_succ])
    refine take_w (i := 4) (oi := ?oZ5) (v := ?vZ5) ?hiZ5 (by kernel_rfl) (by kernel_rfl) (by kernel_rfl) ?hQZ5 ?hwZ5 ?hyZ5 (by assumption) ?restZ5
    case hiZ5 => (simp only [List.getElem?_toArray, List.getElem?_cons_succ, List.getElem?_cons_zero] <;> rfl)
    case hQZ5 => exact (fun _ _ _ h => h)
    case hwZ5 => rfl
    case hyZ5 => (intro w hSw; (try dsimp only at hSw); go_simp; try with_reducible rfl)
    (try simp only [Act.put, List.setIfInBounds_toArray, List.set_cons_zero, List.set_cons_succ])
    refine take_w (i := 5) (oi := ?oZ6) (v := ?vZ6) ?hiZ6 (by kernel_rfl) (by kernel_rfl) (by kernel_rfl) ?hQZ6 ?hwZ6 ?hyZ6 (by assumption) ?restZ6
    case hiZ6 => (simp only [List.getElem?_toArray, List.getElem?_cons_succ, List.getElem?_cons_zero] <;> rfl)
    case hQZ6 => exact (fun _ _ _ h => h)
    case hwZ6 => rfl
    case hyZ6 => (intro w hSw; (try dsimp only at hSw); go_simp; try with_reducible rfl)
    (try simp only [Act.put, List.setIfInBounds_toArray, List.set_cons_zero, List.set_cons_succ])
    refine take_w (i := 6) (oi := ?oZ7) (v := ?vZ7) ?hiZ7 (by kernel_rfl) (by kernel_rfl) (by kernel_rfl) ?hQZ7 ?hwZ7 ?hyZ7 (by assumption) ?restZ7
    case hiZ7 => (simp only [List.getElem?_toArray, List.getElem?_cons_succ, List.getElem?_cons_zero] <;> rfl)
    case hQZ7 => exact (fun _ _ _ h => h)
    case hwZ7 => rfl
    case hyZ7 => (intro w hSw; (try dsimp only at hSw); go_simp; try with_reducible rfl)
    (try simp only [Act.put, List.setIfInBounds_toArray, List.set_cons_zero, List.set_cons_succ])
    refine take_w (i := 7) (oi := ?oZ8) (v := ?vZ8) ?hiZ8 (by kernel_rfl) (by kernel_rfl) (by kernel_rfl) ?hQZ8 ?hwZ8 ?hyZ8 (by assumption) ?restZ8
    case hiZ8 => (simp only [List.getElem?_toArray, List.getElem?_cons_succ, List.getElem?_cons_zero] <;> rfl)
    case hQZ8 => exact (fun _ _ _ h => h)
    case hwZ8 => rfl
    case hyZ8 => (intro w hSw; (try dsimp only at hSw); go_simp; try with_reducible rfl)
    (try simp only [Act.put, List.setIfInBounds_toArray, List.set_cons_zero, List.set_cons_succ])
    refine take_w (i := 8) (oi := ?oZ9) (v := ?vZ9) ?hiZ9 (by kernel_rfl) (by kernel_rfl) (by kernel_rfl) ?hQZ9 ?hwZ9 ?hyZ9 (by assumption) ?restZ9
    case hiZ9 => (simp only [List.getElem?_toArray, List.getElem?_cons_succ, List.getElem?_cons_zero] <;> rfl)
    case hQZ9 => exact (fun _ _ _ h => h)
    case hwZ9 => rfl
    case hyZ9 => (intro w hSw; (try dsimp only at hSw); go_simp; try with_reducible rfl)
    (try simp only [Act.put, List.setIfInBounds_toArray, List.set_cons_zero, List.set_cons_succ])
    refine wpAnyH_done (by kernel_rfl) ?_ _
    
    go_wp2_with fail
    go_ret2
    refine ⟨_, _, _, _, rfl, ?_, HD.out.drew.b⟩
    rw [digT_3 HE.out, hdl]
    by_cases hdk : h.dn = k
    · exact .inl ⟨by simp [hdk], _, by rw [if_pos hdk], HP.out.dig.below HD.out.drew.b⟩
    · exact .inr ⟨by simp; omega, by rw [if_neg hdk]⟩
  have hk0 : t.k ≠ 0 := by rw [← hk]; simpa using e0
  have hk3 : t.k ≠ 3 := by rw [← hk]; simpa using e3
  have hp2 := HPK.out
  have h2 : t.kids.length = 2 := by omega
  have HH := Lib.hid (And.intro hk0 (And.intro hk3 h2))
  have htn : h.tn = 2 := by omega
  have HTN := Lib.hid htn
  clear hk hk0 hk3 hp2 HPK htn
  go_upto_if 35 with fail
  go_cut [8] (fun s8 wx => ∃ a n c, s8 = .slice a n c ∧ InBytes wx a n c (valT k t) ∧ DW w wx gk ck h)
  case first =>
    have hk := HK.out
    cases e1 : (h.k == 1)
    · have HE : Hid (t.k ≠ 1) := Lib.hid (by rw [← hk]; simpa using e1)
      clear hk
      go_wp2_with fail
      go_meet
      exact ⟨_, _, _, rfl, by unfold valT; rw [if_neg HE.out]; exact HP.out.dig.below HD.out.b, HD.out⟩
    · have HE : Hid (t.k = 1) := Lib.hid (by rw [← hk]; simpa using e1)
      have hpb := HPB.out
      rw [HF.out.1, if_neg (by simpa using e0), if_pos (by simpa using e1)] at hpb
      have hvn : h.vn ≤ 1024 := by
        have := hpb.symm
        simp only [Bool.and_eq_true, decide_eq_true_eq] at this
        omega
      clear hk hpb
      go_upto_region 8 with fail
      refine wp_region_held_drew (S := (fun W => W.cell? ⟨w.heap.size, 0, none⟩ = some (.slice (some ⟨gk, 0, none⟩) 64 ck) ∧ W.cell? ⟨w.heap.size, 1, none⟩ = some (.int .u32 1779033703) ∧ W.cell? ⟨w.heap.size, 2, none⟩ = some (.int .u32 3144134277) ∧ W.cell? ⟨w.heap.size, 3, none⟩ = some (.int .u32 1013904242) ∧ W.cell? ⟨w.heap.size, 4, none⟩ = some (.int .u32 2773480762) ∧ W.cell? ⟨w.heap.size, 5, none⟩ = some (.int .u32 1359893119) ∧ W.cell? ⟨w.heap.size, 6, none⟩ = some (.int .u32 2600822924) ∧ W.cell? ⟨w.heap.size, 7, none⟩ = some (.int .u32 528734635) ∧ W.cell? ⟨w.heap.size, 8, none⟩ = some (.int .u32 1541459225) ∧ W.cell? ⟨w.heap.size + 1, 2, none⟩ = some (.slice h.va h.vn h.vc))) (by kernel_rfl) ⟨HD.out.drew.nine.1, HD.out.drew.nine.2.1, HD.out.drew.nine.2.2.1, HD.out.drew.nine.2.2.2.1, HD.out.drew.nine.2.2.2.2.1, HD.out.drew.nine.2.2.2.2.2.1, HD.out.drew.nine.2.2.2.2.2.2.1, HD.out.drew.nine.2.2.2.2.2.2.2.1, HD.out.drew.nine.2.2.2.2.2.2.2.2, HD.out.drew.box.cells.2.2.1⟩ (fun hHeld => ?_)
      refine take_w (i := 0) (oi := ?oZ10) (v := ?vZ10) ?hiZ10 (by kernel_rfl) (by kernel_rfl) (by kernel_rfl) ?hQZ10 ?hwZ10 ?hyZ10 (by assumption) ?restZ10
      case hiZ10 => (simp only [List.getElem?_toArray, List.getElem?_cons_zero] <;> rfl)
      case hQZ10 => exact (fun _ _ _ h => h)
      case hwZ10 => rfl
      case hyZ10 => (intro w hSw; (try dsimp only at hSw); go_simp; try with_reducible rfl)
      (try simp only [Act.put, List.setIfInBounds_toArray, List.set_cons_zero, List.set_cons_succ])
      refine take_w (i := 1) (oi := ?oZ11) (v := ?vZ11) ?hiZ11 (by kernel_rfl) (by kernel_rfl) (by kernel_rfl) ?hQZ11 ?hwZ11 ?hyZ11 (by assumption) ?restZ11
      case hiZ11 => (simp only [List.getElem?_toArray, List.getElem?_cons_succ, List.getElem?_cons_zero] <;> rfl)
      case hQZ11 => exact (fun _ _ _ h => h)
      case hwZ11 => rfl
      case hyZ11 => (intro w hSw; (try dsimp only at hSw); go_simp; try with_reducible rfl)
      (try simp only [Act.put, List.setIfInBounds_toArray, List.set_cons_zero, List.set_cons_succ])
      refine take_w (i := 2) (oi := ?oZ12) (v := ?vZ12) ?hiZ12 (by kernel_rfl) (by kernel_rfl) (by kernel_rfl) ?hQZ12 ?hwZ12 ?hyZ12 (by assumption) ?restZ12
      case hiZ12 => (simp only [List.getElem?_toArray, List.getElem?_cons_succ, List.getElem?_cons_zero] <;> rfl)
      case hQZ12 => exact (fun _ _ _ h => h)
      case hwZ12 => rfl
      case hyZ12 => (intro w hSw; (try dsimp only at hSw); go_simp; try with_reducible rfl)
      (try simp only [Act.put, List.setIfInBounds_toArray, List.set_cons_zero, List.set_cons_succ])
      refine take_w (i := 3) (oi := ?oZ13) (v := ?vZ13) ?hiZ13 (by kernel_rfl) (by kernel_rfl) (by kernel_rfl) ?hQZ13 ?hwZ13 ?hyZ13 (by assumption) ?restZ13
      case hiZ13 => (simp only [List.getElem?_toArray, List.getElem?_cons_succ, List.getElem?_cons_zero] <;> rfl)
      case hQZ13 => exact (fun _ _ _ h => h)
      case hwZ13 => rfl
      case hyZ13 => (intro w hSw; (try dsimp only at hSw); go_simp; try with_reducible rfl)
      (try simp only [Act.put, List.setIfInBounds_toArray, List.set_cons_zero, List.set_cons_succ])
      refine wpAnyH_ready (rs := [4]) (by kernel_rfl) (by simp) ?_
      refine AllReadyH.cons (o := ?oZ14) ?hiZ14 (fun K hK => ?stZ14) AllReadyH.nil
      case hiZ14 => (simp only [List.getElem?_toArray, List.getElem?_cons_succ, List.getElem?_cons_zero] <;> rfl)
      go_simp
      go_at_call 61
      (with_reducible refine (refValue_any h.va h.vn h.vc t.val _ ?_ (by omega)).mono ?_)
      · exact HP.out.val.below HD.out.drew.b
      rintro _ w1 ⟨g1, c1', rfl, ho1, hb1⟩
      have HD1 := Lib.hid (HD.out.drew.below hb1)
      have HV1 := Lib.hid (InBytes.of_own ho1 (valL_bytes HP.out.val.bytes))
      clear ho1 hb1
      go_simp
      refine hK.out _ _ ?_ (fun hHeld => ?_)
      · (first | exact ⟨HD2.out.nine.1, HD2.out.nine.2.1, HD2.out.nine.2.2.1, HD2.out.nine.2.2.2.1, HD2.out.nine.2.2.2.2.1, HD2.out.nine.2.2.2.2.2.1, HD2.out.nine.2.2.2.2.2.2.1, HD2.out.nine.2.2.2.2.2.2.2.1, HD2.out.nine.2.2.2.2.2.2.2.2, HD2.out.box.cells.2.2.1⟩ | exact ⟨HD1.out.nine.1, HD1.out.nine.2.1, HD1.out.nine.2.2.1, HD1.out.nine.2.2.2.1, HD1.out.nine.2.2.2.2.1, HD1.out.nine.2.2.2.2.2.1, HD1.out.nine.2.2.2.2.2.2.1, HD1.out.nine.2.2.2.2.2.2.2.1, HD1.out.nine.2.2.2.2.2.2.2.2, HD1.out.box.cells.2.2.1⟩ | exact ⟨HD.out.drew.nine.1, HD.out.drew.nine.2.1, HD.out.drew.nine.2.2.1, HD.out.drew.nine.2.2.2.1, HD.out.drew.nine.2.2.2.2.1, HD.out.drew.nine.2.2.2.2.2.1, HD.out.drew.nine.2.2.2.2.2.2.1, HD.out.drew.nine.2.2.2.2.2.2.2.1, HD.out.drew.nine.2.2.2.2.2.2.2.2, HD.out.drew.box.cells.2.2.1⟩)
      clear hK K
      (try simp only [Act.put, List.setIfInBounds_toArray, List.set_cons_zero, List.set_cons_succ])
      refine wpAnyH_ready (rs := [5]) (by kernel_rfl) (by simp) ?_
      refine AllReadyH.cons (o := ?oZ15) ?hiZ15 (fun K hK => ?stZ15) AllReadyH.nil
      case hiZ15 => (simp only [List.getElem?_toArray, List.getElem?_cons_succ, List.getElem?_cons_zero] <;> rfl)
      go_simp
      go_at_call 60
      (with_reducible refine (HD1.out.of hk1 hk2 HV1.out ?_).mono ?_)
      · rw [valL_len]; omega
      rintro _ w2 ⟨g2, hg2, rfl, hr2, hb2⟩
      have HD2 := Lib.hid (HD1.out.below hb2)
      have HR2 := Lib.hid (of_in32 hr2 hk2)
      clear hg2 hr2 hb2
      go_simp
      refine hK.out _ _ ?_ (fun hHeld => ?_)
      · (first | exact ⟨HD2.out.nine.1, HD2.out.nine.2.1, HD2.out.nine.2.2.1, HD2.out.nine.2.2.2.1, HD2.out.nine.2.2.2.2.1, HD2.out.nine.2.2.2.2.2.1, HD2.out.nine.2.2.2.2.2.2.1, HD2.out.nine.2.2.2.2.2.2.2.1, HD2.out.nine.2.2.2.2.2.2.2.2, HD2.out.box.cells.2.2.1⟩ | exact ⟨HD1.out.nine.1, HD1.out.nine.2.1, HD1.out.nine.2.2.1, HD1.out.nine.2.2.2.1, HD1.out.nine.2.2.2.2.1, HD1.out.nine.2.2.2.2.2.1, HD1.out.nine.2.2.2.2.2.2.1, HD1.out.nine.2.2.2.2.2.2.2.1, HD1.out.nine.2.2.2.2.2.2.2.2, HD1.out.box.cells.2.2.1⟩ | exact ⟨HD.out.drew.nine.1, HD.out.drew.nine.2.1, HD.out.drew.nine.2.2.1, HD.out.drew.nine.2.2.2.1, HD.out.drew.nine.2.2.2.2.1, HD.out.drew.nine.2.2.2.2.2.1, HD.out.drew.nine.2.2.2.2.2.2.1, HD.out.drew.nine.2.2.2.2.2.2.2.1, HD.out.drew.nine.2.2.2.2.2.2.2.2, HD.out.drew.box.cells.2.2.1⟩)
      clear hK K
      (try simp only [Act.put, List.setIfInBounds_toArray, List.set_cons_zero, List.set_cons_succ])
      refine take_w (i := 6) (oi := ?oZ16) (v := ?vZ16) ?hiZ16 (by kernel_rfl) (by kernel_rfl) (by kernel_rfl) ?hQZ16 ?hwZ16 ?hyZ16 (by assumption) ?restZ16
      case hiZ16 => (simp only [List.getElem?_toArray, List.getElem?_cons_succ, List.getElem?_cons_zero] <;> rfl)
      case hQZ16 => exact (fun _ _ _ h => h)
      case hwZ16 => rfl
      case hyZ16 => (intro w hSw; (try dsimp only at hSw); go_simp; try with_reducible rfl)
      (try simp only [Act.put, List.setIfInBounds_toArray, List.set_cons_zero, List.set_cons_succ])
      refine wpAnyH_done (by kernel_rfl) ?_ _
      
      go_wp2_with fail
      go_meet
      exact ⟨_, _, _, rfl, by unfold valT; rw [if_pos HE.out]; exact HR2.out, HD2.out⟩
  case rest =>
  obtain ⟨av, nv, cv, rfl, hinv, hdw⟩ := hcut
  have HV := Lib.hid hinv
  have hnv := hinv.len
  clear x0 x1 x2 x3 x4 t0 t1 t2 t3 t4 t5 t6 t7 t8 HD hinv
  generalize wc = w3 at *
  have HD := Lib.hid hdw
  clear hdw
  by_cases hnk : nv = k
  rotate_left
  · have hne : ((nv : Int) != (k : Int)) = true := by simp; omega
    clear hnk
    go_wp2_with fail
    go_ret2
    refine ⟨_, _, _, false, rfl, .inr ⟨rfl, digT_bad HH.out.1 HH.out.2.1 ?_⟩, HD.out.b⟩
    intro hc
    rw [hnv] at hc
    simp [hc] at hne
  obtain rfl : nv = k := hnk
  have HNV := Lib.hid hnv
  clear hnv
  have hkn : h.kn ≤ 80 := by
    have hpb := HPB.out
    rw [HF.out.1, if_neg (by simpa using e0)] at hpb
    have hh := hpb.symm
    split at hh
    · simp only [Bool.and_eq_true, decide_eq_true_eq] at hh
      omega
    · split at hh
      · simp only [Bool.and_eq_true, decide_eq_true_eq] at hh
        omega
      · rw [if_neg (by simpa using e3)] at hh
        cases hh
  have hc0 : ((nv : Int) != (nv : Int)) = false := by simp
  have l0 : 0 < t.kids.length := by omega
  have l1 : 1 < t.kids.length := by omega
  have htn := HTN.out
  have ht0 : 0 < h.tn := by omega
  have ht1 : (1 : Int) < (h.tn : Int) := by omega
  clear htn
  obtain ⟨g, off, hta, _, _⟩ := (HP.out.below HD.out.b).place ht0
  have HTA := Lib.hid hta
  clear hta
  go_upto_region 11 with fail
  refine wp_region_held_drew (S := (fun W => W.cell? ⟨w.heap.size, 0, none⟩ = some (.slice (some ⟨gk, 0, none⟩) 64 ck) ∧ W.cell? ⟨w.heap.size, 1, none⟩ = some (.int .u32 1779033703) ∧ W.cell? ⟨w.heap.size, 2, none⟩ = some (.int .u32 3144134277) ∧ W.cell? ⟨w.heap.size, 3, none⟩ = some (.int .u32 1013904242) ∧ W.cell? ⟨w.heap.size, 4, none⟩ = some (.int .u32 2773480762) ∧ W.cell? ⟨w.heap.size, 5, none⟩ = some (.int .u32 1359893119) ∧ W.cell? ⟨w.heap.size, 6, none⟩ = some (.int .u32 2600822924) ∧ W.cell? ⟨w.heap.size, 7, none⟩ = some (.int .u32 528734635) ∧ W.cell? ⟨w.heap.size, 8, none⟩ = some (.int .u32 1541459225) ∧ W.cell? ⟨w.heap.size + 1, 4, none⟩ = some (.slice (some ⟨g, off, none⟩) h.tn h.tc) ∧ W.cell? ⟨g, off, none⟩ = some (.int .i64 (H 0).k) ∧ W.cell? ⟨g, off + 1, none⟩ = some (.slice (H 0).ka (H 0).kn (H 0).kc) ∧ W.cell? ⟨g, off + 2, none⟩ = some (.slice (H 0).va (H 0).vn (H 0).vc) ∧ W.cell? ⟨g, off + 3, none⟩ = some (.slice (H 0).da (H 0).dn (H 0).dc) ∧ W.cell? ⟨g, off + 4, none⟩ = some (.slice (H 0).ta (H 0).tn (H 0).tc))) (by kernel_rfl) ⟨HD.out.drew.nine.1, HD.out.drew.nine.2.1, HD.out.drew.nine.2.2.1, HD.out.drew.nine.2.2.2.1, HD.out.drew.nine.2.2.2.2.1, HD.out.drew.nine.2.2.2.2.2.1, HD.out.drew.nine.2.2.2.2.2.2.1, HD.out.drew.nine.2.2.2.2.2.2.2.1, HD.out.drew.nine.2.2.2.2.2.2.2.2, (HD.out.drew.box.cells.2.2.2.2).trans (by rw [HTA.out]), (HP.out.below HD.out.drew.b).kid0 HTA.out (by omega)⟩ (fun hHeld => ?_)
  refine take_w (i := 0) (oi := ?oZ17) (v := ?vZ17) ?hiZ17 (by kernel_rfl) (by kernel_rfl) (by kernel_rfl) ?hQZ17 ?hwZ17 ?hyZ17 (by assumption) ?restZ17
  case hiZ17 => (simp only [List.getElem?_toArray, List.getElem?_cons_zero] <;> rfl)
  case hQZ17 => exact (fun _ _ _ h => h)
  case hwZ17 => rfl
  case hyZ17 => (intro w hSw; (try dsimp only at hSw); go_simp; try with_reducible rfl)
  (try simp only [Act.put, List.setIfInBounds_toArray, List.set_cons_zero, List.set_cons_succ])
  refine take_w (i := 1) (oi := ?oZ18) (v := ?vZ18) ?hiZ18 (by kernel_rfl) (by kernel_rfl) (by kernel_rfl) ?hQZ18 ?hwZ18 ?hyZ18 (by assumption) ?restZ18
  case hiZ18 => (simp only [List.getElem?_toArray, List.getElem?_cons_succ, List.getElem?_cons_zero] <;> rfl)
  case hQZ18 => exact (fun _ _ _ h => h)
  case hwZ18 => rfl
  case hyZ18 => (intro w hSw; (try dsimp only at hSw); go_simp; try with_reducible rfl)
  (try simp only [Act.put, List.setIfInBounds_toArray, List.set_cons_zero, List.set_cons_succ])
  refine take_w (i := 2) (oi := ?oZ19) (v := ?vZ19) ?hiZ19 (by kernel_rfl) (by kernel_rfl) (by kernel_rfl) ?hQZ19 ?hwZ19 ?hyZ19 (by assumption) ?restZ19
  case hiZ19 => (simp only [List.getElem?_toArray, List.getElem?_cons_succ, List.getElem?_cons_zero] <;> rfl)
  case hQZ19 => exact (fun _ _ _ h => h)
  case hwZ19 => rfl
  case hyZ19 => (intro w hSw; (try dsimp only at hSw); go_simp; try with_reducible rfl)
  (try simp only [Act.put, List.setIfInBounds_toArray, List.set_cons_zero, List.set_cons_succ])
  refine take_w (i := 3) (oi := ?oZ20) (v := ?vZ20) ?hiZ20 (by kernel_rfl) (by kernel_rfl) (by kernel_rfl) ?hQZ20 ?hwZ20 ?hyZ20 (by assumption) ?restZ20
  case hiZ20 => (simp only [List.getElem?_toArray, List.getElem?_cons_succ, List.getElem?_cons_zero] <;> rfl)
  case hQZ20 => exact (fun _ _ _ h => h)
  case hwZ20 => rfl
  case hyZ20 => (intro w hSw; (try dsimp only at hSw); go_simp; try with_reducible rfl)
  (try simp only [Act.put, List.setIfInBounds_toArray, List.set_cons_zero, List.set_cons_succ])
  refine take_w (i := 4) (oi := ?oZ21) (v := ?vZ21) ?hiZ21 (by kernel_rfl) (by kernel_rfl) (by kernel_rfl) ?hQZ21 ?hwZ21 ?hyZ21 (by assumption) ?restZ21
  case hiZ21 => (simp only [List.getElem?_toArray, List.getElem?_cons_succ, List.getElem?_cons_zero] <;> rfl)
  case hQZ21 => exact (fun _ _ _ h => h)
  case hwZ21 => rfl
  case hyZ21 => (intro w hSw; (try dsimp only at hSw); go_simp; try with_reducible rfl)
  (try simp only [Act.put, List.setIfInBounds_toArray, List.set_cons_zero, List.set_cons_succ])
  refine take_w (i := 5) (oi := ?oZ22) (v := ?vZ22) ?hiZ22 (by kernel_rfl) (by kernel_rfl) (by kernel_rfl) ?hQZ22 ?hwZ22 ?hyZ22 (by assumption) ?restZ22
  case hiZ22 => (simp only [List.getElem?_toArray, List.getElem?_cons_succ, List.getElem?_cons_zero] <;> rfl)
  case hQZ22 => exact (fun _ _ _ h => h)
  case hwZ22 => rfl
  case hyZ22 => (intro w hSw; (try dsimp only at hSw); go_simp; try with_reducible rfl)
  (try simp only [Act.put, List.setIfInBounds_toArray, List.set_cons_zero, List.set_cons_succ])
  refine wpAnyH_ready (rs := [6]) (by kernel_rfl) (by simp) ?_
  refine AllReadyH.cons (o := ?oZ23) ?hiZ23 (fun K hK => ?stZ23) AllReadyH.nil
  case hiZ23 => (simp only [List.getElem?_toArray, List.getElem?_cons_succ, List.getElem?_cons_zero] <;> rfl)
  go_simp
  go_at_call 33
  refine (IH.out _ (List.getElem_mem l0) (H 0) _ ((HP.out.below HD.out.drew.b).kids 0 l0) (HF.out.2 0 l0) HD.out.drew.ks (Nat.lt_of_lt_of_le HD.out.drew.gk HD.out.drew.b.size)).mono ?_
  rintro _ w4 ⟨a4, n4, cc4, is4, rfl, hres4, hb4⟩
  have HD4 := Lib.hid (HD.out.drew.below hb4)
  have HRES4 := Lib.hid hres4
  have HV4 := Lib.hid ((HV.out.below (Below.refl _ _).drew).below hb4)
  clear hres4 hb4
  go_simp
  refine hK.out _ _ ?_ (fun hHeld => ?_)
  · (first | exact ⟨HD4.out.nine.1, HD4.out.nine.2.1, HD4.out.nine.2.2.1, HD4.out.nine.2.2.2.1, HD4.out.nine.2.2.2.2.1, HD4.out.nine.2.2.2.2.2.1, HD4.out.nine.2.2.2.2.2.2.1, HD4.out.nine.2.2.2.2.2.2.2.1, HD4.out.nine.2.2.2.2.2.2.2.2, (HD4.out.box.cells.2.2.2.2).trans (by rw [HTA.out]), (HP.out.below HD4.out.b).kid0 HTA.out (by omega)⟩ | exact ⟨HD.out.drew.nine.1, HD.out.drew.nine.2.1, HD.out.drew.nine.2.2.1, HD.out.drew.nine.2.2.2.1, HD.out.drew.nine.2.2.2.2.1, HD.out.drew.nine.2.2.2.2.2.1, HD.out.drew.nine.2.2.2.2.2.2.1, HD.out.drew.nine.2.2.2.2.2.2.2.1, HD.out.drew.nine.2.2.2.2.2.2.2.2, (HD.out.drew.box.cells.2.2.2.2).trans (by rw [HTA.out]), (HP.out.below HD.out.drew.b).kid0 HTA.out (by omega)⟩)
  clear hK K
  (try simp only [Act.put, List.setIfInBounds_toArray, List.set_cons_zero, List.set_cons_succ])
  refine take_w (i := 7) (oi := ?oZ24) (v := ?vZ24) ?hiZ24 (by kernel_rfl) (by kernel_rfl) (by kernel_rfl) ?hQZ24 ?hwZ24 ?hyZ24 (by assumption) ?restZ24
  case hiZ24 => (simp only [List.getElem?_toArray, List.getElem?_cons_succ, List.getElem?_cons_zero] <;> rfl)
  case hQZ24 => exact (fun _ _ _ h => h)
  case hwZ24 => rfl
  case hyZ24 => (intro w hSw; (try dsimp only at hSw); go_simp; try with_reducible rfl)
  (try simp only [Act.put, List.setIfInBounds_toArray, List.set_cons_zero, List.set_cons_succ])
  refine take_w (i := 8) (oi := ?oZ25) (v := ?vZ25) ?hiZ25 (by kernel_rfl) (by kernel_rfl) (by kernel_rfl) ?hQZ25 ?hwZ25 ?hyZ25 (by assumption) ?restZ25
  case hiZ25 => (simp only [List.getElem?_toArray, List.getElem?_cons_succ, List.getElem?_cons_zero] <;> rfl)
  case hQZ25 => exact (fun _ _ _ h => h)
  case hwZ25 => rfl
  case hyZ25 => (intro w hSw; (try dsimp only at hSw); go_simp; try with_reducible rfl)
  (try simp only [Act.put, List.setIfInBounds_toArray, List.set_cons_zero, List.set_cons_succ])
  refine take_w (i := 9) (oi := ?oZ26) (v := ?vZ26) ?hiZ26 (by kernel_rfl) (by kernel_rfl) (by kernel_rfl) ?hQZ26 ?hwZ26 ?hyZ26 (by assumption) ?restZ26
  case hiZ26 => (simp only [List.getElem?_toArray, List.getElem?_cons_succ, List.getElem?_cons_zero] <;> rfl)
  case hQZ26 => exact (fun _ _ _ h => h)
  case hwZ26 => rfl
  case hyZ26 => (intro w hSw; (try dsimp only at hSw); go_simp; try with_reducible rfl)
  (try simp only [Act.put, List.setIfInBounds_toArray, List.set_cons_zero, List.set_cons_succ])
  refine take_w (i := 10) (oi := ?oZ27) (v := ?vZ27) ?hiZ27 (by kernel_rfl) (by kernel_rfl) (by kernel_rfl) ?hQZ27 ?hwZ27 ?hyZ27 (by assumption) ?restZ27
  case hiZ27 => (simp only [List.getElem?_toArray, List.getElem?_cons_succ, List.getElem?_cons_zero] <;> rfl)
  case hQZ27 => exact (fun _ _ _ h => h)
  case hwZ27 => rfl
  case hyZ27 => (intro w hSw; (try dsimp only at hSw); go_simp; try with_reducible rfl)
  (try simp only [Act.put, List.setIfInBounds_toArray, List.set_cons_zero, List.set_cons_succ])
  refine take_w (i := 11) (oi := ?oZ28) (v := ?vZ28) ?hiZ28 (by kernel_rfl) (by kernel_rfl) (by kernel_rfl) ?hQZ28 ?hwZ28 ?hyZ28 (by assumption) ?restZ28
  case hiZ28 => (simp only [List.getElem?_toArray, List.getElem?_cons_succ, List.getElem?_cons_zero] <;> rfl)
  case hQZ28 => exact (fun _ _ _ h => h)
  case hwZ28 => rfl
  case hyZ28 => (intro w hSw; (try dsimp only at hSw); go_simp; try with_reducible rfl)
  (try simp only [Act.put, List.setIfInBounds_toArray, List.set_cons_zero, List.set_cons_succ])
  refine wpAnyH_done (by kernel_rfl) ?_ _
  
  clear hHeld
  go_upto_region 12 with fail
  refine wp_region_held_drew (S := (fun W => W.cell? ⟨w.heap.size, 0, none⟩ = some (.slice (some ⟨gk, 0, none⟩) 64 ck) ∧ W.cell? ⟨w.heap.size, 1, none⟩ = some (.int .u32 1779033703) ∧ W.cell? ⟨w.heap.size, 2, none⟩ = some (.int .u32 3144134277) ∧ W.cell? ⟨w.heap.size, 3, none⟩ = some (.int .u32 1013904242) ∧ W.cell? ⟨w.heap.size, 4, none⟩ = some (.int .u32 2773480762) ∧ W.cell? ⟨w.heap.size, 5, none⟩ = some (.int .u32 1359893119) ∧ W.cell? ⟨w.heap.size, 6, none⟩ = some (.int .u32 2600822924) ∧ W.cell? ⟨w.heap.size, 7, none⟩ = some (.int .u32 528734635) ∧ W.cell? ⟨w.heap.size, 8, none⟩ = some (.int .u32 1541459225) ∧ W.cell? ⟨w.heap.size + 1, 4, none⟩ = some (.slice (some ⟨g, off, none⟩) h.tn h.tc) ∧ W.cell? ⟨g, off + 5, none⟩ = some (.int .i64 (H 1).k) ∧ W.cell? ⟨g, off + 5 + 1, none⟩ = some (.slice (H 1).ka (H 1).kn (H 1).kc) ∧ W.cell? ⟨g, off + 5 + 2, none⟩ = some (.slice (H 1).va (H 1).vn (H 1).vc) ∧ W.cell? ⟨g, off + 5 + 3, none⟩ = some (.slice (H 1).da (H 1).dn (H 1).dc) ∧ W.cell? ⟨g, off + 5 + 4, none⟩ = some (.slice (H 1).ta (H 1).tn (H 1).tc))) (by kernel_rfl) ⟨HD4.out.drew.nine.1, HD4.out.drew.nine.2.1, HD4.out.drew.nine.2.2.1, HD4.out.drew.nine.2.2.2.1, HD4.out.drew.nine.2.2.2.2.1, HD4.out.drew.nine.2.2.2.2.2.1, HD4.out.drew.nine.2.2.2.2.2.2.1, HD4.out.drew.nine.2.2.2.2.2.2.2.1, HD4.out.drew.nine.2.2.2.2.2.2.2.2, (HD4.out.drew.box.cells.2.2.2.2).trans (by rw [HTA.out]), (HP.out.below HD4.out.drew.b).kid1 HTA.out (by omega)⟩ (fun hHeld => ?_)
  refine take_w (i := 0) (oi := ?oZ29) (v := ?vZ29) ?hiZ29 (by kernel_rfl) (by kernel_rfl) (by kernel_rfl) ?hQZ29 ?hwZ29 ?hyZ29 (by assumption) ?restZ29
  case hiZ29 => (simp only [List.getElem?_toArray, List.getElem?_cons_zero] <;> rfl)
  case hQZ29 => exact (fun _ _ _ h => h)
  case hwZ29 => rfl
  case hyZ29 => (intro w hSw; (try dsimp only at hSw); go_simp; try with_reducible rfl)
  (try simp only [Act.put, List.setIfInBounds_toArray, List.set_cons_zero, List.set_cons_succ])
  refine take_w (i := 1) (oi := ?oZ30) (v := ?vZ30) ?hiZ30 (by kernel_rfl) (by kernel_rfl) (by kernel_rfl) ?hQZ30 ?hwZ30 ?hyZ30 (by assumption) ?restZ30
  case hiZ30 => (simp only [List.getElem?_toArray, List.getElem?_cons_succ, List.getElem?_cons_zero] <;> rfl)
  case hQZ30 => exact (fun _ _ _ h => h)
  case hwZ30 => rfl
  case hyZ30 => (intro w hSw; (try dsimp only at hSw); go_simp; try with_reducible rfl)
  (try simp only [Act.put, List.setIfInBounds_toArray, List.set_cons_zero, List.set_cons_succ])
  refine take_w (i := 2) (oi := ?oZ31) (v := ?vZ31) ?hiZ31 (by kernel_rfl) (by kernel_rfl) (by kernel_rfl) ?hQZ31 ?hwZ31 ?hyZ31 (by assumption) ?restZ31
  case hiZ31 => (simp only [List.getElem?_toArray, List.getElem?_cons_succ, List.getElem?_cons_zero] <;> rfl)
  case hQZ31 => exact (fun _ _ _ h => h)
  case hwZ31 => rfl
  case hyZ31 => (intro w hSw; (try dsimp only at hSw); go_simp; try with_reducible rfl)
  (try simp only [Act.put, List.setIfInBounds_toArray, List.set_cons_zero, List.set_cons_succ])
  refine take_w (i := 3) (oi := ?oZ32) (v := ?vZ32) ?hiZ32 (by kernel_rfl) (by kernel_rfl) (by kernel_rfl) ?hQZ32 ?hwZ32 ?hyZ32 (by assumption) ?restZ32
  case hiZ32 => (simp only [List.getElem?_toArray, List.getElem?_cons_succ, List.getElem?_cons_zero] <;> rfl)
  case hQZ32 => exact (fun _ _ _ h => h)
  case hwZ32 => rfl
  case hyZ32 => (intro w hSw; (try dsimp only at hSw); go_simp; try with_reducible rfl)
  (try simp only [Act.put, List.setIfInBounds_toArray, List.set_cons_zero, List.set_cons_succ])
  refine take_w (i := 4) (oi := ?oZ33) (v := ?vZ33) ?hiZ33 (by kernel_rfl) (by kernel_rfl) (by kernel_rfl) ?hQZ33 ?hwZ33 ?hyZ33 (by assumption) ?restZ33
  case hiZ33 => (simp only [List.getElem?_toArray, List.getElem?_cons_succ, List.getElem?_cons_zero] <;> rfl)
  case hQZ33 => exact (fun _ _ _ h => h)
  case hwZ33 => rfl
  case hyZ33 => (intro w hSw; (try dsimp only at hSw); go_simp; try with_reducible rfl)
  (try simp only [Act.put, List.setIfInBounds_toArray, List.set_cons_zero, List.set_cons_succ])
  refine take_w (i := 5) (oi := ?oZ34) (v := ?vZ34) ?hiZ34 (by kernel_rfl) (by kernel_rfl) (by kernel_rfl) ?hQZ34 ?hwZ34 ?hyZ34 (by assumption) ?restZ34
  case hiZ34 => (simp only [List.getElem?_toArray, List.getElem?_cons_succ, List.getElem?_cons_zero] <;> rfl)
  case hQZ34 => exact (fun _ _ _ h => h)
  case hwZ34 => rfl
  case hyZ34 => (intro w hSw; (try dsimp only at hSw); go_simp; try with_reducible rfl)
  (try simp only [Act.put, List.setIfInBounds_toArray, List.set_cons_zero, List.set_cons_succ])
  refine wpAnyH_ready (rs := [6]) (by kernel_rfl) (by simp) ?_
  refine AllReadyH.cons (o := ?oZ35) ?hiZ35 (fun K hK => ?stZ35) AllReadyH.nil
  case hiZ35 => (simp only [List.getElem?_toArray, List.getElem?_cons_succ, List.getElem?_cons_zero] <;> rfl)
  go_simp
  go_at_call 33
  refine (IH.out _ (List.getElem_mem l1) (H 1) _ ((HP.out.below HD4.out.drew.b).kids 1 l1) (HF.out.2 1 l1) HD4.out.drew.ks (Nat.lt_of_lt_of_le HD4.out.drew.gk HD4.out.drew.b.size)).mono ?_
  rintro _ w5 ⟨a5, n5, cc5, is5, rfl, hres5, hb5⟩
  have HD5 := Lib.hid (HD4.out.drew.below hb5)
  have HRES5 := Lib.hid hres5
  have HV5 := Lib.hid ((HV4.out.below (Below.refl _ _).drew).below hb5)
  have HBB5 : Hid (Below w4.heap.size w4 w5) := Lib.hid ((Below.refl w4.heap.size w4).drew.trans hb5)
  clear hres5 hb5
  go_simp
  refine hK.out _ _ ?_ (fun hHeld => ?_)
  · (first | exact ⟨HD5.out.nine.1, HD5.out.nine.2.1, HD5.out.nine.2.2.1, HD5.out.nine.2.2.2.1, HD5.out.nine.2.2.2.2.1, HD5.out.nine.2.2.2.2.2.1, HD5.out.nine.2.2.2.2.2.2.1, HD5.out.nine.2.2.2.2.2.2.2.1, HD5.out.nine.2.2.2.2.2.2.2.2, (HD5.out.box.cells.2.2.2.2).trans (by rw [HTA.out]), (HP.out.below HD5.out.b).kid1 HTA.out (by omega)⟩ | exact ⟨HD4.out.drew.nine.1, HD4.out.drew.nine.2.1, HD4.out.drew.nine.2.2.1, HD4.out.drew.nine.2.2.2.1, HD4.out.drew.nine.2.2.2.2.1, HD4.out.drew.nine.2.2.2.2.2.1, HD4.out.drew.nine.2.2.2.2.2.2.1, HD4.out.drew.nine.2.2.2.2.2.2.2.1, HD4.out.drew.nine.2.2.2.2.2.2.2.2, (HD4.out.drew.box.cells.2.2.2.2).trans (by rw [HTA.out]), (HP.out.below HD4.out.drew.b).kid1 HTA.out (by omega)⟩)
  clear hK K
  (try simp only [Act.put, List.setIfInBounds_toArray, List.set_cons_zero, List.set_cons_succ])
  refine take_w (i := 7) (oi := ?oZ36) (v := ?vZ36) ?hiZ36 (by kernel_rfl) (by kernel_rfl) (by kernel_rfl) ?hQZ36 ?hwZ36 ?hyZ36 (by assumption) ?restZ36
  case hiZ36 => (simp only [List.getElem?_toArray, List.getElem?_cons_succ, List.getElem?_cons_zero] <;> rfl)
  case hQZ36 => exact (fun _ _ _ h => h)
  case hwZ36 => rfl
  case hyZ36 => (intro w hSw; (try dsimp only at hSw); go_simp; try with_reducible rfl)
  (try simp only [Act.put, List.setIfInBounds_toArray, List.set_cons_zero, List.set_cons_succ])
  refine take_w (i := 8) (oi := ?oZ37) (v := ?vZ37) ?hiZ37 (by kernel_rfl) (by kernel_rfl) (by kernel_rfl) ?hQZ37 ?hwZ37 ?hyZ37 (by assumption) ?restZ37
  case hiZ37 => (simp only [List.getElem?_toArray, List.getElem?_cons_succ, List.getElem?_cons_zero] <;> rfl)
  case hQZ37 => exact (fun _ _ _ h => h)
  case hwZ37 => rfl
  case hyZ37 => (intro w hSw; (try dsimp only at hSw); go_simp; try with_reducible rfl)
  (try simp only [Act.put, List.setIfInBounds_toArray, List.set_cons_zero, List.set_cons_succ])
  refine take_w (i := 9) (oi := ?oZ38) (v := ?vZ38) ?hiZ38 (by kernel_rfl) (by kernel_rfl) (by kernel_rfl) ?hQZ38 ?hwZ38 ?hyZ38 (by assumption) ?restZ38
  case hiZ38 => (simp only [List.getElem?_toArray, List.getElem?_cons_succ, List.getElem?_cons_zero] <;> rfl)
  case hQZ38 => exact (fun _ _ _ h => h)
  case hwZ38 => rfl
  case hyZ38 => (intro w hSw; (try dsimp only at hSw); go_simp; try with_reducible rfl)
  (try simp only [Act.put, List.setIfInBounds_toArray, List.set_cons_zero, List.set_cons_succ])
  refine take_w (i := 10) (oi := ?oZ39) (v := ?vZ39) ?hiZ39 (by kernel_rfl) (by kernel_rfl) (by kernel_rfl) ?hQZ39 ?hwZ39 ?hyZ39 (by assumption) ?restZ39
  case hiZ39 => (simp only [List.getElem?_toArray, List.getElem?_cons_succ, List.getElem?_cons_zero] <;> rfl)
  case hQZ39 => exact (fun _ _ _ h => h)
  case hwZ39 => rfl
  case hyZ39 => (intro w hSw; (try dsimp only at hSw); go_simp; try with_reducible rfl)
  (try simp only [Act.put, List.setIfInBounds_toArray, List.set_cons_zero, List.set_cons_succ])
  refine take_w (i := 11) (oi := ?oZ40) (v := ?vZ40) ?hiZ40 (by kernel_rfl) (by kernel_rfl) (by kernel_rfl) ?hQZ40 ?hwZ40 ?hyZ40 (by assumption) ?restZ40
  case hiZ40 => (simp only [List.getElem?_toArray, List.getElem?_cons_succ, List.getElem?_cons_zero] <;> rfl)
  case hQZ40 => exact (fun _ _ _ h => h)
  case hwZ40 => rfl
  case hyZ40 => (intro w hSw; (try dsimp only at hSw); go_simp; try with_reducible rfl)
  (try simp only [Act.put, List.setIfInBounds_toArray, List.set_cons_zero, List.set_cons_succ])
  refine wpAnyH_done (by kernel_rfl) ?_ _
  
  clear hHeld
  rcases HRES4.out with ⟨rfl, zs4, hz4, hin4⟩ | ⟨rfl, hz4⟩
  rotate_left
  · have HZ := Lib.hid hz4
    clear hz4
    go_wp2_with fail
    go_ret2
    exact ⟨_, _, _, false, rfl, .inr ⟨rfl, by rw [digT_node HH.out.1 HH.out.2.1 HNV.out HH.out.2.2, HZ.out]⟩, HD5.out.b⟩
  rcases HRES5.out with ⟨rfl, zs5, hz5, hin5⟩ | ⟨rfl, hz5⟩
  rotate_left
  · have HZ := Lib.hid (And.intro hz4 hz5)
    clear hz4 hz5 hin4
    go_wp2_with fail
    go_ret2
    exact ⟨_, _, _, false, rfl, .inr ⟨rfl, by rw [digT_node HH.out.1 HH.out.2.1 HNV.out HH.out.2.2, HZ.out.1, HZ.out.2]⟩, HD5.out.b⟩
  have hn4 : n4 = nv := by rw [← hin4.len]; exact digT_len hk2 hz4
  have hn5 : n5 = nv := by rw [← hin5.len]; exact digT_len hk2 hz5
  have HI5 : Hid (InBytes w5 a4 n4 cc4 zs4 ∧ InBytes w5 a5 n5 cc5 zs5) := Lib.hid ⟨hin4.below HBB5.out, hin5⟩
  have hn4' : n4 ≤ 32 := by omega
  have hn5' : n5 ≤ 32 := by omega
  have HZ := Lib.hid (And.intro hz4 hz5)
  clear hz4 hz5 hin4 hin5 hn4 hn5 HRES4 HRES5
  go_upto_region 15 with fail
  refine wp_region_held_drew (S := (fun W => W.cell? ⟨w.heap.size, 0, none⟩ = some (.slice (some ⟨gk, 0, none⟩) 64 ck) ∧ W.cell? ⟨w.heap.size, 1, none⟩ = some (.int .u32 1779033703) ∧ W.cell? ⟨w.heap.size, 2, none⟩ = some (.int .u32 3144134277) ∧ W.cell? ⟨w.heap.size, 3, none⟩ = some (.int .u32 1013904242) ∧ W.cell? ⟨w.heap.size, 4, none⟩ = some (.int .u32 2773480762) ∧ W.cell? ⟨w.heap.size, 5, none⟩ = some (.int .u32 1359893119) ∧ W.cell? ⟨w.heap.size, 6, none⟩ = some (.int .u32 2600822924) ∧ W.cell? ⟨w.heap.size, 7, none⟩ = some (.int .u32 528734635) ∧ W.cell? ⟨w.heap.size, 8, none⟩ = some (.int .u32 1541459225) ∧ W.cell? ⟨w.heap.size + 1, 1, none⟩ = some (.slice h.ka h.kn h.kc))) (by kernel_rfl) ⟨HD5.out.drew.nine.1, HD5.out.drew.nine.2.1, HD5.out.drew.nine.2.2.1, HD5.out.drew.nine.2.2.2.1, HD5.out.drew.nine.2.2.2.2.1, HD5.out.drew.nine.2.2.2.2.2.1, HD5.out.drew.nine.2.2.2.2.2.2.1, HD5.out.drew.nine.2.2.2.2.2.2.2.1, HD5.out.drew.nine.2.2.2.2.2.2.2.2, HD5.out.drew.box.cells.2.1⟩ (fun hHeld => ?_)
  refine take_w (i := 0) (oi := ?oZ41) (v := ?vZ41) ?hiZ41 (by kernel_rfl) (by kernel_rfl) (by kernel_rfl) ?hQZ41 ?hwZ41 ?hyZ41 (by assumption) ?restZ41
  case hiZ41 => (simp only [List.getElem?_toArray, List.getElem?_cons_zero] <;> rfl)
  case hQZ41 => exact (fun _ _ _ h => h)
  case hwZ41 => rfl
  case hyZ41 => (intro w hSw; (try dsimp only at hSw); go_simp; try with_reducible rfl)
  (try simp only [Act.put, List.setIfInBounds_toArray, List.set_cons_zero, List.set_cons_succ])
  refine take_w (i := 1) (oi := ?oZ42) (v := ?vZ42) ?hiZ42 (by kernel_rfl) (by kernel_rfl) (by kernel_rfl) ?hQZ42 ?hwZ42 ?hyZ42 (by assumption) ?restZ42
  case hiZ42 => (simp only [List.getElem?_toArray, List.getElem?_cons_succ, List.getElem?_cons_zero] <;> rfl)
  case hQZ42 => exact (fun _ _ _ h => h)
  case hwZ42 => rfl
  case hyZ42 => (intro w hSw; (try dsimp only at hSw); go_simp; try with_reducible rfl)
  (try simp only [Act.put, List.setIfInBounds_toArray, List.set_cons_zero, List.set_cons_succ])
  refine take_w (i := 2) (oi := ?oZ43) (v := ?vZ43) ?hiZ43 (by kernel_rfl) (by kernel_rfl) (by kernel_rfl) ?hQZ43 ?hwZ43 ?hyZ43 (by assumption) ?restZ43
  case hiZ43 => (simp only [List.getElem?_toArray, List.getElem?_cons_succ, List.getElem?_cons_zero] <;> rfl)
  case hQZ43 => exact (fun _ _ _ h => h)
  case hwZ43 => rfl
  case hyZ43 => (intro w hSw; (try dsimp only at hSw); go_simp; try with_reducible rfl)
  (try simp only [Act.put, List.setIfInBounds_toArray, List.set_cons_zero, List.set_cons_succ])
  refine take_w (i := 3) (oi := ?oZ44) (v := ?vZ44) ?hiZ44 (by kernel_rfl) (by kernel_rfl) (by kernel_rfl) ?hQZ44 ?hwZ44 ?hyZ44 (by assumption) ?restZ44
  case hiZ44 => (simp only [List.getElem?_toArray, List.getElem?_cons_succ, List.getElem?_cons_zero] <;> rfl)
  case hQZ44 => exact (fun _ _ _ h => h)
  case hwZ44 => rfl
  case hyZ44 => (intro w hSw; (try dsimp only at hSw); go_simp; try with_reducible rfl)
  (try simp only [Act.put, List.setIfInBounds_toArray, List.set_cons_zero, List.set_cons_succ])
  refine take_w (i := 4) (oi := ?oZ45) (v := ?vZ45) ?hiZ45 (by kernel_rfl) (by kernel_rfl) (by kernel_rfl) ?hQZ45 ?hwZ45 ?hyZ45 (by assumption) ?restZ45
  case hiZ45 => (simp only [List.getElem?_toArray, List.getElem?_cons_succ, List.getElem?_cons_zero] <;> rfl)
  case hQZ45 => exact (fun _ _ _ h => h)
  case hwZ45 => rfl
  case hyZ45 => (intro w hSw; (try dsimp only at hSw); go_simp; try with_reducible rfl)
  (try simp only [Act.put, List.setIfInBounds_toArray, List.set_cons_zero, List.set_cons_succ])
  refine wpAnyH_ready (rs := [5]) (by kernel_rfl) (by simp) ?_
  refine AllReadyH.cons (o := ?oZ46) ?hiZ46 (fun K hK => ?stZ46) AllReadyH.nil
  case hiZ46 => (simp only [List.getElem?_toArray, List.getElem?_cons_succ, List.getElem?_cons_zero] <;> rfl)
  go_simp
  go_at_call 62
  (with_reducible refine (refPair_any h.ka h.kn h.kc t.key av nv cv (valT nv t) _ ?_ ?_ ?_ hk2).mono ?_)
  · exact HP.out.key.below HD5.out.drew.b
  · omega
  · exact HV5.out.below (Below.refl _ _).drew
  rintro _ w6 ⟨g6, c6, rfl, ho6, hb6⟩
  have HD6 := Lib.hid (HD5.out.drew.below hb6)
  have HP6 := Lib.hid (InBytes.of_own ho6 (pairL_bytes HP.out.key.bytes (by omega) HV5.out.bytes))
  have HI6 : Hid (InBytes w6 a4 n4 cc4 zs4 ∧ InBytes w6 a5 n5 cc5 zs5) := Lib.hid ⟨(HI5.out.1.below (Below.refl _ _).drew).below hb6, (HI5.out.2.below (Below.refl _ _).drew).below hb6⟩
  clear ho6 hb6
  go_simp
  refine hK.out _ _ ?_ (fun hHeld => ?_)
  · (first | exact ⟨HD7.out.nine.1, HD7.out.nine.2.1, HD7.out.nine.2.2.1, HD7.out.nine.2.2.2.1, HD7.out.nine.2.2.2.2.1, HD7.out.nine.2.2.2.2.2.1, HD7.out.nine.2.2.2.2.2.2.1, HD7.out.nine.2.2.2.2.2.2.2.1, HD7.out.nine.2.2.2.2.2.2.2.2, HD7.out.box.cells.2.1⟩ | exact ⟨HD6.out.nine.1, HD6.out.nine.2.1, HD6.out.nine.2.2.1, HD6.out.nine.2.2.2.1, HD6.out.nine.2.2.2.2.1, HD6.out.nine.2.2.2.2.2.1, HD6.out.nine.2.2.2.2.2.2.1, HD6.out.nine.2.2.2.2.2.2.2.1, HD6.out.nine.2.2.2.2.2.2.2.2, HD6.out.box.cells.2.1⟩ | exact ⟨HD5.out.drew.nine.1, HD5.out.drew.nine.2.1, HD5.out.drew.nine.2.2.1, HD5.out.drew.nine.2.2.2.1, HD5.out.drew.nine.2.2.2.2.1, HD5.out.drew.nine.2.2.2.2.2.1, HD5.out.drew.nine.2.2.2.2.2.2.1, HD5.out.drew.nine.2.2.2.2.2.2.2.1, HD5.out.drew.nine.2.2.2.2.2.2.2.2, HD5.out.drew.box.cells.2.1⟩)
  clear hK K
  (try simp only [Act.put, List.setIfInBounds_toArray, List.set_cons_zero, List.set_cons_succ])
  refine wpAnyH_ready (rs := [6]) (by kernel_rfl) (by simp) ?_
  refine AllReadyH.cons (o := ?oZ47) ?hiZ47 (fun K hK => ?stZ47) AllReadyH.nil
  case hiZ47 => (simp only [List.getElem?_toArray, List.getElem?_cons_succ, List.getElem?_cons_zero] <;> rfl)
  go_simp
  go_at_call 60
  (with_reducible refine (HD6.out.of hk1 hk2 HP6.out ?_).mono ?_)
  · have hq := pairL_len (a := t.key) (b := valT nv t) (by omega)
    have hq2 := HNV.out
    omega
  rintro _ w7 ⟨g7, hg7, rfl, hr7, hb7⟩
  have HD7 := Lib.hid (HD6.out.below hb7)
  have HR7 := Lib.hid (of_in32 hr7 hk2)
  have HI7 : Hid (InBytes w7 a4 n4 cc4 zs4 ∧ InBytes w7 a5 n5 cc5 zs5) := Lib.hid ⟨HI6.out.1.below hb7, HI6.out.2.below hb7⟩
  clear hg7 hr7 hb7
  go_simp
  refine hK.out _ _ ?_ (fun hHeld => ?_)
  · (first | exact ⟨HD7.out.nine.1, HD7.out.nine.2.1, HD7.out.nine.2.2.1, HD7.out.nine.2.2.2.1, HD7.out.nine.2.2.2.2.1, HD7.out.nine.2.2.2.2.2.1, HD7.out.nine.2.2.2.2.2.2.1, HD7.out.nine.2.2.2.2.2.2.2.1, HD7.out.nine.2.2.2.2.2.2.2.2, HD7.out.box.cells.2.1⟩ | exact ⟨HD6.out.nine.1, HD6.out.nine.2.1, HD6.out.nine.2.2.1, HD6.out.nine.2.2.2.1, HD6.out.nine.2.2.2.2.1, HD6.out.nine.2.2.2.2.2.1, HD6.out.nine.2.2.2.2.2.2.1, HD6.out.nine.2.2.2.2.2.2.2.1, HD6.out.nine.2.2.2.2.2.2.2.2, HD6.out.box.cells.2.1⟩ | exact ⟨HD5.out.drew.nine.1, HD5.out.drew.nine.2.1, HD5.out.drew.nine.2.2.1, HD5.out.drew.nine.2.2.2.1, HD5.out.drew.nine.2.2.2.2.1, HD5.out.drew.nine.2.2.2.2.2.1, HD5.out.drew.nine.2.2.2.2.2.2.1, HD5.out.drew.nine.2.2.2.2.2.2.2.1, HD5.out.drew.nine.2.2.2.2.2.2.2.2, HD5.out.drew.box.cells.2.1⟩)
  clear hK K
  (try simp only [Act.put, List.setIfInBounds_toArray, List.set_cons_zero, List.set_cons_succ])
  refine take_w (i := 7) (oi := ?oZ48) (v := ?vZ48) ?hiZ48 (by kernel_rfl) (by kernel_rfl) (by kernel_rfl) ?hQZ48 ?hwZ48 ?hyZ48 (by assumption) ?restZ48
  case hiZ48 => (simp only [List.getElem?_toArray, List.getElem?_cons_succ, List.getElem?_cons_zero] <;> rfl)
  case hQZ48 => exact (fun _ _ _ h => h)
  case hwZ48 => rfl
  case hyZ48 => (intro w hSw; (try dsimp only at hSw); go_simp; try with_reducible rfl)
  (try simp only [Act.put, List.setIfInBounds_toArray, List.set_cons_zero, List.set_cons_succ])
  refine wpAnyH_done (by kernel_rfl) ?_ _
  
  clear hHeld
  go_upto_region 16 with fail
  refine wp_region_held_drew (S := (fun W => W.cell? ⟨w.heap.size, 0, none⟩ = some (.slice (some ⟨gk, 0, none⟩) 64 ck) ∧ W.cell? ⟨w.heap.size, 1, none⟩ = some (.int .u32 1779033703) ∧ W.cell? ⟨w.heap.size, 2, none⟩ = some (.int .u32 3144134277) ∧ W.cell? ⟨w.heap.size, 3, none⟩ = some (.int .u32 1013904242) ∧ W.cell? ⟨w.heap.size, 4, none⟩ = some (.int .u32 2773480762) ∧ W.cell? ⟨w.heap.size, 5, none⟩ = some (.int .u32 1359893119) ∧ W.cell? ⟨w.heap.size, 6, none⟩ = some (.int .u32 2600822924) ∧ W.cell? ⟨w.heap.size, 7, none⟩ = some (.int .u32 528734635) ∧ W.cell? ⟨w.heap.size, 8, none⟩ = some (.int .u32 1541459225))) (by kernel_rfl) HD7.out.drew.nine (fun hHeld => ?_)
  refine take_w (i := 0) (oi := ?oZ49) (v := ?vZ49) ?hiZ49 (by kernel_rfl) (by kernel_rfl) (by kernel_rfl) ?hQZ49 ?hwZ49 ?hyZ49 (by assumption) ?restZ49
  case hiZ49 => (simp only [List.getElem?_toArray, List.getElem?_cons_zero] <;> rfl)
  case hQZ49 => exact (fun _ _ _ h => h)
  case hwZ49 => rfl
  case hyZ49 => (intro w hSw; (try dsimp only at hSw); go_simp; try with_reducible rfl)
  (try simp only [Act.put, List.setIfInBounds_toArray, List.set_cons_zero, List.set_cons_succ])
  refine take_w (i := 1) (oi := ?oZ50) (v := ?vZ50) ?hiZ50 (by kernel_rfl) (by kernel_rfl) (by kernel_rfl) ?hQZ50 ?hwZ50 ?hyZ50 (by assumption) ?restZ50
  case hiZ50 => (simp only [List.getElem?_toArray, List.getElem?_cons_succ, List.getElem?_cons_zero] <;> rfl)
  case hQZ50 => exact (fun _ _ _ h => h)
  case hwZ50 => rfl
  case hyZ50 => (intro w hSw; (try dsimp only at hSw); go_simp; try with_reducible rfl)
  (try simp only [Act.put, List.setIfInBounds_toArray, List.set_cons_zero, List.set_cons_succ])
  refine take_w (i := 2) (oi := ?oZ51) (v := ?vZ51) ?hiZ51 (by kernel_rfl) (by kernel_rfl) (by kernel_rfl) ?hQZ51 ?hwZ51 ?hyZ51 (by assumption) ?restZ51
  case hiZ51 => (simp only [List.getElem?_toArray, List.getElem?_cons_succ, List.getElem?_cons_zero] <;> rfl)
  case hQZ51 => exact (fun _ _ _ h => h)
  case hwZ51 => rfl
  case hyZ51 => (intro w hSw; (try dsimp only at hSw); go_simp; try with_reducible rfl)
  (try simp only [Act.put, List.setIfInBounds_toArray, List.set_cons_zero, List.set_cons_succ])
  refine take_w (i := 3) (oi := ?oZ52) (v := ?vZ52) ?hiZ52 (by kernel_rfl) (by kernel_rfl) (by kernel_rfl) ?hQZ52 ?hwZ52 ?hyZ52 (by assumption) ?restZ52
  case hiZ52 => (simp only [List.getElem?_toArray, List.getElem?_cons_succ, List.getElem?_cons_zero] <;> rfl)
  case hQZ52 => exact (fun _ _ _ h => h)
  case hwZ52 => rfl
  case hyZ52 => (intro w hSw; (try dsimp only at hSw); go_simp; try with_reducible rfl)
  (try simp only [Act.put, List.setIfInBounds_toArray, List.set_cons_zero, List.set_cons_succ])
  refine take_w (i := 4) (oi := ?oZ53) (v := ?vZ53) ?hiZ53 (by kernel_rfl) (by kernel_rfl) (by kernel_rfl) ?hQZ53 ?hwZ53 ?hyZ53 (by assumption) ?restZ53
  case hiZ53 => (simp only [List.getElem?_toArray, List.getElem?_cons_succ, List.getElem?_cons_zero] <;> rfl)
  case hQZ53 => exact (fun _ _ _ h => h)
  case hwZ53 => rfl
  case hyZ53 => (intro w hSw; (try dsimp only at hSw); go_simp; try with_reducible rfl)
  (try simp only [Act.put, List.setIfInBounds_toArray, List.set_cons_zero, List.set_cons_succ])
  refine wpAnyH_ready (rs := [5]) (by kernel_rfl) (by simp) ?_
  refine AllReadyH.cons (o := ?oZ54) ?hiZ54 (fun K hK => ?stZ54) AllReadyH.nil
  case hiZ54 => (simp only [List.getElem?_toArray, List.getElem?_cons_succ, List.getElem?_cons_zero] <;> rfl)
  go_simp
  go_at_call 63
  (with_reducible refine (refNodeB_any a4 n4 cc4 zs4 _ nv 32 ((sumL (pairL t.key (valT nv t))).take nv) a5 n5 cc5 zs5 _ ?_ ?_ ?_ ?_ ?_ ?_).mono ?_)
  · exact HI7.out.1.below (Below.refl _ _).drew
  · omega
  · exact HR7.out.below (Below.refl _ _).drew
  · omega
  · exact HI7.out.2.below (Below.refl _ _).drew
  · omega
  rintro _ w8 ⟨g8, c8, rfl, ho8, hb8⟩
  have HD8 := Lib.hid (HD7.out.drew.below hb8)
  have HP8 := Lib.hid (InBytes.of_own ho8 (nodeL_bytes HI7.out.1.bytes HR7.out.bytes HI7.out.2.bytes))
  clear ho8 hb8
  go_simp
  refine hK.out _ _ ?_ (fun hHeld => ?_)
  · (first | exact HD9.out.nine | exact HD8.out.nine | exact HD7.out.drew.nine)
  clear hK K
  (try simp only [Act.put, List.setIfInBounds_toArray, List.set_cons_zero, List.set_cons_succ])
  refine wpAnyH_ready (rs := [6]) (by kernel_rfl) (by simp) ?_
  refine AllReadyH.cons (o := ?oZ55) ?hiZ55 (fun K hK => ?stZ55) AllReadyH.nil
  case hiZ55 => (simp only [List.getElem?_toArray, List.getElem?_cons_succ, List.getElem?_cons_zero] <;> rfl)
  go_simp
  go_at_call 60
  (with_reducible refine (HD8.out.of hk1 hk2 HP8.out ?_).mono ?_)
  · have hq := HI7.out.1.len
    have hq2 := HI7.out.2.len
    have hq3 := HR7.out.len
    rw [nodeL_len]
    omega
  rintro _ w9 ⟨g9, hg9, rfl, hr9, hb9⟩
  have HD9 := Lib.hid (HD8.out.below hb9)
  have HR9 := Lib.hid (of_in32 hr9 hk2)
  clear hg9 hr9 hb9
  go_simp
  refine hK.out _ _ ?_ (fun hHeld => ?_)
  · (first | exact HD9.out.nine | exact HD8.out.nine | exact HD7.out.drew.nine)
  clear hK K
  (try simp only [Act.put, List.setIfInBounds_toArray, List.set_cons_zero, List.set_cons_succ])
  refine take_w (i := 7) (oi := ?oZ56) (v := ?vZ56) ?hiZ56 (by kernel_rfl) (by kernel_rfl) (by kernel_rfl) ?hQZ56 ?hwZ56 ?hyZ56 (by assumption) ?restZ56
  case hiZ56 => (simp only [List.getElem?_toArray, List.getElem?_cons_succ, List.getElem?_cons_zero] <;> rfl)
  case hQZ56 => exact (fun _ _ _ h => h)
  case hwZ56 => rfl
  case hyZ56 => (intro w hSw; (try dsimp only at hSw); go_simp; try with_reducible rfl)
  (try simp only [Act.put, List.setIfInBounds_toArray, List.set_cons_zero, List.set_cons_succ])
  refine take_w (i := 8) (oi := ?oZ57) (v := ?vZ57) ?hiZ57 (by kernel_rfl) (by kernel_rfl) (by kernel_rfl) ?hQZ57 ?hwZ57 ?hyZ57 (by assumption) ?restZ57
  case hiZ57 => (simp only [List.getElem?_toArray, List.getElem?_cons_succ, List.getElem?_cons_zero] <;> rfl)
  case hQZ57 => exact (fun _ _ _ h => h)
  case hwZ57 => rfl
  case hyZ57 => (intro w hSw; (try dsimp only at hSw); go_simp; try with_reducible rfl)
  (try simp only [Act.put, List.setIfInBounds_toArray, List.set_cons_zero, List.set_cons_succ])
  refine wpAnyH_done (by kernel_rfl) ?_ _
  
  clear hHeld
  go_wp2_with fail
  go_ret2
  refine ⟨_, _, _, true, rfl, .inl ⟨rfl, _, ?_, HR9.out⟩, HD9.out.b⟩
  rw [digT_node HH.out.1 HH.out.2.1 HNV.out HH.out.2.2, HZ.out.1, HZ.out.2]
end Go.Proofs.YtlbiefddcimdgaaDoor

/- The contract of the document's Empty of spans. -/
namespace Go.Proofs.YtlbiefddcimdgaaDoor
open Go.RowKit
set_option linter.unusedVariables false

set_option maxRecDepth 100000 in
set_option maxHeartbeats 4000000 in
theorem refEmpty_any (h : DH) (f t low high : List Int) (la ha : Option Addr) (ln lc hn hc : Nat) (hl hh : Bool) (w : World) (hs : SpanIn w h f t) (hlo : InBytes w la ln lc low) (hhi : InBytes w ha hn hc high) (hln : ln ≤ 140737488355328) :
    Calls Tryd.prog 35 #[h.v, .slice la ln lc, .slice ha hn hc, .bool hl, .bool hh] w (Says w (.bool (emptyS f t h.out low high hl hh))) := by
  unfold DH.v
  have q0 : Below w.heap.size w (w.alloc (.cells #[.slice h.ka h.kn h.kc, .slice h.va h.vn h.vc, .bool h.out] 24)) := (Below.refl _ _).alloc (Nat.le_refl _) _
  obtain ⟨x0, x1, x2⟩ := (DH.box w 24 h).three
  have cv0 := conv_key (hs.below q0).f
  have cv1 := conv_key (hs.below q0).t
  have cv2 := conv_key (hlo.below q0)
  have cv3 := conv_key (hhi.below q0)
  have hlow : Op.bytesLess (strOfNums low).toList (strOfNums f).toList = ltL low f := str_lt hlo.bytes hs.f.bytes
  have hadd : ∀ W : World, (Op.stringOp .add (strOfNums low) ⟨#[0]⟩).run Tryd.prog W = .ok (.string (strOfNums (low ++ [0]))) W := fun W => by
    have hlen := hlo.len
    unfold Op.stringOp
    have hz : ((strOfNums low).size + (⟨#[0]⟩ : ByteArray).size : Nat) = low.length + 1 := by rw [str_len]; rfl
    simp only [hz]
    have hno : ¬ (((low.length + 1 : Nat) : Int) > IntKind.i64.max) := by
      have e : IntKind.i64.max = 9223372036854775807 := by decide
      rw [e]
      omega
    rw [if_neg hno, str_zero]
    rfl
  have HM : Hid ((∀ x : List Int, Bytes8 x → Op.bytesLess (strOfNums x).toList (strOfNums high).toList = ltL x high) ∧ (∀ x : List Int, Bytes8 x → Op.bytesLess (strOfNums x).toList (strOfNums t).toList = ltL x t) ∧ Bytes8 f ∧ Bytes8 (low ++ [0])) := Lib.hid ⟨fun x hx => str_lt hx hhi.bytes, fun x hx => str_lt hx hs.t.bytes, hs.f.bytes, bytes_zero hlo.bytes⟩
  have HB := Lib.hid q0
  clear q0 hs hlo hhi
  have HE : Hid (emptyS f t h.out low high hl hh = ((hh && !ltL (leastS f low hl) high) || (!h.out && !ltL (leastS f low hl) t))) := Lib.hid rfl
  go_enter Tryd.func35, Tryd.ntmps35
  go_upto_region 1 with fail
  generalize (w.alloc (.cells #[.slice h.ka h.kn h.kc, .slice h.va h.vn h.vc, .bool h.out] 24)) = w0 at *
  generalize hio : emptyS f t h.out low high hl hh = io at *
  clear hio
  generalize h.out = oo at *
  have hlea : ∃ le : List Int, le = leastS f low hl ∧ Bytes8 le := ⟨_, rfl, by
    unfold leastS
    split
    · exact HM.out.2.2.2
    · exact HM.out.2.2.1⟩
  obtain ⟨le, hle, hb8⟩ := hlea
  have hx1 := HM.out.1 le hb8
  have hx2 := HM.out.2.1 le hb8
  rw [← hle] at HE
  have HLE := Lib.hid hle
  clear hle hb8 HM
  cases hl with
  | false =>
    have e : le = f := HLE.out
    subst e
    cases hh with
    | false =>
      cases oo with
      | true =>
        go_wp2_with fail
        go_ret
        exact ⟨by rw [HE.out]; rfl, HB.out⟩
      | false =>
        go_wp2_with fail
        go_ret
        exact ⟨by rw [HE.out]; rfl, HB.out⟩
    | true =>
      cases c1 : ltL le high with
      | false =>
        rw [c1] at hx1
        have HC1 := Lib.hid c1
        clear c1
        go_wp2_with fail
        go_ret
        exact ⟨by rw [HE.out, HC1.out]; rfl, HB.out⟩
      | true =>
        rw [c1] at hx1
        have HC1 := Lib.hid c1
        clear c1
        cases oo with
        | true =>
          go_wp2_with fail
          go_ret
          exact ⟨by rw [HE.out, HC1.out]; rfl, HB.out⟩
        | false =>
          go_wp2_with fail
          go_ret
          exact ⟨by rw [HE.out, HC1.out]; rfl, HB.out⟩
  | true =>
    cases c0 : ltL low f with
    | true =>
      have e : le = f := HLE.out.trans (by unfold leastS; rw [c0]; rfl)
      rw [c0] at hlow
      clear c0
      subst e
      cases hh with
      | false =>
        cases oo with
        | true =>
          go_wp2_with fail
          go_ret
          exact ⟨by rw [HE.out]; rfl, HB.out⟩
        | false =>
          go_wp2_with fail
          go_ret
          exact ⟨by rw [HE.out]; rfl, HB.out⟩
      | true =>
        cases c1 : ltL le high with
        | false =>
          rw [c1] at hx1
          have HC1 := Lib.hid c1
          clear c1
          go_wp2_with fail
          go_ret
          exact ⟨by rw [HE.out, HC1.out]; rfl, HB.out⟩
        | true =>
          rw [c1] at hx1
          have HC1 := Lib.hid c1
          clear c1
          cases oo with
          | true =>
            go_wp2_with fail
            go_ret
            exact ⟨by rw [HE.out, HC1.out]; rfl, HB.out⟩
          | false =>
            go_wp2_with fail
            go_ret
            exact ⟨by rw [HE.out, HC1.out]; rfl, HB.out⟩
    | false =>
      have e : le = low ++ [0] := HLE.out.trans (by unfold leastS; rw [c0]; rfl)
      rw [c0] at hlow
      clear c0
      subst e
      cases hh with
      | false =>
        cases oo with
        | true =>
          go_wp2_with fail
          go_ret
          exact ⟨by rw [HE.out]; rfl, HB.out⟩
        | false =>
          go_wp2_with fail
          go_ret
          exact ⟨by rw [HE.out]; rfl, HB.out⟩
      | true =>
        cases c1 : ltL (low ++ [0]) high with
        | false =>
          rw [c1] at hx1
          have HC1 := Lib.hid c1
          clear c1
          go_wp2_with fail
          go_ret
          exact ⟨by rw [HE.out, HC1.out]; rfl, HB.out⟩
        | true =>
          rw [c1] at hx1
          have HC1 := Lib.hid c1
          clear c1
          cases oo with
          | true =>
            go_wp2_with fail
            go_ret
            exact ⟨by rw [HE.out, HC1.out]; rfl, HB.out⟩
          | false =>
            go_wp2_with fail
            go_ret
            exact ⟨by rw [HE.out, HC1.out]; rfl, HB.out⟩
end Go.Proofs.YtlbiefddcimdgaaDoor

/- The contract of the document's Check of proofs. -/
namespace Go.Proofs.YtlbiefddcimdgaaDoor
open Go.RowKit
set_option linter.unusedVariables false

/-- What the document's Check tells. -/
def ChkPost (w : World) (r : Nat × List KV) (e : Ending) (w' : World) : Prop := ∃ ra n c rs, e = .returned (.tuple #[.slice ra n c, .int .i64 (r.1 : Nat)]) ∧ OwnR recP w' w.heap.size 53 (.slice ra n c) rs ∧ rs.length = n ∧ PairsIn w rs r.2 ∧ Below w.heap.size w w'
theorem ChkPost.err {w w' : World} (n : Nat) (hb : Below w.heap.size w w') : ChkPost w (n, []) (.returned (.tuple #[.slice none 0 0, .int .i64 (n : Nat)])) w' := ⟨none, 0, 0, [], rfl, OwnR.nil _ _ _ _, rfl, PairsIn.nil _, hb⟩
/-- The boxes of Check. -/
structure CW8 (w W : World) (gk ck : Nat) (sp : DH) (h : TH) : Prop where
  tab : TB W w.heap.size (.slice (some ⟨gk, 0, none⟩) 64 ck) hTab
  sb : RBox recD W 24 (w.heap.size + 1) sp
  tb : Box W 27 (w.heap.size + 2) h
  ks : Seg .u32 W gk 0 kTab
  b : Below w.heap.size w W
  gk : gk < w.heap.size
theorem CW8.below {w W W' : World} {gk ck : Nat} {sp : DH} {h : TH} (d : CW8 w W gk ck sp h) (hb : Below W.heap.size W W') : CW8 w W' gk ck sp h :=
  ⟨d.tab.below hb d.tab.lt, d.sb.below hb d.sb.lt, d.tb.below hb d.tb.lt, d.ks.below hb (Nat.lt_of_lt_of_le d.gk d.b.size), d.b.trans (hb.mono d.b.size), d.gk⟩
theorem CW8.enter (w : World) (gk ck : Nat) (sp : DH) (h : TH) (hks : Seg .u32 w gk 0 kTab) (hgk : gk < w.heap.size) : CW8 w (((w.alloc (.cells (Value.slice (some ⟨gk, 0, none⟩) 64 ck :: hTab.map (Value.int .u32)).toArray 41)).alloc (.cells #[.slice sp.ka sp.kn sp.kc, .slice sp.va sp.vn sp.vc, .bool sp.out] 24)).alloc (.cells #[.int .i64 h.k, .slice h.ka h.kn h.kc, .slice h.va h.vn h.vc, .slice h.da h.dn h.dc, .slice h.ta h.tn h.tc] 27)) gk ck sp h := by
  have b1 : Below w.heap.size w (w.alloc (.cells (Value.slice (some ⟨gk, 0, none⟩) 64 ck :: hTab.map (Value.int .u32)).toArray 41)) := (Below.refl _ _).alloc (Nat.le_refl _) _
  have e1 : (w.alloc (.cells (Value.slice (some ⟨gk, 0, none⟩) 64 ck :: hTab.map (Value.int .u32)).toArray 41)).heap.size = w.heap.size + 1 := by simp
  have e2 : ((w.alloc (.cells (Value.slice (some ⟨gk, 0, none⟩) 64 ck :: hTab.map (Value.int .u32)).toArray 41)).alloc (.cells #[.slice sp.ka sp.kn sp.kc, .slice sp.va sp.vn sp.vc, .bool sp.out] 24)).heap.size = w.heap.size + 2 := by simp
  have b2 := b1.alloc b1.size (.cells #[.slice sp.ka sp.kn sp.kc, .slice sp.va sp.vn sp.vc, .bool sp.out] 24)
  have b3 := b2.alloc b2.size (.cells #[.int .i64 h.k, .slice h.ka h.kn h.kc, .slice h.va h.vn h.vc, .slice h.da h.dn h.dc, .slice h.ta h.tn h.tc] 27)
  have q1 : Below (w.alloc (.cells (Value.slice (some ⟨gk, 0, none⟩) 64 ck :: hTab.map (Value.int .u32)).toArray 41)).heap.size (w.alloc (.cells (Value.slice (some ⟨gk, 0, none⟩) 64 ck :: hTab.map (Value.int .u32)).toArray 41)) ((w.alloc (.cells (Value.slice (some ⟨gk, 0, none⟩) 64 ck :: hTab.map (Value.int .u32)).toArray 41)).alloc (.cells #[.slice sp.ka sp.kn sp.kc, .slice sp.va sp.vn sp.vc, .bool sp.out] 24)) := (Below.refl _ _).alloc (Nat.le_refl _) _
  have q2 : Below ((w.alloc (.cells (Value.slice (some ⟨gk, 0, none⟩) 64 ck :: hTab.map (Value.int .u32)).toArray 41)).alloc (.cells #[.slice sp.ka sp.kn sp.kc, .slice sp.va sp.vn sp.vc, .bool sp.out] 24)).heap.size ((w.alloc (.cells (Value.slice (some ⟨gk, 0, none⟩) 64 ck :: hTab.map (Value.int .u32)).toArray 41)).alloc (.cells #[.slice sp.ka sp.kn sp.kc, .slice sp.va sp.vn sp.vc, .bool sp.out] 24)) (((w.alloc (.cells (Value.slice (some ⟨gk, 0, none⟩) 64 ck :: hTab.map (Value.int .u32)).toArray 41)).alloc (.cells #[.slice sp.ka sp.kn sp.kc, .slice sp.va sp.vn sp.vc, .bool sp.out] 24)).alloc (.cells #[.int .i64 h.k, .slice h.ka h.kn h.kc, .slice h.va h.vn h.vc, .slice h.da h.dn h.dc, .slice h.ta h.tn h.tc] 27)) := (Below.refl _ _).alloc (Nat.le_refl _) _
  have t1 : TB (w.alloc (.cells (Value.slice (some ⟨gk, 0, none⟩) 64 ck :: hTab.map (Value.int .u32)).toArray 41)) w.heap.size (.slice (some ⟨gk, 0, none⟩) 64 ck) hTab := heap_alloc_new w _
  have t2 := TB.below t1 q1 t1.lt
  have s1 := DH.box (w.alloc (.cells (Value.slice (some ⟨gk, 0, none⟩) 64 ck :: hTab.map (Value.int .u32)).toArray 41)) 24 sp
  have s2 := s1.below q2 s1.lt
  have x := Box.new ((w.alloc (.cells (Value.slice (some ⟨gk, 0, none⟩) 64 ck :: hTab.map (Value.int .u32)).toArray 41)).alloc (.cells #[.slice sp.ka sp.kn sp.kc, .slice sp.va sp.vn sp.vc, .bool sp.out] 24)) 27 h
  rw [e1] at s2
  rw [e2] at x
  exact ⟨TB.below t2 q2 t2.lt, s2, x, hks.below b3 hgk, b3, hgk⟩

set_option maxRecDepth 100000 in
set_option maxHeartbeats 8000000 in
theorem refChk_arg (x : Int) (hx1 : -9223372036854775808 ≤ x) (hx2 : x ≤ 9223372036854775807) (gk ck : Nat) (ra : Option Addr) (rn rc : Nat) (sp : DH) (h : TH) (w : World) (hx : ¬ (1 ≤ x ∧ x ≤ 32 ∧ (rn : Int) = x)) (hks : Seg .u32 w gk 0 kTab) (hgk : gk < w.heap.size) :
    Calls Tryd.prog 12 #[tabV gk ck, .int .i64 x, .slice ra rn rc, sp.v, h.v] w (ChkPost w (1, [])) := by
  unfold TH.v tabV DH.v
  have HD := Lib.hid (CW8.enter w gk ck sp h hks hgk)
  have HXX := Lib.hid hx
  clear hks hgk hx
  go_enter Tryd.func12, Tryd.ntmps12
  go_upto_region 1 with fail
  generalize (((w.alloc (.cells (Value.slice (some ⟨gk, 0, none⟩) 64 ck :: hTab.map (Value.int .u32)).toArray 41)).alloc (.cells #[.slice sp.ka sp.kn sp.kc, .slice sp.va sp.vn sp.vc, .bool sp.out] 24)).alloc (.cells #[.int .i64 h.k, .slice h.ka h.kn h.kc, .slice h.va h.vn h.vc, .slice h.da h.dn h.dc, .slice h.ta h.tn h.tc] 27)) = w0 at *
  by_cases c1 : x < 1
  · go_wp2_with fail
    go_ret2
    exact ChkPost.err 1 HD.out.b
  · by_cases c2 : 32 < x
    · go_wp2_with fail
      go_ret2
      exact ChkPost.err 1 HD.out.b
    · have hne : ((rn : Int) != x) = true := by have := HXX.out; simp; omega
      go_wp2_with fail
      go_ret2
      exact ChkPost.err 1 HD.out.b
end Go.Proofs.YtlbiefddcimdgaaDoor

/- The contract of the document's Check of proofs, the whole. -/
namespace Go.Proofs.YtlbiefddcimdgaaDoor
open Go.RowKit
set_option linter.unusedVariables false

def tellR : Option (List KV) → Nat × List KV
  | none => (8, [])
  | some l => (0, l)
/-- A key is above the one before. -/
def condK (l : List IT) (i : Nat) : Bool := i == 0 || ltL (l.getD (i - 1) ⟨false, false, [], []⟩).key (l.getD i ⟨false, false, [], []⟩).key
theorem condK_succ {l : List IT} {i j : Nat} (hj : i = j + 1) (hi : i < l.length) : condK l i = ltL (l[j]'(by omega)).key (l[i]).key := by
  subst hj
  unfold condK
  simp only [List.getD, Nat.add_sub_cancel, List.getElem?_eq_getElem hi, List.getElem?_eq_getElem (show j < l.length by omega), Option.getD_some]
  simp
theorem rise_no {xs : List IT} {i : Nat} (hi : i < (keysI xs).length) (h : condK (keysI xs) i = false) : riseI xs = false := by
  cases q : riseI xs with
  | false => rfl
  | true =>
    unfold riseI at q
    have := (List.all_eq_true.1 q) i (List.mem_range.2 hi)
    have h' : condK (keysI xs) i = true := this
    rw [h] at h'
    cases h'
theorem keysI_in {xs : List IT} {i : Nat} (hi : i < xs.length) (h : (xs[i]).cut = false) : keysI (xs.take (i + 1)) = keysI (xs.take i) ++ [xs[i]] := by
  unfold keysI
  rw [List.take_add_one, List.getElem?_eq_getElem hi, List.filter_append]
  simp [h]
theorem keysI_out {xs : List IT} {i : Nat} (hi : i < xs.length) (h : (xs[i]).cut = true) : keysI (xs.take (i + 1)) = keysI (xs.take i) := by
  unfold keysI
  rw [List.take_add_one, List.getElem?_eq_getElem hi, List.filter_append]
  simp [h]
theorem CW8.nine {w W : World} {gk ck : Nat} {sp : DH} {h : TH} (d : CW8 w W gk ck sp h) : W.cell? ⟨w.heap.size, 0, none⟩ = some (.slice (some ⟨gk, 0, none⟩) 64 ck) ∧ W.cell? ⟨w.heap.size, 1, none⟩ = some (.int .u32 1779033703) ∧ W.cell? ⟨w.heap.size, 2, none⟩ = some (.int .u32 3144134277) ∧ W.cell? ⟨w.heap.size, 3, none⟩ = some (.int .u32 1013904242) ∧ W.cell? ⟨w.heap.size, 4, none⟩ = some (.int .u32 2773480762) ∧ W.cell? ⟨w.heap.size, 5, none⟩ = some (.int .u32 1359893119) ∧ W.cell? ⟨w.heap.size, 6, none⟩ = some (.int .u32 2600822924) ∧ W.cell? ⟨w.heap.size, 7, none⟩ = some (.int .u32 528734635) ∧ W.cell? ⟨w.heap.size, 8, none⟩ = some (.int .u32 1541459225) := ⟨d.tab.cell0, tb_cells d.tab⟩
/-- The cells of the i-th item. -/
theorem OwnR.item {W : World} {base : Nat} {ty : TypeId} {a : Option Addr} {n k : Nat} {qs : List QI} (h : OwnR recI W base ty (.slice a n k) qs) {g : Nat} (ea : a = some ⟨g, 0, none⟩) (i : Nat) (hi : i < qs.length) :
    W.cell? ⟨g, i * 4, none⟩ = some (.bool (qs[i]).cut) ∧ W.cell? ⟨g, i * 4 + 1, none⟩ = some (.bool (qs[i]).dark) ∧ W.cell? ⟨g, i * 4 + 2, none⟩ = some (.slice (qs[i]).ka (qs[i]).kn (qs[i]).kc) ∧ W.cell? ⟨g, i * 4 + 3, none⟩ = some (.slice (qs[i]).va (qs[i]).vn (qs[i]).vc) := by
  obtain ⟨g', e, hc⟩ := h.at i hi
  rw [ea] at e
  injection e with e
  injection e with e
  subst e
  exact ⟨hc 0 _ rfl, hc 1 _ rfl, hc 2 _ rfl, hc 3 _ rfl⟩
theorem OwnR.block {R : Type} {c : Rec R} {W : World} {base : Nat} {ty : TypeId} {a : Option Addr} {n k : Nat} {qs : List R} (h : OwnR c W base ty (.slice a n k) qs) (h0 : 0 < qs.length) : ∃ g, a = some ⟨g, 0, none⟩ ∧ base ≤ g ∧ g < W.heap.size := by
  obtain ⟨g, e, -⟩ := h.at 0 h0
  subst e
  exact ⟨g, rfl, h.base_le rfl⟩
/-- Check's boxes, and the items. -/
structure GC (w W : World) (gk ck : Nat) (sp : DH) (h : TH) (b1 b2 : Nat) (la : Option Addr) (n lc : Nat) (qs : List QI) : Prop where
  d : CW8 w W gk ck sp h
  o : OwnR recI W b1 79 (.slice la n lc) qs
  w1 : w.heap.size + 3 ≤ b1
  w2 : b1 ≤ b2
  w3 : b2 ≤ W.heap.size
  lb : ∀ g, (Value.slice la n lc).ownBlock = some g → g < b2
section
variable {w W W' : World} {gk ck : Nat} {sp : DH} {h : TH} {b1 b2 n lc : Nat} {la : Option Addr} {qs : List QI}
theorem GC.below (x : GC w W gk ck sp h b1 b2 la n lc qs) (hb : Below W.heap.size W W') : GC w W' gk ck sp h b1 b2 la n lc qs := ⟨x.d.below hb, x.o.keep hb, x.w1, x.w2, Nat.le_trans x.w3 hb.size, x.lb⟩
theorem GC.drew (x : GC w W gk ck sp h b1 b2 la n lc qs) : GC w W.drew gk ck sp h b1 b2 la n lc qs := x.below (Below.refl _ _).drew
/-- What is written lies behind all that. -/
theorem GC.grown (x : GC w W gk ck sp h b1 b2 la n lc qs) {row : Option Nat} (hg : W.grownBy W' row) (hr : ∀ g, row = some g → b2 ≤ g) : GC w W' gk ck sp h b1 b2 la n lc qs := by
  have hbw : Below w.heap.size w W' := x.d.b.grown hg x.d.b.size (fun j hj => by have q := hr j hj; have := x.w1; have := x.w2; omega)
  have far : ∀ j, j < b2 → some j ≠ row := fun j hj q => by have := hr j q.symm; omega
  have q1 := x.w1
  have q2 := x.w2
  refine ⟨⟨(hg.block _ x.d.tab.lt (far _ (by omega))).trans x.d.tab, x.d.sb.grown hg (far _ (by omega)), x.d.tb.grown hg (far _ (by omega)), ?_, hbw, x.d.gk⟩, ?_, x.w1, x.w2, Nat.le_trans x.w3 hg.size, x.lb⟩
  · intro j hj
    have q := x.d.ks j hj
    rw [World.cell?_of_block (a := ⟨gk, 0 + j, none⟩) (hg.block gk (Nat.lt_of_lt_of_le x.d.gk x.d.b.size) (far _ (by have := x.d.gk; omega)))]
    exact q
  · refine x.o.grown hg ?_
    cases hb : (Value.slice la n lc).ownBlock with
    | none => exact .inl rfl
    | some g =>
      right
      intro q
      have h1 := hr g q.symm
      have h2 := x.lb g hb
      omega
end
/-- The last key's box, and the pairs that are told. -/
structure LB (w W : World) (gk ck : Nat) (sp : DH) (h : TH) (b1 b2 : Nat) (la : Option Addr) (n lc : Nat) (qs : List QI) (gl b3 : Nat) (lq : QI) (low : List Int) (oa : Option Addr) (r oc : Nat) (rs : List PH) (acc : List KV) : Prop where
  g : GC w W gk ck sp h b1 b2 la n lc qs
  lbx : RBox recI W 79 gl lq
  lk : InBytes w lq.ka lq.kn lq.kc low
  row : OwnR recP W b3 53 (.slice oa r oc) rs
  pin : PairsIn w rs acc
  rl : rs.length = r
  gl2 : b2 ≤ gl
  gb : gl < b3
  b3w : b3 ≤ W.heap.size
  ll : low.length ≤ 80
section
variable {w W W' : World} {gk ck : Nat} {sp : DH} {h : TH} {b1 b2 n lc gl b3 r oc : Nat} {la oa : Option Addr} {qs : List QI} {lq : QI} {low : List Int} {rs : List PH} {acc : List KV}
theorem LB.below (x : LB w W gk ck sp h b1 b2 la n lc qs gl b3 lq low oa r oc rs acc) (hb : Below W.heap.size W W') : LB w W' gk ck sp h b1 b2 la n lc qs gl b3 lq low oa r oc rs acc := ⟨x.g.below hb, x.lbx.below hb x.lbx.lt, x.lk, x.row.keep hb, x.pin, x.rl, x.gl2, x.gb, Nat.le_trans x.b3w hb.size, x.ll⟩
theorem LB.drew (x : LB w W gk ck sp h b1 b2 la n lc qs gl b3 lq low oa r oc rs acc) : LB w W.drew gk ck sp h b1 b2 la n lc qs gl b3 lq low oa r oc rs acc := x.below (Below.refl _ _).drew
/-- Another item's box was written. -/
theorem LB.wrote (x : LB w W gk ck sp h b1 b2 la n lc qs gl b3 lq low oa r oc rs acc) {g : Nat} {q : QI} (hq : RBox recI W 79 g q) (hg : W.grownBy W' (some g)) (hb : b2 ≤ g) (hne : g ≠ gl) : LB w W' gk ck sp h b1 b2 la n lc qs gl b3 lq low oa r oc rs acc :=
  ⟨x.g.grown hg (fun j hj => by injection hj with hj; omega), x.lbx.grown hg (fun e => by injection e with e; exact hne e.symm), x.lk, x.row.grown hg (by
    right
    intro e
    exact absurd (own_type x.row e hq) (by decide)), x.pin, x.rl, x.gl2, x.gb, Nat.le_trans x.b3w hg.size, x.ll⟩
/-- The last key's box was written. -/
theorem LB.last (x : LB w W gk ck sp h b1 b2 la n lc qs gl b3 lq low oa r oc rs acc) (hg : W.grownBy W' (some gl)) {q : QI} {key : List Int} (hq : RBox recI W' 79 gl q) (hk : InBytes w q.ka q.kn q.kc key) (hl : key.length ≤ 80) : LB w W' gk ck sp h b1 b2 la n lc qs gl b3 q key oa r oc rs acc :=
  ⟨x.g.grown hg (fun j hj => by injection hj with hj; have := x.gl2; omega), hq, hk, x.row.grown hg (by
    right
    intro e
    exact absurd (own_type x.row e x.lbx) (by decide)), x.pin, x.rl, x.gl2, x.gb, Nat.le_trans x.b3w hg.size, hl⟩
/-- A pair was told. -/
theorem LB.app (x : LB w W gk ck sp h b1 b2 la n lc qs gl b3 lq low oa r oc rs acc) {p : PH} {q : KV} {oa' : Option Addr} {oc' : Nat} (hg : W.grownBy W' (Value.slice oa r oc).ownBlock) (ho : OwnR recP W' b3 53 (.slice oa' (r + 1) oc') (rs ++ [p])) (hk : InBytes w p.ka p.kn p.kc q.1) (hv : InBytes w p.va p.vn p.vc q.2) : LB w W' gk ck sp h b1 b2 la n lc qs gl b3 lq low oa' (r + 1) oc' (rs ++ [p]) (acc ++ [q]) :=
  ⟨x.g.grown hg (fun j hj => by have q1 := (x.row.base_le hj).1; have := x.gl2; have := x.gb; omega), x.lbx.grown hg (fun e => by have q1 := (x.row.base_le e.symm).1; have := x.gb; omega), x.lk, ho, x.pin.snoc hk hv, by simp [x.rl], x.gl2, x.gb, Nat.le_trans x.b3w hg.size, x.ll⟩
end
theorem infoItem4 : (Tryd.prog.info? 79).map (·.size) = some 4 := by kernel_rfl
theorem part_lens80 {t : Tr} (hp : partB t = true) : t.key.length ≤ 80 ∧ t.val.length ≤ 1024 := by
  unfold partB at hp
  split at hp
  · simp only [Bool.and_eq_true, decide_eq_true_eq] at hp; omega
  · split at hp
    · simp only [Bool.and_eq_true, decide_eq_true_eq] at hp; omega
    · split at hp
      · simp only [Bool.and_eq_true, decide_eq_true_eq] at hp; omega
      · split at hp
        · simp only [Bool.and_eq_true, decide_eq_true_eq] at hp; omega
        · cases hp
theorem part_key80 {t : Tr} (hp : partB t = true) : t.key.length ≤ 80 := (part_lens80 hp).1
theorem items_keys : ∀ t : Tr, formedT t = true → ∀ x ∈ itemsT t, x.key.length ≤ 80 := by
  intro t
  induction t using Tr.ind with
  | h t ih =>
  intro hf x hx
  obtain ⟨hp, hk⟩ := formed_kids hf
  rcases part_kids hp with ⟨h0, k0 | k3⟩ | ⟨h2, hk12⟩
  · rw [itemsT_0 k0] at hx
    cases hx
  · rw [itemsT_3 k3] at hx
    rw [List.mem_singleton.1 hx]
    exact Nat.zero_le _
  · rw [itemsT_node (by omega) (by omega) h2, List.mem_append, List.mem_cons] at hx
    rcases hx with hx | rfl | hx
    · exact ih _ (List.getElem_mem (by omega : 0 < t.kids.length)) (hk 0 (by omega)) x hx
    · exact part_key80 hp
    · exact ih _ (List.getElem_mem (by omega : 1 < t.kids.length)) (hk 1 (by omega)) x hx

set_option maxRecDepth 100000 in
set_option maxHeartbeats 8000000 in
theorem refChk_any (k : Nat) (hk1 : 1 ≤ k) (hk2 : k ≤ 32) (gk ck : Nat) (ra : Option Addr) (rc : Nat) (root f t : List Int) (sp : DH) (p : Tr) (h : TH) (w : World) (hro : InBytes w ra k rc root) (hs : SpanIn w sp f t) (ht : InTree w h p) (hcn : countT p ≤ 500) (hks : Seg .u32 w gk 0 kTab) (hgk : gk < w.heap.size) :
    Calls Tryd.prog 12 #[tabV gk ck, .int .i64 k, .slice ra k rc, sp.v, h.v] w (ChkPost w (checkR k root f t sp.out p)) := by
  unfold TH.v tabV DH.v
  have HD := Lib.hid (CW8.enter w gk ck sp h hks hgk)
  have HRO := Lib.hid hro
  have HSP := Lib.hid hs
  have HT := Lib.hid ht
  clear hks hgk hro hs ht
  have c1 : ¬ (k : Int) < 1 := by omega
  have c2 : ¬ (32 : Int) < k := by omega
  have c3 : ((k : Int) != k) = false := by simp
  go_enter Tryd.func12, Tryd.ntmps12
  go_upto_region 1 with fail
  have HZ0 : Hid ((((w.alloc (.cells (Value.slice (some ⟨gk, 0, none⟩) 64 ck :: hTab.map (Value.int .u32)).toArray 41)).alloc (.cells #[.slice sp.ka sp.kn sp.kc, .slice sp.va sp.vn sp.vc, .bool sp.out] 24)).alloc (.cells #[.int .i64 h.k, .slice h.ka h.kn h.kc, .slice h.va h.vn h.vc, .slice h.da h.dn h.dc, .slice h.ta h.tn h.tc] 27)).heap.size = w.heap.size + 3) := Lib.hid (by simp)
  generalize (((w.alloc (.cells (Value.slice (some ⟨gk, 0, none⟩) 64 ck :: hTab.map (Value.int .u32)).toArray 41)).alloc (.cells #[.slice sp.ka sp.kn sp.kc, .slice sp.va sp.vn sp.vc, .bool sp.out] 24)).alloc (.cells #[.int .i64 h.k, .slice h.ka h.kn h.kc, .slice h.va h.vn h.vc, .slice h.da h.dn h.dc, .slice h.ta h.tn h.tc] 27)) = w0 at *
  obtain ⟨x0, x1, x2, x3, x4⟩ := HD.out.tb.cells
  by_cases hc : checkT p = 0
  case neg =>
    have HC := Lib.hid hc
    have hcb : ((checkT p : Int) != 0) = true := by simp; omega
    clear hc
    go_wp2_with (first
      | (go_at_call 32
         refine (refCheck_any p h _ (HT.out.lower HD.out.b)).mono ?_
         rintro _ w3 ⟨rfl, hb3⟩
         have HD3 := Lib.hid (HD.out.below hb3)
         clear hb3 x0 x1 x2 x3 x4))
    go_ret2
    have e : checkR k root f t sp.out p = (checkT p, []) := by unfold checkR; rw [if_pos HC.out]
    rw [e]
    exact ChkPost.err _ HD3.out.b
  have HC := Lib.hid hc
  have HF := Lib.hid (check_zeroR hc).1
  have hcb : ((checkT p : Int) != 0) = false := by rw [hc]; rfl
  clear hc
  go_upto_region 6 with (first
    | (go_at_call 32
       refine (refCheck_any p h _ (HT.out.lower HD.out.b)).mono ?_
       rintro _ w3 ⟨rfl, hb3⟩
       have HD3 := Lib.hid (HD.out.below hb3)
       clear hb3 x0 x1 x2 x3 x4))
  clear hcb
  obtain ⟨x0, x1, x2, x3, x4⟩ := HD3.out.tb.cells
  obtain ⟨t0, t1, t2, t3, t4, t5, t6, t7, t8⟩ := HD3.out.nine
  have ARM : True := trivial
  cases hdg : digT k p with
  | none =>
    have HDG := Lib.hid hdg
    clear hdg
    go_wp2_with (first
      | (go_at_call 33
         refine (refDigest_any k hk1 hk2 gk ck p h _ (HT.out.lower HD3.out.b) HF.out HD3.out.ks (Nat.lt_of_lt_of_le HD3.out.gk HD3.out.b.size)).mono ?_
         rintro _ w4 ⟨a4, n4, c4, is4, rfl, hres4, hb4⟩
         have HD4 := Lib.hid (HD3.out.below hb4)
         obtain ⟨his, -⟩ : is4 = false ∧ True := by
           rcases hres4 with ⟨-, zs, q1, q2⟩ | ⟨q1, -⟩
           · rw [HDG.out] at q1; cases q1
           · exact ⟨q1, trivial⟩
         rw [his]
         clear hb4 hres4 his x0 x1 x2 x3 x4 t0 t1 t2 t3 t4 t5 t6 t7 t8))
    go_ret2
    have e : checkR k root f t sp.out p = (3, []) := by unfold checkR; rw [if_neg (by rw [HC.out]; simp), HDG.out]
    rw [e]
    exact ChkPost.err _ HD4.out.b
  | some dg =>
    have HDG := Lib.hid hdg
    clear hdg
    go_upto_region 9 with (first
      | (go_at_call 33
         refine (refDigest_any k hk1 hk2 gk ck p h _ (HT.out.lower HD3.out.b) HF.out HD3.out.ks (Nat.lt_of_lt_of_le HD3.out.gk HD3.out.b.size)).mono ?_
         rintro _ w4 ⟨a4, n4, c4, is4, rfl, hres4, hb4⟩
         have HD4 := Lib.hid (HD3.out.below hb4)
         obtain ⟨his, hi4⟩ : is4 = true ∧ InBytes w4 a4 n4 c4 dg := by
           rcases hres4 with ⟨q0, zs, q1, q2⟩ | ⟨-, q1⟩
           · rw [HDG.out] at q1
             injection q1 with q1
             rw [q1]
             exact ⟨q0, q2⟩
           · rw [HDG.out] at q1
             cases q1
         rw [his]
         have HI4 := Lib.hid hi4
         clear hb4 hres4 his hi4 x0 x1 x2 x3 x4 t0 t1 t2 t3 t4 t5 t6 t7 t8))
    have cvd := conv_key HI4.out
    have cvr := conv_key (HRO.out.below HD4.out.b)
    have hse : ((strOfNums dg).toList == (strOfNums root).toList) = (dg == root) := str_eq HI4.out.bytes HRO.out.bytes
    cases hdr : (dg == root) with
    | false =>
      have HDR := Lib.hid hdr
      rw [hdr] at hse
      clear hdr
      go_wp2_with fail
      go_ret2
      have e : checkR k root f t sp.out p = (6, []) := by unfold checkR; rw [if_neg (by rw [HC.out]; simp), HDG.out]; simp only [ne_eq]; rw [if_pos (by simpa using HDR.out)]
      rw [e]
      exact ChkPost.err _ HD4.out.b
    | true =>
    have HDR := Lib.hid hdr
    rw [hdr] at hse
    clear hdr
    have HE : Hid (checkR k root f t sp.out p = if riseI (itemsT p) = false then (7, []) else tellR (scanI f t sp.out [] false (itemsT p))) := Lib.hid (by
      unfold checkR; rw [if_neg (by rw [HC.out]; simp), HDG.out]; simp only [ne_eq]; rw [if_neg (by simpa using HDR.out)]; unfold tellR; rfl)
    go_upto_region 11 with fail
    clear cvd cvr hse
    obtain ⟨x0, x1, x2, x3, x4⟩ := HD4.out.tb.cells
    go_upto_region 12 with (first
      | (go_at_call 34
         refine (refItems_any p h w _ HT.out HD4.out.b HF.out hcn).mono ?_
         rintro _ w5 ⟨v5, qs, rfl, ho5, hi5, hb5⟩
         obtain ⟨la, lc, hv5⟩ := ho5.sl
         subst hv5
         have HG5 : Hid (GC w w5 gk ck sp h w4.heap.size w5.heap.size la qs.length lc qs) := Lib.hid ⟨HD4.out.below hb5, ho5, HD4.out.tb.lt, hb5.size, Nat.le_refl _, fun g hg => (ho5.base_le hg).2⟩
         have HI5 := Lib.hid hi5
         clear ho5 hi5 hb5 x0 x1 x2 x3 x4))
    have hql : qs.length ≤ 500 := by rw [HI5.out.1]; exact Nat.le_trans (items_len p HF.out) hcn
    obtain ⟨ti, hti, htz⟩ := Option.map_eq_some_iff.1 infoItem
    simp only [Prod.mk.injEq] at htz
    obtain ⟨hz0, hz1, hz2⟩ := htz
    have HTI := Lib.hid (And.intro hti (And.intro hz0 (And.intro hz1 hz2)))
    clear hti hz0 hz1 hz2
    have HKY := Lib.hid (items_keys p HF.out)
    generalize itemsT p = xs at *
    generalize w5.heap.size = b2 at *
    generalize w4.heap.size = b1 at *
    go_wp2_with fail
    go_loopw [16, 17] (fun s16 s17 wx => ∃ (i : Nat) (ka : Option Addr) (m kc : Nat) (ks : List QI), i ≤ qs.length ∧ s16 = .slice ka m kc ∧ ks.length = m ∧ s17 = .int .i64 i ∧ GC w wx gk ck sp h b1 b2 la qs.length lc qs ∧ OwnR recI wx b2 79 (.slice ka m kc) ks ∧ ItemsIn w ks (keysI (xs.take i))) (fun _ s17 _ => qs.length - (intOf s17).toNat)
    case atStart => exact ⟨0, none, 0, 0, [], by omega, rfl, rfl, rfl, HG5.out, OwnR.nil _ _ _ _, ItemsIn.nil _⟩
    case round =>
      clear HG5
      obtain ⟨i, ka, m, kc, ks, hi, rfl, hkl, rfl, hgc, hko, hki⟩ := hrel
      by_cases hlt : i < qs.length
      · have q1 : (i : Int) < (qs.length : Int) := by omega
        have hix : i < xs.length := by rw [← HI5.out.1]; exact hlt
        have hone := HI5.out.2 i hlt hix
        have hm5 : m ≤ 500 := by
          have h1 := hki.1
          have h2 := List.length_filter_le (fun x : IT => !x.cut) (xs.take i)
          have h3 : (keysI (xs.take i)).length ≤ (xs.take i).length := h2
          rw [List.length_take] at h3
          omega
        obtain ⟨g, hga, -⟩ := hgc.o.block (by omega)
        subst hga
        have HONE := Lib.hid hone
        have HG := Lib.hid hgc
        have HKO := Lib.hid hko
        have HKI := Lib.hid hki
        obtain ⟨y0, y1, y2, y3⟩ := hgc.o.item rfl i hlt
        clear hgc hko hki hone
        cases hcut : (xs[i]).cut with
        | true =>
          have HCU := Lib.hid hcut
          rw [HONE.out.cut, hcut] at y0
          clear hcut
          go_wp2_with fail
          exact ⟨⟨i + 1, ka, m, kc, ks, by omega, rfl, hkl, by go_num, HG.out, HKO.out, by rw [keysI_out hix HCU.out]; exact HKI.out⟩, by simp [intOf]; omega⟩
        | false =>
          have HCU := Lib.hid hcut
          rw [HONE.out.cut, hcut] at y0
          clear hcut
          go_wp2_with (first
            | (at_builtin
               refine wpList_append_rec _ rfl (.tmp 73) (.tmp 78) 76 rfl recI b2 79 ti _ 56 Tryd.underlying76 HTI.out.1 HTI.out.2.1 HTI.out.2.2.1 HTI.out.2.2.2 rfl (.slice ka m kc) ks rfl (HKO.out.keep ((Below.refl _ _).alloc (Nat.le_refl _) _)) wr.heap.size 1 (⟨false, (qs[i]).dark, (qs[i]).ka, (qs[i]).kn, (qs[i]).kc, (qs[i]).va, (qs[i]).vn, (qs[i]).vc⟩ : QI) rfl (RBox.cell (c := recI) (r := (⟨false, (qs[i]).dark, (qs[i]).ka, (qs[i]).kn, (qs[i]).kc, (qs[i]).va, (qs[i]).vn, (qs[i]).vc⟩ : QI)) (heap_alloc_new wr _)) ?_ (by omega) (Nat.le_trans HG.out.w3 (by simp)) ?_
               · rw [hkl]; omega
               intro v9 w9 ho9 hg9 _ _
               obtain ⟨ka9, kc9, hv9⟩ := ho9.sl
               have hlen9 : (ks ++ [(⟨false, (qs[i]).dark, (qs[i]).ka, (qs[i]).kn, (qs[i]).kc, (qs[i]).va, (qs[i]).vn, (qs[i]).vc⟩ : QI)]).length = m + 1 := by simp [hkl]
               rw [hlen9] at hv9
               subst hv9
               have HG9 := Lib.hid ((HG.out.below ((Below.refl _ _).alloc (Nat.le_refl _) _)).grown hg9 (fun j hj => (HKO.out.base_le hj).1))
               have HO9 := Lib.hid ho9
               have HLE9 := Lib.hid hlen9
               clear ho9 hg9 hlen9))
          exact ⟨⟨i + 1, ka9, m + 1, kc9, ks ++ [(⟨false, (qs[i]).dark, (qs[i]).ka, (qs[i]).kn, (qs[i]).kc, (qs[i]).va, (qs[i]).vn, (qs[i]).vc⟩ : QI)], by omega, rfl, HLE9.out, by go_num, HG9.out, HO9.out, by rw [keysI_in hix HCU.out]; exact HKI.out.app (ItemsIn.one ⟨HCU.out.symm, HONE.out.dark, HONE.out.k, HONE.out.v⟩)⟩, by simp [intOf]; omega⟩
      · obtain rfl : i = qs.length := by omega
        have q1 : ¬ (qs.length : Int) < (qs.length : Int) := by omega
        have hkx : ItemsIn w ks (keysI xs) := by
          rw [HI5.out.1, List.take_length] at hki
          exact hki
        have HKX := Lib.hid hkx
        have HLK : Hid (m = (keysI xs).length) := Lib.hid (by rw [← hkl]; exact hkx.1)
        have hm5 : m ≤ 500 := by
          have h2 := List.length_filter_le (fun x : IT => !x.cut) xs
          have h3 : (keysI xs).length ≤ xs.length := h2
          have h4 := HI5.out.1
          rw [HLK.out]; omega
        have HGK := Lib.hid (And.intro hgc hko)
        clear hgc hko hki hkx
        go_wp2_with fail
        go_loopw [18] (fun s18 wx => ∃ i : Nat, 1 ≤ i ∧ (i ≤ m ∨ i = 1) ∧ s18 = .int .i64 i ∧ GC w wx gk ck sp h b1 b2 la qs.length lc qs ∧ OwnR recI wx b2 79 (.slice ka m kc) ks ∧ (List.range i).all (condK (keysI xs)) = true) (fun s18 _ => m - (intOf s18).toNat)
        case atStart => exact ⟨1, by omega, .inr rfl, rfl, HGK.out.1, HGK.out.2, rfl⟩
        case round =>
          clear HGK
          obtain ⟨i, hi1, hi2, rfl, hgc, hko, hall⟩ := hrel
          have HALL := Lib.hid hall
          by_cases hlt : i < m
          · obtain ⟨j, hj⟩ : ∃ j, i = j + 1 := ⟨i - 1, by omega⟩
            have q1 : (i : Int) < (m : Int) := by omega
            have hjj : (i : Int) - 1 = (j : Int) := by omega
            have hjn : (j : Int) < (m : Int) := by omega
            have hwj : IntKind.i64.wrap (j : Int) = (j : Int) := by rw [IntKind.wrap_i64]; omega
            have hik : i < ks.length := by omega
            have hjk : j < ks.length := by omega
            have hix : i < (keysI xs).length := by rw [← HLK.out]; exact hlt
            have hjx : j < (keysI xs).length := by omega
            obtain ⟨g, hga, -⟩ := hko.block (by omega)
            subst hga
            have HG := Lib.hid hgc
            have HKO := Lib.hid hko
            have hki := (HKX.out.2 i hik hix).k
            have hkj := (HKX.out.2 j hjk hjx).k
            have hbW : Below w.heap.size w wr.drew := hgc.d.b.drew
            have hlx : Op.bytesLess (strOfNums ((keysI xs)[j]).key).toList (strOfNums ((keysI xs)[i]).key).toList = ltL ((keysI xs)[j]).key ((keysI xs)[i]).key := str_lt hkj.bytes hki.bytes
            have HS21 : Hid ((fun W => W.cell? ⟨g, j * 4 + 2, none⟩ = some (.slice (ks[j]).ka (ks[j]).kn (ks[j]).kc) ∧ W.cell? ⟨g, i * 4 + 2, none⟩ = some (.slice (ks[i]).ka (ks[i]).kn (ks[i]).kc) ∧ (convert 22 9 (.slice (ks[j]).ka (ks[j]).kn (ks[j]).kc)).run Tryd.prog W = .ok (.string (strOfNums ((keysI xs)[j]).key)) W ∧ (convert 22 9 (.slice (ks[i]).ka (ks[i]).kn (ks[i]).kc)).run Tryd.prog W = .ok (.string (strOfNums ((keysI xs)[i]).key)) W) wr.drew) := Lib.hid ⟨((hko.keep (Below.refl _ _).drew).item rfl j hjk).2.2.1, ((hko.keep (Below.refl _ _).drew).item rfl i hik).2.2.1, conv_key (hkj.below hbW), conv_key (hki.below hbW)⟩
            have HCD : Hid (condK (keysI xs) i = ltL ((keysI xs)[j]).key ((keysI xs)[i]).key) := Lib.hid (condK_succ hj hix)
            clear hgc hko hki hkj hbW hall hj
            cases hcl : ltL ((keysI xs)[j]).key ((keysI xs)[i]).key with
            | false =>
              have HCL := Lib.hid hcl
              rw [hcl] at hlx
              clear hcl
              go_upto_region 21 with fail
              refine wp_region_held_drew (S := (fun W => W.cell? ⟨g, j * 4 + 2, none⟩ = some (.slice (ks[j]).ka (ks[j]).kn (ks[j]).kc) ∧ W.cell? ⟨g, i * 4 + 2, none⟩ = some (.slice (ks[i]).ka (ks[i]).kn (ks[i]).kc) ∧ (convert 22 9 (.slice (ks[j]).ka (ks[j]).kn (ks[j]).kc)).run Tryd.prog W = .ok (.string (strOfNums ((keysI xs)[j]).key)) W ∧ (convert 22 9 (.slice (ks[i]).ka (ks[i]).kn (ks[i]).kc)).run Tryd.prog W = .ok (.string (strOfNums ((keysI xs)[i]).key)) W)) (by kernel_rfl) HS21.out (fun hHeld => ?_)
              refine take_w (i := 0) (oi := ?oZ1) (v := ?vZ1) ?hiZ1 (by kernel_rfl) (by kernel_rfl) (by kernel_rfl) ?hQZ1 ?hwZ1 ?hyZ1 (by assumption) ?restZ1
              case hiZ1 => (simp only [List.getElem?_toArray, List.getElem?_cons_zero] <;> rfl)
              case hQZ1 => exact (fun _ _ _ h => h)
              case hwZ1 => rfl
              case hyZ1 => (intro w hSw; (try dsimp only at hSw); go_simp; try with_reducible rfl)
              (try simp only [Act.put, List.setIfInBounds_toArray, List.set_cons_zero, List.set_cons_succ])
              refine take_w (i := 1) (oi := ?oZ2) (v := ?vZ2) ?hiZ2 (by kernel_rfl) (by kernel_rfl) (by kernel_rfl) ?hQZ2 ?hwZ2 ?hyZ2 (by assumption) ?restZ2
              case hiZ2 => (simp only [List.getElem?_toArray, List.getElem?_cons_succ, List.getElem?_cons_zero] <;> rfl)
              case hQZ2 => exact (fun _ _ _ h => h)
              case hwZ2 => rfl
              case hyZ2 => (intro w hSw; (try dsimp only at hSw); go_simp; try with_reducible rfl)
              (try simp only [Act.put, List.setIfInBounds_toArray, List.set_cons_zero, List.set_cons_succ])
              refine take_w (i := 2) (oi := ?oZ3) (v := ?vZ3) ?hiZ3 (by kernel_rfl) (by kernel_rfl) (by kernel_rfl) ?hQZ3 ?hwZ3 ?hyZ3 (by assumption) ?restZ3
              case hiZ3 => (simp only [List.getElem?_toArray, List.getElem?_cons_succ, List.getElem?_cons_zero] <;> rfl)
              case hQZ3 => exact (fun _ _ _ h => h)
              case hwZ3 => rfl
              case hyZ3 => (intro w hSw; (try dsimp only at hSw); go_simp; try with_reducible rfl)
              (try simp only [Act.put, List.setIfInBounds_toArray, List.set_cons_zero, List.set_cons_succ])
              refine take_w (i := 3) (oi := ?oZ4) (v := ?vZ4) ?hiZ4 (by kernel_rfl) (by kernel_rfl) (by kernel_rfl) ?hQZ4 ?hwZ4 ?hyZ4 (by assumption) ?restZ4
              case hiZ4 => (simp only [List.getElem?_toArray, List.getElem?_cons_succ, List.getElem?_cons_zero] <;> rfl)
              case hQZ4 => exact (fun _ _ _ h => h)
              case hwZ4 => rfl
              case hyZ4 => (intro w hSw; (try dsimp only at hSw); go_simp; try with_reducible rfl)
              (try simp only [Act.put, List.setIfInBounds_toArray, List.set_cons_zero, List.set_cons_succ])
              refine take_w (i := 4) (oi := ?oZ5) (v := ?vZ5) ?hiZ5 (by kernel_rfl) (by kernel_rfl) (by kernel_rfl) ?hQZ5 ?hwZ5 ?hyZ5 (by assumption) ?restZ5
              case hiZ5 => (simp only [List.getElem?_toArray, List.getElem?_cons_succ, List.getElem?_cons_zero] <;> rfl)
              case hQZ5 => exact (fun _ _ _ h => h)
              case hwZ5 => rfl
              case hyZ5 => (intro w hSw; (try dsimp only at hSw); go_simp; try with_reducible rfl)
              (try simp only [Act.put, List.setIfInBounds_toArray, List.set_cons_zero, List.set_cons_succ])
              refine take_w (i := 5) (oi := ?oZ6) (v := ?vZ6) ?hiZ6 (by kernel_rfl) (by kernel_rfl) (by kernel_rfl) ?hQZ6 ?hwZ6 ?hyZ6 (by assumption) ?restZ6
              case hiZ6 => (simp only [List.getElem?_toArray, List.getElem?_cons_succ, List.getElem?_cons_zero] <;> rfl)
              case hQZ6 => exact (fun _ _ _ h => h)
              case hwZ6 => rfl
              case hyZ6 => (intro w hSw; (try dsimp only at hSw); go_simp; try with_reducible rfl)
              (try simp only [Act.put, List.setIfInBounds_toArray, List.set_cons_zero, List.set_cons_succ])
              refine take_w (i := 6) (oi := ?oZ7) (v := ?vZ7) ?hiZ7 (by kernel_rfl) (by kernel_rfl) (by kernel_rfl) ?hQZ7 ?hwZ7 ?hyZ7 (by assumption) ?restZ7
              case hiZ7 => (simp only [List.getElem?_toArray, List.getElem?_cons_succ, List.getElem?_cons_zero] <;> rfl)
              case hQZ7 => exact (fun _ _ _ h => h)
              case hwZ7 => rfl
              case hyZ7 => (intro w hSw; (try dsimp only at hSw); go_simp; try with_reducible rfl)
              (try simp only [Act.put, List.setIfInBounds_toArray, List.set_cons_zero, List.set_cons_succ])
              refine take_w (i := 7) (oi := ?oZ8) (v := ?vZ8) ?hiZ8 (by kernel_rfl) (by kernel_rfl) (by kernel_rfl) ?hQZ8 ?hwZ8 ?hyZ8 (by assumption) ?restZ8
              case hiZ8 => (simp only [List.getElem?_toArray, List.getElem?_cons_succ, List.getElem?_cons_zero] <;> rfl)
              case hQZ8 => exact (fun _ _ _ h => h)
              case hwZ8 => rfl
              case hyZ8 => (intro w hSw; (try dsimp only at hSw); go_simp; try with_reducible rfl)
              (try simp only [Act.put, List.setIfInBounds_toArray, List.set_cons_zero, List.set_cons_succ])
              refine take_w (i := 8) (oi := ?oZ9) (v := ?vZ9) ?hiZ9 (by kernel_rfl) (by kernel_rfl) (by kernel_rfl) ?hQZ9 ?hwZ9 ?hyZ9 (by assumption) ?restZ9
              case hiZ9 => (simp only [List.getElem?_toArray, List.getElem?_cons_succ, List.getElem?_cons_zero] <;> rfl)
              case hQZ9 => exact (fun _ _ _ h => h)
              case hwZ9 => rfl
              case hyZ9 => (intro w hSw; (try dsimp only at hSw); go_simp; try with_reducible rfl)
              (try simp only [Act.put, List.setIfInBounds_toArray, List.set_cons_zero, List.set_cons_succ])
              refine take_w (i := 9) (oi := ?oZ10) (v := ?vZ10) ?hiZ10 (by kernel_rfl) (by kernel_rfl) (by kernel_rfl) ?hQZ10 ?hwZ10 ?hyZ10 (by assumption) ?restZ10
              case hiZ10 => (simp only [List.getElem?_toArray, List.getElem?_cons_succ, List.getElem?_cons_zero] <;> rfl)
              case hQZ10 => exact (fun _ _ _ h => h)
              case hwZ10 => rfl
              case hyZ10 => (intro w hSw; (try dsimp only at hSw); go_simp; try with_reducible rfl)
              (try simp only [Act.put, List.setIfInBounds_toArray, List.set_cons_zero, List.set_cons_succ])
              refine take_w (i := 10) (oi := ?oZ11) (v := ?vZ11) ?hiZ11 (by kernel_rfl) (by kernel_rfl) (by kernel_rfl) ?hQZ11 ?hwZ11 ?hyZ11 (by assumption) ?restZ11
              case hiZ11 => (simp only [List.getElem?_toArray, List.getElem?_cons_succ, List.getElem?_cons_zero] <;> rfl)
              case hQZ11 => exact (fun _ _ _ h => h)
              case hwZ11 => rfl
              case hyZ11 => (intro w hSw; (try dsimp only at hSw); go_simp; try with_reducible rfl)
              (try simp only [Act.put, List.setIfInBounds_toArray, List.set_cons_zero, List.set_cons_succ])
              refine take_w (i := 11) (oi := ?oZ12) (v := ?vZ12) ?hiZ12 (by kernel_rfl) (by kernel_rfl) (by kernel_rfl) ?hQZ12 ?hwZ12 ?hyZ12 (by assumption) ?restZ12
              case hiZ12 => (simp only [List.getElem?_toArray, List.getElem?_cons_succ, List.getElem?_cons_zero] <;> rfl)
              case hQZ12 => exact (fun _ _ _ h => h)
              case hwZ12 => rfl
              case hyZ12 => (intro w hSw; (try dsimp only at hSw); go_simp; try with_reducible rfl)
              (try simp only [Act.put, List.setIfInBounds_toArray, List.set_cons_zero, List.set_cons_succ])
              refine take_w (i := 12) (oi := ?oZ13) (v := ?vZ13) ?hiZ13 (by kernel_rfl) (by kernel_rfl) (by kernel_rfl) ?hQZ13 ?hwZ13 ?hyZ13 (by assumption) ?restZ13
              case hiZ13 => (simp only [List.getElem?_toArray, List.getElem?_cons_succ, List.getElem?_cons_zero] <;> rfl)
              case hQZ13 => exact (fun _ _ _ h => h)
              case hwZ13 => rfl
              case hyZ13 => (intro w hSw; (try dsimp only at hSw); go_simp; try with_reducible rfl)
              (try simp only [Act.put, List.setIfInBounds_toArray, List.set_cons_zero, List.set_cons_succ])
              refine take_w (i := 13) (oi := ?oZ14) (v := ?vZ14) ?hiZ14 (by kernel_rfl) (by kernel_rfl) (by kernel_rfl) ?hQZ14 ?hwZ14 ?hyZ14 (by assumption) ?restZ14
              case hiZ14 => (simp only [List.getElem?_toArray, List.getElem?_cons_succ, List.getElem?_cons_zero] <;> rfl)
              case hQZ14 => exact (fun _ _ _ h => h)
              case hwZ14 => rfl
              case hyZ14 => (intro w hSw; (try dsimp only at hSw); go_simp; try with_reducible rfl)
              (try simp only [Act.put, List.setIfInBounds_toArray, List.set_cons_zero, List.set_cons_succ])
              refine wpAnyH_done (by kernel_rfl) ?_ _
              clear hHeld
              go_wp2_with fail
              go_ret2
              have e : riseI xs = false := rise_no hix (by rw [HCD.out, HCL.out])
              rw [HE.out, if_pos e]
              exact ChkPost.err _ HG.out.d.b.drew
            | true =>
              have HCL := Lib.hid hcl
              rw [hcl] at hlx
              clear hcl
              go_upto_region 21 with fail
              refine wp_region_held_drew (S := (fun W => W.cell? ⟨g, j * 4 + 2, none⟩ = some (.slice (ks[j]).ka (ks[j]).kn (ks[j]).kc) ∧ W.cell? ⟨g, i * 4 + 2, none⟩ = some (.slice (ks[i]).ka (ks[i]).kn (ks[i]).kc) ∧ (convert 22 9 (.slice (ks[j]).ka (ks[j]).kn (ks[j]).kc)).run Tryd.prog W = .ok (.string (strOfNums ((keysI xs)[j]).key)) W ∧ (convert 22 9 (.slice (ks[i]).ka (ks[i]).kn (ks[i]).kc)).run Tryd.prog W = .ok (.string (strOfNums ((keysI xs)[i]).key)) W)) (by kernel_rfl) HS21.out (fun hHeld => ?_)
              refine take_w (i := 0) (oi := ?oZ15) (v := ?vZ15) ?hiZ15 (by kernel_rfl) (by kernel_rfl) (by kernel_rfl) ?hQZ15 ?hwZ15 ?hyZ15 (by assumption) ?restZ15
              case hiZ15 => (simp only [List.getElem?_toArray, List.getElem?_cons_zero] <;> rfl)
              case hQZ15 => exact (fun _ _ _ h => h)
              case hwZ15 => rfl
              case hyZ15 => (intro w hSw; (try dsimp only at hSw); go_simp; try with_reducible rfl)
              (try simp only [Act.put, List.setIfInBounds_toArray, List.set_cons_zero, List.set_cons_succ])
              refine take_w (i := 1) (oi := ?oZ16) (v := ?vZ16) ?hiZ16 (by kernel_rfl) (by kernel_rfl) (by kernel_rfl) ?hQZ16 ?hwZ16 ?hyZ16 (by assumption) ?restZ16
              case hiZ16 => (simp only [List.getElem?_toArray, List.getElem?_cons_succ, List.getElem?_cons_zero] <;> rfl)
              case hQZ16 => exact (fun _ _ _ h => h)
              case hwZ16 => rfl
              case hyZ16 => (intro w hSw; (try dsimp only at hSw); go_simp; try with_reducible rfl)
              (try simp only [Act.put, List.setIfInBounds_toArray, List.set_cons_zero, List.set_cons_succ])
              refine take_w (i := 2) (oi := ?oZ17) (v := ?vZ17) ?hiZ17 (by kernel_rfl) (by kernel_rfl) (by kernel_rfl) ?hQZ17 ?hwZ17 ?hyZ17 (by assumption) ?restZ17
              case hiZ17 => (simp only [List.getElem?_toArray, List.getElem?_cons_succ, List.getElem?_cons_zero] <;> rfl)
              case hQZ17 => exact (fun _ _ _ h => h)
              case hwZ17 => rfl
              case hyZ17 => (intro w hSw; (try dsimp only at hSw); go_simp; try with_reducible rfl)
              (try simp only [Act.put, List.setIfInBounds_toArray, List.set_cons_zero, List.set_cons_succ])
              refine take_w (i := 3) (oi := ?oZ18) (v := ?vZ18) ?hiZ18 (by kernel_rfl) (by kernel_rfl) (by kernel_rfl) ?hQZ18 ?hwZ18 ?hyZ18 (by assumption) ?restZ18
              case hiZ18 => (simp only [List.getElem?_toArray, List.getElem?_cons_succ, List.getElem?_cons_zero] <;> rfl)
              case hQZ18 => exact (fun _ _ _ h => h)
              case hwZ18 => rfl
              case hyZ18 => (intro w hSw; (try dsimp only at hSw); go_simp; try with_reducible rfl)
              (try simp only [Act.put, List.setIfInBounds_toArray, List.set_cons_zero, List.set_cons_succ])
              refine take_w (i := 4) (oi := ?oZ19) (v := ?vZ19) ?hiZ19 (by kernel_rfl) (by kernel_rfl) (by kernel_rfl) ?hQZ19 ?hwZ19 ?hyZ19 (by assumption) ?restZ19
              case hiZ19 => (simp only [List.getElem?_toArray, List.getElem?_cons_succ, List.getElem?_cons_zero] <;> rfl)
              case hQZ19 => exact (fun _ _ _ h => h)
              case hwZ19 => rfl
              case hyZ19 => (intro w hSw; (try dsimp only at hSw); go_simp; try with_reducible rfl)
              (try simp only [Act.put, List.setIfInBounds_toArray, List.set_cons_zero, List.set_cons_succ])
              refine take_w (i := 5) (oi := ?oZ20) (v := ?vZ20) ?hiZ20 (by kernel_rfl) (by kernel_rfl) (by kernel_rfl) ?hQZ20 ?hwZ20 ?hyZ20 (by assumption) ?restZ20
              case hiZ20 => (simp only [List.getElem?_toArray, List.getElem?_cons_succ, List.getElem?_cons_zero] <;> rfl)
              case hQZ20 => exact (fun _ _ _ h => h)
              case hwZ20 => rfl
              case hyZ20 => (intro w hSw; (try dsimp only at hSw); go_simp; try with_reducible rfl)
              (try simp only [Act.put, List.setIfInBounds_toArray, List.set_cons_zero, List.set_cons_succ])
              refine take_w (i := 6) (oi := ?oZ21) (v := ?vZ21) ?hiZ21 (by kernel_rfl) (by kernel_rfl) (by kernel_rfl) ?hQZ21 ?hwZ21 ?hyZ21 (by assumption) ?restZ21
              case hiZ21 => (simp only [List.getElem?_toArray, List.getElem?_cons_succ, List.getElem?_cons_zero] <;> rfl)
              case hQZ21 => exact (fun _ _ _ h => h)
              case hwZ21 => rfl
              case hyZ21 => (intro w hSw; (try dsimp only at hSw); go_simp; try with_reducible rfl)
              (try simp only [Act.put, List.setIfInBounds_toArray, List.set_cons_zero, List.set_cons_succ])
              refine take_w (i := 7) (oi := ?oZ22) (v := ?vZ22) ?hiZ22 (by kernel_rfl) (by kernel_rfl) (by kernel_rfl) ?hQZ22 ?hwZ22 ?hyZ22 (by assumption) ?restZ22
              case hiZ22 => (simp only [List.getElem?_toArray, List.getElem?_cons_succ, List.getElem?_cons_zero] <;> rfl)
              case hQZ22 => exact (fun _ _ _ h => h)
              case hwZ22 => rfl
              case hyZ22 => (intro w hSw; (try dsimp only at hSw); go_simp; try with_reducible rfl)
              (try simp only [Act.put, List.setIfInBounds_toArray, List.set_cons_zero, List.set_cons_succ])
              refine take_w (i := 8) (oi := ?oZ23) (v := ?vZ23) ?hiZ23 (by kernel_rfl) (by kernel_rfl) (by kernel_rfl) ?hQZ23 ?hwZ23 ?hyZ23 (by assumption) ?restZ23
              case hiZ23 => (simp only [List.getElem?_toArray, List.getElem?_cons_succ, List.getElem?_cons_zero] <;> rfl)
              case hQZ23 => exact (fun _ _ _ h => h)
              case hwZ23 => rfl
              case hyZ23 => (intro w hSw; (try dsimp only at hSw); go_simp; try with_reducible rfl)
              (try simp only [Act.put, List.setIfInBounds_toArray, List.set_cons_zero, List.set_cons_succ])
              refine take_w (i := 9) (oi := ?oZ24) (v := ?vZ24) ?hiZ24 (by kernel_rfl) (by kernel_rfl) (by kernel_rfl) ?hQZ24 ?hwZ24 ?hyZ24 (by assumption) ?restZ24
              case hiZ24 => (simp only [List.getElem?_toArray, List.getElem?_cons_succ, List.getElem?_cons_zero] <;> rfl)
              case hQZ24 => exact (fun _ _ _ h => h)
              case hwZ24 => rfl
              case hyZ24 => (intro w hSw; (try dsimp only at hSw); go_simp; try with_reducible rfl)
              (try simp only [Act.put, List.setIfInBounds_toArray, List.set_cons_zero, List.set_cons_succ])
              refine take_w (i := 10) (oi := ?oZ25) (v := ?vZ25) ?hiZ25 (by kernel_rfl) (by kernel_rfl) (by kernel_rfl) ?hQZ25 ?hwZ25 ?hyZ25 (by assumption) ?restZ25
              case hiZ25 => (simp only [List.getElem?_toArray, List.getElem?_cons_succ, List.getElem?_cons_zero] <;> rfl)
              case hQZ25 => exact (fun _ _ _ h => h)
              case hwZ25 => rfl
              case hyZ25 => (intro w hSw; (try dsimp only at hSw); go_simp; try with_reducible rfl)
              (try simp only [Act.put, List.setIfInBounds_toArray, List.set_cons_zero, List.set_cons_succ])
              refine take_w (i := 11) (oi := ?oZ26) (v := ?vZ26) ?hiZ26 (by kernel_rfl) (by kernel_rfl) (by kernel_rfl) ?hQZ26 ?hwZ26 ?hyZ26 (by assumption) ?restZ26
              case hiZ26 => (simp only [List.getElem?_toArray, List.getElem?_cons_succ, List.getElem?_cons_zero] <;> rfl)
              case hQZ26 => exact (fun _ _ _ h => h)
              case hwZ26 => rfl
              case hyZ26 => (intro w hSw; (try dsimp only at hSw); go_simp; try with_reducible rfl)
              (try simp only [Act.put, List.setIfInBounds_toArray, List.set_cons_zero, List.set_cons_succ])
              refine take_w (i := 12) (oi := ?oZ27) (v := ?vZ27) ?hiZ27 (by kernel_rfl) (by kernel_rfl) (by kernel_rfl) ?hQZ27 ?hwZ27 ?hyZ27 (by assumption) ?restZ27
              case hiZ27 => (simp only [List.getElem?_toArray, List.getElem?_cons_succ, List.getElem?_cons_zero] <;> rfl)
              case hQZ27 => exact (fun _ _ _ h => h)
              case hwZ27 => rfl
              case hyZ27 => (intro w hSw; (try dsimp only at hSw); go_simp; try with_reducible rfl)
              (try simp only [Act.put, List.setIfInBounds_toArray, List.set_cons_zero, List.set_cons_succ])
              refine take_w (i := 13) (oi := ?oZ28) (v := ?vZ28) ?hiZ28 (by kernel_rfl) (by kernel_rfl) (by kernel_rfl) ?hQZ28 ?hwZ28 ?hyZ28 (by assumption) ?restZ28
              case hiZ28 => (simp only [List.getElem?_toArray, List.getElem?_cons_succ, List.getElem?_cons_zero] <;> rfl)
              case hQZ28 => exact (fun _ _ _ h => h)
              case hwZ28 => rfl
              case hyZ28 => (intro w hSw; (try dsimp only at hSw); go_simp; try with_reducible rfl)
              (try simp only [Act.put, List.setIfInBounds_toArray, List.set_cons_zero, List.set_cons_succ])
              refine wpAnyH_done (by kernel_rfl) ?_ _
              clear hHeld
              go_wp2_with fail
              exact ⟨⟨i + 1, by omega, .inl (by omega), by go_num, HG.out.drew, HKO.out.keep (Below.refl _ _).drew, by rw [List.range_succ, List.all_append, HALL.out]; simp [HCD.out, HCL.out]⟩, by simp [intOf]; omega⟩
          · have q1 : ¬ (i : Int) < (m : Int) := by omega
            have HRI : Hid (riseI xs = true) := Lib.hid (by
              unfold riseI
              rw [List.all_eq_true]
              intro x hx
              rw [List.mem_range, ← HLK.out] at hx
              exact (List.all_eq_true.1 hall) x (List.mem_range.2 (by omega)))
            have HE2 : Hid (checkR k root f t sp.out p = tellR (scanI f t sp.out [] false xs)) := Lib.hid (by rw [HE.out, if_neg (by rw [HRI.out]; simp)])
            have HG := Lib.hid hgc
            clear hall HALL hgc hko
            go_wp2_with fail
            have hga : Below wr.heap.size wr (wr.alloc (.cells #[.bool false, .bool false, .slice none 0 0, .slice none 0 0] 79)) := (Below.refl _ _).alloc (Nat.le_refl _) _
            have HL0 : Hid (LB w (wr.alloc (.cells #[.bool false, .bool false, .slice none 0 0, .slice none 0 0] 79)) gk ck sp h b1 b2 la qs.length lc qs wr.heap.size (wr.heap.size + 1) iZ [] none 0 0 [] []) := Lib.hid ⟨HG.out.below hga, heap_alloc_new wr _, none_in _, OwnR.nil _ _ _ _, PairsIn.nil _, rfl, HG.out.w3, by simp, by simp, Nat.zero_le _⟩
            clear hga HG
            have hgb : wr.heap.size < wr.heap.size + 1 := Nat.lt_succ_self _
            generalize wr.heap.size + 1 = b3 at *
            generalize wr.heap.size = gl at *
            generalize wr.alloc (.cells #[.bool false, .bool false, .slice none 0 0, .slice none 0 0] 79) = w7 at *
            go_loopw [19, 21, 22] (fun s19 s21 s22 wx => ∃ (i : Nat) (oa : Option Addr) (r oc : Nat) (rs : List PH) (acc : List KV) (lq : QI) (low : List Int) (has : Bool), i ≤ qs.length ∧ s19 = .slice oa r oc ∧ r ≤ i ∧ s21 = .bool has ∧ s22 = .int .i64 i ∧ LB w wx gk ck sp h b1 b2 la qs.length lc qs gl b3 lq low oa r oc rs acc ∧ scanI f t sp.out [] false xs = (scanI f t sp.out low has (xs.drop i)).map (acc ++ ·)) (fun _ _ s22 _ => qs.length - (intOf s22).toNat)
            case atStart => exact ⟨0, none, 0, 0, [], [], iZ, [], false, by omega, rfl, by omega, rfl, rfl, HL0.out, by simp⟩
            case round =>
              clear HL0
              obtain ⟨i, oa, r, oc, rs, acc, lq, low, has, hi, rfl, hri, rfl, rfl, hlb, hsc⟩ := hrel
              have HSC := Lib.hid hsc
              have HLB := Lib.hid hlb
              by_cases hlt : i < qs.length
              · have q1 : (i : Int) < (qs.length : Int) := by omega
                have hix : i < xs.length := by rw [← HI5.out.1]; exact hlt
                have HONE := Lib.hid (HI5.out.2 i hlt hix)
                obtain ⟨g, hga, -⟩ := hlb.g.o.block (by omega)
                subst hga
                obtain ⟨y0, y1, y2, y3⟩ := hlb.g.o.item rfl i hlt
                have HDR : Hid (xs.drop i = xs[i] :: xs.drop (i + 1)) := Lib.hid (List.drop_eq_getElem_cons hix)
                clear hlb hsc
                cases hcut : (xs[i]).cut with
                | true =>
                  have HCU := Lib.hid hcut
                  rw [HONE.out.cut, hcut] at y0
                  clear hcut
                  go_wp2_with fail
                  have hga : Below wr.heap.size wr (wr.alloc (.cells #[.bool false, .bool false, .slice none 0 0, .slice none 0 0] 79)) := (Below.refl _ _).alloc (Nat.le_refl _) _
                  have HL1 := Lib.hid (HLB.out.below hga)
                  have HH1 : Hid (RBox recI (wr.alloc (.cells #[.bool false, .bool false, .slice none 0 0, .slice none 0 0] 79)) 79 wr.heap.size iZ) := Lib.hid (heap_alloc_new wr _)
                  have HGH : Hid (b2 ≤ wr.heap.size ∧ gl < wr.heap.size) := Lib.hid ⟨HLB.out.g.w3, HLB.out.lbx.lt⟩
                  clear hga HLB y0 y1 y2 y3
                  generalize wr.heap.size = gh at *
                  generalize wr.alloc (.cells #[.bool false, .bool false, .slice none 0 0, .slice none 0 0] 79) = w8 at *
                  go_loopw [24, 25] (fun s24 s25 wy => ∃ (j : Nat) (hq : QI) (hk : List Int) (is : Bool), i + 1 ≤ j ∧ j ≤ qs.length ∧ s24 = .bool is ∧ s25 = .int .i64 j ∧ LB w wy gk ck sp h b1 b2 (some ⟨g, 0, none⟩) qs.length lc qs gl b3 lq low oa r oc rs acc ∧ RBox recI wy 79 gh hq ∧ InBytes w hq.ka hq.kn hq.kc hk ∧ nextI (xs.drop (i + 1)) = (if is then (hk, true) else nextI (xs.drop j)) ∧ (is = false → hk = [])) (fun _ s25 _ => qs.length - (intOf s25).toNat)
                  case atStart => exact ⟨i + 1, iZ, [], false, by omega, by omega, rfl, by go_num, HL1.out, HH1.out, none_in _, rfl, fun _ => rfl⟩
                  case round =>
                    clear HL1 HH1
                    obtain ⟨j, hq, hk, is, hj1, hj2, rfl, rfl, hlb, hhx, hhk, hnx, hnk⟩ := hrel
                    have HLB := Lib.hid hlb
                    have HHX := Lib.hid hhx
                    have HHK := Lib.hid hhk
                    have HNX := Lib.hid hnx
                    have HNK := Lib.hid hnk
                    clear hlb hhx hhk hnx hnk
                    cases is with
                    | true =>
                      have HX : Hid (nextI (xs.drop (i + 1)) = (hk, true)) := Lib.hid (by rw [HNX.out]; rfl)
                      by_cases hjl : j < qs.length
                      · have q2 : (j : Int) < (qs.length : Int) := by omega
                        obtain ⟨u0, u1, u2⟩ := HLB.out.g.d.sb.three
                        have v2 := HLB.out.lbx.cell 2 _ rfl
                        have w2 := HHX.out.cell 2 _ rfl
                        cases hem : emptyS f t sp.out low hk has true with
                        | true =>
                          have HEM := Lib.hid hem
                          clear hem
                          go_wp2_with (first
                            | (go_at_call 35
                               refine (refEmpty_any sp f t low hk lq.ka hq.ka lq.kn lq.kc hq.kn hq.kc has true _ (HSP.out.below HLB.out.g.d.b) (HLB.out.lk.below HLB.out.g.d.b) (HHK.out.below HLB.out.g.d.b) (by rw [← HLB.out.lk.len]; exact Nat.le_trans HLB.out.ll (by omega))).mono ?_
                               rintro _ w9 ⟨rfl, hb9⟩
                               have HL9 := Lib.hid (HLB.out.below hb9)
                               rw [HEM.out]
                               clear hb9 u0 u1 u2 v2 w2))
                          exact ⟨⟨i + 1, oa, r, oc, rs, acc, lq, low, has, by omega, rfl, by omega, rfl, by go_num, HL9.out, by rw [HSC.out, HDR.out, scan_cut HCU.out, HX.out, if_pos HEM.out]⟩, by simp [intOf]; omega⟩
                        | false =>
                          have HEM := Lib.hid hem
                          clear hem
                          go_wp2_with (first
                            | (go_at_call 35
                               refine (refEmpty_any sp f t low hk lq.ka hq.ka lq.kn lq.kc hq.kn hq.kc has true _ (HSP.out.below HLB.out.g.d.b) (HLB.out.lk.below HLB.out.g.d.b) (HHK.out.below HLB.out.g.d.b) (by rw [← HLB.out.lk.len]; exact Nat.le_trans HLB.out.ll (by omega))).mono ?_
                               rintro _ w9 ⟨rfl, hb9⟩
                               have HL9 := Lib.hid (HLB.out.below hb9)
                               rw [HEM.out]
                               clear hb9 u0 u1 u2 v2 w2))
                          go_ret2
                          have e : scanI f t sp.out [] false xs = none := by rw [HSC.out, HDR.out, scan_cut HCU.out, HX.out, if_neg (by rw [HEM.out]; simp)]; rfl
                          rw [HE2.out, e]
                          exact ChkPost.err _ HL9.out.g.d.b
                      · have q2 : ¬ (j : Int) < (qs.length : Int) := by omega
                        obtain ⟨u0, u1, u2⟩ := HLB.out.g.d.sb.three
                        have v2 := HLB.out.lbx.cell 2 _ rfl
                        have w2 := HHX.out.cell 2 _ rfl
                        cases hem : emptyS f t sp.out low hk has true with
                        | true =>
                          have HEM := Lib.hid hem
                          clear hem
                          go_wp2_with (first
                            | (go_at_call 35
                               refine (refEmpty_any sp f t low hk lq.ka hq.ka lq.kn lq.kc hq.kn hq.kc has true _ (HSP.out.below HLB.out.g.d.b) (HLB.out.lk.below HLB.out.g.d.b) (HHK.out.below HLB.out.g.d.b) (by rw [← HLB.out.lk.len]; exact Nat.le_trans HLB.out.ll (by omega))).mono ?_
                               rintro _ w9 ⟨rfl, hb9⟩
                               have HL9 := Lib.hid (HLB.out.below hb9)
                               rw [HEM.out]
                               clear hb9 u0 u1 u2 v2 w2))
                          exact ⟨⟨i + 1, oa, r, oc, rs, acc, lq, low, has, by omega, rfl, by omega, rfl, by go_num, HL9.out, by rw [HSC.out, HDR.out, scan_cut HCU.out, HX.out, if_pos HEM.out]⟩, by simp [intOf]; omega⟩
                        | false =>
                          have HEM := Lib.hid hem
                          clear hem
                          go_wp2_with (first
                            | (go_at_call 35
                               refine (refEmpty_any sp f t low hk lq.ka hq.ka lq.kn lq.kc hq.kn hq.kc has true _ (HSP.out.below HLB.out.g.d.b) (HLB.out.lk.below HLB.out.g.d.b) (HHK.out.below HLB.out.g.d.b) (by rw [← HLB.out.lk.len]; exact Nat.le_trans HLB.out.ll (by omega))).mono ?_
                               rintro _ w9 ⟨rfl, hb9⟩
                               have HL9 := Lib.hid (HLB.out.below hb9)
                               rw [HEM.out]
                               clear hb9 u0 u1 u2 v2 w2))
                          go_ret2
                          have e : scanI f t sp.out [] false xs = none := by rw [HSC.out, HDR.out, scan_cut HCU.out, HX.out, if_neg (by rw [HEM.out]; simp)]; rfl
                          rw [HE2.out, e]
                          exact ChkPost.err _ HL9.out.g.d.b
                    | false =>
                      by_cases hjl : j < qs.length
                      · have q2 : (j : Int) < (qs.length : Int) := by omega
                        have hjx : j < xs.length := by rw [← HI5.out.1]; exact hjl
                        have HONJ := Lib.hid (HI5.out.2 j hjl hjx)
                        obtain ⟨z0, z1, z2, z3⟩ := HLB.out.g.o.item rfl j hjl
                        have HDJ : Hid (xs.drop j = xs[j] :: xs.drop (j + 1)) := Lib.hid (List.drop_eq_getElem_cons hjx)
                        cases hcj : (xs[j]).cut with
                        | true =>
                          have HCJ := Lib.hid hcj
                          rw [HONJ.out.cut, hcj] at z0
                          clear hcj
                          go_wp2_with fail
                          exact ⟨⟨j + 1, hq, hk, false, by omega, by omega, rfl, by go_num, HLB.out, HHX.out, HHK.out, by
                            rw [HNX.out, if_neg (by simp), if_neg (by simp), HDJ.out, nextI, if_pos HCJ.out], HNK.out⟩, by simp [intOf]; omega⟩
                        | false =>
                          have HCJ := Lib.hid hcj
                          rw [HONJ.out.cut, hcj] at z0
                          clear hcj
                          go_wp2_with (first
                            | (refine wpList_store_rec rfl 79 (.tmp 23) (.tmp 134) rfl recI gh hq (⟨false, (qs[j]).dark, (qs[j]).ka, (qs[j]).kn, (qs[j]).kc, (qs[j]).va, (qs[j]).vn, (qs[j]).vc⟩ : QI) rfl rfl 79 HHX.out infoItem4 ?_
                               intro w9 hx9 hg9
                               have HX9 := Lib.hid hx9
                               have HL9 := Lib.hid (HLB.out.wrote HHX.out hg9 HGH.out.1 (by have := HGH.out.2; omega))
                               clear hx9 hg9))
                          exact ⟨⟨j + 1, (⟨false, (qs[j]).dark, (qs[j]).ka, (qs[j]).kn, (qs[j]).kc, (qs[j]).va, (qs[j]).vn, (qs[j]).vc⟩ : QI), (xs[j]).key, true, by omega, by omega, rfl, by go_num, HL9.out, HX9.out, HONJ.out.k, by
                            rw [HNX.out, if_neg (by simp), if_pos rfl, HDJ.out, nextI, if_neg (by rw [HCJ.out]; simp)], fun q => by cases q⟩, by simp [intOf]; omega⟩
                      · have q2 : ¬ (j : Int) < (qs.length : Int) := by omega
                        have HX : Hid (nextI (xs.drop (i + 1)) = (hk, false)) := Lib.hid (by
                          have e : j = xs.length := by rw [← HI5.out.1]; omega
                          rw [HNX.out, if_neg (by simp), e, List.drop_length, HNK.out rfl]
                          rfl)
                        obtain ⟨u0, u1, u2⟩ := HLB.out.g.d.sb.three
                        have v2 := HLB.out.lbx.cell 2 _ rfl
                        have w2 := HHX.out.cell 2 _ rfl
                        cases hem : emptyS f t sp.out low hk has false with
                        | true =>
                          have HEM := Lib.hid hem
                          clear hem
                          go_wp2_with (first
                            | (go_at_call 35
                               refine (refEmpty_any sp f t low hk lq.ka hq.ka lq.kn lq.kc hq.kn hq.kc has false _ (HSP.out.below HLB.out.g.d.b) (HLB.out.lk.below HLB.out.g.d.b) (HHK.out.below HLB.out.g.d.b) (by rw [← HLB.out.lk.len]; exact Nat.le_trans HLB.out.ll (by omega))).mono ?_
                               rintro _ w9 ⟨rfl, hb9⟩
                               have HL9 := Lib.hid (HLB.out.below hb9)
                               rw [HEM.out]
                               clear hb9 u0 u1 u2 v2 w2))
                          exact ⟨⟨i + 1, oa, r, oc, rs, acc, lq, low, has, by omega, rfl, by omega, rfl, by go_num, HL9.out, by rw [HSC.out, HDR.out, scan_cut HCU.out, HX.out, if_pos HEM.out]⟩, by simp [intOf]; omega⟩
                        | false =>
                          have HEM := Lib.hid hem
                          clear hem
                          go_wp2_with (first
                            | (go_at_call 35
                               refine (refEmpty_any sp f t low hk lq.ka hq.ka lq.kn lq.kc hq.kn hq.kc has false _ (HSP.out.below HLB.out.g.d.b) (HLB.out.lk.below HLB.out.g.d.b) (HHK.out.below HLB.out.g.d.b) (by rw [← HLB.out.lk.len]; exact Nat.le_trans HLB.out.ll (by omega))).mono ?_
                               rintro _ w9 ⟨rfl, hb9⟩
                               have HL9 := Lib.hid (HLB.out.below hb9)
                               rw [HEM.out]
                               clear hb9 u0 u1 u2 v2 w2))
                          go_ret2
                          have e : scanI f t sp.out [] false xs = none := by rw [HSC.out, HDR.out, scan_cut HCU.out, HX.out, if_neg (by rw [HEM.out]; simp)]; rfl
                          rw [HE2.out, e]
                          exact ChkPost.err _ HL9.out.g.d.b
                | false =>
                  have HCU := Lib.hid hcut
                  rw [HONE.out.cut, hcut] at y0
                  clear hcut
                  go_upto_region 43 with (first
                    | (refine wpList_store_rec rfl 79 (.tmp 20) (.tmp 148) rfl recI gl lq (⟨false, (qs[i]).dark, (qs[i]).ka, (qs[i]).kn, (qs[i]).kc, (qs[i]).va, (qs[i]).vn, (qs[i]).vc⟩ : QI) rfl rfl 79 HLB.out.lbx infoItem4 ?_
                       intro w8 hx8 hg8
                       have HL8 := Lib.hid (HLB.out.last hg8 hx8 HONE.out.k (HKY.out _ (List.getElem_mem hix)))
                       clear hx8 hg8 y0 y1 y2 y3))
                  cases hin : inS f t sp.out (xs[i]).key with
                  | false =>
                    have HIN := Lib.hid hin
                    clear hin
                    refine wp_region_held_drew (S := (fun W => (W.cell? ⟨w.heap.size + 1, 0, none⟩ = some (.slice sp.ka sp.kn sp.kc) ∧ W.cell? ⟨w.heap.size + 1, 1, none⟩ = some (.slice sp.va sp.vn sp.vc) ∧ W.cell? ⟨w.heap.size + 1, 2, none⟩ = some (.bool sp.out)) ∧ W.cell? ⟨g, i * 4 + 2, none⟩ = some (.slice (qs[i]).ka (qs[i]).kn (qs[i]).kc))) (by kernel_rfl) ⟨HL8.out.drew.g.d.sb.three, (HL8.out.drew.g.o.item rfl i hlt).2.2.1⟩ (fun hHeld => ?_)
                    refine take_w (i := 0) (oi := ?oZ44) (v := ?vZ44) ?hiZ44 (by kernel_rfl) (by kernel_rfl) (by kernel_rfl) ?hQZ44 ?hwZ44 ?hyZ44 (by assumption) ?restZ44
                    case hiZ44 => (simp only [List.getElem?_toArray, List.getElem?_cons_zero] <;> rfl)
                    case hQZ44 => exact (fun _ _ _ h => h)
                    case hwZ44 => rfl
                    case hyZ44 => (intro w hSw; (try dsimp only at hSw); go_simp; try with_reducible rfl)
                    (try simp only [Act.put, List.setIfInBounds_toArray, List.set_cons_zero, List.set_cons_succ])
                    refine take_w (i := 1) (oi := ?oZ45) (v := ?vZ45) ?hiZ45 (by kernel_rfl) (by kernel_rfl) (by kernel_rfl) ?hQZ45 ?hwZ45 ?hyZ45 (by assumption) ?restZ45
                    case hiZ45 => (simp only [List.getElem?_toArray, List.getElem?_cons_succ, List.getElem?_cons_zero] <;> rfl)
                    case hQZ45 => exact (fun _ _ _ h => h)
                    case hwZ45 => rfl
                    case hyZ45 => (intro w hSw; (try dsimp only at hSw); go_simp; try with_reducible rfl)
                    (try simp only [Act.put, List.setIfInBounds_toArray, List.set_cons_zero, List.set_cons_succ])
                    refine take_w (i := 2) (oi := ?oZ46) (v := ?vZ46) ?hiZ46 (by kernel_rfl) (by kernel_rfl) (by kernel_rfl) ?hQZ46 ?hwZ46 ?hyZ46 (by assumption) ?restZ46
                    case hiZ46 => (simp only [List.getElem?_toArray, List.getElem?_cons_succ, List.getElem?_cons_zero] <;> rfl)
                    case hQZ46 => exact (fun _ _ _ h => h)
                    case hwZ46 => rfl
                    case hyZ46 => (intro w hSw; (try dsimp only at hSw); go_simp; try with_reducible rfl)
                    (try simp only [Act.put, List.setIfInBounds_toArray, List.set_cons_zero, List.set_cons_succ])
                    refine take_w (i := 3) (oi := ?oZ47) (v := ?vZ47) ?hiZ47 (by kernel_rfl) (by kernel_rfl) (by kernel_rfl) ?hQZ47 ?hwZ47 ?hyZ47 (by assumption) ?restZ47
                    case hiZ47 => (simp only [List.getElem?_toArray, List.getElem?_cons_succ, List.getElem?_cons_zero] <;> rfl)
                    case hQZ47 => exact (fun _ _ _ h => h)
                    case hwZ47 => rfl
                    case hyZ47 => (intro w hSw; (try dsimp only at hSw); go_simp; try with_reducible rfl)
                    (try simp only [Act.put, List.setIfInBounds_toArray, List.set_cons_zero, List.set_cons_succ])
                    refine take_w (i := 4) (oi := ?oZ48) (v := ?vZ48) ?hiZ48 (by kernel_rfl) (by kernel_rfl) (by kernel_rfl) ?hQZ48 ?hwZ48 ?hyZ48 (by assumption) ?restZ48
                    case hiZ48 => (simp only [List.getElem?_toArray, List.getElem?_cons_succ, List.getElem?_cons_zero] <;> rfl)
                    case hQZ48 => exact (fun _ _ _ h => h)
                    case hwZ48 => rfl
                    case hyZ48 => (intro w hSw; (try dsimp only at hSw); go_simp; try with_reducible rfl)
                    (try simp only [Act.put, List.setIfInBounds_toArray, List.set_cons_zero, List.set_cons_succ])
                    refine take_w (i := 5) (oi := ?oZ49) (v := ?vZ49) ?hiZ49 (by kernel_rfl) (by kernel_rfl) (by kernel_rfl) ?hQZ49 ?hwZ49 ?hyZ49 (by assumption) ?restZ49
                    case hiZ49 => (simp only [List.getElem?_toArray, List.getElem?_cons_succ, List.getElem?_cons_zero] <;> rfl)
                    case hQZ49 => exact (fun _ _ _ h => h)
                    case hwZ49 => rfl
                    case hyZ49 => (intro w hSw; (try dsimp only at hSw); go_simp; try with_reducible rfl)
                    (try simp only [Act.put, List.setIfInBounds_toArray, List.set_cons_zero, List.set_cons_succ])
                    refine wpAnyH_ready (rs := [6]) (by kernel_rfl) (by simp) ?_
                    refine AllReadyH.cons (o := ?oZ50) ?hiZ50 (fun K hK => ?stZ50) AllReadyH.nil
                    case hiZ50 => (simp only [List.getElem?_toArray, List.getElem?_cons_succ, List.getElem?_cons_zero] <;> rfl)
                    go_simp
                    go_at_call 36
                    refine (refIn_any sp f t (xs[i]).key (qs[i]).ka (qs[i]).kn (qs[i]).kc _ (HSP.out.below HL8.out.drew.g.d.b) (HONE.out.k.below HL8.out.drew.g.d.b)).mono ?_
                    rintro _ w9 ⟨rfl, hb9⟩
                    have HL9 := Lib.hid (HL8.out.drew.below hb9)
                    rw [HIN.out]
                    clear hb9
                    go_simp
                    refine hK.out _ _ ?_ (fun hHeld => ?_)
                    · (first | exact ⟨HL9.out.g.d.sb.three, (HL9.out.g.o.item rfl i hlt).2.2.1⟩ | exact ⟨HL8.out.drew.g.d.sb.three, (HL8.out.drew.g.o.item rfl i hlt).2.2.1⟩)
                    clear hK K
                    (try simp only [Act.put, List.setIfInBounds_toArray, List.set_cons_zero, List.set_cons_succ])
                    refine take_w (i := 7) (oi := ?oZ51) (v := ?vZ51) ?hiZ51 (by kernel_rfl) (by kernel_rfl) (by kernel_rfl) ?hQZ51 ?hwZ51 ?hyZ51 (by assumption) ?restZ51
                    case hiZ51 => (simp only [List.getElem?_toArray, List.getElem?_cons_succ, List.getElem?_cons_zero] <;> rfl)
                    case hQZ51 => exact (fun _ _ _ h => h)
                    case hwZ51 => rfl
                    case hyZ51 => (intro w hSw; (try dsimp only at hSw); go_simp; try with_reducible rfl)
                    (try simp only [Act.put, List.setIfInBounds_toArray, List.set_cons_zero, List.set_cons_succ])
                    refine wpAnyH_done (by kernel_rfl) ?_ _
                    clear hHeld
                    go_wp2_with fail
                    exact ⟨⟨i + 1, oa, r, oc, rs, acc, (⟨false, (qs[i]).dark, (qs[i]).ka, (qs[i]).kn, (qs[i]).kc, (qs[i]).va, (qs[i]).vn, (qs[i]).vc⟩ : QI), (xs[i]).key, true, by omega, rfl, by omega, rfl, by go_num, HL9.out, by rw [HSC.out, HDR.out, scan_key HCU.out, HIN.out, if_neg (by simp)]⟩, by simp [intOf]; omega⟩
                  | true =>
                    have HIN := Lib.hid hin
                    clear hin
                    refine wp_region_held_drew (S := (fun W => (W.cell? ⟨w.heap.size + 1, 0, none⟩ = some (.slice sp.ka sp.kn sp.kc) ∧ W.cell? ⟨w.heap.size + 1, 1, none⟩ = some (.slice sp.va sp.vn sp.vc) ∧ W.cell? ⟨w.heap.size + 1, 2, none⟩ = some (.bool sp.out)) ∧ W.cell? ⟨g, i * 4 + 2, none⟩ = some (.slice (qs[i]).ka (qs[i]).kn (qs[i]).kc))) (by kernel_rfl) ⟨HL8.out.drew.g.d.sb.three, (HL8.out.drew.g.o.item rfl i hlt).2.2.1⟩ (fun hHeld => ?_)
                    refine take_w (i := 0) (oi := ?oZ52) (v := ?vZ52) ?hiZ52 (by kernel_rfl) (by kernel_rfl) (by kernel_rfl) ?hQZ52 ?hwZ52 ?hyZ52 (by assumption) ?restZ52
                    case hiZ52 => (simp only [List.getElem?_toArray, List.getElem?_cons_zero] <;> rfl)
                    case hQZ52 => exact (fun _ _ _ h => h)
                    case hwZ52 => rfl
                    case hyZ52 => (intro w hSw; (try dsimp only at hSw); go_simp; try with_reducible rfl)
                    (try simp only [Act.put, List.setIfInBounds_toArray, List.set_cons_zero, List.set_cons_succ])
                    refine take_w (i := 1) (oi := ?oZ53) (v := ?vZ53) ?hiZ53 (by kernel_rfl) (by kernel_rfl) (by kernel_rfl) ?hQZ53 ?hwZ53 ?hyZ53 (by assumption) ?restZ53
                    case hiZ53 => (simp only [List.getElem?_toArray, List.getElem?_cons_succ, List.getElem?_cons_zero] <;> rfl)
                    case hQZ53 => exact (fun _ _ _ h => h)
                    case hwZ53 => rfl
                    case hyZ53 => (intro w hSw; (try dsimp only at hSw); go_simp; try with_reducible rfl)
                    (try simp only [Act.put, List.setIfInBounds_toArray, List.set_cons_zero, List.set_cons_succ])
                    refine take_w (i := 2) (oi := ?oZ54) (v := ?vZ54) ?hiZ54 (by kernel_rfl) (by kernel_rfl) (by kernel_rfl) ?hQZ54 ?hwZ54 ?hyZ54 (by assumption) ?restZ54
                    case hiZ54 => (simp only [List.getElem?_toArray, List.getElem?_cons_succ, List.getElem?_cons_zero] <;> rfl)
                    case hQZ54 => exact (fun _ _ _ h => h)
                    case hwZ54 => rfl
                    case hyZ54 => (intro w hSw; (try dsimp only at hSw); go_simp; try with_reducible rfl)
                    (try simp only [Act.put, List.setIfInBounds_toArray, List.set_cons_zero, List.set_cons_succ])
                    refine take_w (i := 3) (oi := ?oZ55) (v := ?vZ55) ?hiZ55 (by kernel_rfl) (by kernel_rfl) (by kernel_rfl) ?hQZ55 ?hwZ55 ?hyZ55 (by assumption) ?restZ55
                    case hiZ55 => (simp only [List.getElem?_toArray, List.getElem?_cons_succ, List.getElem?_cons_zero] <;> rfl)
                    case hQZ55 => exact (fun _ _ _ h => h)
                    case hwZ55 => rfl
                    case hyZ55 => (intro w hSw; (try dsimp only at hSw); go_simp; try with_reducible rfl)
                    (try simp only [Act.put, List.setIfInBounds_toArray, List.set_cons_zero, List.set_cons_succ])
                    refine take_w (i := 4) (oi := ?oZ56) (v := ?vZ56) ?hiZ56 (by kernel_rfl) (by kernel_rfl) (by kernel_rfl) ?hQZ56 ?hwZ56 ?hyZ56 (by assumption) ?restZ56
                    case hiZ56 => (simp only [List.getElem?_toArray, List.getElem?_cons_succ, List.getElem?_cons_zero] <;> rfl)
                    case hQZ56 => exact (fun _ _ _ h => h)
                    case hwZ56 => rfl
                    case hyZ56 => (intro w hSw; (try dsimp only at hSw); go_simp; try with_reducible rfl)
                    (try simp only [Act.put, List.setIfInBounds_toArray, List.set_cons_zero, List.set_cons_succ])
                    refine take_w (i := 5) (oi := ?oZ57) (v := ?vZ57) ?hiZ57 (by kernel_rfl) (by kernel_rfl) (by kernel_rfl) ?hQZ57 ?hwZ57 ?hyZ57 (by assumption) ?restZ57
                    case hiZ57 => (simp only [List.getElem?_toArray, List.getElem?_cons_succ, List.getElem?_cons_zero] <;> rfl)
                    case hQZ57 => exact (fun _ _ _ h => h)
                    case hwZ57 => rfl
                    case hyZ57 => (intro w hSw; (try dsimp only at hSw); go_simp; try with_reducible rfl)
                    (try simp only [Act.put, List.setIfInBounds_toArray, List.set_cons_zero, List.set_cons_succ])
                    refine wpAnyH_ready (rs := [6]) (by kernel_rfl) (by simp) ?_
                    refine AllReadyH.cons (o := ?oZ58) ?hiZ58 (fun K hK => ?stZ58) AllReadyH.nil
                    case hiZ58 => (simp only [List.getElem?_toArray, List.getElem?_cons_succ, List.getElem?_cons_zero] <;> rfl)
                    go_simp
                    go_at_call 36
                    refine (refIn_any sp f t (xs[i]).key (qs[i]).ka (qs[i]).kn (qs[i]).kc _ (HSP.out.below HL8.out.drew.g.d.b) (HONE.out.k.below HL8.out.drew.g.d.b)).mono ?_
                    rintro _ w9 ⟨rfl, hb9⟩
                    have HL9 := Lib.hid (HL8.out.drew.below hb9)
                    rw [HIN.out]
                    clear hb9
                    go_simp
                    refine hK.out _ _ ?_ (fun hHeld => ?_)
                    · (first | exact ⟨HL9.out.g.d.sb.three, (HL9.out.g.o.item rfl i hlt).2.2.1⟩ | exact ⟨HL8.out.drew.g.d.sb.three, (HL8.out.drew.g.o.item rfl i hlt).2.2.1⟩)
                    clear hK K
                    (try simp only [Act.put, List.setIfInBounds_toArray, List.set_cons_zero, List.set_cons_succ])
                    refine take_w (i := 7) (oi := ?oZ59) (v := ?vZ59) ?hiZ59 (by kernel_rfl) (by kernel_rfl) (by kernel_rfl) ?hQZ59 ?hwZ59 ?hyZ59 (by assumption) ?restZ59
                    case hiZ59 => (simp only [List.getElem?_toArray, List.getElem?_cons_succ, List.getElem?_cons_zero] <;> rfl)
                    case hQZ59 => exact (fun _ _ _ h => h)
                    case hwZ59 => rfl
                    case hyZ59 => (intro w hSw; (try dsimp only at hSw); go_simp; try with_reducible rfl)
                    (try simp only [Act.put, List.setIfInBounds_toArray, List.set_cons_zero, List.set_cons_succ])
                    refine wpAnyH_done (by kernel_rfl) ?_ _
                    clear hHeld
                    have y1 := (HL9.out.g.o.item rfl i hlt).2.1
                    cases hdk : (xs[i]).dark with
                    | true =>
                      have HDK := Lib.hid hdk
                      rw [HONE.out.dark, hdk] at y1
                      clear hdk
                      go_wp2_with fail
                      go_ret2
                      have e : scanI f t sp.out [] false xs = none := by rw [HSC.out, HDR.out, scan_key HCU.out, HIN.out, if_pos rfl, if_pos HDK.out]; rfl
                      rw [HE2.out, e]
                      exact ChkPost.err _ HL9.out.g.d.b
                    | false =>
                      have HDK := Lib.hid hdk
                      rw [HONE.out.dark, hdk] at y1
                      clear hdk
                      go_upto_region 47 with fail
                      clear y1
                      have HLD := Lib.hid HL9.out.drew
                      have hr5 : r ≤ 500 := by omega
                      obtain ⟨pi, hpi, hpz⟩ := Option.map_eq_some_iff.1 infoPair
                      simp only [Prod.mk.injEq] at hpz
                      obtain ⟨hp0, hp1, hp2⟩ := hpz
                      have HPI := Lib.hid (And.intro hpi (And.intro hp0 (And.intro hp1 hp2)))
                      clear hpi hp0 hp1 hp2
                      refine wp_region_held_drew (S := (fun W => W.cell? ⟨g, i * 4 + 2, none⟩ = some (.slice (qs[i]).ka (qs[i]).kn (qs[i]).kc) ∧ W.cell? ⟨g, i * 4 + 3, none⟩ = some (.slice (qs[i]).va (qs[i]).vn (qs[i]).vc))) (by kernel_rfl) ⟨(HLD.out.g.o.item rfl i hlt).2.2.1, (HLD.out.g.o.item rfl i hlt).2.2.2⟩ (fun hHeld => ?_)
                      refine take_w (i := 0) (oi := ?oZ29) (v := ?vZ29) ?hiZ29 (by kernel_rfl) (by kernel_rfl) (by kernel_rfl) ?hQZ29 ?hwZ29 ?hyZ29 (by assumption) ?restZ29
                      case hiZ29 => (simp only [List.getElem?_toArray, List.getElem?_cons_zero] <;> rfl)
                      case hQZ29 => exact (fun _ _ _ h => h)
                      case hwZ29 => rfl
                      case hyZ29 => (intro w hSw; (try dsimp only at hSw); go_simp; try with_reducible rfl)
                      (try simp only [Act.put, List.setIfInBounds_toArray, List.set_cons_zero, List.set_cons_succ])
                      refine take_w (i := 1) (oi := ?oZ30) (v := ?vZ30) ?hiZ30 (by kernel_rfl) (by kernel_rfl) (by kernel_rfl) ?hQZ30 ?hwZ30 ?hyZ30 (by assumption) ?restZ30
                      case hiZ30 => (simp only [List.getElem?_toArray, List.getElem?_cons_succ, List.getElem?_cons_zero] <;> rfl)
                      case hQZ30 => exact (fun _ _ _ h => h)
                      case hwZ30 => rfl
                      case hyZ30 => (intro w hSw; (try dsimp only at hSw); go_simp; try with_reducible rfl)
                      (try simp only [Act.put, List.setIfInBounds_toArray, List.set_cons_zero, List.set_cons_succ])
                      refine take_w (i := 2) (oi := ?oZ31) (v := ?vZ31) ?hiZ31 (by kernel_rfl) (by kernel_rfl) (by kernel_rfl) ?hQZ31 ?hwZ31 ?hyZ31 (by assumption) ?restZ31
                      case hiZ31 => (simp only [List.getElem?_toArray, List.getElem?_cons_succ, List.getElem?_cons_zero] <;> rfl)
                      case hQZ31 => exact (fun _ _ _ h => h)
                      case hwZ31 => rfl
                      case hyZ31 => (intro w hSw; (try dsimp only at hSw); go_simp; try with_reducible rfl)
                      (try simp only [Act.put, List.setIfInBounds_toArray, List.set_cons_zero, List.set_cons_succ])
                      refine take_w (i := 3) (oi := ?oZ32) (v := ?vZ32) ?hiZ32 (by kernel_rfl) (by kernel_rfl) (by kernel_rfl) ?hQZ32 ?hwZ32 ?hyZ32 (by assumption) ?restZ32
                      case hiZ32 => (simp only [List.getElem?_toArray, List.getElem?_cons_succ, List.getElem?_cons_zero] <;> rfl)
                      case hQZ32 => exact (fun _ _ _ h => h)
                      case hwZ32 => rfl
                      case hyZ32 => (intro w hSw; (try dsimp only at hSw); go_simp; try with_reducible rfl)
                      (try simp only [Act.put, List.setIfInBounds_toArray, List.set_cons_zero, List.set_cons_succ])
                      refine take_w (i := 4) (oi := ?oZ33) (v := ?vZ33) ?hiZ33 (by kernel_rfl) (by kernel_rfl) (by kernel_rfl) ?hQZ33 ?hwZ33 ?hyZ33 (by assumption) ?restZ33
                      case hiZ33 => (simp only [List.getElem?_toArray, List.getElem?_cons_succ, List.getElem?_cons_zero] <;> rfl)
                      case hQZ33 => exact (fun _ _ _ h => h)
                      case hwZ33 => rfl
                      case hyZ33 => (intro w hSw; (try dsimp only at hSw); go_simp; try with_reducible rfl)
                      (try simp only [Act.put, List.setIfInBounds_toArray, List.set_cons_zero, List.set_cons_succ])
                      refine take_w (i := 5) (oi := ?oZ34) (v := ?vZ34) ?hiZ34 (by kernel_rfl) (by kernel_rfl) (by kernel_rfl) ?hQZ34 ?hwZ34 ?hyZ34 (by assumption) ?restZ34
                      case hiZ34 => (simp only [List.getElem?_toArray, List.getElem?_cons_succ, List.getElem?_cons_zero] <;> rfl)
                      case hQZ34 => exact (fun _ _ _ h => h)
                      case hwZ34 => rfl
                      case hyZ34 => (intro w hSw; (try dsimp only at hSw); go_simp; try with_reducible rfl)
                      (try simp only [Act.put, List.setIfInBounds_toArray, List.set_cons_zero, List.set_cons_succ])
                      refine take_w (i := 6) (oi := ?oZ35) (v := ?vZ35) ?hiZ35 (by kernel_rfl) (by kernel_rfl) (by kernel_rfl) ?hQZ35 ?hwZ35 ?hyZ35 (by assumption) ?restZ35
                      case hiZ35 => (simp only [List.getElem?_toArray, List.getElem?_cons_succ, List.getElem?_cons_zero] <;> rfl)
                      case hQZ35 => exact (fun _ _ _ h => h)
                      case hwZ35 => rfl
                      case hyZ35 => (intro w hSw; (try dsimp only at hSw); go_simp; try with_reducible rfl)
                      (try simp only [Act.put, List.setIfInBounds_toArray, List.set_cons_zero, List.set_cons_succ])
                      refine take_w (i := 7) (oi := ?oZ36) (v := ?vZ36) ?hiZ36 (by kernel_rfl) (by kernel_rfl) (by kernel_rfl) ?hQZ36 ?hwZ36 ?hyZ36 (by assumption) ?restZ36
                      case hiZ36 => (simp only [List.getElem?_toArray, List.getElem?_cons_succ, List.getElem?_cons_zero] <;> rfl)
                      case hQZ36 => exact (fun _ _ _ h => h)
                      case hwZ36 => rfl
                      case hyZ36 => (intro w hSw; (try dsimp only at hSw); go_simp; try with_reducible rfl)
                      (try simp only [Act.put, List.setIfInBounds_toArray, List.set_cons_zero, List.set_cons_succ])
                      refine take_w (i := 8) (oi := ?oZ37) (v := ?vZ37) ?hiZ37 (by kernel_rfl) (by kernel_rfl) (by kernel_rfl) ?hQZ37 ?hwZ37 ?hyZ37 (by assumption) ?restZ37
                      case hiZ37 => (simp only [List.getElem?_toArray, List.getElem?_cons_succ, List.getElem?_cons_zero] <;> rfl)
                      case hQZ37 => exact (fun _ _ _ h => h)
                      case hwZ37 => rfl
                      case hyZ37 => (intro w hSw; (try dsimp only at hSw); go_simp; try with_reducible rfl)
                      (try simp only [Act.put, List.setIfInBounds_toArray, List.set_cons_zero, List.set_cons_succ])
                      refine take_w (i := 9) (oi := ?oZ38) (v := ?vZ38) ?hiZ38 (by kernel_rfl) (by kernel_rfl) (by kernel_rfl) ?hQZ38 ?hwZ38 ?hyZ38 (by assumption) ?restZ38
                      case hiZ38 => (simp only [List.getElem?_toArray, List.getElem?_cons_succ, List.getElem?_cons_zero] <;> rfl)
                      case hQZ38 => exact (fun _ _ _ h => h)
                      case hwZ38 => rfl
                      case hyZ38 => (intro w hSw; (try dsimp only at hSw); go_simp; try with_reducible rfl)
                      (try simp only [Act.put, List.setIfInBounds_toArray, List.set_cons_zero, List.set_cons_succ])
                      refine take_w (i := 10) (oi := ?oZ39) (v := ?vZ39) ?hiZ39 (by kernel_rfl) (by kernel_rfl) (by kernel_rfl) ?hQZ39 ?hwZ39 ?hyZ39 (by assumption) ?restZ39
                      case hiZ39 => (simp only [List.getElem?_toArray, List.getElem?_cons_succ, List.getElem?_cons_zero] <;> rfl)
                      case hQZ39 => exact (fun _ _ _ h => h)
                      case hwZ39 => rfl
                      case hyZ39 => (intro w hSw; (try dsimp only at hSw); go_simp; try with_reducible rfl)
                      (try simp only [Act.put, List.setIfInBounds_toArray, List.set_cons_zero, List.set_cons_succ])
                      refine take_w (i := 11) (oi := ?oZ40) (v := ?vZ40) ?hiZ40 (by kernel_rfl) (by kernel_rfl) (by kernel_rfl) ?hQZ40 ?hwZ40 ?hyZ40 (by assumption) ?restZ40
                      case hiZ40 => (simp only [List.getElem?_toArray, List.getElem?_cons_succ, List.getElem?_cons_zero] <;> rfl)
                      case hQZ40 => exact (fun _ _ _ h => h)
                      case hwZ40 => rfl
                      case hyZ40 => (intro w hSw; (try dsimp only at hSw); go_simp; try with_reducible rfl)
                      (try simp only [Act.put, List.setIfInBounds_toArray, List.set_cons_zero, List.set_cons_succ])
                      refine wpAnyH_ready (rs := [12]) (by kernel_rfl) (by simp) ?_
                      refine AllReadyH.cons (o := ?oZ41) ?hiZ41 (fun K hK => ?stZ41) AllReadyH.nil
                      case hiZ41 => (simp only [List.getElem?_toArray, List.getElem?_cons_succ, List.getElem?_cons_zero] <;> rfl)
                      go_simp
                      refine hK.out _ _ ?_ (fun hHeld => ?_)
                      · (first | exact ⟨(HLF.out.g.o.item rfl i hlt).2.2.1, (HLF.out.g.o.item rfl i hlt).2.2.2⟩ | exact ⟨(HLD.out.g.o.item rfl i hlt).2.2.1, (HLD.out.g.o.item rfl i hlt).2.2.2⟩ | exact ⟨((HLD.out.below ((Below.refl _ _).alloc (Nat.le_refl _) _)).g.o.item rfl i hlt).2.2.1, ((HLD.out.below ((Below.refl _ _).alloc (Nat.le_refl _) _)).g.o.item rfl i hlt).2.2.2⟩)
                      clear hK K
                      (try simp only [Act.put, List.setIfInBounds_toArray, List.set_cons_zero, List.set_cons_succ])
                      refine wpAnyH_ready (rs := [13]) (by kernel_rfl) (by simp) ?_
                      refine AllReadyH.cons (o := ?oZ42) ?hiZ42 (fun K hK => ?stZ42) AllReadyH.nil
                      case hiZ42 => (simp only [List.getElem?_toArray, List.getElem?_cons_succ, List.getElem?_cons_zero] <;> rfl)
                      have qa : Below w9.drew.heap.size w9.drew (w9.drew.alloc (.cells #[.slice (qs[i]).ka (qs[i]).kn (qs[i]).kc, .slice (qs[i]).va (qs[i]).vn (qs[i]).vc] 53)) := (Below.refl _ _).alloc (Nat.le_refl _) _
                      have HLA := Lib.hid (HLD.out.below qa)
                      refine step_append_rec _ rfl (.tmp 165) (.tmp 177) 30 rfl recP b3 53 pi _ 48 Tryd.underlying30 HPI.out.1 HPI.out.2.1 HPI.out.2.2.1 HPI.out.2.2.2 rfl (.slice oa r oc) rs rfl HLA.out.row w9.heap.size 1 (⟨(qs[i]).ka, (qs[i]).kn, (qs[i]).kc, (qs[i]).va, (qs[i]).vn, (qs[i]).vc⟩ : PH) rfl (RBox.cell (c := recP) (r := (⟨(qs[i]).ka, (qs[i]).kn, (qs[i]).kc, (qs[i]).va, (qs[i]).vn, (qs[i]).vc⟩ : PH)) (heap_alloc_new w9.drew _)) ?_ (by omega) HLA.out.b3w ?_
                      · rw [HLD.out.rl]
                        omega
                      intro v9 wf ho9 hg9 _ _
                      obtain ⟨oa9, oc9, hv9⟩ := ho9.sl
                      have hlen9 : (rs ++ [(⟨(qs[i]).ka, (qs[i]).kn, (qs[i]).kc, (qs[i]).va, (qs[i]).vn, (qs[i]).vc⟩ : PH)]).length = r + 1 := by simp [HLD.out.rl]
                      rw [hlen9] at hv9
                      subst hv9
                      have HLF := Lib.hid (HLA.out.app (q := ((xs[i]).key, (xs[i]).val)) hg9 ho9 HONE.out.k HONE.out.v)
                      clear ho9 hg9 hlen9 qa
                      refine hK.out _ _ ?_ (fun hHeld => ?_)
                      · (first | exact ⟨(HLF.out.g.o.item rfl i hlt).2.2.1, (HLF.out.g.o.item rfl i hlt).2.2.2⟩ | exact ⟨(HLD.out.g.o.item rfl i hlt).2.2.1, (HLD.out.g.o.item rfl i hlt).2.2.2⟩ | exact ⟨((HLD.out.below ((Below.refl _ _).alloc (Nat.le_refl _) _)).g.o.item rfl i hlt).2.2.1, ((HLD.out.below ((Below.refl _ _).alloc (Nat.le_refl _) _)).g.o.item rfl i hlt).2.2.2⟩)
                      clear hK K
                      (try simp only [Act.put, List.setIfInBounds_toArray, List.set_cons_zero, List.set_cons_succ])
                      refine take_w (i := 14) (oi := ?oZ43) (v := ?vZ43) ?hiZ43 (by kernel_rfl) (by kernel_rfl) (by kernel_rfl) ?hQZ43 ?hwZ43 ?hyZ43 (by assumption) ?restZ43
                      case hiZ43 => (simp only [List.getElem?_toArray, List.getElem?_cons_succ, List.getElem?_cons_zero] <;> rfl)
                      case hQZ43 => exact (fun _ _ _ h => h)
                      case hwZ43 => rfl
                      case hyZ43 => (intro w hSw; (try dsimp only at hSw); go_simp; try with_reducible rfl)
                      (try simp only [Act.put, List.setIfInBounds_toArray, List.set_cons_zero, List.set_cons_succ])
                      refine wpAnyH_done (by kernel_rfl) ?_ _
                      clear hHeld
                      go_wp2_with fail
                      exact ⟨⟨i + 1, oa9, r + 1, oc9, rs ++ [(⟨(qs[i]).ka, (qs[i]).kn, (qs[i]).kc, (qs[i]).va, (qs[i]).vn, (qs[i]).vc⟩ : PH)], acc ++ [((xs[i]).key, (xs[i]).val)], (⟨false, (qs[i]).dark, (qs[i]).ka, (qs[i]).kn, (qs[i]).kc, (qs[i]).va, (qs[i]).vn, (qs[i]).vc⟩ : QI), (xs[i]).key, true, by omega, rfl, by omega, rfl, by go_num, HLF.out, by
                        rw [HSC.out, HDR.out, scan_key HCU.out, HIN.out, if_pos rfl, if_neg (by rw [HDK.out]; simp), Option.map_map]
                        congr 1
                        funext z
                        simp⟩, by simp [intOf]; omega⟩
              · obtain rfl : i = qs.length := by omega
                have q1 : ¬ (qs.length : Int) < (qs.length : Int) := by omega
                clear hlb hsc
                go_wp2_with fail
                go_ret2
                have e : scanI f t sp.out [] false xs = some acc := by
                  rw [HSC.out, HI5.out.1, List.drop_length, scanI]
                  simp
                rw [HE2.out, e]
                exact ⟨oa, r, oc, rs, rfl, HLB.out.row.weak (by have q1 := HLB.out.g.w1; have q2 := HLB.out.g.w2; have q3 := HLB.out.gb; have q4 := HLB.out.gl2; omega), HLB.out.rl, HLB.out.pin, HLB.out.g.d.b⟩
end Go.Proofs.YtlbiefddcimdgaaDoor

/- The contract of whether a proof covers a span. -/
namespace Go.Proofs.YtlbiefddcimdgaaDoor
open Go.RowKit
set_option linter.unusedVariables false

/-- The boxes of covers, and the row of nodes. -/
structure CX (w W : World) (h : TH) (sp : DH) (base : Nat) (a : Option Addr) (n c : Nat) (hs : List TH) (ts : List Tr) : Prop where
  box : Box W 27 w.heap.size h
  sb : RBox recD W 24 (w.heap.size + 1) sp
  b : Below w.heap.size w W
  r : RT W base a n c hs ts
section
variable {w W W' : World} {h : TH} {sp : DH} {base : Nat} {a : Option Addr} {n c : Nat} {hs : List TH} {ts : List Tr}
theorem CX.below (x : CX w W h sp base a n c hs ts) (hb : Below W.heap.size W W') : CX w W' h sp base a n c hs ts := ⟨x.box.below hb x.box.lt, x.sb.below hb x.sb.lt, x.b.trans (hb.mono x.b.size), x.r.below hb⟩
end
theorem list_keys {p : Tr} (hf : formedT p = true) : ∀ x ∈ listT p, x.key.length ≤ 80 ∧ x.val.length ≤ 1024 := by
  revert hf
  induction p using Tr.ind with
  | h p ih =>
  intro hf x hx
  obtain ⟨hp, hk⟩ := formed_kids hf
  rcases part_kids hp with ⟨h0, _⟩ | ⟨h2, _⟩
  · rw [listT_0 h0] at hx
    cases hx
  · rw [listT_2 h2, List.mem_append, List.mem_cons] at hx
    rcases hx with hx | rfl | hx
    · exact ih _ (List.getElem_mem (by omega : 0 < p.kids.length)) (hk 0 (by omega)) x hx
    · exact part_lens80 hp
    · exact ih _ (List.getElem_mem (by omega : 1 < p.kids.length)) (hk 1 (by omega)) x hx
/-- What covers tells. -/
def Covers (w : World) (f t : List Int) (o : Bool) (p : Tr) (e : Ending) (w' : World) : Prop := ∃ b, e = .returned (.bool b) ∧ (b = true ↔ CovT f t o p) ∧ Below w.heap.size w w'

set_option maxRecDepth 100000 in
set_option maxHeartbeats 4000000 in
theorem covers_any (p : Tr) (h : TH) (hs : List TH) (base : Nat) (a : Option Addr) (n c : Nat) (sp : DH) (f t : List Int) (w : World) (ht : InTree w h p) (hf : formedT p = true) (hcn : countT p ≤ 500) (hr : RT w base a n c hs (listT p)) (hsp : SpanIn w sp f t) :
    Calls Tryd.prog 30 #[h.v, .slice a n c, sp.v] w (Covers w f t sp.out p) := by
  unfold TH.v DH.v
  obtain ⟨e1, e2, e3, e4⟩ := enterS w h sp
  have HX : Hid (CX w ((w.alloc (.cells #[.int .i64 h.k, .slice h.ka h.kn h.kc, .slice h.va h.vn h.vc, .slice h.da h.dn h.dc, .slice h.ta h.tn h.tc] 27)).alloc (.cells #[.slice sp.ka sp.kn sp.kc, .slice sp.va sp.vn sp.vc, .bool sp.out] 24)) h sp base a n c hs (listT p)) := Lib.hid ⟨e1, e2, e3, hr.below (((Below.refl _ _).alloc (Nat.le_refl _) _).alloc (by simp) _)⟩
  have HT := Lib.hid ht
  have HSP := Lib.hid hsp
  have hll := list_len p hf
  have htl := hr.l
  have hn5 : n ≤ 500 := by omega
  have HKL := Lib.hid (list_keys hf)
  have hwv := (items_weave p hf).2
  have hel := ends_len p
  have hhl := hr.hl
  clear e1 e2 e3 e4 ht hsp hr hll
  go_enter Tryd.func30, Tryd.ntmps30
  go_upto_region 1 with fail
  generalize ((w.alloc (.cells #[.int .i64 h.k, .slice h.ka h.kn h.kc, .slice h.va h.vn h.vc, .slice h.da h.dn h.dc, .slice h.ta h.tn h.tc] 27)).alloc (.cells #[.slice sp.ka sp.kn sp.kc, .slice sp.va sp.vn sp.vc, .bool sp.out] 24)) = w0 at *
  go_wp2_with fail
  go_loopw [13] (fun s13 wx => ∃ i : Nat, i ≤ n ∧ s13 = .int .i64 i ∧ CX w wx h sp base a n c hs (listT p) ∧ ∀ j (h2 : j < (listT p).length), j < i → darkB f t sp.out (listT p)[j] = false) (fun s13 _ => n - (intOf s13).toNat)
  case atStart => exact ⟨0, by omega, rfl, HX.out, fun j _ hj => by omega⟩
  case round =>
    clear HX
    obtain ⟨i, hi, rfl, hx, hall⟩ := hrel
    have HX := Lib.hid hx
    have HA := Lib.hid hall
    clear hx hall
    by_cases hlt : i < n
    · have q1 : (i : Int) < (n : Int) := by omega
      have him : i < hs.length := by omega
      have hix : i < (listT p).length := by omega
      obtain ⟨g, hga⟩ := HX.out.r.block hlt
      subst hga
      obtain ⟨k0, k1, k2, k3, k4⟩ := HX.out.r.cells i him
      have HKD : Hid ((hs[i]).k = ((listT p)[i]).k) := Lib.hid (HX.out.r.kind i him hix)
      go_upto_region 4 with fail
      have b5 : Below wr.heap.size wr (wr.alloc (.cells #[.int .i64 (hs[i]).k, .slice (hs[i]).ka (hs[i]).kn (hs[i]).kc, .slice (hs[i]).va (hs[i]).vn (hs[i]).vc, .slice (hs[i]).da (hs[i]).dn (hs[i]).dc, .slice (hs[i]).ta (hs[i]).tn (hs[i]).tc] 27)) := (Below.refl _ _).alloc (Nat.le_refl _) _
      have bx := Box.new wr 27 (hs[i])
      generalize (wr.alloc (.cells #[.int .i64 (hs[i]).k, .slice (hs[i]).ka (hs[i]).kn (hs[i]).kc, .slice (hs[i]).va (hs[i]).vn (hs[i]).vc, .slice (hs[i]).da (hs[i]).dn (hs[i]).dc, .slice (hs[i]).ta (hs[i]).tn (hs[i]).tc] 27)) = w5 at *
      have HX5 := Lib.hid (HX.out.below b5)
      obtain ⟨y0, y1, y2, y3, y4⟩ := bx.cells
      have HXB := Lib.hid bx
      generalize wr.heap.size = g8 at *
      clear b5 bx k0 k1 k2 k3 k4
      cases hk2 : ((hs[i]).k == 2) with
      | false =>
        have HK2 := Lib.hid hk2
        go_wp2_with fail
        exact ⟨⟨i + 1, by omega, by go_num, HX5.out, fun j h2 hj => by
          by_cases e : j = i
          · subst e
            unfold darkB
            rw [← HKD.out, HK2.out, Bool.false_and]
          · exact HA.out j h2 (by omega)⟩, by simp [intOf]; omega⟩
      | true =>
        have HD : Hid (darkB f t sp.out (listT p)[i] = inS f t sp.out ((listT p)[i]).key) := Lib.hid (by unfold darkB; rw [← HKD.out, hk2, Bool.true_and])
        obtain ⟨z0, z1, z2⟩ := HX5.out.sb.three
        cases hin : inS f t sp.out ((listT p)[i]).key with
        | true =>
          have HIN := Lib.hid hin
          clear hin
          go_wp2_with (first
            | (go_at_call 22
               refine (scanIn_any sp f t ((listT p)[i]).key (hs[i]).ka (hs[i]).kn (hs[i]).kc _ (HSP.out.below HX5.out.b) (HX5.out.r.key i him hix)).mono ?_
               rintro _ w6 ⟨rfl, hb6⟩
               have HX6 := Lib.hid (HX5.out.below hb6)
               rw [HIN.out]
               clear hb6 y0 y1 y2 y3 y4 z0 z1 z2))
          go_ret
          refine ⟨false, rfl, ⟨fun q => (by cases q), fun q => ?_⟩, HX6.out.b⟩
          have q2 := q.1 _ (List.getElem_mem hix)
          rw [HD.out, HIN.out] at q2
          cases q2
        | false =>
          have HIN := Lib.hid hin
          clear hin
          go_wp2_with (first
            | (go_at_call 22
               refine (scanIn_any sp f t ((listT p)[i]).key (hs[i]).ka (hs[i]).kn (hs[i]).kc _ (HSP.out.below HX5.out.b) (HX5.out.r.key i him hix)).mono ?_
               rintro _ w6 ⟨rfl, hb6⟩
               have HX6 := Lib.hid (HX5.out.below hb6)
               rw [HIN.out]
               clear hb6 y0 y1 y2 y3 y4 z0 z1 z2))
          exact ⟨⟨i + 1, by omega, by go_num, HX6.out, fun j h2 hj => by
            by_cases e : j = i
            · subst e
              rw [HD.out, HIN.out]
            · exact HA.out j h2 (by omega)⟩, by simp [intOf]; omega⟩
    · obtain rfl : i = n := by omega
      have q1 : ¬ (i : Int) < (i : Int) := by omega
      have HDK : Hid (∀ x ∈ listT p, darkB f t sp.out x = false) := Lib.hid (fun x hx => by
        obtain ⟨j, hj, rfl⟩ := List.mem_iff_getElem.1 hx
        exact HA.out j hj (by omega))
      obtain ⟨x0, x1, x2, x3, x4⟩ := HX.out.box.cells
      clear HA hi
      go_upto_region 7 with fail
      go_wp2_with (first
        | (go_at_call 56
           refine (ends_any p h _ (HT.out.lower HX.out.b) (by omega)).mono ?_
           rintro _ w7 ⟨v7, es, rfl, ho7, hh7, hb7⟩
           obtain ⟨ea, ec, hv7⟩ := ho7.sl
           subst hv7
           have HX7 := Lib.hid (HX.out.below hb7)
           have HR7 : Hid (RT w7 wr.heap.size ea es.length ec es (endsT p)) := Lib.hid ⟨ho7, hh7.lower hb7, hh7.1.symm⟩
           clear ho7 hh7 hb7 x0 x1 x2 x3 x4))
      have hem : es.length = (endsT p).length := HR7.out.l.symm
      generalize wr.heap.size = base2 at *
      generalize hm : es.length = m at *
      have HM := Lib.hid hm
      have HME : Hid (m = (endsT p).length ∧ m = i + 1) := Lib.hid ⟨hem, by omega⟩
      have HTL := Lib.hid htl
      have hm5 : m ≤ 501 := by omega
      clear hm hem htl hwv hel hhl
      go_loopw [30] (fun s30 wx => ∃ k : Nat, k ≤ m ∧ s30 = .int .i64 k ∧ CX w wx h sp base a i c hs (listT p) ∧ RT wx base2 ea m ec es (endsT p) ∧ ∀ j (h2 : j < (endsT p).length), j < k → gapB f t sp.out [] false (listT p) j (endsT p)[j] = true) (fun s30 _ => m - (intOf s30).toNat)
      case atStart => exact ⟨0, by omega, rfl, HX7.out, HR7.out, fun j _ hj => by omega⟩
      case round =>
        clear HX7 HR7
        obtain ⟨k, hk, rfl, hx, hr, hall⟩ := hrel
        have HX := Lib.hid hx
        have HR := Lib.hid hr
        have HA := Lib.hid hall
        clear hx hr hall
        by_cases hlt : k < m
        · have q2 : (k : Int) < (m : Int) := by omega
          have him : k < es.length := by rw [HM.out]; exact hlt
          have hix : k < (endsT p).length := by have := HME.out; omega
          obtain ⟨g, hga⟩ := HR.out.block hlt
          subst hga
          obtain ⟨k0, k1, k2, k3, k4⟩ := HR.out.cells k him
          have HKD : Hid ((es[k]).k = ((endsT p)[k]).k) := Lib.hid (HR.out.kind k him hix)
          go_upto_region 10 with fail
          have b5 : Below wr.heap.size wr (wr.alloc (.cells #[.int .i64 (es[k]).k, .slice (es[k]).ka (es[k]).kn (es[k]).kc, .slice (es[k]).va (es[k]).vn (es[k]).vc, .slice (es[k]).da (es[k]).dn (es[k]).dc, .slice (es[k]).ta (es[k]).tn (es[k]).tc] 27)) := (Below.refl _ _).alloc (Nat.le_refl _) _
          have bx := Box.new wr 27 (es[k])
          generalize (wr.alloc (.cells #[.int .i64 (es[k]).k, .slice (es[k]).ka (es[k]).kn (es[k]).kc, .slice (es[k]).va (es[k]).vn (es[k]).vc, .slice (es[k]).da (es[k]).dn (es[k]).dc, .slice (es[k]).ta (es[k]).tn (es[k]).tc] 27)) = w5 at *
          have HX5 := Lib.hid (HX.out.below b5)
          have HR5 := Lib.hid (HR.out.below b5)
          have y0 := bx.cells.1
          have HXB := Lib.hid bx
          generalize wr.heap.size = g8 at *
          clear b5 bx k0 k1 k2 k3 k4
          cases hk3 : ((es[k]).k == 3) with
          | false =>
            have HK3 := Lib.hid hk3
            go_wp2_with fail
            exact ⟨⟨k + 1, by omega, by go_num, HX5.out, HR5.out, fun j h2 hj => by
              by_cases e : j = k
              · subst e
                unfold gapB
                have q3 := HK3.out
                rw [HKD.out] at q3
                have q4 : ((endsT p)[j].k != 3) = true := by rw [bne, q3]; rfl
                rw [q4, Bool.true_or]
              · exact HA.out j h2 (by omega)⟩, by simp [intOf]; omega⟩
          | true =>
            have HG : Hid (gapB f t sp.out [] false (listT p) k (endsT p)[k] = emptyS f t sp.out (if k = 0 then [] else ((listT p).getD (k - 1) (.mk 0 [] [] [] [])).key) ((listT p).getD k (.mk 0 [] [] [] [])).key (decide (0 < k)) (decide (k < i))) := Lib.hid (by
              unfold gapB
              have q4 : ((endsT p)[k].k != 3) = false := by rw [← HKD.out, bne, hk3]; rfl
              rw [q4, Bool.false_or, Bool.false_or, HTL.out])
            obtain ⟨z0, z1, z2⟩ := HX5.out.sb.three
            have hki : k ≤ i := by have := HME.out; omega
            generalize hgr : emptyS f t sp.out (if k = 0 then [] else ((listT p).getD (k - 1) (.mk 0 [] [] [] [])).key) ((listT p).getD k (.mk 0 [] [] [] [])).key (decide (0 < k)) (decide (k < i)) = gr at *
            have HGR := Lib.hid hgr
            clear hgr
            cases gr with
            | false =>
              go_wp2_with (first
                | (go_at_call 57
                   refine (gap_any (listT p) hs base a i c k sp f t _ HX5.out.r hki hn5 (HSP.out.below HX5.out.b) (fun x hx => (HKL.out x hx).1)).mono ?_
                   rintro _ w6 ⟨rfl, hb6⟩
                   have HX6 := Lib.hid (HX5.out.below hb6)
                   rw [HGR.out]
                   clear hb6 y0 z0 z1 z2))
              go_ret
              refine ⟨false, rfl, ⟨fun q => (by cases q), fun q => ?_⟩, HX6.out.b⟩
              have q3 := q.2 k hix
              rw [HG.out] at q3
              cases q3
            | true =>
              go_wp2_with (first
                | (go_at_call 57
                   refine (gap_any (listT p) hs base a i c k sp f t _ HX5.out.r hki hn5 (HSP.out.below HX5.out.b) (fun x hx => (HKL.out x hx).1)).mono ?_
                   rintro _ w6 ⟨rfl, hb6⟩
                   have HX6 := Lib.hid (HX5.out.below hb6)
                   have HR6 := Lib.hid (HR5.out.below hb6)
                   rw [HGR.out]
                   clear hb6 y0 z0 z1 z2))
              exact ⟨⟨k + 1, by omega, by go_num, HX6.out, HR6.out, fun j h2 hj => by
                by_cases e : j = k
                · subst e
                  exact HG.out
                · exact HA.out j h2 (by omega)⟩, by simp [intOf]; omega⟩
        · obtain rfl : k = m := by omega
          have q2 : ¬ (k : Int) < (k : Int) := by omega
          go_wp2_with fail
          go_ret
          exact ⟨true, rfl, ⟨fun _ => ⟨HDK.out, fun j hj => HA.out j hj (by have := HME.out; omega)⟩, fun _ => rfl⟩, HX.out.b⟩
end Go.Proofs.YtlbiefddcimdgaaDoor
