/- The contracts of the program's Number and Bytes. The contracts of the program's preimages. The contract of the program's digest. The contracts of the program's digests of a tree's parts. The contracts of the program's trees: Digest. The error's number that a digest has of a tree. No program is named here. The program's Digest where it tells an error. The contract of the program's Full. The contracts of isWidth and withKids of the program's layer 11; of the digest of a part. The order of strings is the order of keys. No program is named here. Rows of records in one's own memory, and as arguments. No program is named here. A tree that is an argument is one that lies in memory. No program is named here. Records of two byte strings and a bit. No program is named here. Spans of keys: what the document says of them, as functions. No program is named here. The proof of a balanced tree for a span, as a function: its digest, its form, its nodes. No program is named here. What a proof shows of a span, as a function: its items, their order, what is covered. No program is named here. Points, and spans in which no key is left. No program is named here. What is told of a span: keys of the proof, in the span; of a point's span one at most. No program is named here. Partial trees by their kinds; the search for two unlike texts of one digest, as a function: what it finds is right; where it finds nothing, what covers a span tells the same. No program is named here. Trees in parts, as functions: a head, its parts, and what is laid together of them; their digests. No program is named here. Rows of slices in one's own memory; append(a, b...) where b came in. No program is named here. Rows of one's own, of unlike types. The contract of the document's list of the digests that are missing. The contract of the document's Full. The contracts of the document's Number and Bytes. The contracts of the document's preimages. -/
import Derived.Test.YtkcmohmfejmfoaaGreatDoorPrLen
import Derived.Test.YtkcmohmfejmfoaaGreatDoorMAB
import Derived.Test.YtkcmohmfejmfoaaGreatDoorMAA
import Derived.Lib.SliceRun
/- The contracts of the program's Number and Bytes. -/
namespace Go.Proofs.YtkcmohmfejmfoaaGreatDoor
open Go.RowKit
set_option linter.unusedVariables false

theorem nd_of_len {v : Nat} {r : Int} (h : LenAt v r) : ∃ L : Nat, r = (L : Int) ∧ L ≤ 64 ∧ (L + 7) / 8 = nd v := by
  obtain ⟨k, l, rfl, h1, h2, h3, h4, h5⟩ := h
  have e0 : ((v : Int) / 256 ^ k) = ((v / 256 ^ k : Nat) : Int) := by rw [Int.natCast_ediv, Int.natCast_pow]; rfl
  rw [e0] at h3 h4
  have hn : k + 1 = nd v := by
    refine nd_unique ?_ (.inr ?_)
    · rw [← div_step]; omega
    · rw [Nat.add_sub_cancel]; omega
  exact ⟨8 * k + l.toNat, by omega, by omega, by omega⟩
theorem len64_any (v : Nat) (w : World) (hp : 0 < v) (hv : v < 18446744073709551616) :
    Calls Tryz.prog 103 #[.int .u64 v] w (fun e w' => (∃ L : Nat, e = .returned (.int .i64 L) ∧ L ≤ 64 ∧ (L + 7) / 8 = nd v) ∧ w' = w) :=
  (len64_raw v w (by omega) (by omega)).mono fun e w' ⟨⟨r, h1, h2⟩, h3⟩ => by
    obtain ⟨L, rfl, h⟩ := nd_of_len h2
    exact ⟨⟨L, h1, h⟩, h3⟩

/-- What has been written when i of the m bytes are there. -/
def part (m v i : Nat) : List Int := ((247 + m : Nat) : Int) :: (List.replicate (m - i) 0 ++ be i v)
theorem part_length (m v i : Nat) (h : i ≤ m) : (part m v i).length = m + 1 := by simp [part, be_length]; omega
theorem part_zero (m v : Nat) : part m v 0 = ((247 + m : Nat) : Int) :: List.replicate m 0 := by simp [part, be]
theorem part_set (m v i : Nat) (h : i < m) : (part m v i).set (m - i) ((v / 256 ^ i % 256 : Nat) : Int) = part m v (i + 1) := by
  have e1 : m - i = (m - (i + 1)) + 1 := by omega
  have e2 : List.replicate (m - i) (0 : Int) = List.replicate (m - (i + 1)) 0 ++ [0] := by rw [e1, List.replicate_succ']
  unfold part
  rw [e2]
  conv => lhs; rw [e1]
  rw [List.set_cons_succ, List.append_assoc, List.set_append_right _ _ (by simp)]
  simp [be]
theorem shr_is (v i : Nat) : (v : Int) / 2 ^ (8 * (i : Int)).toNat = ((v / 256 ^ i : Nat) : Int) := by
  rw [show (8 * (i : Int)).toNat = 8 * i by omega, Int.natCast_ediv, Int.natCast_pow, Int.pow_mul]
  rfl

set_option maxRecDepth 100000 in
set_option maxHeartbeats 2000000 in
theorem number_any (v : Nat) (w : World) (hv : v < 18446744073709551616) :
    Calls Tryz.prog 98 #[.int .u64 v] w (OwnPost w (numL v)) := by
  obtain ⟨i0, hi0, hz0, hz1, hz2⟩ := info_parts infoU8
  go_enter Tryz.func98, Tryz.ntmps98
  by_cases h : v < 248
  · have hb : (v : Int) ≤ 247 := by omega
    go_wp2_with fail
    go_ret
    have e : numL v = [(v : Int)] := by unfold numL; rw [if_pos h]
    rw [e]
    exact ⟨w.heap.size, 1, rfl, own_new w 5 .u8 [(v : Int)] w.heap.size (Nat.le_refl _) (by simp [maxLen]), (Below.refl _ _).alloc (Nat.le_refl _) _⟩
  · have hb : ¬ (v : Int) ≤ 247 := by omega
    have hm1 := nd_one (v := v) (by omega)
    have hm8 := nd_64 hv
    have hlen := Lib.hid (fun W => len64_any v W (by omega) hv)
    obtain ⟨m, hm⟩ : ∃ m, m = nd v := ⟨_, rfl⟩
    rw [← hm] at hm1 hm8 hlen
    have HM := Lib.hid hm
    clear hm
    go_wp2_with (first
      | (go_at_call 103
         (with_reducible refine (hlen.out _).mono ?_)
         rintro _ w1 ⟨⟨L, rfl, hL1, hL2⟩, rfl⟩
         have hLq : ((L : Int) + 7) / 8 = (m : Int) := by omega
         have hLq2 : ((L : Int) + 7).tdiv 8 = (m : Int) := by rw [Int.tdiv_eq_ediv_of_nonneg (by omega)]; exact hLq)
      | (at_make
         refine wpList_make_ints _ rfl (.tmp 16) (.tmp 16) 22 rfl 5 i0 .u8 Tryz.underlying22 hi0 hz0 hz1 .i64 .i64 _ _ (1 + m) rfl rfl (by push_cast; omega) (by push_cast; omega) (by rw [hz2]; omega) (by simp only [maxLen]; omega) ?_
         intro w2 hr2 hb2 hs2
         obtain ⟨z0, hc0⟩ := hr2.has 0 (by simp; omega)
         have hf0 := hr2.frozen 0
         have HR2 := Lib.hid hr2
         have HB2 := Lib.hid hb2
         clear hr2 hs2 hb2))
    have hrow : Row .u8 (w2.setCell ⟨w1.heap.size, 0, none⟩ (.int .u8 (247 + (m : Int)))) 5 w1.heap.size (part m v 0) := by
      have h := HR2.out.set 0 (247 + (m : Int))
      rw [part_zero, show (((247 + m : Nat)) : Int) = 247 + (m : Int) by omega]
      rwa [Nat.add_comm 1 m, List.replicate_succ, List.set_cons_zero] at h
    have hbel : Below w1.heap.size w1 (w2.setCell ⟨w1.heap.size, 0, none⟩ (.int .u8 (247 + (m : Int)))) := HB2.out.setCell (Nat.le_refl _) _
    have H0 := Lib.hid (And.intro hrow hbel)
    clear hrow hbel HR2 HB2 hc0 hf0 hLq hLq2 hL1 hL2 hlen
    go_loopw [24] (fun s24 wx => ∃ i : Nat, i ≤ m ∧ s24 = .int .i64 i ∧ Row .u8 wx 5 w1.heap.size (part m v i) ∧ Below w1.heap.size w1 wx) (fun s24 _ => m - (intOf s24).toNat)
    case atStart => exact ⟨0, by omega, rfl, H0.out.1, H0.out.2⟩
    case round =>
      obtain ⟨i, hi, rfl, hr, hbl⟩ := hrel
      by_cases hlt : i < m
      · have q1 : (i : Int) < (m : Int) := by omega
        have q2 : (0 : Int) ≤ (m : Int) - (i : Int) := by omega
        have q3 : (m : Int) - (i : Int) < 1 + (m : Int) := by omega
        have q4 : ((m : Int) - (i : Int)).toNat = m - i := by omega
        have q5 : (0 : Int) ≤ 8 * (i : Int) := by omega
        have q6 : 8 * (i : Int) ≤ 64 := by omega
        obtain ⟨z, hc⟩ := hr.has (m - i) (by rw [part_length _ _ _ hi]; omega)
        have hf := hr.frozen (m - i)
        have hsh := shr_is v i
        have HR := Lib.hid hr
        have HB := Lib.hid hbl
        have hset := part_set m v i hlt
        have HSET := Lib.hid hset
        clear hr hbl hset H0
        go_wp2_with fail
        have e : ((v : Int) / 256 ^ i % 256) = ((v / 256 ^ i % 256 : Nat) : Int) := by push_cast; rfl
        rw [e]
        refine ⟨⟨i + 1, by omega, by go_num, ?_, HB.out.setCell (Nat.le_refl _) _⟩, by simp [intOf]; omega⟩
        rw [← HSET.out]
        exact HR.out.set _ _
      · obtain rfl : i = m := by omega
        have q1 : ¬ (i : Int) < (i : Int) := by omega
        have HR := Lib.hid hr
        have HB := Lib.hid hbl
        clear hr hbl H0
        go_wp2_with fail
        go_ret
        have hm := HM.out
        have e : numL v = part i v i := by unfold numL part; rw [if_neg h, ← hm]; simp
        have hl := part_length i v i hi
        have hr := HR.out
        rw [e]
        refine ⟨w1.heap.size, i + 1, by rw [hl, Nat.add_comm 1 i]; rfl, ?_, HB.out⟩
        rw [hl]
        exact ⟨by simp [hl], .inr ⟨w1.heap.size, i + 1, _, rfl, Nat.le_refl _, hr, Nat.le_refl _, by simp only [maxLen]; omega, by simp [hl], by rw [Nat.mul_one]; exact List.take_of_length_le (by simp [hl])⟩⟩

set_option maxRecDepth 100000 in
set_option maxHeartbeats 2000000 in
theorem bytes_any (a : Option Addr) (n cap : Nat) (bs : List Int) (w : World) (hin : InBytes w a n cap bs) (hn : n ≤ 140737488351232) :
    Calls Tryz.prog 91 #[.slice a n cap] w (OwnPost w (bytL bs)) := by
  obtain ⟨i0, hi0, hz0, hz1, hz2⟩ := info_parts infoU8
  have hlen := hin.len
  have h9 := numL_le (v := n) (by omega)
  have hnum := Lib.hid (fun W => number_any n W (by omega))
  have HIN := Lib.hid hin
  clear hin
  go_enter Tryz.func91, Tryz.ntmps91
  go_wp2_with (first
    | (go_at_call 98
       (with_reducible refine (hnum.out _).mono ?_)
       rintro _ w1 ⟨g1, c1, rfl, hown1, hb1⟩
       have HO1 := Lib.hid hown1
       have HB1 := Lib.hid hb1
       clear hown1 hb1)
    | (at_builtin
       refine wpList_append_bytes' _ rfl (.tmp 6) (.tmp 7) 22 rfl w.heap.size 5 i0 _ 1 Tryz.underlying22 hi0 hz0 hz1 hz2 rfl g1 (numL n).length c1 ((numL n).map (Value.int .u8)) rfl HO1.out a n cap bs rfl (HIN.out.below HB1.out) (by simp only [maxLen]; omega) (by omega) HB1.out.size ?_
       intro g2 c2 w2 hown2 hg2
       have HO2 := Lib.hid hown2
       have HB2 : Hid (Below w.heap.size w w2) := Lib.hid (below_only HB1.out hg2 HB1.out.size (HO1.out.lt g1 rfl).1)
       clear hown2 hg2))
  go_ret
  have e : (bytL bs).length = (numL n).length + n := by unfold bytL; rw [List.length_append, hlen]
  refine ⟨g2, c2, by rw [e]; rfl, ?_, HB2.out⟩
  rw [e]
  have h := HO2.out
  rw [← List.map_append] at h
  unfold bytL
  rw [hlen]
  exact h
end Go.Proofs.YtkcmohmfejmfoaaGreatDoor

/- The contracts of the program's preimages. -/
namespace Go.Proofs.YtkcmohmfejmfoaaGreatDoor
open Go.RowKit
set_option linter.unusedVariables false

/-- New memory that holds the bytes zs, and no error. -/
def OwnPost2 (w : World) (zs : List Int) (e : Ending) (w' : World) : Prop :=
  ∃ g c, e = .returned (.tuple #[.slice (some ⟨g, 0, none⟩) zs.length c, .nilIface]) ∧ w'.ownsRow w.heap.size 5 1 (.slice (some ⟨g, 0, none⟩) zs.length c) zs.length (zs.map (Value.int .u8)) ∧ Below w.heap.size w w'
/-- No bytes, and the error ErrArg. -/
def ArgPost (w : World) (e : Ending) (w' : World) : Prop :=
  e = .returned (.tuple #[.slice none 0 0, .iface 42 (.int .i64 1)]) ∧ Below w.heap.size w w'

set_option maxRecDepth 100000 in
set_option maxHeartbeats 2000000 in
/-- isWidth is true from 1 to 32, and changes nothing. -/
theorem width_ok (x : Int) (w : World) (hx1 : 1 ≤ x) (hx2 : x ≤ 32) :
    Calls Tryz.prog 80 #[.int .i64 x] w (fun e w' => e = .returned (.bool true) ∧ w' = w) := by
  go_enter Tryz.func80, Tryz.ntmps80
  go_wp2
  go_ret
  exact ⟨by simp, rfl⟩
set_option maxRecDepth 100000 in
set_option maxHeartbeats 2000000 in
theorem value_any (a : Option Addr) (n cap : Nat) (bs : List Int) (w : World) (hin : InBytes w a n cap bs) (hn : n ≤ 140737488351232) :
    Calls Tryz.prog 82 #[.slice a n cap] w (OwnPost w (valL bs)) := by
  obtain ⟨i0, hi0, hz0, hz1, hz2⟩ := info_parts infoU8
  have hbl := hin.len
  have HIN := Lib.hid hin
  clear hin
  go_enter Tryz.func82, Tryz.ntmps82
  go_wp2_with (first
    | (at_builtin
       refine wpList_append_bytes' _ rfl (.tmp 3) (.tmp 4) 22 rfl w.heap.size 5 i0 _ 1 Tryz.underlying22 hi0 hz0 hz1 hz2 rfl w.heap.size 1 1 [.int .u8 0] rfl (own_new w 5 .u8 [0] w.heap.size (Nat.le_refl _) (by simp [maxLen])) a n cap bs rfl (HIN.out.below ((Below.refl _ _).alloc (Nat.le_refl _) _)) (by simp only [maxLen]; omega) (by omega) (by simp) ?_
       intro g1 c1 w1 hown1 hg1
       have HO1 := Lib.hid (own_app (xs := [0]) (ys := bs) hown1 rfl hbl.symm)
       have HB1 : Hid (Below w.heap.size w w1) := Lib.hid (below_only ((Below.refl _ _).alloc (Nat.le_refl _) _) hg1 (by simp) (Nat.le_refl _))
       clear hown1 hg1))
  go_ret
  have e : (valL bs).length = 1 + n := by simp [valL, hbl]; omega
  exact ⟨g1, c1, by rw [e]; rfl, HO1.out, HB1.out⟩
set_option maxRecDepth 100000 in
set_option maxHeartbeats 2000000 in
theorem none_any (w : World) : Calls Tryz.prog 64 #[] w (OwnPost w [3]) := by
  go_enter Tryz.func64, Tryz.ntmps64
  go_wp2
  go_ret
  exact ⟨w.heap.size, 1, rfl, own_new w 5 .u8 [3] w.heap.size (Nat.le_refl _) (by simp [maxLen]), (Below.refl _ _).alloc (Nat.le_refl _) _⟩
set_option maxRecDepth 100000 in
set_option maxHeartbeats 2000000 in
theorem pair_ok (x : Int) (a : Option Addr) (n cap : Nat) (bs : List Int) (a2 : Option Addr) (n2 cap2 : Nat) (ds : List Int) (w : World) (hin : InBytes w a n cap bs) (hn : n ≤ 140737488351232) (hin2 : InBytes w a2 n2 cap2 ds) (hx0 : 1 ≤ x) (hx1 : x ≤ 32) (hx : (n2 : Int) = x) :
    Calls Tryz.prog 83 #[.int .i64 x, .slice a n cap, .slice a2 n2 cap2] w (OwnPost2 w (pairL bs ds)) := by
  obtain ⟨i0, hi0, hz0, hz1, hz2⟩ := info_parts infoU8
  have hbl := hin.len
  have hbl2 := hin2.len
  have h8 := bytL_bytes hin.bytes (by omega)
  have h9 := numL_le (v := n) (by omega)
  have hlen : (bytL bs).length = (numL n).length + n := by unfold bytL; rw [List.length_append, hbl]
  have HIN := Lib.hid hin
  have HIN2 := Lib.hid hin2
  have H8 := Lib.hid h8
  obtain ⟨bl, hble⟩ : ∃ bl, bl = (bytL bs).length := ⟨_, rfl⟩
  have HBL := Lib.hid hble
  have hbl3 : bl ≤ n + 9 := by omega
  clear hin hin2 h8 hble hlen h9
  go_enter Tryz.func83, Tryz.ntmps83
  go_wp2_with (first
    | (go_at_call 80
       (with_reducible refine (width_ok x _ (by omega) (by omega)).mono ?_)
       rintro _ w9 ⟨rfl, hw9⟩
       rw [hw9]
       clear hw9)
    | (go_at_call 91
       (with_reducible refine (bytes_any a n cap bs _ ?_ hn).mono ?_)
       · exact HIN.out.below ((Below.refl _ _).alloc (Nat.le_refl _) _)
       rintro _ w1 ⟨g1, c1, rfl, ho1, hb1⟩
       rw [← HBL.out] at ho1 ⊢
       have HI1 := Lib.hid (InBytes.of_own ho1 H8.out)
       have HO0 := Lib.hid (own_below (own_new w 5 .u8 [1] w.heap.size (Nat.le_refl _) (by simp [maxLen])) hb1 (by simp))
       have HB1 : Hid (Below w.heap.size w w1) := Lib.hid ((((Below.refl w.heap.size w).alloc (Nat.le_refl _) _)).trans (hb1.mono (by simp)))
       clear ho1 hb1)
    | (at_builtin
       refine wpList_append_bytes' _ rfl (.tmp 19) (.tmp 21) 22 rfl w.heap.size 5 i0 _ 1 Tryz.underlying22 hi0 hz0 hz1 hz2 rfl w.heap.size 1 1 [.int .u8 1] rfl HO0.out (some ⟨g1, 0, none⟩) bl c1 (bytL bs) rfl HI1.out (by simp only [maxLen]; omega) (by omega) HB1.out.size ?_
       intro g2 c2 w2 hown2 hg2
       have hown2' := own_app (xs := [1]) (ys := bytL bs) hown2 rfl HBL.out
       have e2 : ([1] ++ bytL bs).length = 1 + bl := by rw [List.length_append, ← HBL.out]; rfl
       rw [e2] at hown2'
       have HO2 := Lib.hid hown2'
       have HB2 : Hid (Below w.heap.size w w2) := Lib.hid (below_only HB1.out hg2 HB1.out.size (Nat.le_refl _))
       clear hown2 hg2 hown2' e2)
    | (at_builtin
       refine wpList_append_bytes' _ rfl (.tmp 23) (.tmp 24) 22 rfl w.heap.size 5 i0 _ 1 Tryz.underlying22 hi0 hz0 hz1 hz2 rfl g2 (1 + bl) c2 (([1] ++ bytL bs).map (Value.int .u8)) rfl HO2.out a2 n2 cap2 ds rfl (HIN2.out.below HB2.out) (by simp only [maxLen]; omega) (by omega) HB2.out.size ?_
       intro g3 c3 w3 hown3 hg3
       have HO3 := Lib.hid (own_app (xs := [1] ++ bytL bs) (ys := ds) hown3 (by rw [List.length_append, ← HBL.out]; rfl) hbl2.symm)
       have HB3 : Hid (Below w.heap.size w w3) := Lib.hid (below_only HB2.out hg3 HB2.out.size (HO2.out.lt g2 rfl).1)
       clear hown3 hg3))
  go_ret2
  have e : pairL bs ds = [1] ++ bytL bs ++ ds := by unfold pairL; simp
  have e2 : (pairL bs ds).length = 1 + bl + n2 := by rw [e, List.length_append, List.length_append, ← HBL.out, hbl2]; rfl
  refine ⟨g3, c3, by rw [e2]; rfl, ?_, HB3.out⟩
  rw [e]
  exact HO3.out
set_option maxRecDepth 100000 in
set_option maxHeartbeats 2000000 in
theorem node_ok (x : Int) (a : Option Addr) (n cap : Nat) (ls : List Int) (a2 : Option Addr) (n2 cap2 : Nat) (ps : List Int) (a3 : Option Addr) (n3 cap3 : Nat) (rs : List Int) (w : World) (hin : InBytes w a n cap ls) (hin2 : InBytes w a2 n2 cap2 ps) (hin3 : InBytes w a3 n3 cap3 rs) (hx0 : 1 ≤ x) (hx1 : x ≤ 32) (h1 : (n : Int) = x) (h2 : (n2 : Int) = x) (h3 : (n3 : Int) = x) :
    Calls Tryz.prog 67 #[.int .i64 x, .slice a n cap, .slice a2 n2 cap2, .slice a3 n3 cap3] w (OwnPost2 w (nodeL ls ps rs)) := by
  obtain ⟨i0, hi0, hz0, hz1, hz2⟩ := info_parts infoU8
  have hl1 := hin.len
  have hl2 := hin2.len
  have hl3 := hin3.len
  have HIN := Lib.hid hin
  have HIN2 := Lib.hid hin2
  have HIN3 := Lib.hid hin3
  clear hin hin2 hin3
  go_enter Tryz.func67, Tryz.ntmps67
  go_wp2_with (first
    | (go_at_call 80
       (with_reducible refine (width_ok x _ (by omega) (by omega)).mono ?_)
       rintro _ w9 ⟨rfl, hw9⟩
       rw [hw9]
       clear hw9)
    | (at_builtin
       refine wpList_append_bytes' _ rfl (.tmp 33) (.tmp 34) 22 rfl w.heap.size 5 i0 _ 1 Tryz.underlying22 hi0 hz0 hz1 hz2 rfl w.heap.size 1 1 [.int .u8 2] rfl (own_new w 5 .u8 [2] w.heap.size (Nat.le_refl _) (by simp [maxLen])) a n cap ls rfl (HIN.out.below ((Below.refl _ _).alloc (Nat.le_refl _) _)) (by simp only [maxLen]; omega) (by omega) (by simp) ?_
       intro g1 c1 w1 hown1 hg1
       have hown1' := own_app (xs := [2]) (ys := ls) hown1 rfl hl1.symm
       have e1 : ([2] ++ ls).length = 1 + n := by rw [List.length_append, hl1]; rfl
       rw [e1] at hown1'
       have HO1 := Lib.hid hown1'
       have HB1 : Hid (Below w.heap.size w w1) := Lib.hid (below_only ((Below.refl _ _).alloc (Nat.le_refl _) _) hg1 (by simp) (Nat.le_refl _))
       clear hown1 hg1 hown1' e1)
    | (at_builtin
       refine wpList_append_bytes' _ rfl (.tmp 36) (.tmp 37) 22 rfl w.heap.size 5 i0 _ 1 Tryz.underlying22 hi0 hz0 hz1 hz2 rfl g1 (1 + n) c1 (([2] ++ ls).map (Value.int .u8)) rfl HO1.out a2 n2 cap2 ps rfl (HIN2.out.below HB1.out) (by simp only [maxLen]; omega) (by omega) HB1.out.size ?_
       intro g2 c2 w2 hown2 hg2
       have hown2' := own_app (xs := [2] ++ ls) (ys := ps) hown2 (by rw [List.length_append, hl1]; rfl) hl2.symm
       have e2 : ([2] ++ ls ++ ps).length = 1 + n + n2 := by rw [List.length_append, List.length_append, hl1, hl2]; rfl
       rw [e2] at hown2'
       have HO2 := Lib.hid hown2'
       have HB2 : Hid (Below w.heap.size w w2) := Lib.hid (below_only HB1.out hg2 HB1.out.size (HO1.out.lt g1 rfl).1)
       clear hown2 hg2 hown2' e2)
    | (at_builtin
       refine wpList_append_bytes' _ rfl (.tmp 39) (.tmp 40) 22 rfl w.heap.size 5 i0 _ 1 Tryz.underlying22 hi0 hz0 hz1 hz2 rfl g2 (1 + n + n2) c2 (([2] ++ ls ++ ps).map (Value.int .u8)) rfl HO2.out a3 n3 cap3 rs rfl (HIN3.out.below HB2.out) (by simp only [maxLen]; omega) (by omega) HB2.out.size ?_
       intro g3 c3 w3 hown3 hg3
       have HO3 := Lib.hid (own_app (xs := [2] ++ ls ++ ps) (ys := rs) hown3 (by rw [List.length_append, List.length_append, hl1, hl2]; rfl) hl3.symm)
       have HB3 : Hid (Below w.heap.size w w3) := Lib.hid (below_only HB2.out hg3 HB2.out.size (HO2.out.lt g2 rfl).1)
       clear hown3 hg3))
  go_ret2
  have e : nodeL ls ps rs = [2] ++ ls ++ ps ++ rs := by unfold nodeL; simp
  have e2 : (nodeL ls ps rs).length = 1 + n + n2 + n3 := by rw [e, List.length_append, List.length_append, List.length_append, hl1, hl2, hl3]; rfl
  refine ⟨g3, c3, by rw [e2]; rfl, ?_, HB3.out⟩
  rw [e]
  exact HO3.out
end Go.Proofs.YtkcmohmfejmfoaaGreatDoor

/- The contract of the program's digest. -/
namespace Go.Proofs.YtkcmohmfejmfoaaGreatDoor
open Go.RowKit
set_option linter.unusedVariables false

/-- A slice of new memory, the first k bytes of a sum, and no error. -/
def OfPost2 (w : World) (k : Nat) (bs : List Int) (e : Ending) (w' : World) : Prop :=
  ∃ g, w.heap.size ≤ g ∧ e = .returned (.tuple #[.slice (some ⟨g, 0, none⟩) k k, .nilIface]) ∧ Row .u8 w' 5 g (sumL bs) ∧ Below w.heap.size w w'

set_option maxRecDepth 100000 in
set_option maxHeartbeats 2000000 in
theorem of_ok (k : Nat) (a : Option Addr) (n cap : Nat) (bs : List Int) (w : World) (hin : InBytes w a n cap bs) (hn : (n : Int) ≤ 1125899906842624) (hT : TabLies w) (hk1 : 1 ≤ k) (hk2 : k ≤ 32) :
    Calls Tryz.prog 63 #[.int .i64 k, .slice a n cap] w (OfPost2 w k bs) := by
  have HS := Lib.hid (Sum_any a n cap bs w hin hn hT)
  have hk3 : (k : Int) ≤ 32 := by omega
  have hk4 : (0 : Int) ≤ (k : Int) := by omega
  clear hin hT
  go_enter Tryz.func63, Tryz.ntmps63
  go_wp2_with (first
    | (go_at_call 80
       (with_reducible refine (width_ok _ _ (by omega) (by omega)).mono ?_)
       rintro _ w9 ⟨rfl, hw9⟩
       rw [hw9]
       clear hw9)
    | (go_at_call 81
       (with_reducible refine HS.out.mono ?_)
       rintro _ w1 ⟨g1, hg1, rfl, hr1, hb1⟩
       have H1 := Lib.hid (And.intro hg1 (And.intro hr1 hb1))
       clear hg1 hr1 hb1))
  go_ret2
  obtain ⟨hg1, hr1, hb1⟩ := H1.out
  exact ⟨g1, hg1, rfl, hr1, hb1⟩

/-- The first k bytes of a sum, as an argument of capacity 32. -/
theorem of_in32 {w : World} {g k : Nat} {bs : List Int} {t : TypeId} (h : Row .u8 w t g (sumL bs)) (hk : k ≤ 32) : InBytes w (some ⟨g, 0, none⟩) k 32 ((sumL bs).take k) := by
  have hsl32 := sumL_length bs
  have h1 := InBytes.of_row h (sumL_bytes bs) (by rw [hsl32]; omega)
  rw [hsl32] at h1
  exact h1.upto k hk
/-- The first k bytes of a sum, as an argument of capacity k. -/
theorem of_in {w : World} {g k : Nat} {bs : List Int} {t : TypeId} (h : Row .u8 w t g (sumL bs)) (hk : k ≤ 32) : InBytes w (some ⟨g, 0, none⟩) k k ((sumL bs).take k) :=
  have h1 := of_in32 h hk
  ⟨h1.len, h1.bytes, Nat.le_refl _, by simp only [maxLen]; omega, (fun h => by cases h), h1.place⟩
end Go.Proofs.YtkcmohmfejmfoaaGreatDoor

/- The contracts of the program's digests of a tree's parts. -/
namespace Go.Proofs.YtkcmohmfejmfoaaGreatDoor
open Go.RowKit
set_option linter.unusedVariables false

/-- Bytes in new memory. -/
structure NewB (w w' : World) (a : Option Addr) (n c : Nat) (zs : List Int) : Prop where
  inb : InBytes w' a n c zs
  new : ∀ ad, a = some ad → w.heap.size ≤ ad.block
  free : ∀ ad o, a = some ad → w'.frozen? ⟨ad.block, o, none⟩ = false
/-- No bytes, and an error. -/
def ErrPost (w : World) (k : Nat) (e : Ending) (w' : World) : Prop := ∃ a c, e = .returned (.tuple #[.slice a 0 c, codeV k]) ∧ Below w.heap.size w w'
/-- New bytes, and no error. -/
def BytesPost (w : World) (zs : List Int) (e : Ending) (w' : World) : Prop := ∃ a c, e = .returned (.tuple #[.slice a zs.length c, .nilIface]) ∧ NewB w w' a zs.length c zs ∧ Below w.heap.size w w'
theorem own_free {w : World} {base g n c : Nat} {e : TypeId} {xs : List Value} (h : w.ownsRow base e 1 (.slice (some ⟨g, 0, none⟩) n c) n xs) (o : Nat) : base ≤ g ∧ w.frozen? ⟨g, o, none⟩ = false := by
  rcases h.2 with ⟨h1, _⟩ | ⟨g', cap, cur, h1, h2, h3, _⟩
  · cases h1
  · injection h1 with h1
    injection h1 with h1
    injection h1 with h1
    subst h1
    exact ⟨h2, by simp [World.frozen?, h3]⟩
/-- What digest.Of answers is bytes in new memory. -/
theorem OfPost2.bytes {w w' : World} {k : Nat} {bs : List Int} {e : Ending} (hk : k ≤ 32) (h : OfPost2 w k bs e w') : BytesPost w ((sumL bs).take k) e w' := by
  obtain ⟨g, hg, rfl, hr, hb⟩ := h
  have hl := take_sum_len hk bs
  refine ⟨some ⟨g, 0, none⟩, k, by rw [hl], ⟨by rw [hl]; exact of_in hr hk, fun ad h => ?_, fun ad o h => ?_⟩, hb⟩
  · injection h with h
    rw [← h]
    exact hg
  · injection h with h
    rw [← h]
    exact hr.frozen o

set_option maxRecDepth 100000 in
set_option maxHeartbeats 4000000 in
theorem cloneN_any (ad : Addr) (n cap : Nat) (bs : List Int) (w : World) (hin : InBytes w (some ad) n cap bs) (hn : n ≤ 140737488355328) :
    Calls Tryz.prog 65 #[.slice (some ad) n cap] w (fun e w' => ∃ g c, e = .returned (.slice (some ⟨g, 0, none⟩) n c) ∧ w'.ownsRow w.heap.size 5 1 (.slice (some ⟨g, 0, none⟩) n c) n (bs.map (Value.int .u8)) ∧ Below w.heap.size w w') := by
  obtain ⟨i0, hi0, hz0, hz1, hz2⟩ := info_parts infoU8
  have hq : ∀ (w : World) (a : Option Addr) (n c n' c' : Nat), (binOp .eql 22 (.slice a n c) (.slice none n' c')).run Tryz.prog w = .ok (.bool a.isNone) w := fun w a n c n' c' => Lib.run_eql_slice_nil w _ _ a n c n' c' Tryz.underlying22
  have HIN := Lib.hid hin
  clear hin
  have e : (some ad : Option Addr).isNone = false := rfl
  go_enter Tryz.func65, Tryz.ntmps65
  go_wp2_with (first
    | (at_builtin
       refine wpList_append_bytes' _ rfl (.tmp 5) (.tmp 6) 22 rfl w.heap.size 5 i0 _ 1 Tryz.underlying22 hi0 hz0 hz1 hz2 rfl w.heap.size 0 0 [] rfl (own_new w 5 .u8 [] w.heap.size (Nat.le_refl _) (by simp [maxLen])) (some ad) n cap bs rfl (HIN.out.below ((Below.refl _ _).alloc (Nat.le_refl _) _)) (by simp only [maxLen]; omega) (by omega) (by simp) ?_
       intro g1 c1 w1 hown1 hg1
       have HO1 := Lib.hid hown1
       have HB1 : Hid (Below w.heap.size w w1) := Lib.hid (below_only ((Below.refl _ _).alloc (Nat.le_refl _) _) hg1 (by simp) (Nat.le_refl _))
       clear hown1 hg1))
  go_ret
  have ho := HO1.out
  rw [List.nil_append, Nat.zero_add] at ho
  exact ⟨g1, c1, rfl, ho, HB1.out⟩

theorem cloneP_any (a : Option Addr) (n cap : Nat) (bs : List Int) (w : World) (hin : InBytes w a n cap bs) (hn : n ≤ 140737488355328) (h0 : 0 < n) :
    Calls Tryz.prog 65 #[.slice a n cap] w (fun e w' => ∃ g c, e = .returned (.slice (some ⟨g, 0, none⟩) n c) ∧ w'.ownsRow w.heap.size 5 1 (.slice (some ⟨g, 0, none⟩) n c) n (bs.map (Value.int .u8)) ∧ Below w.heap.size w w') := by
  obtain ⟨g, off, rfl, _, _⟩ := hin.place h0
  exact cloneN_any _ n cap bs w hin hn

theorem part_lens {t : Tr} (hp : partB t = true) : t.key.length ≤ 80 ∧ t.val.length ≤ 1024 := by
  unfold partB at hp
  split at hp
  · simp only [Bool.and_eq_true, decide_eq_true_eq] at hp; omega
  · split at hp
    · simp only [Bool.and_eq_true, decide_eq_true_eq] at hp; omega
    · split at hp
      · simp only [Bool.and_eq_true, decide_eq_true_eq] at hp; omega
      · split at hp
        · simp only [Bool.and_eq_true, decide_eq_true_eq] at hp; omega
        · cases hp

set_option maxRecDepth 100000 in
set_option maxHeartbeats 4000000 in
theorem pairDigest_any (k : Nat) (hk1 : 1 ≤ k) (hk2 : k ≤ 32) (t : Tr) (h : TH) (w : World) (ht : InTree w h t) (hT : TabLies w) (hpb : partB t = true) (hv : (valT k t).length = k) :
    Calls Tryz.prog 66 #[.int .i64 k, h.v] w (OfPost2 w k (pairL t.key (valT k t))) := by
  unfold TH.v
  obtain ⟨hl1, hl2⟩ := part_lens hpb
  obtain ⟨H, hp⟩ := ht.parts
  have hkl := hp.key.len
  have hvl := hp.val.len
  have hdl := hp.dig.len
  have HK := Lib.hid hp.hk
  have HP := Lib.hid hp
  have HT := Lib.hid hT
  have hbox := Box.new w 25 h
  have HX := Lib.hid hbox
  obtain ⟨x0, x1, x2, x3, x4⟩ := hbox.cells
  have hw1 : Below w.heap.size w (w.alloc (.cells #[.int .i64 h.k, .slice h.ka h.kn h.kc, .slice h.va h.vn h.vc, .slice h.da h.dn h.dc, .slice h.ta h.tn h.tc] 25)) := (Below.refl _ _).alloc (Nat.le_refl _) _
  have HB := Lib.hid hw1
  clear hp ht hT hbox hw1
  go_enter Tryz.func66, Tryz.ntmps66
  cases f1 : (h.k == 1)
  · have hne : ¬ t.k = 1 := by rw [← HK.out]; simpa using f1
    have hval : valT k t = t.dig := by unfold valT; rw [if_neg hne]
    rw [hval] at hv ⊢
    have hdn : (h.dn : Int) = k := by omega
    have HDB := Lib.hid HP.out.dig.bytes
    clear hval hne
    go_wp2_with (first
      | (go_at_call 83
         (with_reducible refine (pair_ok (k : Int) h.ka h.kn h.kc t.key h.da h.dn h.dc t.dig _ (HP.out.key.below HB.out) (by omega) (HP.out.dig.below HB.out) (by omega) (by omega) (by omega)).mono ?_)
         rintro _ w5 ⟨g5, c5, rfl, ho5, hb5⟩
         have HB5 : Hid (Below w.heap.size w w5) := Lib.hid (HB.out.trans (hb5.mono HB.out.size))
         have HI5 := Lib.hid (InBytes.of_own ho5 (pairL_bytes HP.out.key.bytes (by omega) HDB.out))
         clear ho5 hb5)
      | (go_at_call 63
         (with_reducible refine (of_ok k _ _ _ _ _ HI5.out ?_ (HT.out.below HB5.out (Nat.le_refl _)) hk1 hk2).mono ?_)
         · have hq := pairL_len (a := t.key) (b := t.dig) (by omega)
           omega
         rintro _ w6 hof
         obtain ⟨g6, hg6, rfl, hr6, hb6⟩ := hof
         have HB6 : Hid (Below w.heap.size w w6) := Lib.hid (HB5.out.trans (hb6.mono HB5.out.size))
         have HR6 := Lib.hid (And.intro (Nat.le_trans HB5.out.size hg6) hr6)
         clear hg6 hr6 hb6))
    go_ret2
    exact ⟨g6, HR6.out.1, rfl, HR6.out.2, HB6.out⟩
  · have he : t.k = 1 := by rw [← HK.out]; simpa using f1
    have hval : valT k t = (sumL (valL t.val)).take k := by unfold valT; rw [if_pos he]
    rw [hval] at hv ⊢
    have HDB : Hid (Bytes8 ((sumL (valL t.val)).take k)) := Lib.hid (fun z hz => sumL_bytes _ z (List.mem_of_mem_take hz))
    clear hval he
    go_wp2_with (first
      | (go_at_call 82
         (with_reducible refine (value_any h.va h.vn h.vc t.val _ (HP.out.val.below HB.out) (by omega)).mono ?_)
         rintro _ w2 ⟨g2, c2, rfl, ho2, hb2⟩
         have HB2 : Hid (Below w.heap.size w w2) := Lib.hid (HB.out.trans (hb2.mono HB.out.size))
         have HI2 := Lib.hid (InBytes.of_own ho2 (valL_bytes HP.out.val.bytes))
         have HX2 := Lib.hid (HX.out.below hb2 HX.out.lt)
         clear ho2 hb2)
      | (go_at_call 63
         (with_reducible refine (of_ok k (some ⟨g2, 0, none⟩) (valL t.val).length c2 (valL t.val) w2 HI2.out ?_ (HT.out.below HB2.out (Nat.le_refl _)) hk1 hk2).mono ?_)
         · rw [valL_len]; omega
         rintro _ w3 ⟨g3, hg3, rfl, hr3, hb3⟩
         have HB3 : Hid (Below w.heap.size w w3) := Lib.hid (HB2.out.trans (hb3.mono HB2.out.size))
         have HI3 := Lib.hid (of_in hr3 hk2)
         have hx3 := HX2.out.below hb3 HX2.out.lt
         clear x0 x1 x2 x3 x4
         obtain ⟨x0, x1, x2, x3, x4⟩ := hx3.cells
         clear hg3 hr3 hb3 hx3)
      | (go_at_call 83
         (with_reducible refine (pair_ok (k : Int) h.ka h.kn h.kc t.key (some ⟨g3, 0, none⟩) k k ((sumL (valL t.val)).take k) _ (HP.out.key.below HB3.out) (by omega) HI3.out (by omega) (by omega) (by omega)).mono ?_)
         rintro _ w5 ⟨g5, c5, rfl, ho5, hb5⟩
         have HB5 : Hid (Below w.heap.size w w5) := Lib.hid (HB3.out.trans (hb5.mono HB3.out.size))
         have HI5 := Lib.hid (InBytes.of_own ho5 (pairL_bytes HP.out.key.bytes (by omega) HDB.out))
         clear ho5 hb5)
      | (go_at_call 63
         (with_reducible refine (of_ok k _ _ _ _ _ HI5.out ?_ (HT.out.below HB5.out (Nat.le_refl _)) hk1 hk2).mono ?_)
         · have hq := pairL_len (a := t.key) (b := ((sumL (valL t.val)).take k)) (by omega)
           omega
         rintro _ w6 hof
         obtain ⟨g6, hg6, rfl, hr6, hb6⟩ := hof
         have HB6 : Hid (Below w.heap.size w w6) := Lib.hid (HB5.out.trans (hb6.mono HB5.out.size))
         have HR6 := Lib.hid (And.intro (Nat.le_trans HB5.out.size hg6) hr6)
         clear hg6 hr6 hb6))
    go_ret2
    exact ⟨g6, HR6.out.1, rfl, HR6.out.2, HB6.out⟩

/-- What the world is like inside the closure of Digest. -/
structure QW (k gw gc : Nat) (w W : World) (h : TH) (t : Tr) : Prop where
  box : Box W 25 w.heap.size h
  clo : Var1 W 102 gc (.func (.func 62) #[] #[.pointer (some ⟨gw, 0, none⟩), .pointer (some ⟨gc, 0, none⟩)])
  wid : Var1 W 3 gw (.int .i64 k)
  tab : TabLies W
  t : InTree W h t
  b : Below w.heap.size w W
theorem QW.below {k gw gc : Nat} {w W W' : World} {h : TH} {t : Tr} (d : QW k gw gc w W h t) (hb : Below W.heap.size W W') : QW k gw gc w W' h t :=
  ⟨d.box.below hb d.box.lt, d.clo.below hb d.clo.lt, d.wid.below hb d.wid.lt, d.tab.below hb (Nat.le_refl _), d.t.lower hb, d.b.trans (hb.mono d.b.size)⟩
theorem QW.drew {k gw gc : Nat} {w W : World} {h : TH} {t : Tr} (d : QW k gw gc w W h t) : QW k gw gc w W.drew h t := d.below (Below.refl _ _).drew
theorem QW.new {k gw gc : Nat} (w : World) {h : TH} {t : Tr} (hc : Var1 w 102 gc (.func (.func 62) #[] #[.pointer (some ⟨gw, 0, none⟩), .pointer (some ⟨gc, 0, none⟩)])) (hw : Var1 w 3 gw (.int .i64 k)) (hT : TabLies w) (ht : InTree w h t) : QW k gw gc w (w.alloc (.cells #[.int .i64 h.k, .slice h.ka h.kn h.kc, .slice h.va h.vn h.vc, .slice h.da h.dn h.dc, .slice h.ta h.tn h.tc] 25)) h t :=
  ⟨Box.new w _ h, hc.below ((Below.refl _ _).alloc (Nat.le_refl _) _) hc.lt, hw.below ((Below.refl _ _).alloc (Nat.le_refl _) _) hw.lt, hT.below ((Below.refl w.heap.size w).alloc (Nat.le_refl _) _) (Nat.le_refl _), ht.lower ((Below.refl _ _).alloc (Nat.le_refl _) _), (Below.refl _ _).alloc (Nat.le_refl _) _⟩
theorem digT_split {k : Nat} {t : Tr} {zs : List Int} (h0 : t.k ≠ 0) (h3 : t.k ≠ 3) (h2 : t.kids.length = 2) (hd : digT k t = some zs) :
    (valT k t).length = k ∧ ∃ l r, digT k (t.kids[0]'(by omega)) = some l ∧ digT k (t.kids[1]'(by omega)) = some r ∧ zs = (sumL (nodeL l ((sumL (pairL t.key (valT k t))).take k) r)).take k := by
  by_cases hv : (valT k t).length = k
  · refine ⟨hv, ?_⟩
    rw [digT_node h0 h3 hv h2] at hd
    split at hd
    · rename_i l r e1 e2
      injection hd with hd
      exact ⟨l, r, e1, e2, hd.symm⟩
    · cases hd
  · rw [digT_bad h0 h3 hv] at hd
    cases hd

set_option maxRecDepth 100000 in
set_option maxHeartbeats 4000000 in
theorem digC_any (k : Nat) (hk1 : 1 ≤ k) (hk2 : k ≤ 32) : ∀ (t : Tr) (h : TH) (w : World) (gw gc : Nat), InTree w h t → TabLies w → formedT t = true → Var1 w 3 gw (.int .i64 k) → Var1 w 102 gc (.func (.func 62) #[] #[.pointer (some ⟨gw, 0, none⟩), .pointer (some ⟨gc, 0, none⟩)]) → ∀ zs, digT k t = some zs →
    Calls Tryz.prog 62 #[h.v, .pointer (some ⟨gw, 0, none⟩), .pointer (some ⟨gc, 0, none⟩)] w (BytesPost w zs) := by
  intro t
  induction t using Tr.ind with
  | h t ih =>
  intro h w gw gc ht hT hf hw hc zs hdg
  obtain ⟨hpb, hfk⟩ := formed_kids hf
  obtain ⟨hlk, hlv⟩ := part_lens hpb
  unfold TH.v
  obtain ⟨H, hp⟩ := ht.parts
  have htl := hp.len
  have htc := hp.sl.le
  have htm := Nat.le_trans hp.sl.le hp.sl.max
  have hdl := hp.dig.len
  simp only [maxLen] at htm
  have HK := Lib.hid hp.hk
  have HP := Lib.hid hp
  have IH := Lib.hid ih
  have hd0 := QW.new w hc hw hT ht
  have HD0 := Lib.hid hd0
  obtain ⟨x0, x1, x2, x3, x4⟩ := hd0.box.cells
  have HF := Lib.hid hfk
  clear hp ht ih hT hc hw hd0 hf hfk
  go_enter Tryz.func62, Tryz.ntmps62
  by_cases k0 : t.k = 0
  · have e1 : zs = (sumL [3]).take k := by rw [digT_0 k0] at hdg; injection hdg with hdg; exact hdg.symm
    have hk0 : h.k = 0 := by rw [HK.out, k0]
    have hkb : (h.k == 0) = true := by rw [hk0]; rfl
    have b3 : Bytes8 [3] := fun z hz => by simp at hz; omega
    clear hdg k0 hk0
    go_upto_region 3 with fail
    generalize (w.alloc (.cells #[.int .i64 h.k, .slice h.ka h.kn h.kc, .slice h.va h.vn h.vc, .slice h.da h.dn h.dc, .slice h.ta h.tn h.tc] 25)) = w0 at *
    refine wp_region_held_drew (S := (fun W => W.cell? ⟨gw, 0, none⟩ = some (.int .i64 k))) (by kernel_rfl) HD0.out.drew.wid.cell (fun hHeld => ?_)
    refine take_w (i := 0) (oi := ?oZ1) (v := ?vZ1) ?hiZ1 (by kernel_rfl) (by kernel_rfl) (by kernel_rfl) ?hQZ1 ?hwZ1 ?hyZ1 (by assumption) ?restZ1
    case hiZ1 => (simp only [List.getElem?_toArray, List.getElem?_cons_zero] <;> rfl)
    case hQZ1 => exact (fun _ _ _ h => h)
    case hwZ1 => rfl
    case hyZ1 => (intro w hSw; (try dsimp only at hSw); go_simp; try with_reducible rfl)
    (try simp only [Act.put, List.setIfInBounds_toArray, List.set_cons_zero, List.set_cons_succ])
    refine wpAnyH_ready (rs := [1]) (by kernel_rfl) (by simp) ?_
    refine AllReadyH.cons (o := ?oZ2) ?hiZ2 (fun K hK => ?stZ2) AllReadyH.nil
    case hiZ2 => (simp only [List.getElem?_toArray, List.getElem?_cons_succ, List.getElem?_cons_zero] <;> rfl)
    go_simp
    go_at_call 64
    (with_reducible refine (none_any _).mono ?_)
    rintro _ w1 ⟨g1, c1, rfl, ho1, hb1⟩
    have HD1 := Lib.hid (HD0.out.drew.below hb1)
    have HI1 : Hid (InBytes w1 (some ⟨g1, 0, none⟩) 1 c1 [3]) := Lib.hid (InBytes.of_own ho1 b3)
    clear ho1 hb1
    go_simp
    refine hK.out _ _ ?_ (fun hHeld => ?_)
    · (first | exact HD2.out.wid.cell | exact HD1.out.wid.cell | exact HD0.out.drew.wid.cell)
    clear hK K
    (try simp only [Act.put, List.setIfInBounds_toArray, List.set_cons_zero, List.set_cons_succ])
    refine wpAnyH_ready (rs := [2]) (by kernel_rfl) (by simp) ?_
    refine AllReadyH.cons (o := ?oZ3) ?hiZ3 (fun K hK => ?stZ3) AllReadyH.nil
    case hiZ3 => (simp only [List.getElem?_toArray, List.getElem?_cons_succ, List.getElem?_cons_zero] <;> rfl)
    go_simp
    go_at_call 63
    (with_reducible refine (of_ok k (some ⟨g1, 0, none⟩) 1 c1 [3] _ HI1.out (by omega) HD1.out.tab hk1 hk2).mono ?_)
    rintro _ w2 ⟨g2, hg2, rfl, hr2, hb2⟩
    have HD2 := Lib.hid (HD1.out.below hb2)
    have HR2 := Lib.hid (And.intro (Nat.le_trans HD1.out.b.size hg2) hr2)
    clear hg2 hr2 hb2
    go_simp
    refine hK.out _ _ ?_ (fun hHeld => ?_)
    · (first | exact HD2.out.wid.cell | exact HD1.out.wid.cell | exact HD0.out.drew.wid.cell)
    clear hK K
    (try simp only [Act.put, List.setIfInBounds_toArray, List.set_cons_zero, List.set_cons_succ])
    refine take_w (i := 3) (oi := ?oZ4) (v := ?vZ4) ?hiZ4 (by kernel_rfl) (by kernel_rfl) (by kernel_rfl) ?hQZ4 ?hwZ4 ?hyZ4 (by assumption) ?restZ4
    case hiZ4 => (simp only [List.getElem?_toArray, List.getElem?_cons_succ, List.getElem?_cons_zero] <;> rfl)
    case hQZ4 => exact (fun _ _ _ h => h)
    case hwZ4 => rfl
    case hyZ4 => (intro w hSw; (try dsimp only at hSw); go_simp; try with_reducible rfl)
    (try simp only [Act.put, List.setIfInBounds_toArray, List.set_cons_zero, List.set_cons_succ])
    refine take_w (i := 4) (oi := ?oZ5) (v := ?vZ5) ?hiZ5 (by kernel_rfl) (by kernel_rfl) (by kernel_rfl) ?hQZ5 ?hwZ5 ?hyZ5 (by assumption) ?restZ5
    case hiZ5 => (simp only [List.getElem?_toArray, List.getElem?_cons_succ, List.getElem?_cons_zero] <;> rfl)
    case hQZ5 => exact (fun _ _ _ h => h)
    case hwZ5 => rfl
    case hyZ5 => (intro w hSw; (try dsimp only at hSw); go_simp; try with_reducible rfl)
    (try simp only [Act.put, List.setIfInBounds_toArray, List.set_cons_zero, List.set_cons_succ])
    refine take_w (i := 5) (oi := ?oZ6) (v := ?vZ6) ?hiZ6 (by kernel_rfl) (by kernel_rfl) (by kernel_rfl) ?hQZ6 ?hwZ6 ?hyZ6 (by assumption) ?restZ6
    case hiZ6 => (simp only [List.getElem?_toArray, List.getElem?_cons_succ, List.getElem?_cons_zero] <;> rfl)
    case hQZ6 => exact (fun _ _ _ h => h)
    case hwZ6 => rfl
    case hyZ6 => (intro w hSw; (try dsimp only at hSw); go_simp; try with_reducible rfl)
    (try simp only [Act.put, List.setIfInBounds_toArray, List.set_cons_zero, List.set_cons_succ])
    refine take_w (i := 6) (oi := ?oZ7) (v := ?vZ7) ?hiZ7 (by kernel_rfl) (by kernel_rfl) (by kernel_rfl) ?hQZ7 ?hwZ7 ?hyZ7 (by assumption) ?restZ7
    case hiZ7 => (simp only [List.getElem?_toArray, List.getElem?_cons_succ, List.getElem?_cons_zero] <;> rfl)
    case hQZ7 => exact (fun _ _ _ h => h)
    case hwZ7 => rfl
    case hyZ7 => (intro w hSw; (try dsimp only at hSw); go_simp; try with_reducible rfl)
    (try simp only [Act.put, List.setIfInBounds_toArray, List.set_cons_zero, List.set_cons_succ])
    refine wpAnyH_done (by kernel_rfl) ?_ _
    
    go_wp2_with fail
    go_ret2
    subst e1
    exact OfPost2.bytes hk2 ⟨g2, HR2.out.1, rfl, HR2.out.2, HD2.out.b⟩
  have hkb0 : (h.k == 0) = false := by rw [HK.out]; simpa using k0
  by_cases k3 : t.k = 3
  · have hkb3 : (h.k == 3) = true := by rw [HK.out]; simpa using k3
    rw [digT_3 k3] at hdg
    split at hdg
    · rename_i hdw
      injection hdg with hdg
      subst hdg
      have hd0 : 0 < h.dn := by omega
      have hd1 : h.dn ≤ 32 := by omega
      have HDW := Lib.hid (And.intro hdl hdw)
      clear k3 k0 hdl hdw
      go_upto_region 5 with fail
      generalize (w.alloc (.cells #[.int .i64 h.k, .slice h.ka h.kn h.kc, .slice h.va h.vn h.vc, .slice h.da h.dn h.dc, .slice h.ta h.tn h.tc] 25)) = w0 at *
      go_wp2_with (first
        | (go_at_call 65
           (with_reducible refine (cloneP_any h.da h.dn h.dc t.dig _ (HP.out.dig.below HD0.out.b) (by omega) hd0).mono ?_)
           rintro _ w1 ⟨g1, c1, rfl, ho1, hb1⟩
           have HD1 := Lib.hid (HD0.out.below hb1)
           have HO1 := Lib.hid ho1
           clear ho1 hb1))
      go_ret2
      refine ⟨some ⟨g1, 0, none⟩, c1, by rw [HDW.out.1]; rfl, ⟨by rw [HDW.out.1]; exact InBytes.of_own HO1.out HP.out.dig.bytes, fun ad hh => ?_, fun ad o hh => ?_⟩, HD1.out.b⟩
      · injection hh with hh
        rw [← hh]
        exact Nat.le_trans HD0.out.b.size (own_free HO1.out 0).1
      · injection hh with hh
        rw [← hh]
        exact (own_free HO1.out o).2
    · cases hdg
  have hkb3 : (h.k == 3) = false := by rw [HK.out]; simpa using k3
  rcases part_kids hpb with ⟨_, hk | hk⟩ | ⟨h2, hk⟩
  · exact absurd hk k0
  · exact absurd hk k3
  obtain ⟨hvl, ls, rs, hdL, hdR, hzs⟩ := digT_split k0 k3 h2 hdg
  have l0 : 0 < t.kids.length := by omega
  have l1 : 1 < t.kids.length := by omega
  have hll := digT_len hk2 hdL
  have hlr := digT_len hk2 hdR
  have HDL := Lib.hid hdL
  have HDR := Lib.hid hdR
  clear hdL hdR hdg hk k0 k3
  go_upto_region 6 with fail
  obtain ⟨g, off, hta, hg, -⟩ := (HP.out.below HD0.out.b).place (by omega)
  have HTA := Lib.hid hta
  rw [hta]
  generalize hW0 : (w.alloc (.cells #[.int .i64 h.k, .slice h.ka h.kn h.kc, .slice h.va h.vn h.vc, .slice h.da h.dn h.dc, .slice (some ⟨g, off, none⟩) h.tn h.tc] 25)) = w0
  have hW1 : (w.alloc (.cells #[.int .i64 h.k, .slice h.ka h.kn h.kc, .slice h.va h.vn h.vc, .slice h.da h.dn h.dc, .slice h.ta h.tn h.tc] 25)) = w0 := by rw [hta]; exact hW0
  rw [hW1] at HD0
  clear hta hW0 hW1 hg x0 x1 x2 x3 x4
  have ht1 : (1 : Int) < (h.tn : Int) := by omega
  have ht0 : 0 < h.tn := by omega
  refine wp_region_held_drew (S := (fun W => W.cell? ⟨gc, 0, none⟩ = some (.func (.func 62) #[] #[.pointer (some ⟨gw, 0, none⟩), .pointer (some ⟨gc, 0, none⟩)]) ∧ W.cell? ⟨w.heap.size, 4, none⟩ = some (.slice (some ⟨g, off, none⟩) h.tn h.tc) ∧ W.cell? ⟨g, off, none⟩ = some (.int .i64 (H 0).k) ∧ W.cell? ⟨g, off + 1, none⟩ = some (.slice (H 0).ka (H 0).kn (H 0).kc) ∧ W.cell? ⟨g, off + 2, none⟩ = some (.slice (H 0).va (H 0).vn (H 0).vc) ∧ W.cell? ⟨g, off + 3, none⟩ = some (.slice (H 0).da (H 0).dn (H 0).dc) ∧ W.cell? ⟨g, off + 4, none⟩ = some (.slice (H 0).ta (H 0).tn (H 0).tc))) (by kernel_rfl) ⟨HD0.out.drew.clo.cell, (HD0.out.drew.box.cells.2.2.2.2).trans (by rw [HTA.out]), (HP.out.below HD0.out.drew.b).kid0 HTA.out (by omega)⟩ (fun hHeld => ?_)
  refine take_w (i := 0) (oi := ?oZ8) (v := ?vZ8) ?hiZ8 (by kernel_rfl) (by kernel_rfl) (by kernel_rfl) ?hQZ8 ?hwZ8 ?hyZ8 (by assumption) ?restZ8
  case hiZ8 => (simp only [List.getElem?_toArray, List.getElem?_cons_zero] <;> rfl)
  case hQZ8 => exact (fun _ _ _ h => h)
  case hwZ8 => rfl
  case hyZ8 => (intro w hSw; (try dsimp only at hSw); go_simp; try with_reducible rfl)
  (try simp only [Act.put, List.setIfInBounds_toArray, List.set_cons_zero, List.set_cons_succ])
  refine take_w (i := 1) (oi := ?oZ9) (v := ?vZ9) ?hiZ9 (by kernel_rfl) (by kernel_rfl) (by kernel_rfl) ?hQZ9 ?hwZ9 ?hyZ9 (by assumption) ?restZ9
  case hiZ9 => (simp only [List.getElem?_toArray, List.getElem?_cons_succ, List.getElem?_cons_zero] <;> rfl)
  case hQZ9 => exact (fun _ _ _ h => h)
  case hwZ9 => rfl
  case hyZ9 => (intro w hSw; (try dsimp only at hSw); go_simp; try with_reducible rfl)
  (try simp only [Act.put, List.setIfInBounds_toArray, List.set_cons_zero, List.set_cons_succ])
  refine take_w (i := 2) (oi := ?oZ10) (v := ?vZ10) ?hiZ10 (by kernel_rfl) (by kernel_rfl) (by kernel_rfl) ?hQZ10 ?hwZ10 ?hyZ10 (by assumption) ?restZ10
  case hiZ10 => (simp only [List.getElem?_toArray, List.getElem?_cons_succ, List.getElem?_cons_zero] <;> rfl)
  case hQZ10 => exact (fun _ _ _ h => h)
  case hwZ10 => rfl
  case hyZ10 => (intro w hSw; (try dsimp only at hSw); go_simp; try with_reducible rfl)
  (try simp only [Act.put, List.setIfInBounds_toArray, List.set_cons_zero, List.set_cons_succ])
  refine take_w (i := 3) (oi := ?oZ11) (v := ?vZ11) ?hiZ11 (by kernel_rfl) (by kernel_rfl) (by kernel_rfl) ?hQZ11 ?hwZ11 ?hyZ11 (by assumption) ?restZ11
  case hiZ11 => (simp only [List.getElem?_toArray, List.getElem?_cons_succ, List.getElem?_cons_zero] <;> rfl)
  case hQZ11 => exact (fun _ _ _ h => h)
  case hwZ11 => rfl
  case hyZ11 => (intro w hSw; (try dsimp only at hSw); go_simp; try with_reducible rfl)
  (try simp only [Act.put, List.setIfInBounds_toArray, List.set_cons_zero, List.set_cons_succ])
  refine take_w (i := 4) (oi := ?oZ12) (v := ?vZ12) ?hiZ12 (by kernel_rfl) (by kernel_rfl) (by kernel_rfl) ?hQZ12 ?hwZ12 ?hyZ12 (by assumption) ?restZ12
  case hiZ12 => (simp only [List.getElem?_toArray, List.getElem?_cons_succ, List.getElem?_cons_zero] <;> rfl)
  case hQZ12 => exact (fun _ _ _ h => h)
  case hwZ12 => rfl
  case hyZ12 => (intro w hSw; (try dsimp only at hSw); go_simp; try with_reducible rfl)
  (try simp only [Act.put, List.setIfInBounds_toArray, List.set_cons_zero, List.set_cons_succ])
  refine wpAnyH_ready (rs := [5]) (by kernel_rfl) (by simp) ?_
  refine AllReadyH.cons (o := ?oZ13) ?hiZ13 (fun K hK => ?stZ13) AllReadyH.nil
  case hiZ13 => (simp only [List.getElem?_toArray, List.getElem?_cons_succ, List.getElem?_cons_zero] <;> rfl)
  go_simp
  go_at_call 62
  refine (IH.out _ (List.getElem_mem l0) (H 0) _ gw gc ((HP.out.below HD0.out.drew.b).kids 0 l0) HD0.out.drew.tab (HF.out 0 l0) HD0.out.drew.wid HD0.out.drew.clo ls HDL.out).mono ?_
  rintro _ w1 ⟨a1, c1, rfl, hn1, hb1⟩
  have HD1 := Lib.hid (HD0.out.drew.below hb1)
  have HI1 := Lib.hid hn1.inb
  skip
  clear hn1 hb1
  go_simp
  refine hK.out _ _ ?_ (fun hHeld => ?_)
  · (first | exact ⟨HD1.out.clo.cell, (HD1.out.box.cells.2.2.2.2).trans (by rw [HTA.out]), (HP.out.below HD1.out.b).kid0 HTA.out (by omega)⟩ | exact ⟨HD0.out.drew.clo.cell, (HD0.out.drew.box.cells.2.2.2.2).trans (by rw [HTA.out]), (HP.out.below HD0.out.drew.b).kid0 HTA.out (by omega)⟩)
  clear hK K
  (try simp only [Act.put, List.setIfInBounds_toArray, List.set_cons_zero, List.set_cons_succ])
  refine take_w (i := 6) (oi := ?oZ14) (v := ?vZ14) ?hiZ14 (by kernel_rfl) (by kernel_rfl) (by kernel_rfl) ?hQZ14 ?hwZ14 ?hyZ14 (by assumption) ?restZ14
  case hiZ14 => (simp only [List.getElem?_toArray, List.getElem?_cons_succ, List.getElem?_cons_zero] <;> rfl)
  case hQZ14 => exact (fun _ _ _ h => h)
  case hwZ14 => rfl
  case hyZ14 => (intro w hSw; (try dsimp only at hSw); go_simp; try with_reducible rfl)
  (try simp only [Act.put, List.setIfInBounds_toArray, List.set_cons_zero, List.set_cons_succ])
  refine take_w (i := 7) (oi := ?oZ15) (v := ?vZ15) ?hiZ15 (by kernel_rfl) (by kernel_rfl) (by kernel_rfl) ?hQZ15 ?hwZ15 ?hyZ15 (by assumption) ?restZ15
  case hiZ15 => (simp only [List.getElem?_toArray, List.getElem?_cons_succ, List.getElem?_cons_zero] <;> rfl)
  case hQZ15 => exact (fun _ _ _ h => h)
  case hwZ15 => rfl
  case hyZ15 => (intro w hSw; (try dsimp only at hSw); go_simp; try with_reducible rfl)
  (try simp only [Act.put, List.setIfInBounds_toArray, List.set_cons_zero, List.set_cons_succ])
  refine take_w (i := 8) (oi := ?oZ16) (v := ?vZ16) ?hiZ16 (by kernel_rfl) (by kernel_rfl) (by kernel_rfl) ?hQZ16 ?hwZ16 ?hyZ16 (by assumption) ?restZ16
  case hiZ16 => (simp only [List.getElem?_toArray, List.getElem?_cons_succ, List.getElem?_cons_zero] <;> rfl)
  case hQZ16 => exact (fun _ _ _ h => h)
  case hwZ16 => rfl
  case hyZ16 => (intro w hSw; (try dsimp only at hSw); go_simp; try with_reducible rfl)
  (try simp only [Act.put, List.setIfInBounds_toArray, List.set_cons_zero, List.set_cons_succ])
  refine take_w (i := 9) (oi := ?oZ17) (v := ?vZ17) ?hiZ17 (by kernel_rfl) (by kernel_rfl) (by kernel_rfl) ?hQZ17 ?hwZ17 ?hyZ17 (by assumption) ?restZ17
  case hiZ17 => (simp only [List.getElem?_toArray, List.getElem?_cons_succ, List.getElem?_cons_zero] <;> rfl)
  case hQZ17 => exact (fun _ _ _ h => h)
  case hwZ17 => rfl
  case hyZ17 => (intro w hSw; (try dsimp only at hSw); go_simp; try with_reducible rfl)
  (try simp only [Act.put, List.setIfInBounds_toArray, List.set_cons_zero, List.set_cons_succ])
  refine take_w (i := 10) (oi := ?oZ18) (v := ?vZ18) ?hiZ18 (by kernel_rfl) (by kernel_rfl) (by kernel_rfl) ?hQZ18 ?hwZ18 ?hyZ18 (by assumption) ?restZ18
  case hiZ18 => (simp only [List.getElem?_toArray, List.getElem?_cons_succ, List.getElem?_cons_zero] <;> rfl)
  case hQZ18 => exact (fun _ _ _ h => h)
  case hwZ18 => rfl
  case hyZ18 => (intro w hSw; (try dsimp only at hSw); go_simp; try with_reducible rfl)
  (try simp only [Act.put, List.setIfInBounds_toArray, List.set_cons_zero, List.set_cons_succ])
  refine wpAnyH_done (by kernel_rfl) ?_ _
  
  clear hHeld
  obtain ⟨x0, x1, x2, x3, x4⟩ := HD1.out.box.cells
  have xw := HD1.out.wid.cell
  go_upto_region 12 with (first
    | (go_at_call 66
       refine (pairDigest_any k hk1 hk2 t h _ HD1.out.t HD1.out.tab hpb hvl).mono ?_
       rintro _ w2 ⟨g2, hg2, rfl, hr2, hb2⟩
       have HD2 := Lib.hid (HD1.out.below hb2)
       have HI2 := Lib.hid (of_in hr2 hk2)
       have HI12 := Lib.hid (HI1.out.below hb2)
       clear hg2 hr2 hb2))
  clear x0 x1 x2 x3 x4 xw
  refine wp_region_held_drew (S := (fun W => W.cell? ⟨gc, 0, none⟩ = some (.func (.func 62) #[] #[.pointer (some ⟨gw, 0, none⟩), .pointer (some ⟨gc, 0, none⟩)]) ∧ W.cell? ⟨w.heap.size, 4, none⟩ = some (.slice (some ⟨g, off, none⟩) h.tn h.tc) ∧ W.cell? ⟨g, off + 5, none⟩ = some (.int .i64 (H 1).k) ∧ W.cell? ⟨g, off + 5 + 1, none⟩ = some (.slice (H 1).ka (H 1).kn (H 1).kc) ∧ W.cell? ⟨g, off + 5 + 2, none⟩ = some (.slice (H 1).va (H 1).vn (H 1).vc) ∧ W.cell? ⟨g, off + 5 + 3, none⟩ = some (.slice (H 1).da (H 1).dn (H 1).dc) ∧ W.cell? ⟨g, off + 5 + 4, none⟩ = some (.slice (H 1).ta (H 1).tn (H 1).tc))) (by kernel_rfl) ⟨HD2.out.drew.clo.cell, (HD2.out.drew.box.cells.2.2.2.2).trans (by rw [HTA.out]), (HP.out.below HD2.out.drew.b).kid1 HTA.out (by omega)⟩ (fun hHeld => ?_)
  refine take_w (i := 0) (oi := ?oZ19) (v := ?vZ19) ?hiZ19 (by kernel_rfl) (by kernel_rfl) (by kernel_rfl) ?hQZ19 ?hwZ19 ?hyZ19 (by assumption) ?restZ19
  case hiZ19 => (simp only [List.getElem?_toArray, List.getElem?_cons_zero] <;> rfl)
  case hQZ19 => exact (fun _ _ _ h => h)
  case hwZ19 => rfl
  case hyZ19 => (intro w hSw; (try dsimp only at hSw); go_simp; try with_reducible rfl)
  (try simp only [Act.put, List.setIfInBounds_toArray, List.set_cons_zero, List.set_cons_succ])
  refine take_w (i := 1) (oi := ?oZ20) (v := ?vZ20) ?hiZ20 (by kernel_rfl) (by kernel_rfl) (by kernel_rfl) ?hQZ20 ?hwZ20 ?hyZ20 (by assumption) ?restZ20
  case hiZ20 => (simp only [List.getElem?_toArray, List.getElem?_cons_succ, List.getElem?_cons_zero] <;> rfl)
  case hQZ20 => exact (fun _ _ _ h => h)
  case hwZ20 => rfl
  case hyZ20 => (intro w hSw; (try dsimp only at hSw); go_simp; try with_reducible rfl)
  (try simp only [Act.put, List.setIfInBounds_toArray, List.set_cons_zero, List.set_cons_succ])
  refine take_w (i := 2) (oi := ?oZ21) (v := ?vZ21) ?hiZ21 (by kernel_rfl) (by kernel_rfl) (by kernel_rfl) ?hQZ21 ?hwZ21 ?hyZ21 (by assumption) ?restZ21
  case hiZ21 => (simp only [List.getElem?_toArray, List.getElem?_cons_succ, List.getElem?_cons_zero] <;> rfl)
  case hQZ21 => exact (fun _ _ _ h => h)
  case hwZ21 => rfl
  case hyZ21 => (intro w hSw; (try dsimp only at hSw); go_simp; try with_reducible rfl)
  (try simp only [Act.put, List.setIfInBounds_toArray, List.set_cons_zero, List.set_cons_succ])
  refine take_w (i := 3) (oi := ?oZ22) (v := ?vZ22) ?hiZ22 (by kernel_rfl) (by kernel_rfl) (by kernel_rfl) ?hQZ22 ?hwZ22 ?hyZ22 (by assumption) ?restZ22
  case hiZ22 => (simp only [List.getElem?_toArray, List.getElem?_cons_succ, List.getElem?_cons_zero] <;> rfl)
  case hQZ22 => exact (fun _ _ _ h => h)
  case hwZ22 => rfl
  case hyZ22 => (intro w hSw; (try dsimp only at hSw); go_simp; try with_reducible rfl)
  (try simp only [Act.put, List.setIfInBounds_toArray, List.set_cons_zero, List.set_cons_succ])
  refine take_w (i := 4) (oi := ?oZ23) (v := ?vZ23) ?hiZ23 (by kernel_rfl) (by kernel_rfl) (by kernel_rfl) ?hQZ23 ?hwZ23 ?hyZ23 (by assumption) ?restZ23
  case hiZ23 => (simp only [List.getElem?_toArray, List.getElem?_cons_succ, List.getElem?_cons_zero] <;> rfl)
  case hQZ23 => exact (fun _ _ _ h => h)
  case hwZ23 => rfl
  case hyZ23 => (intro w hSw; (try dsimp only at hSw); go_simp; try with_reducible rfl)
  (try simp only [Act.put, List.setIfInBounds_toArray, List.set_cons_zero, List.set_cons_succ])
  refine wpAnyH_ready (rs := [5]) (by kernel_rfl) (by simp) ?_
  refine AllReadyH.cons (o := ?oZ24) ?hiZ24 (fun K hK => ?stZ24) AllReadyH.nil
  case hiZ24 => (simp only [List.getElem?_toArray, List.getElem?_cons_succ, List.getElem?_cons_zero] <;> rfl)
  go_simp
  go_at_call 62
  refine (IH.out _ (List.getElem_mem l1) (H 1) _ gw gc ((HP.out.below HD2.out.drew.b).kids 1 l1) HD2.out.drew.tab (HF.out 1 l1) HD2.out.drew.wid HD2.out.drew.clo rs HDR.out).mono ?_
  rintro _ w3 ⟨a3, c3, rfl, hn3, hb3⟩
  have HD3 := Lib.hid (HD2.out.drew.below hb3)
  have HI3 := Lib.hid hn3.inb
  have HI13 := Lib.hid ((HI12.out.below (Below.refl _ _).drew).below hb3)
  have HI23 := Lib.hid ((HI2.out.below (Below.refl _ _).drew).below hb3)
  clear hn3 hb3
  go_simp
  refine hK.out _ _ ?_ (fun hHeld => ?_)
  · (first | exact ⟨HD3.out.clo.cell, (HD3.out.box.cells.2.2.2.2).trans (by rw [HTA.out]), (HP.out.below HD3.out.b).kid1 HTA.out (by omega)⟩ | exact ⟨HD2.out.drew.clo.cell, (HD2.out.drew.box.cells.2.2.2.2).trans (by rw [HTA.out]), (HP.out.below HD2.out.drew.b).kid1 HTA.out (by omega)⟩)
  clear hK K
  (try simp only [Act.put, List.setIfInBounds_toArray, List.set_cons_zero, List.set_cons_succ])
  refine take_w (i := 6) (oi := ?oZ25) (v := ?vZ25) ?hiZ25 (by kernel_rfl) (by kernel_rfl) (by kernel_rfl) ?hQZ25 ?hwZ25 ?hyZ25 (by assumption) ?restZ25
  case hiZ25 => (simp only [List.getElem?_toArray, List.getElem?_cons_succ, List.getElem?_cons_zero] <;> rfl)
  case hQZ25 => exact (fun _ _ _ h => h)
  case hwZ25 => rfl
  case hyZ25 => (intro w hSw; (try dsimp only at hSw); go_simp; try with_reducible rfl)
  (try simp only [Act.put, List.setIfInBounds_toArray, List.set_cons_zero, List.set_cons_succ])
  refine take_w (i := 7) (oi := ?oZ26) (v := ?vZ26) ?hiZ26 (by kernel_rfl) (by kernel_rfl) (by kernel_rfl) ?hQZ26 ?hwZ26 ?hyZ26 (by assumption) ?restZ26
  case hiZ26 => (simp only [List.getElem?_toArray, List.getElem?_cons_succ, List.getElem?_cons_zero] <;> rfl)
  case hQZ26 => exact (fun _ _ _ h => h)
  case hwZ26 => rfl
  case hyZ26 => (intro w hSw; (try dsimp only at hSw); go_simp; try with_reducible rfl)
  (try simp only [Act.put, List.setIfInBounds_toArray, List.set_cons_zero, List.set_cons_succ])
  refine take_w (i := 8) (oi := ?oZ27) (v := ?vZ27) ?hiZ27 (by kernel_rfl) (by kernel_rfl) (by kernel_rfl) ?hQZ27 ?hwZ27 ?hyZ27 (by assumption) ?restZ27
  case hiZ27 => (simp only [List.getElem?_toArray, List.getElem?_cons_succ, List.getElem?_cons_zero] <;> rfl)
  case hQZ27 => exact (fun _ _ _ h => h)
  case hwZ27 => rfl
  case hyZ27 => (intro w hSw; (try dsimp only at hSw); go_simp; try with_reducible rfl)
  (try simp only [Act.put, List.setIfInBounds_toArray, List.set_cons_zero, List.set_cons_succ])
  refine take_w (i := 9) (oi := ?oZ28) (v := ?vZ28) ?hiZ28 (by kernel_rfl) (by kernel_rfl) (by kernel_rfl) ?hQZ28 ?hwZ28 ?hyZ28 (by assumption) ?restZ28
  case hiZ28 => (simp only [List.getElem?_toArray, List.getElem?_cons_succ, List.getElem?_cons_zero] <;> rfl)
  case hQZ28 => exact (fun _ _ _ h => h)
  case hwZ28 => rfl
  case hyZ28 => (intro w hSw; (try dsimp only at hSw); go_simp; try with_reducible rfl)
  (try simp only [Act.put, List.setIfInBounds_toArray, List.set_cons_zero, List.set_cons_succ])
  refine take_w (i := 10) (oi := ?oZ29) (v := ?vZ29) ?hiZ29 (by kernel_rfl) (by kernel_rfl) (by kernel_rfl) ?hQZ29 ?hwZ29 ?hyZ29 (by assumption) ?restZ29
  case hiZ29 => (simp only [List.getElem?_toArray, List.getElem?_cons_succ, List.getElem?_cons_zero] <;> rfl)
  case hQZ29 => exact (fun _ _ _ h => h)
  case hwZ29 => rfl
  case hyZ29 => (intro w hSw; (try dsimp only at hSw); go_simp; try with_reducible rfl)
  (try simp only [Act.put, List.setIfInBounds_toArray, List.set_cons_zero, List.set_cons_succ])
  refine wpAnyH_done (by kernel_rfl) ?_ _
  
  clear hHeld
  have hi1 := HI13.out
  have hi3 := HI3.out
  rw [hll] at hi1
  rw [hlr] at hi3
  have HIA := Lib.hid hi1
  have HIB := Lib.hid hi3
  have xw := HD3.out.wid.cell
  have HZS := Lib.hid hzs
  clear hi1 hi3 hzs hvl hll hlr
  go_wp2_with (first
    | (go_at_call 67
       (with_reducible refine (node_ok (k : Int) a1 k c1 ls (some ⟨g2, 0, none⟩) k k ((sumL (pairL t.key (valT k t))).take k) a3 k c3 rs _ HIA.out HI23.out HIB.out (by omega) (by omega) rfl rfl rfl).mono ?_)
       rintro _ w4 ⟨g4, c4, rfl, ho4, hb4⟩
       have HD4 := Lib.hid (HD3.out.below hb4)
       have HI4 := Lib.hid (InBytes.of_own ho4 (nodeL_bytes HIA.out.bytes HI23.out.bytes HIB.out.bytes))
       clear xw
       have xw := HD4.out.wid.cell
       clear ho4 hb4)
    | (go_at_call 63
       (with_reducible refine (of_ok k _ _ _ _ _ HI4.out ?_ HD4.out.tab hk1 hk2).mono ?_)
       · rw [nodeL_len, HIA.out.len, HI23.out.len, HIB.out.len]; omega
       rintro _ w5 ⟨g5, hg5, rfl, hr5, hb5⟩
       have HD5 := Lib.hid (HD4.out.below hb5)
       have HR5 := Lib.hid (And.intro (Nat.le_trans HD4.out.b.size hg5) hr5)
       clear hg5 hr5 hb5))
  go_ret2
  rw [HZS.out]
  exact OfPost2.bytes hk2 ⟨g5, HR5.out.1, rfl, HR5.out.2, HD5.out.b⟩
end Go.Proofs.YtkcmohmfejmfoaaGreatDoor

/- The contracts of the program's trees: Digest. -/
namespace Go.Proofs.YtkcmohmfejmfoaaGreatDoor
open Go.RowKit
set_option linter.unusedVariables false

theorem fits_dig {k : Nat} (hk : k ≤ 32) : ∀ t : Tr, formedT t = true → (allT (fitsK k) t = true ↔ ∃ zs, digT k t = some zs) := by
  intro t
  induction t using Tr.ind with
  | h t ih =>
  intro hf
  obtain ⟨hp, hkf⟩ := formed_kids hf
  rw [allT_eq, Bool.and_eq_true]
  rcases part_kids hp with ⟨h0, h | h⟩ | ⟨h2, h⟩
  · have e : t.kids = [] := List.length_eq_zero_iff.1 h0
    rw [digT_0 h, e]
    simp [fitsK, toldK, h]
  · have e : t.kids = [] := List.length_eq_zero_iff.1 h0
    rw [digT_3 h, e]
    simp [fitsK, toldK, h]
  · have n0 : t.k ≠ 0 := by omega
    have n3 : t.k ≠ 3 := by omega
    have i0 := ih _ (List.getElem_mem (by omega : 0 < t.kids.length)) (hkf 0 (by omega))
    have i1 := ih _ (List.getElem_mem (by omega : 1 < t.kids.length)) (hkf 1 (by omega))
    have ev : fitsK k t = true ↔ (valT k t).length = k := by
      unfold fitsK toldK valT
      rcases h with h | h
      · rw [if_pos h]
        simp [h, take_sum_len hk]
      · rw [if_neg (by omega)]
        simp [h]
    have ek : t.kids.all (allT (fitsK k)) = true ↔ allT (fitsK k) (t.kids[0]'(by omega)) = true ∧ allT (fitsK k) (t.kids[1]'(by omega)) = true := by
      rw [List.all_eq_true]
      constructor
      · exact fun hh => ⟨hh _ (List.getElem_mem _), hh _ (List.getElem_mem _)⟩
      · intro hh x hx
        obtain ⟨i, hi, rfl⟩ := List.getElem_of_mem hx
        rcases (by omega : i = 0 ∨ i = 1) with rfl | rfl
        · exact hh.1
        · exact hh.2
    rw [ev, ek, i0, i1]
    constructor
    · rintro ⟨hv, ⟨l, hl⟩, ⟨r, hr⟩⟩
      rw [digT_node n0 n3 hv h2, hl, hr]
      exact ⟨_, rfl⟩
    · rintro ⟨zs, hz⟩
      obtain ⟨hv, l, r, hl, hr, -⟩ := digT_split n0 n3 h2 hz
      exact ⟨hv, ⟨l, hl⟩, ⟨r, hr⟩⟩
theorem fits_none {k : Nat} (hk : k ≤ 32) {t : Tr} (hf : formedT t = true) (hd : digT k t = none) : allT (fitsK k) t = false := by
  rw [Bool.eq_false_iff]
  intro h
  obtain ⟨zs, hz⟩ := (fits_dig hk t hf).1 h
  rw [hd] at hz
  cases hz

set_option maxRecDepth 100000 in
set_option maxHeartbeats 4000000 in
theorem digest_arg (x : Int) (t : Tr) (h : TH) (w : World) (ht : InTree w h t) (hx1 : -9223372036854775808 ≤ x) (hxx : x ≤ 9223372036854775807) (hx : ¬ (1 ≤ x ∧ x ≤ 32)) :
    Calls Tryz.prog 35 #[.int .i64 x, h.v] w (ErrPost w 1) := by
  unfold TH.v
  have hb1 : Below w.heap.size w (w.alloc (.cells #[.int .i64 x] 3)) := (Below.refl _ _).alloc (Nat.le_refl _) _
  have hv1 := Var1.new w 3 (.int .i64 x)
  have hs1 : (w.alloc (.cells #[.int .i64 x] 3)).heap.size = w.heap.size + 1 := by simp
  have hb2 : Below w.heap.size w ((w.alloc (.cells #[.int .i64 x] 3)).alloc (.cells #[.int .i64 h.k, .slice h.ka h.kn h.kc, .slice h.va h.vn h.vc, .slice h.da h.dn h.dc, .slice h.ta h.tn h.tc] 25)) := hb1.alloc (by rw [hs1]; omega) _
  have hv2 := hv1.below ((Below.refl _ _).alloc (Nat.le_refl _) (.cells #[.int .i64 h.k, .slice h.ka h.kn h.kc, .slice h.va h.vn h.vc, .slice h.da h.dn h.dc, .slice h.ta h.tn h.tc] 25)) hv1.lt
  have hx2 := Box.new (w.alloc (.cells #[.int .i64 x] 3)) 25 h
  rw [hs1] at hx2
  clear hb1 hv1 hs1
  go_enter Tryz.func35, Tryz.ntmps35
  go_upto_region 1 with fail
  generalize ((w.alloc (.cells #[.int .i64 x] 3)).alloc (.cells #[.int .i64 h.k, .slice h.ka h.kn h.kc, .slice h.va h.vn h.vc, .slice h.da h.dn h.dc, .slice h.ta h.tn h.tc] 25)) = w2 at *
  have xv := hv2.cell
  obtain ⟨x0, x1, x2, x3, x4⟩ := hx2.cells
  have HB2 := Lib.hid hb2
  have HV2 := Lib.hid hv2
  have HX2 := Lib.hid hx2
  clear hb2 hv2 hx2
  by_cases hq : x < 1
  · go_wp2_with fail
    go_ret2
    exact ⟨none, 0, rfl, HB2.out⟩
  · have hq2 : 32 < x := by omega
    go_wp2_with fail
    go_ret2
    exact ⟨none, 0, rfl, HB2.out⟩

set_option maxRecDepth 100000 in
set_option maxHeartbeats 4000000 in
theorem digest_err (k : Nat) (hk1 : 1 ≤ k) (hk2 : k ≤ 32) (t : Tr) (h : TH) (w : World) (ht : InTree w h t) (hc : checkT t ≠ 0) :
    Calls Tryz.prog 35 #[.int .i64 k, h.v] w (ErrPost w (checkT t)) := by
  have HTT := Lib.hid ht
  have HCZ := Lib.hid hc
  clear ht hc
  unfold TH.v
  have hb1 : Below w.heap.size w (w.alloc (.cells #[.int .i64 k] 3)) := (Below.refl _ _).alloc (Nat.le_refl _) _
  have hv1 := Var1.new w 3 (.int .i64 k)
  have hs1 : (w.alloc (.cells #[.int .i64 k] 3)).heap.size = w.heap.size + 1 := by simp
  have hb2 : Below w.heap.size w ((w.alloc (.cells #[.int .i64 k] 3)).alloc (.cells #[.int .i64 h.k, .slice h.ka h.kn h.kc, .slice h.va h.vn h.vc, .slice h.da h.dn h.dc, .slice h.ta h.tn h.tc] 25)) := hb1.alloc (by rw [hs1]; omega) _
  have hv2 := hv1.below ((Below.refl _ _).alloc (Nat.le_refl _) (.cells #[.int .i64 h.k, .slice h.ka h.kn h.kc, .slice h.va h.vn h.vc, .slice h.da h.dn h.dc, .slice h.ta h.tn h.tc] 25)) hv1.lt
  have hx2 := Box.new (w.alloc (.cells #[.int .i64 k] 3)) 25 h
  rw [hs1] at hx2
  clear hb1 hv1 hs1
  go_enter Tryz.func35, Tryz.ntmps35
  go_upto_region 1 with fail
  generalize ((w.alloc (.cells #[.int .i64 k] 3)).alloc (.cells #[.int .i64 h.k, .slice h.ka h.kn h.kc, .slice h.va h.vn h.vc, .slice h.da h.dn h.dc, .slice h.ta h.tn h.tc] 25)) = w2 at *
  have xv := hv2.cell
  obtain ⟨x0, x1, x2, x3, x4⟩ := hx2.cells
  have HB2 := Lib.hid hb2
  have HV2 := Lib.hid hv2
  have HX2 := Lib.hid hx2
  clear hb2 hv2 hx2
  have q1 : ¬ (k : Int) < 1 := by omega
  have q2 : ¬ (32 : Int) < k := by omega
  go_wp2_with (first
    | (go_at_call 18
       refine (check_any t h _ (HTT.out.lower HB2.out)).mono ?_
       rintro _ w3 ⟨rfl, hb3⟩
       have HB3 : Hid (Below w.heap.size w w3) := Lib.hid (HB2.out.trans (hb3.mono HB2.out.size))
       have HV3 := Lib.hid (HV2.out.below hb3 HV2.out.lt)
       have HX3 := Lib.hid (HX2.out.below hb3 HX2.out.lt)
       rw [codeV_pos HCZ.out]
       clear xv x0 x1 x2 x3 x4 hb3))
  go_ret2
  exact ⟨none, 0, by rw [codeV_pos HCZ.out]; rfl, HB3.out⟩

set_option maxRecDepth 100000 in
set_option maxHeartbeats 4000000 in
theorem digest_none (k : Nat) (hk1 : 1 ≤ k) (hk2 : k ≤ 32) (t : Tr) (h : TH) (w : World) (ht : InTree w h t) (hT : TabLies w) (hc : checkT t = 0) (hd : digT k t = none) :
    Calls Tryz.prog 35 #[.int .i64 k, h.v] w (ErrPost w 3) := by
  have HTT := Lib.hid ht
  have HFI := Lib.hid (fits_none hk2 (check_zero hc).1 hd)
  have HCZ := Lib.hid hc
  clear ht hc hd hT
  unfold TH.v
  have hb1 : Below w.heap.size w (w.alloc (.cells #[.int .i64 k] 3)) := (Below.refl _ _).alloc (Nat.le_refl _) _
  have hv1 := Var1.new w 3 (.int .i64 k)
  have hs1 : (w.alloc (.cells #[.int .i64 k] 3)).heap.size = w.heap.size + 1 := by simp
  have hb2 : Below w.heap.size w ((w.alloc (.cells #[.int .i64 k] 3)).alloc (.cells #[.int .i64 h.k, .slice h.ka h.kn h.kc, .slice h.va h.vn h.vc, .slice h.da h.dn h.dc, .slice h.ta h.tn h.tc] 25)) := hb1.alloc (by rw [hs1]; omega) _
  have hv2 := hv1.below ((Below.refl _ _).alloc (Nat.le_refl _) (.cells #[.int .i64 h.k, .slice h.ka h.kn h.kc, .slice h.va h.vn h.vc, .slice h.da h.dn h.dc, .slice h.ta h.tn h.tc] 25)) hv1.lt
  have hx2 := Box.new (w.alloc (.cells #[.int .i64 k] 3)) 25 h
  rw [hs1] at hx2
  clear hb1 hv1 hs1
  go_enter Tryz.func35, Tryz.ntmps35
  go_upto_region 1 with fail
  generalize ((w.alloc (.cells #[.int .i64 k] 3)).alloc (.cells #[.int .i64 h.k, .slice h.ka h.kn h.kc, .slice h.va h.vn h.vc, .slice h.da h.dn h.dc, .slice h.ta h.tn h.tc] 25)) = w2 at *
  have xv := hv2.cell
  obtain ⟨x0, x1, x2, x3, x4⟩ := hx2.cells
  have HB2 := Lib.hid hb2
  have HV2 := Lib.hid hv2
  have HX2 := Lib.hid hx2
  clear hb2 hv2 hx2
  have q1 : ¬ (k : Int) < 1 := by omega
  have q2 : ¬ (32 : Int) < k := by omega
  have hmf : ∀ (fn : Fn) (first cap : Array Value) (w : World), (Instr.makeFunc fn first cap).run Tryz.prog w = .ok (.func fn first cap) w := fun _ _ _ _ => rfl
  go_upto_region 6 with (first
    | (go_at_call 18
       refine (check_any t h _ (HTT.out.lower HB2.out)).mono ?_
       rintro _ w3 ⟨rfl, hb3⟩
       have HB3 : Hid (Below w.heap.size w w3) := Lib.hid (HB2.out.trans (hb3.mono HB2.out.size))
       have HV3 := Lib.hid (HV2.out.below hb3 HV2.out.lt)
       have HX3 := Lib.hid (HX2.out.below hb3 HX2.out.lt)
       have hcv : codeV (checkT t) = .nilIface := by rw [HCZ.out]; rfl
       rw [hcv]
       clear hcv
       clear xv x0 x1 x2 x3 x4 hb3))
  obtain ⟨x0, x1, x2, x3, x4⟩ := HX3.out.cells
  go_upto_if 25 with (first
    | (go_at_call 40
       refine (everyFits k w.heap.size t h _ (HTT.out.lower HB3.out) HV3.out).mono ?_
       rintro _ w4 ⟨rfl, hb4⟩
       have HB4 : Hid (Below w.heap.size w w4) := Lib.hid (HB3.out.trans (hb4.mono HB3.out.size))
       have HV4 := Lib.hid (HV3.out.below hb4 HV3.out.lt)
       have HX4 := Lib.hid (HX3.out.below hb4 HX3.out.lt)
       rw [HFI.out]
       clear hb4))
  clear x0 x1 x2 x3 x4
  go_wp2_with fail
  go_ret2
  exact ⟨none, 0, rfl, HB4.out⟩

set_option maxRecDepth 100000 in
set_option maxHeartbeats 4000000 in
theorem digest_ok (k : Nat) (hk1 : 1 ≤ k) (hk2 : k ≤ 32) (t : Tr) (h : TH) (w : World) (ht : InTree w h t) (hT : TabLies w) (hc : checkT t = 0) {zs : List Int} (hd : digT k t = some zs) :
    Calls Tryz.prog 35 #[.int .i64 k, h.v] w (BytesPost w zs) := by
  have HTT := Lib.hid ht
  have HT := Lib.hid hT
  have HFI := Lib.hid ((fits_dig hk2 t (check_zero hc).1).2 ⟨zs, hd⟩)
  have HCZ := Lib.hid hc
  have HDG := Lib.hid hd
  clear ht hc hd hT
  unfold TH.v
  have hb1 : Below w.heap.size w (w.alloc (.cells #[.int .i64 k] 3)) := (Below.refl _ _).alloc (Nat.le_refl _) _
  have hv1 := Var1.new w 3 (.int .i64 k)
  have hs1 : (w.alloc (.cells #[.int .i64 k] 3)).heap.size = w.heap.size + 1 := by simp
  have hb2 : Below w.heap.size w ((w.alloc (.cells #[.int .i64 k] 3)).alloc (.cells #[.int .i64 h.k, .slice h.ka h.kn h.kc, .slice h.va h.vn h.vc, .slice h.da h.dn h.dc, .slice h.ta h.tn h.tc] 25)) := hb1.alloc (by rw [hs1]; omega) _
  have hv2 := hv1.below ((Below.refl _ _).alloc (Nat.le_refl _) (.cells #[.int .i64 h.k, .slice h.ka h.kn h.kc, .slice h.va h.vn h.vc, .slice h.da h.dn h.dc, .slice h.ta h.tn h.tc] 25)) hv1.lt
  have hx2 := Box.new (w.alloc (.cells #[.int .i64 k] 3)) 25 h
  rw [hs1] at hx2
  clear hb1 hv1 hs1
  go_enter Tryz.func35, Tryz.ntmps35
  go_upto_region 1 with fail
  generalize ((w.alloc (.cells #[.int .i64 k] 3)).alloc (.cells #[.int .i64 h.k, .slice h.ka h.kn h.kc, .slice h.va h.vn h.vc, .slice h.da h.dn h.dc, .slice h.ta h.tn h.tc] 25)) = w2 at *
  have xv := hv2.cell
  obtain ⟨x0, x1, x2, x3, x4⟩ := hx2.cells
  have HB2 := Lib.hid hb2
  have HV2 := Lib.hid hv2
  have HX2 := Lib.hid hx2
  clear hb2 hv2 hx2
  have q1 : ¬ (k : Int) < 1 := by omega
  have q2 : ¬ (32 : Int) < k := by omega
  have hmf : ∀ (fn : Fn) (first cap : Array Value) (w : World), (Instr.makeFunc fn first cap).run Tryz.prog w = .ok (.func fn first cap) w := fun _ _ _ _ => rfl
  go_upto_region 6 with (first
    | (go_at_call 18
       refine (check_any t h _ (HTT.out.lower HB2.out)).mono ?_
       rintro _ w3 ⟨rfl, hb3⟩
       have HB3 : Hid (Below w.heap.size w w3) := Lib.hid (HB2.out.trans (hb3.mono HB2.out.size))
       have HV3 := Lib.hid (HV2.out.below hb3 HV2.out.lt)
       have HX3 := Lib.hid (HX2.out.below hb3 HX2.out.lt)
       have hcv : codeV (checkT t) = .nilIface := by rw [HCZ.out]; rfl
       rw [hcv]
       clear hcv
       clear xv x0 x1 x2 x3 x4 hb3))
  obtain ⟨x0, x1, x2, x3, x4⟩ := HX3.out.cells
  go_upto_if 25 with (first
    | (go_at_call 40
       refine (everyFits k w.heap.size t h _ (HTT.out.lower HB3.out) HV3.out).mono ?_
       rintro _ w4 ⟨rfl, hb4⟩
       have HB4 : Hid (Below w.heap.size w w4) := Lib.hid (HB3.out.trans (hb4.mono HB3.out.size))
       have HV4 := Lib.hid (HV3.out.below hb4 HV3.out.lt)
       have HX4 := Lib.hid (HX3.out.below hb4 HX3.out.lt)
       rw [HFI.out]
       clear hb4))
  clear x0 x1 x2 x3 x4
  go_upto_region 10 with fail
  have hb5 : Below w4.heap.size w4 (w4.alloc (.cells #[.nilFunc] 102)) := (Below.refl _ _).alloc (Nat.le_refl _) _
  have hnf := Var1.new w4 102 .nilFunc
  have hbx := HX4.out.below hb5 HX4.out.lt
  have hvw := HV4.out.below hb5 HV4.out.lt
  have hsz := HB4.out.size
  generalize w4.alloc (.cells #[.nilFunc] 102) = w5 at *
  have c0 := hnf.cell
  have c1 := hnf.frozen 0
  have hne : w.heap.size + 1 ≠ w4.heap.size := Nat.ne_of_lt HX4.out.lt
  have hne2 : w.heap.size ≠ w4.heap.size := Nat.ne_of_lt HV4.out.lt
  have hn6 := hnf.set (.func (.func 62) #[] #[.pointer (some ⟨w.heap.size, 0, none⟩), .pointer (some ⟨w4.heap.size, 0, none⟩)])
  have hbx6 : Box (w5.setCell ⟨w4.heap.size, 0, none⟩ (.func (.func 62) #[] #[.pointer (some ⟨w.heap.size, 0, none⟩), .pointer (some ⟨w4.heap.size, 0, none⟩)])) 25 (w.heap.size + 1) h := (Below.heap_setCell w5 ⟨w4.heap.size, 0, none⟩ _ (w.heap.size + 1) hne).trans hbx
  have hvw6 := hvw.far (p := ⟨w4.heap.size, 0, none⟩) hne2 (.func (.func 62) #[] #[.pointer (some ⟨w.heap.size, 0, none⟩), .pointer (some ⟨w4.heap.size, 0, none⟩)])
  have hb6 : Below w4.heap.size w4 (w5.setCell ⟨w4.heap.size, 0, none⟩ (.func (.func 62) #[] #[.pointer (some ⟨w.heap.size, 0, none⟩), .pointer (some ⟨w4.heap.size, 0, none⟩)])) := hb5.setCell (Nat.le_refl _) _
  clear hnf hbx hb5 hne hne2 hvw
  generalize w4.heap.size = gc at *
  go_upto_region 11 with fail
  generalize (w5.setCell ⟨gc, 0, none⟩ (.func (.func 62) #[] #[.pointer (some ⟨w.heap.size, 0, none⟩), .pointer (some ⟨gc, 0, none⟩)])) = w6 at *
  obtain ⟨x0, x1, x2, x3, x4⟩ := hbx6.cells
  have c2 := hn6.cell
  have HN := Lib.hid hn6
  have HW6 := Lib.hid hvw6
  have HB6 : Hid (Below w.heap.size w w6) := Lib.hid (HB4.out.trans (hb6.mono hsz))
  clear c0 c1 hbx6 hb6 hn6 hsz hvw6
  go_wp2_with (first
    | (go_at_call 62
       refine (digC_any k hk1 hk2 t h _ w.heap.size gc (HTT.out.lower HB6.out) (HT.out.below HB6.out (Nat.le_refl _)) (check_zero HCZ.out).1 HW6.out HN.out zs HDG.out).mono ?_
       rintro _ w7 ⟨a7, c7, rfl, hn7, hb7⟩
       have HB7 : Hid (Below w.heap.size w w7) := Lib.hid (HB6.out.trans (hb7.mono HB6.out.size))
       have HN7 : Hid (NewB w w7 a7 zs.length c7 zs) := Lib.hid ⟨hn7.inb, fun ad hh => Nat.le_trans HB6.out.size (hn7.new ad hh), hn7.free⟩
       clear hb7 hn7))
  go_ret2
  exact ⟨a7, c7, rfl, HN7.out, HB7.out⟩
end Go.Proofs.YtkcmohmfejmfoaaGreatDoor

/- The error's number that a digest has of a tree. No program is named here. -/
namespace Go.Proofs.YtkcmohmfejmfoaaGreatDoor
open Go.RowKit
set_option linter.unusedVariables false

/-- The error's number that a digest has of a tree. -/
def toldD (x : Int) (p : Tr) : Nat := if 1 ≤ x ∧ x ≤ 32 then (if checkT p ≠ 0 then checkT p else if digT x.toNat p = none then 3 else 0) else 1
theorem toldD_zero {x : Int} {p : Tr} (h : toldD x p = 0) : ∃ (k : Nat) (zs : List Int), x = k ∧ 1 ≤ k ∧ k ≤ 32 ∧ checkT p = 0 ∧ digT k p = some zs := by
  unfold toldD at h
  split at h
  · rename_i hx
    split at h
    · rename_i hc
      exact absurd h hc
    · rename_i hc
      split at h
      · cases h
      · rename_i hd
        cases hz : digT x.toNat p with
        | none => exact absurd hz hd
        | some zs => exact ⟨x.toNat, zs, by omega, by omega, by omega, by simpa using hc, hz⟩
  · cases h
theorem toldD_some {k : Nat} {p : Tr} (h1 : 1 ≤ k) (h2 : k ≤ 32) (hc : checkT p = 0) {zs : List Int} (hz : digT k p = some zs) : toldD k p = 0 := by
  unfold toldD
  rw [if_pos ⟨by omega, by omega⟩, if_neg (by rw [hc]; simp)]
  show (if digT k p = none then 3 else 0) = 0
  rw [hz]
  rfl
end Go.Proofs.YtkcmohmfejmfoaaGreatDoor

/- The program's Digest where it tells an error. -/
namespace Go.Proofs.YtkcmohmfejmfoaaGreatDoor
open Go.RowKit
set_option linter.unusedVariables false

/-- Digest's error, by its number. -/
theorem digest_told (x : Int) (p : Tr) (h : TH) (w : World) (ht : InTree w h p) (hT : TabLies w) (hx1 : -9223372036854775808 ≤ x) (hx2 : x ≤ 9223372036854775807) (hno : toldD x p ≠ 0) :
    Calls Tryz.prog 35 #[.int .i64 x, h.v] w (fun e w' => ∃ a c, e = .returned (.tuple #[.slice a 0 c, .iface 42 (.int .i64 (toldD x p : Nat))]) ∧ Below w.heap.size w w') := by
  have post : ∀ (m : Nat), m ≠ 0 → ∀ e w', ErrPost w m e w' → ∃ a c, e = .returned (.tuple #[.slice a 0 c, .iface 42 (.int .i64 (m : Nat))]) ∧ Below w.heap.size w w' := fun m hm e w' ⟨a, c, q1, q2⟩ => ⟨a, c, by rw [q1]; unfold codeV; rw [if_neg hm], q2⟩
  by_cases hx : 1 ≤ x ∧ x ≤ 32
  · obtain ⟨k, rfl⟩ : ∃ k : Nat, x = (k : Int) := ⟨x.toNat, by omega⟩
    by_cases hc : checkT p = 0
    · cases hd : digT k p with
      | none =>
        have e : toldD (k : Int) p = 3 := by
          unfold toldD
          rw [if_pos hx, if_neg (by rw [hc]; simp)]
          exact if_pos hd
        rw [e]
        exact (digest_none k (by omega) (by omega) p h w ht hT hc hd).mono fun e w' q => post 3 (by omega) e w' q
      | some zs => exact absurd (toldD_some (by omega) (by omega) hc hd) hno
    · have e : toldD (k : Int) p = checkT p := by
        unfold toldD
        rw [if_pos hx, if_pos hc]
      rw [e]
      exact (digest_err k (by omega) (by omega) p h w ht hc).mono fun e w' q => post _ hc e w' q
  · have e : toldD x p = 1 := by
      unfold toldD
      rw [if_neg hx]
    rw [e]
    exact (digest_arg x p h w ht hx1 hx2 hx).mono fun e w' q => post 1 (by omega) e w' q
end Go.Proofs.YtkcmohmfejmfoaaGreatDoor

/- The contract of the program's Full. -/
namespace Go.Proofs.YtkcmohmfejmfoaaGreatDoor
open Go.RowKit
set_option linter.unusedVariables false

set_option maxRecDepth 100000 in
set_option maxHeartbeats 4000000 in
theorem full_any (t : Tr) (h : TH) (w : World) (ht : InTree w h t) : Calls Tryz.prog 36 #[h.v] w (Says w (.bool (decide (checkT t = 0) && fullT t))) := by
  unfold TH.v
  have hbox := Box.new w 25 h
  have HX := Lib.hid hbox
  have HT := Lib.hid ht
  obtain ⟨x0, x1, x2, x3, x4⟩ := hbox.cells
  clear hbox ht
  go_enter Tryz.func36, Tryz.ntmps36
  by_cases hc : checkT t = 0
  · have HCZ := Lib.hid hc
    clear hc
    go_wp2_with (first
      | (go_at_call 18
         refine (check_any t h _ ?_).mono ?_
         · exact HT.out.lower ((Below.refl _ _).alloc (Nat.le_refl _) _)
         rintro _ w1 ⟨rfl, hb1⟩
         have HB1 : Hid (Below w.heap.size w w1) := Lib.hid (((Below.refl w.heap.size w).alloc (Nat.le_refl _) _).trans (hb1.mono (by simp)))
         obtain ⟨y0, y1, y2, y3, y4⟩ := (HX.out.below hb1 HX.out.lt).cells
         have hcv : codeV (checkT t) = .nilIface := by rw [HCZ.out]; rfl
         rw [hcv]
         clear hcv
         clear hb1 x0 x1 x2 x3 x4)
      | (go_at_call 40
         refine (everyTold t h _ ?_).mono ?_
         · exact HT.out.lower HB1.out
         rintro _ w2 ⟨rfl, hb2⟩
         have HB2 : Hid (Below w.heap.size w w2) := Lib.hid (HB1.out.trans (hb2.mono HB1.out.size))
         rw [allT_told t (check_zero HCZ.out).1]
         clear hb2 y0 y1 y2 y3 y4))
    go_ret
    refine ⟨?_, HB2.out⟩
    rw [HCZ.out]
    rfl
  · have HCZ := Lib.hid hc
    clear hc
    go_wp2_with (first
      | (go_at_call 18
         refine (check_any t h _ ?_).mono ?_
         · exact HT.out.lower ((Below.refl _ _).alloc (Nat.le_refl _) _)
         rintro _ w1 ⟨rfl, hb1⟩
         have HB1 : Hid (Below w.heap.size w w1) := Lib.hid (((Below.refl w.heap.size w).alloc (Nat.le_refl _) _).trans (hb1.mono (by simp)))
         rw [codeV_pos HCZ.out]
         clear hb1 x0 x1 x2 x3 x4))
    go_ret
    refine ⟨?_, HB1.out⟩
    rw [decide_eq_false HCZ.out]
    rfl
end Go.Proofs.YtkcmohmfejmfoaaGreatDoor

/- The contracts of isWidth and withKids of the program's layer 11; of the digest of a part. -/
namespace Go.Proofs.YtkcmohmfejmfoaaGreatDoor
open Go.RowKit
set_option linter.unusedVariables false

set_option maxRecDepth 100000 in
set_option maxHeartbeats 4000000 in
theorem chWidth_ok (x : Int) (w : World) (hx1 : 1 ≤ x) (hx2 : x ≤ 32) : Calls Tryz.prog 17 #[.int .i64 x] w (fun e w' => e = .returned (.bool true) ∧ w' = w) := by
  go_enter Tryz.func17, Tryz.ntmps17
  go_wp2
  go_ret
  exact ⟨by simp, rfl⟩

set_option maxRecDepth 100000 in
set_option maxHeartbeats 4000000 in
theorem chWidth_no (x : Int) (w : World) (hx1 : -9223372036854775808 ≤ x) (hx2 : x ≤ 9223372036854775807) (hx : ¬ (1 ≤ x ∧ x ≤ 32)) : Calls Tryz.prog 17 #[.int .i64 x] w (fun e w' => e = .returned (.bool false) ∧ w' = w) := by
  by_cases h : 1 ≤ x
  · go_enter Tryz.func17, Tryz.ntmps17
    go_wp2
    go_ret
    exact ⟨by simp; omega, rfl⟩
  · go_enter Tryz.func17, Tryz.ntmps17
    go_wp2
    go_ret
    exact ⟨by simp, rfl⟩
/-- withKids' boxes: the node, the kids, the result. -/
structure ZW (w W : World) (hp h1 h2 : TH) : Prop where
  pb : Box W 25 w.heap.size hp
  b1 : Box W 25 (w.heap.size + 1) h1
  b2 : Box W 25 (w.heap.size + 2) h2
  res : Box W 25 (w.heap.size + 3) hZ
  b : Below w.heap.size w W
section
variable {w W W' : World} {hp h1 h2 : TH}
theorem ZW.sz (d : ZW w W hp h1 h2) : w.heap.size + 4 ≤ W.heap.size := d.res.lt
theorem ZW.below (d : ZW w W hp h1 h2) (hb : Below W.heap.size W W') : ZW w W' hp h1 h2 := ⟨d.pb.below hb d.pb.lt, d.b1.below hb d.b1.lt, d.b2.below hb d.b2.lt, d.res.below hb d.res.lt, d.b.trans (hb.mono d.b.size)⟩
theorem ZW.free (d : ZW w W hp h1 h2) : W.frozen? ⟨w.heap.size, 4, none⟩ = false := by
  have q := d.pb
  unfold Box at q
  simp [World.frozen?, q]
theorem ZW.set4 (d : ZW w W hp h1 h2) (a : Option Addr) (n c : Nat) : Box (W.setCell ⟨w.heap.size, 4, none⟩ (.slice a n c)) 25 w.heap.size ⟨hp.k, hp.ka, hp.kn, hp.kc, hp.va, hp.vn, hp.vc, hp.da, hp.dn, hp.dc, a, n, c⟩ := by
  have hb := d.pb
  unfold Box at hb ⊢
  simp [World.setCell, Array.getElem?_modify, hb]
theorem ZW.enter (w : World) (h h1 h2 : TH) : ZW w ((((w.alloc (.cells #[.int .i64 h.k, .slice h.ka h.kn h.kc, .slice h.va h.vn h.vc, .slice h.da h.dn h.dc, .slice h.ta h.tn h.tc] 25)).alloc (.cells #[.int .i64 h1.k, .slice h1.ka h1.kn h1.kc, .slice h1.va h1.vn h1.vc, .slice h1.da h1.dn h1.dc, .slice h1.ta h1.tn h1.tc] 25)).alloc (.cells #[.int .i64 h2.k, .slice h2.ka h2.kn h2.kc, .slice h2.va h2.vn h2.vc, .slice h2.da h2.dn h2.dc, .slice h2.ta h2.tn h2.tc] 25)).alloc (.cells #[.int .i64 0, .slice none 0 0, .slice none 0 0, .slice none 0 0, .slice none 0 0] 25)) h h1 h2 := by
  have q1 : Below w.heap.size w (w.alloc (.cells #[.int .i64 h.k, .slice h.ka h.kn h.kc, .slice h.va h.vn h.vc, .slice h.da h.dn h.dc, .slice h.ta h.tn h.tc] 25)) := (Below.refl _ _).alloc (Nat.le_refl _) _
  have s1 : (w.alloc (.cells #[.int .i64 h.k, .slice h.ka h.kn h.kc, .slice h.va h.vn h.vc, .slice h.da h.dn h.dc, .slice h.ta h.tn h.tc] 25)).heap.size = w.heap.size + 1 := by simp
  have s2 : ((w.alloc (.cells #[.int .i64 h.k, .slice h.ka h.kn h.kc, .slice h.va h.vn h.vc, .slice h.da h.dn h.dc, .slice h.ta h.tn h.tc] 25)).alloc (.cells #[.int .i64 h1.k, .slice h1.ka h1.kn h1.kc, .slice h1.va h1.vn h1.vc, .slice h1.da h1.dn h1.dc, .slice h1.ta h1.tn h1.tc] 25)).heap.size = w.heap.size + 2 := by simp
  have s3 : (((w.alloc (.cells #[.int .i64 h.k, .slice h.ka h.kn h.kc, .slice h.va h.vn h.vc, .slice h.da h.dn h.dc, .slice h.ta h.tn h.tc] 25)).alloc (.cells #[.int .i64 h1.k, .slice h1.ka h1.kn h1.kc, .slice h1.va h1.vn h1.vc, .slice h1.da h1.dn h1.dc, .slice h1.ta h1.tn h1.tc] 25)).alloc (.cells #[.int .i64 h2.k, .slice h2.ka h2.kn h2.kc, .slice h2.va h2.vn h2.vc, .slice h2.da h2.dn h2.dc, .slice h2.ta h2.tn h2.tc] 25)).heap.size = w.heap.size + 3 := by simp
  have q2 : Below (w.alloc (.cells #[.int .i64 h.k, .slice h.ka h.kn h.kc, .slice h.va h.vn h.vc, .slice h.da h.dn h.dc, .slice h.ta h.tn h.tc] 25)).heap.size (w.alloc (.cells #[.int .i64 h.k, .slice h.ka h.kn h.kc, .slice h.va h.vn h.vc, .slice h.da h.dn h.dc, .slice h.ta h.tn h.tc] 25)) ((w.alloc (.cells #[.int .i64 h.k, .slice h.ka h.kn h.kc, .slice h.va h.vn h.vc, .slice h.da h.dn h.dc, .slice h.ta h.tn h.tc] 25)).alloc (.cells #[.int .i64 h1.k, .slice h1.ka h1.kn h1.kc, .slice h1.va h1.vn h1.vc, .slice h1.da h1.dn h1.dc, .slice h1.ta h1.tn h1.tc] 25)) := (Below.refl _ _).alloc (Nat.le_refl _) _
  have q3 : Below ((w.alloc (.cells #[.int .i64 h.k, .slice h.ka h.kn h.kc, .slice h.va h.vn h.vc, .slice h.da h.dn h.dc, .slice h.ta h.tn h.tc] 25)).alloc (.cells #[.int .i64 h1.k, .slice h1.ka h1.kn h1.kc, .slice h1.va h1.vn h1.vc, .slice h1.da h1.dn h1.dc, .slice h1.ta h1.tn h1.tc] 25)).heap.size ((w.alloc (.cells #[.int .i64 h.k, .slice h.ka h.kn h.kc, .slice h.va h.vn h.vc, .slice h.da h.dn h.dc, .slice h.ta h.tn h.tc] 25)).alloc (.cells #[.int .i64 h1.k, .slice h1.ka h1.kn h1.kc, .slice h1.va h1.vn h1.vc, .slice h1.da h1.dn h1.dc, .slice h1.ta h1.tn h1.tc] 25)) (((w.alloc (.cells #[.int .i64 h.k, .slice h.ka h.kn h.kc, .slice h.va h.vn h.vc, .slice h.da h.dn h.dc, .slice h.ta h.tn h.tc] 25)).alloc (.cells #[.int .i64 h1.k, .slice h1.ka h1.kn h1.kc, .slice h1.va h1.vn h1.vc, .slice h1.da h1.dn h1.dc, .slice h1.ta h1.tn h1.tc] 25)).alloc (.cells #[.int .i64 h2.k, .slice h2.ka h2.kn h2.kc, .slice h2.va h2.vn h2.vc, .slice h2.da h2.dn h2.dc, .slice h2.ta h2.tn h2.tc] 25)) := (Below.refl _ _).alloc (Nat.le_refl _) _
  have q4 : Below (((w.alloc (.cells #[.int .i64 h.k, .slice h.ka h.kn h.kc, .slice h.va h.vn h.vc, .slice h.da h.dn h.dc, .slice h.ta h.tn h.tc] 25)).alloc (.cells #[.int .i64 h1.k, .slice h1.ka h1.kn h1.kc, .slice h1.va h1.vn h1.vc, .slice h1.da h1.dn h1.dc, .slice h1.ta h1.tn h1.tc] 25)).alloc (.cells #[.int .i64 h2.k, .slice h2.ka h2.kn h2.kc, .slice h2.va h2.vn h2.vc, .slice h2.da h2.dn h2.dc, .slice h2.ta h2.tn h2.tc] 25)).heap.size (((w.alloc (.cells #[.int .i64 h.k, .slice h.ka h.kn h.kc, .slice h.va h.vn h.vc, .slice h.da h.dn h.dc, .slice h.ta h.tn h.tc] 25)).alloc (.cells #[.int .i64 h1.k, .slice h1.ka h1.kn h1.kc, .slice h1.va h1.vn h1.vc, .slice h1.da h1.dn h1.dc, .slice h1.ta h1.tn h1.tc] 25)).alloc (.cells #[.int .i64 h2.k, .slice h2.ka h2.kn h2.kc, .slice h2.va h2.vn h2.vc, .slice h2.da h2.dn h2.dc, .slice h2.ta h2.tn h2.tc] 25)) ((((w.alloc (.cells #[.int .i64 h.k, .slice h.ka h.kn h.kc, .slice h.va h.vn h.vc, .slice h.da h.dn h.dc, .slice h.ta h.tn h.tc] 25)).alloc (.cells #[.int .i64 h1.k, .slice h1.ka h1.kn h1.kc, .slice h1.va h1.vn h1.vc, .slice h1.da h1.dn h1.dc, .slice h1.ta h1.tn h1.tc] 25)).alloc (.cells #[.int .i64 h2.k, .slice h2.ka h2.kn h2.kc, .slice h2.va h2.vn h2.vc, .slice h2.da h2.dn h2.dc, .slice h2.ta h2.tn h2.tc] 25)).alloc (.cells #[.int .i64 0, .slice none 0 0, .slice none 0 0, .slice none 0 0, .slice none 0 0] 25)) := (Below.refl _ _).alloc (Nat.le_refl _) _
  have x0 := Box.new w 25 h
  have x1 := Box.new (w.alloc (.cells #[.int .i64 h.k, .slice h.ka h.kn h.kc, .slice h.va h.vn h.vc, .slice h.da h.dn h.dc, .slice h.ta h.tn h.tc] 25)) 25 h1
  have x2 := Box.new ((w.alloc (.cells #[.int .i64 h.k, .slice h.ka h.kn h.kc, .slice h.va h.vn h.vc, .slice h.da h.dn h.dc, .slice h.ta h.tn h.tc] 25)).alloc (.cells #[.int .i64 h1.k, .slice h1.ka h1.kn h1.kc, .slice h1.va h1.vn h1.vc, .slice h1.da h1.dn h1.dc, .slice h1.ta h1.tn h1.tc] 25)) 25 h2
  have x3 := Box.new (((w.alloc (.cells #[.int .i64 h.k, .slice h.ka h.kn h.kc, .slice h.va h.vn h.vc, .slice h.da h.dn h.dc, .slice h.ta h.tn h.tc] 25)).alloc (.cells #[.int .i64 h1.k, .slice h1.ka h1.kn h1.kc, .slice h1.va h1.vn h1.vc, .slice h1.da h1.dn h1.dc, .slice h1.ta h1.tn h1.tc] 25)).alloc (.cells #[.int .i64 h2.k, .slice h2.ka h2.kn h2.kc, .slice h2.va h2.vn h2.vc, .slice h2.da h2.dn h2.dc, .slice h2.ta h2.tn h2.tc] 25)) 25 hZ
  rw [s1] at x1
  rw [s2] at x2
  rw [s3] at x3
  have y0 := ((x0.below q2 x0.lt).below q3 (x0.below q2 x0.lt).lt)
  have y1 := x1.below q3 x1.lt
  have z := (q1.trans (q2.mono q1.size)).trans (q3.mono (by rw [s2]; omega))
  exact ⟨y0.below q4 y0.lt, y1.below q4 y1.lt, x2.below q4 x2.lt, x3, z.trans (q4.mono z.size)⟩
end
/-- withKids' answer: the node over two kids that lie side by side in a new block. -/
def WithPost (w : World) (h h1 h2 : TH) (e : Ending) (w' : World) : Prop := ∃ g, e = .returned (TH.v ⟨h.k, h.ka, h.kn, h.kc, h.va, h.vn, h.vc, h.da, h.dn, h.dc, some ⟨g, 0, none⟩, 2, 2⟩) ∧ w.heap.size ≤ g ∧ Two5 w' 25 g h1 h2 ∧ Below w.heap.size w w'

set_option maxRecDepth 100000 in
set_option maxHeartbeats 4000000 in
theorem withKids_any (h h1 h2 : TH) (w : World) : Calls Tryz.prog 38 #[.agg #[.int .i64 h.k, .slice h.ka h.kn h.kc, .slice h.va h.vn h.vc, .slice h.da h.dn h.dc, .slice h.ta h.tn h.tc], .agg #[.int .i64 h1.k, .slice h1.ka h1.kn h1.kc, .slice h1.va h1.vn h1.vc, .slice h1.da h1.dn h1.dc, .slice h1.ta h1.tn h1.tc], .agg #[.int .i64 h2.k, .slice h2.ka h2.kn h2.kc, .slice h2.va h2.vn h2.vc, .slice h2.da h2.dn h2.dc, .slice h2.ta h2.tn h2.tc]] w (WithPost w h h1 h2) := by
  have HD := Lib.hid (ZW.enter w h h1 h2)
  go_enter Tryz.func38, Tryz.ntmps38
  go_upto_region 1 with fail
  generalize ((((w.alloc (.cells #[.int .i64 h.k, .slice h.ka h.kn h.kc, .slice h.va h.vn h.vc, .slice h.da h.dn h.dc, .slice h.ta h.tn h.tc] 25)).alloc (.cells #[.int .i64 h1.k, .slice h1.ka h1.kn h1.kc, .slice h1.va h1.vn h1.vc, .slice h1.da h1.dn h1.dc, .slice h1.ta h1.tn h1.tc] 25)).alloc (.cells #[.int .i64 h2.k, .slice h2.ka h2.kn h2.kc, .slice h2.va h2.vn h2.vc, .slice h2.da h2.dn h2.dc, .slice h2.ta h2.tn h2.tc] 25)).alloc (.cells #[.int .i64 0, .slice none 0 0, .slice none 0 0, .slice none 0 0, .slice none 0 0] 25)) = w4 at *
  obtain ⟨x0, x1, x2, x3, x4⟩ := HD.out.b1.cells
  obtain ⟨y0, y1, y2, y3, y4⟩ := HD.out.b2.cells
  have q5 : Below w4.heap.size w4 (w4.alloc (.cells #[.int .i64 h1.k, .slice h1.ka h1.kn h1.kc, .slice h1.va h1.vn h1.vc, .slice h1.da h1.dn h1.dc, .slice h1.ta h1.tn h1.tc, .int .i64 h2.k, .slice h2.ka h2.kn h2.kc, .slice h2.va h2.vn h2.vc, .slice h2.da h2.dn h2.dc, .slice h2.ta h2.tn h2.tc] 25)) := (Below.refl _ _).alloc (Nat.le_refl _) _
  have fr := ZW.free (HD.out.below q5)
  have fc := (HD.out.below q5).pb.cells.2.2.2.2
  have HD5 := Lib.hid (HD.out.below q5)
  have HT5 := Lib.hid (Two5.new w4 25 h1 h2)
  have HZ4 := Lib.hid HD.out.sz
  clear q5
  go_upto_region 2 with fail
  clear fr fc x0 x1 x2 x3 x4 y0 y1 y2 y3 y4
  have g6 : (w4.alloc (.cells #[.int .i64 h1.k, .slice h1.ka h1.kn h1.kc, .slice h1.va h1.vn h1.vc, .slice h1.da h1.dn h1.dc, .slice h1.ta h1.tn h1.tc, .int .i64 h2.k, .slice h2.ka h2.kn h2.kc, .slice h2.va h2.vn h2.vc, .slice h2.da h2.dn h2.dc, .slice h2.ta h2.tn h2.tc] 25)).grownBy ((w4.alloc (.cells #[.int .i64 h1.k, .slice h1.ka h1.kn h1.kc, .slice h1.va h1.vn h1.vc, .slice h1.da h1.dn h1.dc, .slice h1.ta h1.tn h1.tc, .int .i64 h2.k, .slice h2.ka h2.kn h2.kc, .slice h2.va h2.vn h2.vc, .slice h2.da h2.dn h2.dc, .slice h2.ta h2.tn h2.tc] 25)).setCell ⟨w.heap.size, 4, none⟩ (.slice (some ⟨w4.heap.size, 0, none⟩) 2 2)) (some w.heap.size) := only_set (only_refl _ _) 4 _
  have HP6 := Lib.hid (ZW.set4 HD5.out (some ⟨w4.heap.size, 0, none⟩) 2 2)
  have HR6 := Lib.hid (HD5.out.res.grown g6 (fun q => by injection q with q; omega))
  have HB6 : Hid (Below w.heap.size w ((w4.alloc (.cells #[.int .i64 h1.k, .slice h1.ka h1.kn h1.kc, .slice h1.va h1.vn h1.vc, .slice h1.da h1.dn h1.dc, .slice h1.ta h1.tn h1.tc, .int .i64 h2.k, .slice h2.ka h2.kn h2.kc, .slice h2.va h2.vn h2.vc, .slice h2.da h2.dn h2.dc, .slice h2.ta h2.tn h2.tc] 25)).setCell ⟨w.heap.size, 4, none⟩ (.slice (some ⟨w4.heap.size, 0, none⟩) 2 2))) := Lib.hid (HD5.out.b.grown g6 HD5.out.b.size (fun j hj => by injection hj; omega))
  have HT6 : Hid (Two5 ((w4.alloc (.cells #[.int .i64 h1.k, .slice h1.ka h1.kn h1.kc, .slice h1.va h1.vn h1.vc, .slice h1.da h1.dn h1.dc, .slice h1.ta h1.tn h1.tc, .int .i64 h2.k, .slice h2.ka h2.kn h2.kc, .slice h2.va h2.vn h2.vc, .slice h2.da h2.dn h2.dc, .slice h2.ta h2.tn h2.tc] 25)).setCell ⟨w.heap.size, 4, none⟩ (.slice (some ⟨w4.heap.size, 0, none⟩) 2 2)) 25 w4.heap.size h1 h2) := Lib.hid ((g6.block _ HT5.out.lt (fun q => by injection q with q; have := HZ4.out; omega)).trans HT5.out)
  clear g6 HD5 HT5
  generalize ((w4.alloc (.cells #[.int .i64 h1.k, .slice h1.ka h1.kn h1.kc, .slice h1.va h1.vn h1.vc, .slice h1.da h1.dn h1.dc, .slice h1.ta h1.tn h1.tc, .int .i64 h2.k, .slice h2.ka h2.kn h2.kc, .slice h2.va h2.vn h2.vc, .slice h2.da h2.dn h2.dc, .slice h2.ta h2.tn h2.tc] 25)).setCell ⟨w.heap.size, 4, none⟩ (.slice (some ⟨w4.heap.size, 0, none⟩) 2 2)) = w6 at *
  obtain ⟨x0, x1, x2, x3, x4⟩ := HP6.out.cells
  go_wp2_with (first
    | (refine wpList_store_box rfl 25 (.tmp 6) (.tmp 11) rfl (w.heap.size + 3) hZ ⟨h.k, h.ka, h.kn, h.kc, h.va, h.vn, h.vc, h.da, h.dn, h.dc, some ⟨w4.heap.size, 0, none⟩, 2, 2⟩ rfl rfl 25 HR6.out infoTree5 ?_
       intro w9 hbx9 hg9
       have HX9 := Lib.hid hbx9
       have HT9 : Hid (Two5 w9 25 w4.heap.size h1 h2) := Lib.hid ((hg9.block _ HT6.out.lt (fun q => by injection q with q; have := HZ4.out; omega)).trans HT6.out)
       have HB9 : Hid (Below w.heap.size w w9) := Lib.hid (HB6.out.grown hg9 HB6.out.size (fun j hj => by injection hj; omega))
       clear hbx9 hg9))
  exact bodyPost_ret (v := TH.v ⟨h.k, h.ka, h.kn, h.kc, h.va, h.vn, h.vc, h.da, h.dn, h.dc, some ⟨w4.heap.size, 0, none⟩, 2, 2⟩) (result_tree Tryz.results38 _ HX9.out rfl Tryz.underlying25 infoTree5) rfl ⟨w4.heap.size, rfl, by have := HZ4.out; omega, HT9.out, HB9.out⟩
/-- Whether a part is one that a cut may stand for: an error's number. -/
def partX (k : Nat) (p : Tr) : Nat := if toldD k p ≠ 0 then toldD k p else if fullT p = false ∨ p.k = 0 then 3 else 0
/-- digestOfPart's answer. -/
def PartPost (w : World) (k : Nat) (p : Tr) (x : Nat) (e : Ending) (w' : World) : Prop := ∃ a c, Below w.heap.size w w' ∧ ((x ≠ 0 ∧ e = .returned (.tuple #[.slice a 0 c, .iface 42 (.int .i64 (x : Nat))])) ∨ (x = 0 ∧ ∃ zs, digT k p = some zs ∧ e = .returned (.tuple #[.slice a k c, .nilIface]) ∧ InBytes w' a k c zs))

set_option maxRecDepth 100000 in
set_option maxHeartbeats 4000000 in
theorem part_any (k : Nat) (hk1 : 1 ≤ k) (hk2 : k ≤ 32) (p : Tr) (h : TH) (w : World) (ht : InTree w h p) (hT : TabLies w) : Calls Tryz.prog 23 #[.int .i64 k, .agg #[.int .i64 h.k, .slice h.ka h.kn h.kc, .slice h.va h.vn h.vc, .slice h.da h.dn h.dc, .slice h.ta h.tn h.tc]] w (PartPost w k p (partX k p)) := by
  have HT := Lib.hid ht
  have HTT := Lib.hid hT
  obtain ⟨H, hp⟩ := ht.parts
  have HKK := Lib.hid hp.hk
  have HX0 : Hid (Box (w.alloc (.cells #[.int .i64 h.k, .slice h.ka h.kn h.kc, .slice h.va h.vn h.vc, .slice h.da h.dn h.dc, .slice h.ta h.tn h.tc] 25)) 25 w.heap.size h ∧ Below w.heap.size w (w.alloc (.cells #[.int .i64 h.k, .slice h.ka h.kn h.kc, .slice h.va h.vn h.vc, .slice h.da h.dn h.dc, .slice h.ta h.tn h.tc] 25))) := Lib.hid ⟨Box.new w 25 h, (Below.refl _ _).alloc (Nat.le_refl _) _⟩
  obtain ⟨x, hx⟩ : ∃ x, partX k p = x := ⟨_, rfl⟩
  rw [hx]
  have HPX := Lib.hid hx
  clear hp ht hT hx
  go_enter Tryz.func23, Tryz.ntmps23
  go_upto_region 1 with fail
  generalize (w.alloc (.cells #[.int .i64 h.k, .slice h.ka h.kn h.kc, .slice h.va h.vn h.vc, .slice h.da h.dn h.dc, .slice h.ta h.tn h.tc] 25)) = w0 at *
  obtain ⟨x0, x1, x2, x3, x4⟩ := HX0.out.1.cells
  by_cases hno : toldD k p = 0
  case neg =>
    have HNO := Lib.hid hno
    have hx : x = toldD k p := by rw [← HPX.out]; unfold partX; rw [if_pos hno]
    subst hx
    clear hno
    go_wp2_with (first
    | (go_at_call 35
       refine (digest_told (k : Int) p h _ (HT.out.lower HX0.out.2) (HTT.out.below HX0.out.2 (Nat.le_refl _)) (by omega) (by omega) HNO.out).mono ?_
       rintro _ w1 ⟨a1, c1, rfl, hb1⟩
       have HX1 : Hid (Below w.heap.size w w1) := Lib.hid (HX0.out.2.trans (hb1.mono HX0.out.2.size))
       clear hb1 x0 x1 x2 x3 x4))
    go_ret2
    exact ⟨none, 0, HX1.out, .inl ⟨HNO.out, rfl⟩⟩
  obtain ⟨k', zs, hk', -, -, hc, hzs⟩ := toldD_zero hno
  obtain rfl : k = k' := by omega
  have HC := Lib.hid hc
  have HZS := Lib.hid hzs
  have HL := Lib.hid (digT_len hk2 hzs)
  have HNO := Lib.hid hno
  have hxe : x = if fullT p = false ∨ p.k = 0 then 3 else 0 := by rw [← HPX.out]; unfold partX; rw [if_neg (by rw [hno]; simp)]
  clear hc hzs hno hk'
  cases hfb : fullT p with
  | false =>
    have HFB : Hid ((decide (checkT p = 0) && fullT p) = false) := Lib.hid (by rw [hfb, Bool.and_false])
    have hx : x = 3 := by rw [hxe, if_pos (.inl hfb)]
    subst hx
    clear hfb hxe
    go_wp2_with (first
    | (go_at_call 35
       refine (digest_ok k hk1 hk2 p h _ (HT.out.lower HX0.out.2) (HTT.out.below HX0.out.2 (Nat.le_refl _)) HC.out HZS.out).mono ?_
       rintro _ w1 ⟨a1, c1, rfl, hn1, hb1⟩
       rw [HL.out] at hn1 ⊢
       have HI1 := Lib.hid hn1.inb
       have HX1 : Hid (Box w1 25 w.heap.size h ∧ Below w.heap.size w w1) := Lib.hid ⟨HX0.out.1.below hb1 HX0.out.1.lt, HX0.out.2.trans (hb1.mono HX0.out.2.size)⟩
       clear hn1 hb1 x0 x1 x2 x3 x4
       obtain ⟨x0, x1, x2, x3, x4⟩ := HX1.out.1.cells)
    | (go_at_call 36
       refine (full_any p h _ (HT.out.lower HX1.out.2)).mono ?_
       rintro _ w2 ⟨rfl, hb2⟩
       rw [HFB.out]
       have HX2 : Hid (Box w2 25 w.heap.size h ∧ Below w.heap.size w w2) := Lib.hid ⟨HX1.out.1.below hb2 HX1.out.1.lt, HX1.out.2.trans (hb2.mono HX1.out.2.size)⟩
       have HI2 := Lib.hid (HI1.out.below hb2)
       clear hb2 x0 x1 x2 x3 x4
       obtain ⟨x0, x1, x2, x3, x4⟩ := HX2.out.1.cells))
    go_ret2
    exact ⟨none, 0, HX2.out.2, .inl ⟨by omega, rfl⟩⟩
  | true =>
    have HFB : Hid ((decide (checkT p = 0) && fullT p) = true) := Lib.hid (by rw [hfb, HC.out]; rfl)
    by_cases hk0 : p.k = 0
    · have e0 : (h.k == 0) = true := by rw [HKK.out, hk0]; rfl
      have hx : x = 3 := by rw [hxe, if_pos (.inr hk0)]
      subst hx
      clear hfb hk0 hxe
      go_wp2_with (first
      | (go_at_call 35
         refine (digest_ok k hk1 hk2 p h _ (HT.out.lower HX0.out.2) (HTT.out.below HX0.out.2 (Nat.le_refl _)) HC.out HZS.out).mono ?_
         rintro _ w1 ⟨a1, c1, rfl, hn1, hb1⟩
         rw [HL.out] at hn1 ⊢
         have HI1 := Lib.hid hn1.inb
         have HX1 : Hid (Box w1 25 w.heap.size h ∧ Below w.heap.size w w1) := Lib.hid ⟨HX0.out.1.below hb1 HX0.out.1.lt, HX0.out.2.trans (hb1.mono HX0.out.2.size)⟩
         clear hn1 hb1 x0 x1 x2 x3 x4
         obtain ⟨x0, x1, x2, x3, x4⟩ := HX1.out.1.cells)
      | (go_at_call 36
         refine (full_any p h _ (HT.out.lower HX1.out.2)).mono ?_
         rintro _ w2 ⟨rfl, hb2⟩
         rw [HFB.out]
         have HX2 : Hid (Box w2 25 w.heap.size h ∧ Below w.heap.size w w2) := Lib.hid ⟨HX1.out.1.below hb2 HX1.out.1.lt, HX1.out.2.trans (hb2.mono HX1.out.2.size)⟩
         have HI2 := Lib.hid (HI1.out.below hb2)
         clear hb2 x0 x1 x2 x3 x4
         obtain ⟨x0, x1, x2, x3, x4⟩ := HX2.out.1.cells))
      go_ret2
      exact ⟨none, 0, HX2.out.2, .inl ⟨by omega, rfl⟩⟩
    · have e0 : (h.k == 0) = false := by rw [HKK.out]; simpa using hk0
      have hx : x = 0 := by rw [hxe, if_neg (by rw [hfb]; simp [hk0])]
      subst hx
      clear hfb hk0 hxe
      go_wp2_with (first
      | (go_at_call 35
         refine (digest_ok k hk1 hk2 p h _ (HT.out.lower HX0.out.2) (HTT.out.below HX0.out.2 (Nat.le_refl _)) HC.out HZS.out).mono ?_
         rintro _ w1 ⟨a1, c1, rfl, hn1, hb1⟩
         rw [HL.out] at hn1 ⊢
         have HI1 := Lib.hid hn1.inb
         have HX1 : Hid (Box w1 25 w.heap.size h ∧ Below w.heap.size w w1) := Lib.hid ⟨HX0.out.1.below hb1 HX0.out.1.lt, HX0.out.2.trans (hb1.mono HX0.out.2.size)⟩
         clear hn1 hb1 x0 x1 x2 x3 x4
         obtain ⟨x0, x1, x2, x3, x4⟩ := HX1.out.1.cells)
      | (go_at_call 36
         refine (full_any p h _ (HT.out.lower HX1.out.2)).mono ?_
         rintro _ w2 ⟨rfl, hb2⟩
         rw [HFB.out]
         have HX2 : Hid (Box w2 25 w.heap.size h ∧ Below w.heap.size w w2) := Lib.hid ⟨HX1.out.1.below hb2 HX1.out.1.lt, HX1.out.2.trans (hb2.mono HX1.out.2.size)⟩
         have HI2 := Lib.hid (HI1.out.below hb2)
         clear hb2 x0 x1 x2 x3 x4
         obtain ⟨x0, x1, x2, x3, x4⟩ := HX2.out.1.cells))
      go_ret2
      exact ⟨_, _, HX2.out.2, .inr ⟨rfl, zs, HZS.out, rfl, HI2.out⟩⟩
end Go.Proofs.YtkcmohmfejmfoaaGreatDoor

/- The order of strings is the order of keys. No program is named here. -/
namespace Go.Proofs.YtkcmohmfejmfoaaGreatDoor
open Go.RowKit
set_option linter.unusedVariables false

theorem bytesLess_lt : ∀ {xs ys : List Int}, Bytes8 xs → Bytes8 ys → Op.bytesLess (xs.map fun n => UInt8.ofNat n.toNat) (ys.map fun n => UInt8.ofNat n.toNat) = ltL xs ys
  | [], [], _, _ => rfl
  | _ :: _, [], _, _ => rfl
  | [], _ :: _, _, _ => rfl
  | x :: xs, y :: ys, hx, hy => by
    have h1 := hx x (by simp)
    have h2 := hy y (by simp)
    have ih := bytesLess_lt (xs := xs) (ys := ys) (fun z hz => hx z (by simp [hz])) (fun z hz => hy z (by simp [hz]))
    rw [List.map_cons, List.map_cons, Op.bytesLess, ltL, ih]
    have e1 : decide (UInt8.ofNat x.toNat < UInt8.ofNat y.toNat) = decide (x < y) := by
      rw [Bool.eq_iff_iff, decide_eq_true_eq, decide_eq_true_eq, UInt8.lt_iff_toNat_lt]
      simp only [UInt8.toNat_ofNat']
      omega
    have e2 : (UInt8.ofNat x.toNat == UInt8.ofNat y.toNat) = (x == y) := by
      rw [Bool.eq_iff_iff, beq_iff_eq, beq_iff_eq]
      constructor
      · intro h
        have h3 := congrArg UInt8.toNat h
        simp only [UInt8.toNat_ofNat'] at h3
        omega
      · rintro rfl
        rfl
    rw [e1, e2]
theorem str_lt {xs ys : List Int} (hx : Bytes8 xs) (hy : Bytes8 ys) : Op.bytesLess (strOfNums xs).toList (strOfNums ys).toList = ltL xs ys := by
  unfold strOfNums
  rw [ByteArray.toList_mk, ByteArray.toList_mk]
  exact bytesLess_lt hx hy
theorem str_eq {xs ys : List Int} (hx : Bytes8 xs) (hy : Bytes8 ys) : ((strOfNums xs).toList == (strOfNums ys).toList) = (xs == ys) := by
  by_cases h : xs = ys
  · subst h
    simp
  · rw [str_ne hx hy h, beq_eq_false_iff_ne.2 h]
end Go.Proofs.YtkcmohmfejmfoaaGreatDoor

/- Rows of records in one's own memory, and as arguments. No program is named here. -/
namespace Go.Proofs.YtkcmohmfejmfoaaGreatDoor
open Go.ChangeShapes Go.WideShapes Go.RowKit Go.Deep
set_option linter.unusedVariables false

/-- A kind of record: its cells. -/
structure Rec (R : Type) where
  cells : R → List Value
  sz : Nat
  pos : 0 < sz
  len : ∀ r, (cells r).length = sz
  one : ∀ r u, u ∈ cells r → u.oneCell' = true
section
variable {R : Type}
/-- The cells of records, one behind the other. -/
def Rec.row (c : Rec R) (rs : List R) : List Value := rs.flatMap c.cells
theorem Rec.row_len (c : Rec R) (rs : List R) : (c.row rs).length = rs.length * c.sz := by
  unfold Rec.row
  induction rs with
  | nil => simp
  | cons h r ih =>
    rw [List.flatMap_cons, List.length_append, ih, c.len, List.length_cons, Nat.succ_mul]
    omega
theorem Rec.row_app (c : Rec R) (a b : List R) : c.row (a ++ b) = c.row a ++ c.row b := by simp [Rec.row]
theorem Rec.row_one (c : Rec R) {rs : List R} {u : Value} (h : u ∈ c.row rs) : u.oneCell' = true := by
  unfold Rec.row at h
  rw [List.mem_flatMap] at h
  obtain ⟨x, _, hx⟩ := h
  exact c.one x u hx
theorem Rec.row_get (c : Rec R) (rs : List R) (i j : Nat) (hi : i < rs.length) (hj : j < c.sz) : (c.row rs)[i * c.sz + j]? = (c.cells rs[i])[j]? := by
  induction rs generalizing i with
  | nil => simp at hi
  | cons h r ih =>
    have e : c.row (h :: r) = c.cells h ++ c.row r := by simp [Rec.row]
    rw [e]
    rcases i with _ | i
    · rw [List.getElem?_append_left (by rw [c.len]; omega), Nat.zero_mul, Nat.zero_add]
      rfl
    · rw [List.getElem?_append_right (by rw [c.len, Nat.succ_mul]; omega)]
      have e2 : (i + 1) * c.sz + j - (c.cells h).length = i * c.sz + j := by rw [c.len, Nat.succ_mul]; omega
      rw [e2, ih i (by simpa using hi)]
      simp

/-- A row of records in new memory, from the block base on. -/
def OwnR (c : Rec R) (W : World) (base : Nat) (ty : TypeId) (v : Value) (rs : List R) : Prop := W.ownsRow base ty c.sz v rs.length (c.row rs)
variable {c : Rec R} {W W' : World} {base base' : Nat} {ty : TypeId} {v : Value} {rs : List R}
theorem OwnR.grown (h : OwnR c W base ty v rs) {row : Option Nat} (hg : W.grownBy W' row) (hne : v.ownBlock = none ∨ v.ownBlock ≠ row) : OwnR c W' base ty v rs := World.ownsRow.kept h hg hne
theorem OwnR.keep (h : OwnR c W base ty v rs) (hb : Below W.heap.size W W') : OwnR c W' base ty v rs :=
  h.grown (only_below hb none) (by by_cases h : v.ownBlock = none; exact .inl h; exact .inr h)
theorem OwnR.weak (h : OwnR c W base ty v rs) (hb : base' ≤ base) : OwnR c W base' ty v rs := by
  refine ⟨h.1, ?_⟩
  rcases h.2 with h1 | ⟨g, cap, cur, h1, h2, h3⟩
  · exact .inl h1
  · exact .inr ⟨g, cap, cur, h1, Nat.le_trans hb h2, h3⟩
theorem OwnR.nil (c : Rec R) (W : World) (base : Nat) (ty : TypeId) : OwnR c W base ty (.slice none 0 0) [] := ⟨by simp [Rec.row], .inl ⟨rfl, rfl⟩⟩
/-- Its block, and its cells. -/
theorem OwnR.form (h : OwnR c W base ty v rs) : (v = .slice none 0 0 ∧ rs = []) ∨ ∃ g k, v = .slice (some ⟨g, 0, none⟩) rs.length k ∧ base ≤ g ∧ g < W.heap.size ∧ rs.length ≤ k ∧ k ≤ maxLen ∧ ∀ j u, (c.row rs)[j]? = some u → W.cell? ⟨g, j, none⟩ = some u := by
  rcases h.2 with ⟨h1, h2⟩ | ⟨g, cap, cur, h1, h2, h3, h4, h5, h6, h7⟩
  · exact .inl ⟨h1, List.eq_nil_of_length_eq_zero h2⟩
  · right
    have hlt : g < W.heap.size := by
      rcases Nat.lt_or_ge g W.heap.size with hlt | hge
      · exact hlt
      · rw [Array.getElem?_eq_none hge] at h3; cases h3
    refine ⟨g, cap, h1, h2, hlt, h4, h5, fun j u hu => ?_⟩
    rw [cell_of_row W g j _ _ (0, 0) h3]
    rw [← h7, List.getElem?_take] at hu
    split at hu
    · simpa using hu
    · cases hu
theorem OwnR.sl (h : OwnR c W base ty v rs) : ∃ a k, v = .slice a rs.length k := by
  rcases h.form with ⟨h1, h2⟩ | ⟨g, k, h1, _⟩
  · exact ⟨none, 0, by rw [h1, h2]; rfl⟩
  · exact ⟨_, k, h1⟩
theorem OwnR.base_le (h : OwnR c W base ty v rs) {g : Nat} (hg : v.ownBlock = some g) : base ≤ g ∧ g < W.heap.size := by
  rcases h.form with ⟨h1, _⟩ | ⟨g', k, h1, h2, h3, _⟩
  · rw [h1] at hg; cases hg
  · rw [h1] at hg
    have e : g' = g := Option.some.inj hg
    subst e
    exact ⟨h2, h3⟩
/-- The cells of the i-th record. -/
theorem OwnR.at {a : Option Addr} {n k : Nat} (h : OwnR c W base ty (.slice a n k) rs) (i : Nat) (hi : i < rs.length) : ∃ g, a = some ⟨g, 0, none⟩ ∧ ∀ j u, (c.cells rs[i])[j]? = some u → W.cell? ⟨g, i * c.sz + j, none⟩ = some u := by
  rcases h.form with ⟨_, h2⟩ | ⟨g, k', h1, _, _, _, _, hc⟩
  · rw [h2] at hi
    simp at hi
  · injection h1 with h1
    refine ⟨g, h1, fun j u hu => ?_⟩
    have hj : j < c.sz := by rw [← c.len rs[i]]; exact (List.getElem?_eq_some_iff.1 hu).1
    exact hc _ _ (by rw [c.row_get rs i j hi hj]; exact hu)

/-- All cells of a row's block, the spare ones too. -/
def AllP (q : Value → Prop) (W : World) (v : Value) : Prop := ∀ g, v.ownBlock = some g → ∀ j u, W.cell? ⟨g, j, none⟩ = some u → q u
/-- append(a, b...), both rows of records of one's own. -/
theorem wpList_append_recs {P : Program} (w : World) {ops : Array Oper} {rest : List Oper} {o : Oper} {a : Act} {Q : Exit → Act → World → Prop} (hgd : o.guard = none) (s x : Operand) (t : TypeId)
    (ho : o.op = .call { callee := .builtin .append, args := #[s, x], argTypes := #[t, t] }) (c : Rec R)
    (base : Nat) (e : TypeId) (i : TypeInfo) (z : Value) (bytes : Nat) (ht : P.underlying t = some (.slice e)) (hi : P.info? e = some i) (hz : i.zero = some z)
    (hsize : i.size = c.sz) (hby : i.bytes = bytes) (hzs : z.cells.size = c.sz)
    (v : Value) (rs : List R) (hs : a.eval s = v) (hown : OwnR c w base e v rs) (base2 : Nat) (v2 : Value) (rs2 : List R) (hx : a.eval x = v2) (hown2 : OwnR c w base2 e v2 rs2)
    (hbytes : (rs.length + rs2.length) * bytes ≤ 140737488355328) (hb0 : 0 < bytes) (hbase : base ≤ w.heap.size)
    (h : ∀ v' w', OwnR c w' base e v' (rs ++ rs2) → w.grownBy w' v.ownBlock → wpList P ops Q rest (a.put o.dst v') w') : wpList P ops Q (o :: rest) a w := by
  rcases hown2.form with ⟨rfl, rfl⟩ | ⟨g, k, rfl, _, _, _, _, hcells⟩
  · refine wpList_append_own_none hgd s x t ho base e i c.sz ht hi v rs.length (c.row rs) hs hown hx ?_
    exact h v w (by simpa using hown) (only_refl w _)
  · have hmax : rs.length + rs2.length ≤ maxLen := by
      have : rs.length + rs2.length ≤ (rs.length + rs2.length) * bytes := Nat.le_mul_of_pos_right _ hb0
      simp only [maxLen]
      omega
    have hnews : ∀ j u, (c.row rs2)[j]? = some u → w.cell? ((⟨g, 0, none⟩ : Addr).add j) = some u := fun j u hu => by
      have hp : (⟨g, 0, none⟩ : Addr).add j = ⟨g, j, none⟩ := by unfold Addr.add; split <;> simp_all
      rw [hp]
      exact hcells j u hu
    obtain ⟨v', w', hr, h2, h3, h4⟩ := run_append_own (P := P) w base t o.type e i z c.sz bytes ht hi hz hsize hby hzs c.pos v rs.length (c.row rs) hown ⟨g, 0, none⟩ rs2.length k (c.row rs2) (c.row_len rs2) hnews (fun u hu => c.row_one hu) hmax hbytes hbase
    refine wpList_plain hgd fun K hK => ?_
    unfold Oper.wp execOp
    simp only [ho, resolve, invoke, builtin, Sem.run_bind, Sem.run_pure, Result.andThen_ok, List.map_toArray, List.map_cons, List.map_nil, hs, hx, hr]
    refine hK _ _ (h v' w' ?_ h3)
    unfold OwnR
    rw [c.row_app, List.length_append]
    exact h2
/-- Block g holds a record's cells. -/
def RBox (c : Rec R) (W : World) (ty : TypeId) (g : Nat) (r : R) : Prop := W.heap[g]? = some (.cells (c.cells r).toArray ty (0, 0))
variable {g : Nat} {r : R}
/-- Records that came in. -/
def InRec (c : Rec R) (w : World) (a : Option Addr) (n cap : Nat) (D : Nat → R) : Prop := InSl w a n cap c.sz (fun i => (c.cells (D (i / c.sz))).getD (i % c.sz) .nilIface)
theorem InRec.below {w w' : World} {a : Option Addr} {n cap : Nat} {D : Nat → R} (h : InRec c w a n cap D) (hb : Below w.heap.size w w') : InRec c w' a n cap D := InSl.below h hb
/-- The cells of the i-th record that came in. -/
theorem InRec.at {w : World} {a : Option Addr} {n cap : Nat} {D : Nat → R} (h : InRec c w a n cap D) (h0 : 0 < n) : ∃ g off, a = some ⟨g, off, none⟩ ∧ g < w.heap.size ∧ ∀ i, i < n → ∀ j u, (c.cells (D i))[j]? = some u → w.cell? ⟨g, off + i * c.sz + j, none⟩ = some u := by
  obtain ⟨g, off, e, hg, hc⟩ := InSl.place h h0
  refine ⟨g, off, e, hg, fun i hi j u hu => ?_⟩
  have hj : j < c.sz := by rw [← c.len (D i)]; exact (List.getElem?_eq_some_iff.1 hu).1
  have h1 := hc (i * c.sz + j) (by
    have : (i + 1) * c.sz ≤ n * c.sz := Nat.mul_le_mul_right _ hi
    rw [Nat.succ_mul] at this
    omega)
  have e1 : (i * c.sz + j) / c.sz = i := by rw [Nat.mul_comm, Nat.mul_add_div c.pos, Nat.div_eq_of_lt hj, Nat.add_zero]
  have e2 : (i * c.sz + j) % c.sz = j := by rw [Nat.mul_comm, Nat.mul_add_mod, Nat.mod_eq_of_lt hj]
  try dsimp only at h1
  rw [e1, e2, ← Nat.add_assoc] at h1
  rw [h1, List.getD, hu]
  rfl
/-- A row of one's own, as one that came in. -/
theorem OwnR.inRec {a : Option Addr} {n k : Nat} (h : OwnR c W base ty (.slice a n k) rs) (r0 : R) : rs.length = n ∧ InRec c W a n k (fun i => rs.getD i r0) := by
  rcases h.form with ⟨h1, h2⟩ | ⟨g, k', h1, _, hg, hl, hm, hc⟩
  · injection h1 with h1 h1n h1k
    subst h1 h1n h1k h2
    exact ⟨rfl, Nat.le_refl _, by simp [maxLen], fun _ => rfl, fun q => by omega⟩
  · injection h1 with h1 h1n h1k
    subst h1 h1n h1k
    refine ⟨rfl, hl, hm, (fun q => by cases q), fun _ => ⟨g, 0, rfl, hg, fun i hi => ?_⟩⟩
    have hd : i / c.sz < rs.length := Nat.div_lt_of_lt_mul (by rw [Nat.mul_comm]; exact hi)
    have hmo : i % c.sz < c.sz := Nat.mod_lt _ c.pos
    rw [Nat.zero_add]
    have e1 : rs.getD (i / c.sz) r0 = rs[i / c.sz] := by simp [List.getD, hd]
    dsimp only
    rw [e1]
    have hq := c.row_get rs (i / c.sz) (i % c.sz) hd hmo
    rw [show i / c.sz * c.sz + i % c.sz = i by rw [Nat.mul_comm]; exact Nat.div_add_mod i c.sz] at hq
    refine hc i _ ?_
    rw [hq, List.getD, List.getElem?_eq_getElem (by rw [c.len]; exact hmo)]
    rfl
end
section
variable {H : Type} {enc : TypeId × Value → H} {P : Program} {w : World} {base : Nat} {spare : Nat → Bool} {held : Bool} {R : Type}
/-- A slice of records that came in, one opened like the other. -/
theorem open_rec (c : Rec R) (Q : R → Prop) (r0 : R) {t e : TypeId} {a : Option Addr} {n cap : Nat} {d : DataW H} {p : List MemPlace}
    (hu : P.underlying t = some (.slice e)) (hc : P.cellsOf e = c.sz)
    (hel : ∀ (fuel : Nat) (cs : List Value) (x : DataW H × List MemPlace), DataW.trod enc P w base spare held fuel e cs = some x → ∃ r, cs = c.cells r ∧ Q r)
    (h : DataW.Trod enc P w base spare held t (.slice a n cap) d p) : ∃ D : Nat → R, InRec c w a n cap D ∧ ∀ i, i < n → Q (D i) := by
  obtain ⟨V, hin, hV⟩ := open_sl hu hc c.pos h
  have hq : ∀ i, i < n → ∃ r, ((List.range c.sz).map fun j => V (i * c.sz + j)) = c.cells r ∧ Q r := fun i hi => by
    obtain ⟨fuel, x, hx⟩ := hV i hi
    exact hel fuel _ x hx
  obtain ⟨D, hD⟩ : ∃ D : Nat → R, ∀ i, i < n → ((List.range c.sz).map fun j => V (i * c.sz + j)) = c.cells (D i) ∧ Q (D i) := by
    refine ⟨fun i => if hi : i < n then (hq i hi).choose else r0, fun i hi => ?_⟩
    simp only [hi, dif_pos]
    exact (hq i hi).choose_spec
  refine ⟨D, ⟨hin.le, hin.max, hin.nil, fun h0 => ?_⟩, fun i hi => (hD i hi).2⟩
  obtain ⟨g, off, e1, hg, hcc⟩ := hin.place h0
  refine ⟨g, off, e1, hg, fun i hi => ?_⟩
  rw [hcc i hi]
  have hd : i / c.sz < n := Nat.div_lt_of_lt_mul (by rw [Nat.mul_comm]; exact hi)
  have hm : i % c.sz < c.sz := Nat.mod_lt _ c.pos
  have h5 := (hD (i / c.sz) hd).1
  have h8 : ((List.range c.sz).map fun j => V (i / c.sz * c.sz + j)).getD (i % c.sz) .nilIface = V (i / c.sz * c.sz + i % c.sz) := by
    simp [List.getD, hm]
  rw [h5, show i / c.sz * c.sz + i % c.sz = i by rw [Nat.mul_comm]; exact Nat.div_add_mod i c.sz] at h8
  rw [h8]
end
end Go.Proofs.YtkcmohmfejmfoaaGreatDoor

/- A tree that is an argument is one that lies in memory. No program is named here. -/
namespace Go.Proofs.YtkcmohmfejmfoaaGreatDoor
open Go.ChangeShapes Go.WideShapes Go.RowKit Go.Deep
set_option linter.unusedVariables false

section
variable {H : Type} {enc : TypeId × Value → H} {P : Program} {w : World} {base : Nat} {spare : Nat → Bool} {held : Bool}
/-- A slice that came in: its cells, and that each element is read with less fuel. -/
theorem open_slF {t e : TypeId} {a : Option Addr} {n cap sz fuel : Nat} {x : DataW H × List MemPlace}
    (hu : P.underlying t = some (.slice e)) (hc : P.cellsOf e = sz) (hsz : 0 < sz)
    (h : DataW.trod enc P w base spare held fuel t [.slice a n cap] = some x) :
    ∃ V, InSl w a n cap sz V ∧ ∀ i, i < n → ∃ m x, m < fuel ∧ DataW.trod enc P w base spare held m e ((List.range sz).map fun j => V (i * sz + j)) = some x := by
  rcases DataW.trod_slice hu h with ⟨hcs, _⟩ | ⟨ad, len, cp, elems, rest, m, hfm, hcs, _, hb, hl, hm, hlen, hel, _, _⟩
  · simp at hcs
    obtain ⟨rfl, rfl, rfl⟩ := hcs
    exact ⟨fun _ => .nilIface, ⟨Nat.le_refl _, by simp [maxLen], fun _ => rfl, fun h => by omega⟩, fun i hi => by omega⟩
  · simp at hcs
    obtain ⟨rfl, rfl, rfl⟩ := hcs
    rw [hc] at hel
    have hx : ∀ i, i < n → ∃ cs', w.cells? base (ad.add (i * sz)) sz = some cs' ∧ ∃ y, DataW.trod enc P w base spare held m e cs' = some y := by
      intro i hi
      have h1 := hel i hi
      rw [List.getElem?_eq_getElem (by omega)] at h1
      obtain ⟨cs', h2, h3⟩ := Option.bind_eq_some_iff.1 h1
      exact ⟨cs', h2, _, h3⟩
    by_cases h0 : 0 < n
    · obtain ⟨g, off, spot⟩ := ad
      have hspot : spot = none := by
        obtain ⟨cs', h1, _⟩ := hx 0 (by omega)
        obtain ⟨_, hlen', hcc⟩ := World.cells?_some h1
        have h2 := hcc 0 hsz
        rw [List.getElem?_eq_getElem (by omega)] at h2
        simpa [Addr.add] using World.cell?_spot h2
      subst hspot
      have hadd : ∀ k, (⟨g, off, none⟩ : Addr).add k = ⟨g, off + k, none⟩ := fun k => by unfold Addr.add; split <;> simp_all
      have hadd2 : ∀ k j, ((⟨g, off, none⟩ : Addr).add k).add j = ⟨g, off + (k + j), none⟩ := fun k j => by
        rw [hadd k]
        unfold Addr.add
        split <;> simp_all
        omega
      have hcs : ∀ i, i < n → ∃ cs', cs'.length = sz ∧ (∀ j, j < sz → w.cell? ⟨g, off + (i * sz + j), none⟩ = cs'[j]?) ∧ ∃ y, DataW.trod enc P w base spare held m e cs' = some y := by
        intro i hi
        obtain ⟨cs', h1, h2⟩ := hx i hi
        obtain ⟨_, hlen', hcc⟩ := World.cells?_some h1
        exact ⟨cs', hlen', fun j hj => by have := hcc j hj; rwa [hadd2] at this, h2⟩
      refine ⟨fun i => (w.cell? ⟨g, off + i, none⟩).getD .nilIface, ⟨hl, hm, (fun h => by cases h), fun _ => ⟨g, off, rfl, ?_, fun i hi => ?_⟩⟩, fun i hi => ?_⟩
      · obtain ⟨cs', hlen', hcc, _⟩ := hcs 0 h0
        have h2 := hcc 0 hsz
        rw [List.getElem?_eq_getElem (by omega)] at h2
        exact World.block_lt_of_cell? w _ h2
      · obtain ⟨cs', hlen', hcc, _⟩ := hcs (i / sz) (Nat.div_lt_of_lt_mul (by rw [Nat.mul_comm]; exact hi))
        have h2 := hcc (i % sz) (Nat.mod_lt _ hsz)
        rw [show i / sz * sz + i % sz = i by rw [Nat.mul_comm]; exact Nat.div_add_mod i sz] at h2
        have h3 := Nat.mod_lt i hsz
        rw [List.getElem?_eq_getElem (by omega)] at h2
        simp only [h2, Option.getD_some]
      · obtain ⟨cs', hlen', hcc, y, ht⟩ := hcs i hi
        refine ⟨m, y, by omega, ?_⟩
        have e : ((List.range sz).map fun j => (w.cell? ⟨g, off + (i * sz + j), none⟩).getD .nilIface) = cs' := by
          apply List.ext_getElem
          · simp [hlen']
          · intro j h1 h2
            simp only [List.getElem_map, List.getElem_range]
            rw [hcc j (by omega), List.getElem?_eq_getElem h2]
            rfl
        rw [e]
        exact ht
    · obtain rfl : n = 0 := by omega
      exact ⟨fun _ => .nilIface, ⟨hl, hm, (fun h => by cases h), fun h => by omega⟩, fun i hi => by omega⟩

theorem slice_form {t e : TypeId} {fuel : Nat} {v : Value} {x : DataW H × List MemPlace} (hu : P.underlying t = some (.slice e)) (h : DataW.trod enc P w base spare held fuel t [v] = some x) : ∃ a n c, v = .slice a n c := by
  rcases DataW.trod_slice hu h with ⟨h1, _⟩ | ⟨a', l', c', _, _, _, _, h1, _⟩
  · simp at h1; exact ⟨_, _, _, h1⟩
  · simp at h1; exact ⟨_, _, _, h1⟩

theorem trod_tree {T B : TypeId} {f0 f1 f2 f3 f4 : Field} (he : P.underlying T = some (.struct #[f0, f1, f2, f3, f4])) (hc : P.cellsOf T = 5)
    (o0 : f0.offset = 0) (o1 : f1.offset = 1) (o2 : f2.offset = 2) (o3 : f3.offset = 3) (o4 : f4.offset = 4)
    (c0 : P.cellsOf f0.type = 1) (c1 : P.cellsOf f1.type = 1) (c2 : P.cellsOf f2.type = 1) (c3 : P.cellsOf f3.type = 1) (c4 : P.cellsOf f4.type = 1)
    (u0 : P.underlying f0.type = some (.int .i64)) (u1 : P.underlying f1.type = some (.slice B)) (u2 : P.underlying f2.type = some (.slice B)) (u3 : P.underlying f3.type = some (.slice B)) (u4 : P.underlying f4.type = some (.slice T))
    (hB : P.underlying B = some (.int .u8)) (hcB : P.cellsOf B = 1) (fuel : Nat) :
    ∀ (cs : List Value) (x : DataW H × List MemPlace), DataW.trod enc P w base spare held fuel T cs = some x → ∃ (hd : TH) (t : Tr), cs = hd.cells ∧ InTree w hd t := by
  induction fuel using Nat.strongRecOn with
  | ind fuel ih =>
  intro cs x hx
  obtain ⟨xs, n, hn, _, hl, hxl, hf⟩ := DataW.trod_struct he hx
  rw [hc] at hl
  obtain ⟨v0, v1, v2, v3, v4, rfl⟩ : ∃ v0 v1 v2 v3 v4, cs = [v0, v1, v2, v3, v4] := by
    rcases cs with _ | ⟨v0, _ | ⟨v1, _ | ⟨v2, _ | ⟨v3, _ | ⟨v4, _ | ⟨y, r⟩⟩⟩⟩⟩⟩ <;> simp at hl
    exact ⟨_, _, _, _, _, rfl⟩
  have hxs : xs.length = 5 := by simpa using hxl
  have g0 := hf 0 f0 rfl
  have g1 := hf 1 f1 rfl
  have g2 := hf 2 f2 rfl
  have g3 := hf 3 f3 rfl
  have g4 := hf 4 f4 rfl
  rw [o0, c0, List.getElem?_eq_getElem (by omega)] at g0
  rw [o1, c1, List.getElem?_eq_getElem (by omega)] at g1
  rw [o2, c2, List.getElem?_eq_getElem (by omega)] at g2
  rw [o3, c3, List.getElem?_eq_getElem (by omega)] at g3
  rw [o4, c4, List.getElem?_eq_getElem (by omega)] at g4
  replace g0 : DataW.trod enc P w base spare held n f0.type [v0] = some xs[0] := g0
  replace g1 : DataW.trod enc P w base spare held n f1.type [v1] = some xs[1] := g1
  replace g2 : DataW.trod enc P w base spare held n f2.type [v2] = some xs[2] := g2
  replace g3 : DataW.trod enc P w base spare held n f3.type [v3] = some xs[3] := g3
  replace g4 : DataW.trod enc P w base spare held n f4.type [v4] = some xs[4] := g4
  obtain ⟨k, e0, _, hwf⟩ := DataW.trod_int u0 g0
  obtain ⟨a1, n1, k1, rfl⟩ := slice_form u1 g1
  obtain ⟨a2, n2, k2, rfl⟩ := slice_form u2 g2
  obtain ⟨a3, n3, k3, rfl⟩ := slice_form u3 g3
  obtain ⟨a4, n4, k4, rfl⟩ := slice_form u4 g4
  obtain ⟨key, hkey⟩ := open_bytes (d := xs[1].1) (p := xs[1].2) u1 hB hcB ⟨n, g1⟩
  obtain ⟨val, hval⟩ := open_bytes (d := xs[2].1) (p := xs[2].2) u2 hB hcB ⟨n, g2⟩
  obtain ⟨dig, hdig⟩ := open_bytes (d := xs[3].1) (p := xs[3].2) u3 hB hcB ⟨n, g3⟩
  obtain ⟨V, hsl, hV⟩ := open_slF u4 hc (by omega) g4
  have hq : ∀ i, i < n4 → ∃ q : TH × Tr, ((List.range 5).map fun j => V (i * 5 + j)) = q.1.cells ∧ InTree w q.1 q.2 := by
    intro i hi
    obtain ⟨m, y, hm, hy⟩ := hV i hi
    obtain ⟨hd, t, h1, h2⟩ := ih m (by omega) _ _ hy
    exact ⟨(hd, t), h1, h2⟩
  have hnil : ∃ q : TH × Tr, True := ⟨(⟨0, none, 0, 0, none, 0, 0, none, 0, 0, none, 0, 0⟩, .mk 0 [] [] [] []), trivial⟩
  obtain ⟨Q, hQ⟩ : ∃ Q : Nat → TH × Tr, ∀ i, i < n4 → ((List.range 5).map fun j => V (i * 5 + j)) = (Q i).1.cells ∧ InTree w (Q i).1 (Q i).2 := by
    refine ⟨fun i => if hi : i < n4 then (hq i hi).choose else hnil.choose, fun i hi => ?_⟩
    simp only [hi, dif_pos]
    exact (hq i hi).choose_spec
  have hb := bounds_i64 hwf
  simp at e0
  refine ⟨⟨k, a1, n1, k1, a2, n2, k2, a3, n3, k3, a4, n4, k4⟩, .mk k key val dig ((List.range n4).map fun i => (Q i).2), by rw [e0]; rfl, ?_⟩
  refine .mk _ _ (fun i => (Q i).1) rfl hb.1 hb.2 hkey hval hdig ⟨hsl.le, hsl.max, hsl.nil, fun h0 => ?_⟩ (by simp [Tr.kids]) fun i hi => ?_
  · obtain ⟨g, off, e1, hg, hcc⟩ := hsl.place h0
    refine ⟨g, off, e1, hg, fun i hi => ?_⟩
    rw [hcc i hi]
    have h5 := (hQ (i / 5) (by dsimp only at hi; omega)).1
    have h6 : ((List.range 5).map fun j => V (i / 5 * 5 + j)).getD (i % 5) .nilIface = ((Q (i / 5)).1.cells).getD (i % 5) .nilIface := by rw [h5]
    have h7 : i % 5 < 5 := by omega
    have h8 : ((List.range 5).map fun j => V (i / 5 * 5 + j)).getD (i % 5) .nilIface = V (i / 5 * 5 + i % 5) := by
      simp [List.getD, h7]
    rw [h8, show i / 5 * 5 + i % 5 = i by omega] at h6
    rw [h6]
    rfl
  · simp only [Tr.kids, List.length_map, List.length_range] at hi
    simp only [Tr.kids, List.getElem_map, List.getElem_range]
    exact (hQ i hi).2
end
end Go.Proofs.YtkcmohmfejmfoaaGreatDoor

/- Records of two byte strings and a bit. No program is named here. -/
namespace Go.Proofs.YtkcmohmfejmfoaaGreatDoor
open Go.ChangeShapes Go.WideShapes Go.RowKit Go.Deep
set_option linter.unusedVariables false

/-- Two byte strings and a bit: a change (its key, its value, whether it is a deletion), a span (its beginning, its end, whether it is open). -/
structure DH where
  ka : Option Addr
  kn : Nat
  kc : Nat
  va : Option Addr
  vn : Nat
  vc : Nat
  out : Bool
def recD : Rec DH where
  cells := fun p => [.slice p.ka p.kn p.kc, .slice p.va p.vn p.vc, .bool p.out]
  sz := 3
  pos := by omega
  len := fun _ => rfl
  one := fun r u hu => by
    simp at hu
    rcases hu with rfl | rfl | rfl <;> rfl
def dZ : DH := ⟨none, 0, 0, none, 0, 0, false⟩

section
variable {H : Type} {enc : TypeId × Value → H} {P : Program} {w : World} {base : Nat} {spare : Nat → Bool} {held : Bool}
end
end Go.Proofs.YtkcmohmfejmfoaaGreatDoor

/- Spans of keys: what the document says of them, as functions. No program is named here. -/
namespace Go.Proofs.YtkcmohmfejmfoaaGreatDoor
open Go.RowKit
set_option linter.unusedVariables false

/-- Is a key in a span? -/
def inS (f t : List Int) (o : Bool) (key : List Int) : Bool := !ltL key f && (o || ltL key t)
/-- The least key that may be there. -/
def leastS (f low : List Int) (hl : Bool) : List Int := if hl && !ltL low f then low ++ [0] else f
/-- Is no key there? -/
def emptyS (f t : List Int) (o : Bool) (low high : List Int) (hl hh : Bool) : Bool := (hh && !ltL (leastS f low hl) high) || (!o && !ltL (leastS f low hl) t)
/-- The span's two byte strings lie in memory. -/
structure SpanIn (w : World) (h : DH) (f t : List Int) : Prop where
  f : InBytes w h.ka h.kn h.kc f
  t : InBytes w h.va h.vn h.vc t
def DH.v (h : DH) : Value := .agg #[.slice h.ka h.kn h.kc, .slice h.va h.vn h.vc, .bool h.out]
end Go.Proofs.YtkcmohmfejmfoaaGreatDoor

/- The proof of a balanced tree for a span, as a function: its digest, its form, its nodes. No program is named here. -/
namespace Go.Proofs.YtkcmohmfejmfoaaGreatDoor
set_option linter.unusedVariables false

theorem dig_kids {k : Nat} {t : Tr} (h0 : t.k ≠ 0) (h3 : t.k ≠ 3) {p q z : List Int} (hv : valT k t = z) (hz : z.length = k) (h2 : t.kids.length = 2) (hx : digT k (t.kids[0]'(by omega)) = some p) (hy : digT k (t.kids[1]'(by omega)) = some q) :
    digT k t = some ((sumL (nodeL p ((sumL (pairL t.key z)).take k) q)).take k) := by
  rw [digT_node h0 h3 (by rw [hv]; exact hz) h2, hx, hy, hv]
theorem dig_two {k : Nat} (kd : Int) (key v d : List Int) (x y : Tr) (h0 : kd ≠ 0) (h3 : kd ≠ 3) {p q z : List Int} (hv : valT k (.mk kd key v d [x, y]) = z) (hz : z.length = k) (hx : digT k x = some p) (hy : digT k y = some q) :
    digT k (.mk kd key v d [x, y]) = some ((sumL (nodeL p ((sumL (pairL key z)).take k) q)).take k) :=
  dig_kids (t := .mk kd key v d [x, y]) h0 h3 hv hz rfl hx hy
/-- A tree's digest; no digest is asked for that there isn't. -/
def digA (k : Nat) (a : AT) : List Int := (digT k a.tr).getD []
theorem AT.digs {k : Nat} (hk : k ≤ 32) : ∀ a : AT, digT k a.tr = some (digA k a) := by
  have h : ∀ a : AT, ∃ zs, digT k a.tr = some zs := by
    intro a
    induction a with
    | nil => exact ⟨_, digT_0 rfl⟩
    | node l key v r ihl ihr =>
      obtain ⟨x, hx⟩ := ihl
      obtain ⟨y, hy⟩ := ihr
      exact ⟨_, dig_two 1 key v [] l.tr r.tr (by decide) (by decide) rfl (take_sum_len hk _) hx hy⟩
  intro a
  obtain ⟨zs, hz⟩ := h a
  unfold digA
  rw [hz]
  rfl
/-- A value's digest. -/
def dvL (k : Nat) (v : List Int) : List Int := (sumL (valL v)).take k
/-- A tree's digest alone. -/
def hideA (k : Nat) (a : AT) : Tr := if a.isNil then .mk 0 [] [] [] [] else .mk 3 [] [] (digA k a) []
/-- The proof. -/
def showA (k : Nat) (f t : List Int) (o : Bool) : AT → Tr
  | .nil => .mk 0 [] [] [] []
  | .node l key v r =>
    if inS f t o key then .mk 1 key v [] [showA k f t o l, showA k f t o r]
    else if ltL key f then .mk 2 key [] (dvL k v) [hideA k l, showA k f t o r]
    else .mk 2 key [] (dvL k v) [showA k f t o l, hideA k r]
/-- The pairs that a partial tree tells. -/
def toldB (x : Tr) : Bool := x.k == 1
def toldT (t : Tr) : List KV := ((listT t).filter toldB).map fun x => (x.key, x.val)
end Go.Proofs.YtkcmohmfejmfoaaGreatDoor

/- What a proof shows of a span, as a function: its items, their order, what is covered. No program is named here. -/
namespace Go.Proofs.YtkcmohmfejmfoaaGreatDoor
set_option linter.unusedVariables false

/-- What stands in a proof: a key, dark or not, or a cut. -/
structure IT where
  cut : Bool
  dark : Bool
  key : List Int
  val : List Int
def itemsT (t : Tr) : List IT := t.fold fun t rs =>
  if t.k = 0 then [] else if t.k = 3 then [⟨true, false, [], []⟩] else rs.getD 0 [] ++ (⟨false, t.k == 2, t.key, t.val⟩ :: rs.getD 1 [])
/-- The next key, if there is one. -/
def nextI : List IT → List Int × Bool
  | [] => ([], false)
  | x :: l => if x.cut then nextI l else (x.key, true)
/-- Do the keys rise? -/
def keysI (l : List IT) : List IT := l.filter fun x => !x.cut
def riseI (l : List IT) : Bool := (List.range (keysI l).length).all fun i => i == 0 || ltL ((keysI l).getD (i - 1) ⟨false, false, [], []⟩).key ((keysI l).getD i ⟨false, false, [], []⟩).key
/-- The pairs that are told; none: the span is not covered. -/
def scanI (f t : List Int) (o : Bool) : List Int → Bool → List IT → Option (List KV)
  | _, _, [] => some []
  | low, has, x :: l =>
    if x.cut then (if emptyS f t o low (nextI l).1 has (nextI l).2 then scanI f t o low has l else none)
    else if inS f t o x.key then (if x.dark then none else (scanI f t o x.key true l).map fun r => (x.key, x.val) :: r)
    else scanI f t o x.key true l
/-- All of it: the error's number, and the pairs. -/
def checkR (k : Nat) (root : List Int) (f t : List Int) (o : Bool) (p : Tr) : Nat × List KV :=
  if checkT p ≠ 0 then (checkT p, [])
  else match digT k p with
    | none => (3, [])
    | some d => if d ≠ root then (6, [])
      else if riseI (itemsT p) = false then (7, [])
      else match scanI f t o [] false (itemsT p) with
        | none => (8, [])
        | some l => (0, l)
/-- The last key of some items, or what was the last one before them. -/
def lastI (low : List Int) (has : Bool) : List IT → List Int × Bool
  | [] => (low, has)
  | x :: l => if x.cut then lastI low has l else lastI x.key true l
end Go.Proofs.YtkcmohmfejmfoaaGreatDoor

/- Points, and spans in which no key is left. No program is named here. -/
namespace Go.Proofs.YtkcmohmfejmfoaaGreatDoor
open Go.RowKit
set_option linter.unusedVariables false

end Go.Proofs.YtkcmohmfejmfoaaGreatDoor

/- What is told of a span: keys of the proof, in the span; of a point's span one at most. No program is named here. -/
namespace Go.Proofs.YtkcmohmfejmfoaaGreatDoor
set_option linter.unusedVariables false

end Go.Proofs.YtkcmohmfejmfoaaGreatDoor

/- Partial trees by their kinds; the search for two unlike texts of one digest, as a function: what it finds is right; where it finds nothing, what covers a span tells the same. No program is named here. -/
namespace Go.Proofs.YtkcmohmfejmfoaaGreatDoor
set_option linter.unusedVariables false

/-- Digests have the width. -/
def PT.okP (k : Nat) : PT → Prop
  | .nil => True
  | .cut d => d.length = k
  | .shown l _ _ r => l.okP k ∧ r.okP k
  | .dark l _ d r => l.okP k ∧ d.length = k ∧ r.okP k
/-- The digest. -/
def PT.dgP (k : Nat) : PT → List Int
  | .nil => (sumL [3]).take k
  | .cut d => d
  | .shown l key v r => (sumL (nodeL (l.dgP k) ((sumL (pairL key (dvL k v))).take k) (r.dgP k))).take k
  | .dark l key d r => (sumL (nodeL (l.dgP k) ((sumL (pairL key d)).take k) (r.dgP k))).take k
/-- A tree's own preimage, and its pair's. -/
def PT.ownP (k : Nat) : PT → List Int
  | .nil => [3]
  | .cut d => d
  | .shown l key v r => nodeL (l.dgP k) ((sumL (pairL key (dvL k v))).take k) (r.dgP k)
  | .dark l key d r => nodeL (l.dgP k) ((sumL (pairL key d)).take k) (r.dgP k)
def PT.pairP (k : Nat) : PT → List Int
  | .nil => []
  | .cut _ => []
  | .shown _ key v _ => pairL key (dvL k v)
  | .dark _ key d _ => pairL key d
def PT.isCut : PT → Bool
  | .cut _ => true
  | _ => false
def PT.sval : PT → Option (List Int)
  | .shown _ _ v _ => some v
  | _ => none
def PT.left : PT → PT
  | .shown l _ _ _ => l
  | .dark l _ _ _ => l
  | _ => .nil
def PT.right : PT → PT
  | .shown _ _ _ r => r
  | .dark _ _ _ r => r
  | _ => .nil
/-- What is found at two nodes, and below them. -/
def stepS (k : Nat) (o pr : List Int) (sv : Option (List Int)) (sl sr : PT → Option (List Int × List Int)) (q : PT) : Option (List Int × List Int) :=
  if q.isCut then none
  else if o ≠ q.ownP k then some (o, q.ownP k)
  else if pr ≠ q.pairP k then some (pr, q.pairP k)
  else if sv.isSome && q.sval.isSome && (sv != q.sval) then some (valL (sv.getD []), valL (q.sval.getD []))
  else match sl q.left with
    | some x => some x
    | none => sr q.right
def searchP (k : Nat) : PT → PT → Option (List Int × List Int)
  | .nil, q => if q.isCut then none else if [3] ≠ q.ownP k then some ([3], q.ownP k) else none
  | .cut _, _ => none
  | .shown l key v r, q => stepS k ((PT.shown l key v r).ownP k) ((PT.shown l key v r).pairP k) (some v) (searchP k l) (searchP k r) q
  | .dark l key d r, q => stepS k ((PT.dark l key d r).ownP k) ((PT.dark l key d r).pairP k) none (searchP k l) (searchP k r) q
end Go.Proofs.YtkcmohmfejmfoaaGreatDoor

/- Trees in parts, as functions: a head, its parts, and what is laid together of them; their digests. No program is named here. -/
namespace Go.Proofs.YtkcmohmfejmfoaaGreatDoor
set_option linter.unusedVariables false

/-- The head at a level, and the parts. -/
def headA (k : Nat) : Nat → AT → PT
  | _, .nil => .nil
  | 0, a => .cut (digA k a)
  | n + 1, .node l key v r => .shown (headA k n l) key v (headA k n r)
def partsA : Nat → AT → List AT
  | _, .nil => []
  | 0, a => [a]
  | n + 1, .node l _ _ r => partsA n l ++ partsA n r
/-- The digests that are missing. -/
def cutsP : PT → List (List Int)
  | .nil => []
  | .cut d => [d]
  | .shown l _ _ r => cutsP l ++ cutsP r
  | .dark l _ _ r => cutsP l ++ cutsP r
def darkP : PT → Bool
  | .nil => false
  | .cut _ => false
  | .shown l _ _ r => darkP l || darkP r
  | .dark _ _ _ _ => true
/-- A tree in which each cut is the next part; the parts that are left. -/
def fillA : PT → List AT → AT × List AT
  | .nil, ps => (.nil, ps)
  | .cut _, [] => (.nil, [])
  | .cut _, a :: ps => (a, ps)
  | .shown l key v r, ps => (.node (fillA l ps).1 key v (fillA r (fillA l ps).2).1, (fillA r (fillA l ps).2).2)
  | .dark _ _ _ _, ps => (.nil, ps)
end Go.Proofs.YtkcmohmfejmfoaaGreatDoor

/- Rows of slices in one's own memory; append(a, b...) where b came in. No program is named here. -/
namespace Go.Proofs.YtkcmohmfejmfoaaGreatDoor
open Go.ChangeShapes Go.WideShapes Go.RowKit Go.Deep
set_option linter.unusedVariables false

/-- A slice's head. -/
structure SLH where
  a : Option Addr
  n : Nat
  c : Nat
def recSl : Rec SLH where
  cells := fun s => [.slice s.a s.n s.c]
  sz := 1
  pos := by omega
  len := fun _ => rfl
  one := fun r u hu => by
    simp at hu
    subst hu
    rfl
/-- A row that was just built. -/
theorem ownR_new {R : Type} (c : Rec R) (w : World) (ty : TypeId) (base : Nat) (rs : List R) (hb : base ≤ w.heap.size) (hl : rs.length ≤ maxLen) : OwnR c (w.alloc (.cells (c.row rs).toArray ty)) base ty (.slice (some ⟨w.heap.size, 0, none⟩) rs.length rs.length) rs :=
  ⟨c.row_len rs, .inr ⟨w.heap.size, rs.length, _, rfl, hb, heap_alloc_new w _, Nat.le_refl _, hl, by simp [c.row_len], by rw [← c.row_len, List.toList_toArray, List.take_length]⟩⟩
end Go.Proofs.YtkcmohmfejmfoaaGreatDoor

/- Rows of one's own, of unlike types. -/
namespace Go.Proofs.YtkcmohmfejmfoaaGreatDoor
open Go.RowKit
set_option linter.unusedVariables false

end Go.Proofs.YtkcmohmfejmfoaaGreatDoor

/- The contract of the document's list of the digests that are missing. -/
namespace Go.Proofs.YtkcmohmfejmfoaaGreatDoor
open Go.RowKit
set_option linter.unusedVariables false

theorem infoSlt11 : (Tryz.prog.info? 22).map (fun i => (i.zero, i.size, i.bytes)) = some (some (.slice none 0 0), 1, 24) := by kernel_rfl
/-- The digests that are missing of a tree. -/
def cutsT (t : Tr) : List (List Int) := t.fold fun t rs => if t.k = 3 then [t.dig] else rs.flatten
theorem cutsT_eq (t : Tr) : cutsT t = if t.k = 3 then [t.dig] else (t.kids.map cutsT).flatten := by
  unfold cutsT
  rw [Tr.fold_eq]
theorem cutsT_len (t : Tr) : (cutsT t).length ≤ countT t := by
  induction t using Tr.ind with
  | h t ih =>
  rw [cutsT_eq, countT_eq]
  split
  · simp
  · have key : ∀ l : List Tr, (∀ x ∈ l, (cutsT x).length ≤ countT x) → ((l.map cutsT).flatten).length ≤ (l.map countT).sum := by
      intro l
      induction l with
      | nil => intro _; simp
      | cons a l ihl =>
        intro h
        have q1 := h a (by simp)
        have q2 := ihl (fun x hx => h x (by simp [hx]))
        simp only [List.map_cons, List.flatten_cons, List.length_append, List.sum_cons]
        omega
    have := key t.kids ih
    omega
theorem cuts_take (l : List Tr) (i : Nat) (hi : i < l.length) : ((l.take (i + 1)).map cutsT).flatten = ((l.take i).map cutsT).flatten ++ cutsT l[i] := by
  rw [List.take_add_one, List.getElem?_eq_getElem hi, List.map_append, List.flatten_append]
  simp only [Option.toList, List.map_cons, List.map_nil, List.flatten_cons, List.flatten_nil, List.append_nil]
theorem cuts_bound (t : Tr) (i : Nat) (hi : i < t.kids.length) : ((t.kids.take i).map cutsT).flatten.length + countT t.kids[i] ≤ countT t := by
  have key : ∀ l : List Tr, ((l.map cutsT).flatten).length ≤ (l.map countT).sum := by
    intro l
    induction l with
    | nil => simp
    | cons a l ihl =>
      have q1 := cutsT_len a
      simp only [List.map_cons, List.flatten_cons, List.length_append, List.sum_cons]
      omega
  have h1 := key (t.kids.take i)
  have e : t.kids = t.kids.take i ++ (t.kids[i] :: t.kids.drop (i + 1)) := by rw [← List.drop_eq_getElem_cons hi, List.take_append_drop]
  have h2 : (t.kids.map countT).sum = ((t.kids.take i).map countT ++ (countT t.kids[i] :: (t.kids.drop (i + 1)).map countT)).sum := by
    conv => lhs; rw [e, List.map_append, List.map_cons]
  rw [List.sum_append, List.sum_cons] at h2
  have h3 := countT_eq t
  omega
/-- Slices' heads, and the bytes that they hold in memory that stays. -/
def SlOf (wb : World) (rs : List SLH) (zs : List (List Int)) : Prop := rs.length = zs.length ∧ ∀ i (h1 : i < rs.length) (h2 : i < zs.length), InBytes wb (rs[i]).a (rs[i]).n (rs[i]).c zs[i]
section
variable {wb wb' : World} {rs rs' : List SLH} {zs zs' : List (List Int)}
theorem SlOf.nil (wb : World) : SlOf wb [] [] := ⟨rfl, fun i h => absurd h (Nat.not_lt_zero i)⟩
theorem SlOf.one {s : SLH} {z : List Int} (h : InBytes wb s.a s.n s.c z) : SlOf wb [s] [z] := ⟨rfl, fun i h1 h2 => by
  match i, h1 with
  | 0, _ => exact h⟩
theorem SlOf.app (x : SlOf wb rs zs) (y : SlOf wb rs' zs') : SlOf wb (rs ++ rs') (zs ++ zs') := by
  refine ⟨by rw [List.length_append, List.length_append, x.1, y.1], fun i h1 h2 => ?_⟩
  by_cases h : i < rs.length
  · rw [List.getElem_append_left h, List.getElem_append_left (by rw [← x.1]; exact h)]
    exact x.2 i h _
  · rw [List.getElem_append_right (by omega), List.getElem_append_right (by rw [← x.1]; omega)]
    simp only [← x.1]
    exact y.2 _ _ _
end
/-- What Cuts tells. -/
def CutsPost (wb w : World) (zs : List (List Int)) (e : Ending) (w' : World) : Prop := ∃ v rs, e = .returned v ∧ OwnR recSl w' w.heap.size 22 v rs ∧ SlOf wb rs zs ∧ Below w.heap.size w w'
/-- The tree's box, and a row of one's own behind it. -/
structure CW (w W : World) (h : TH) (v : Value) (rs : List SLH) : Prop where
  box : Box W 25 w.heap.size h
  own : OwnR recSl W (w.heap.size + 1) 22 v rs
  b : Below w.heap.size w W
theorem CW.below {w W W' : World} {h : TH} {v : Value} {rs : List SLH} (d : CW w W h v rs) (hb : Below W.heap.size W W') : CW w W' h v rs := ⟨d.box.below hb d.box.lt, d.own.keep hb, d.b.trans (hb.mono d.b.size)⟩
theorem CW.grown {w W W' : World} {h : TH} {v v' : Value} {rs rs' : List SLH} (d : CW w W h v rs) (ho : OwnR recSl W' (w.heap.size + 1) 22 v' rs') (hg : W.grownBy W' v.ownBlock) : CW w W' h v' rs' :=
  have hne : some w.heap.size ≠ v.ownBlock := fun q => by have := (d.own.base_le q.symm).1; omega
  ⟨d.box.grown hg hne, ho, d.b.grown hg d.b.size (fun j hj => by have := (d.own.base_le hj).1; omega)⟩

set_option maxRecDepth 100000 in
set_option maxHeartbeats 4000000 in
theorem refCuts_any (wb : World) : ∀ (t : Tr) (h : TH) (w : World), InTree wb h t → Below wb.heap.size wb w → countT t ≤ 1000 → Calls Tryz.prog 28 #[.agg #[.int .i64 h.k, .slice h.ka h.kn h.kc, .slice h.va h.vn h.vc, .slice h.da h.dn h.dc, .slice h.ta h.tn h.tc]] w (CutsPost wb w (cutsT t)) := by
  intro t
  induction t using Tr.ind with
  | h t ih =>
  intro h w ht hb hcn
  obtain ⟨H, hp⟩ := ht.parts
  have htl := hp.len
  have htm := Nat.le_trans hp.sl.le hp.sl.max
  simp only [maxLen] at htm
  have HP := Lib.hid hp
  have HBW := Lib.hid hb
  have IH := Lib.hid ih
  have HKK := Lib.hid hp.hk
  have HCB := Lib.hid (cuts_bound t)
  obtain ⟨i0, hi0, hz0, hz1, hz2⟩ := info_parts infoSlt11
  have hx0 := Box.new w 25 h
  have hb0 : Below w.heap.size w (w.alloc (.cells #[.int .i64 h.k, .slice h.ka h.kn h.kc, .slice h.va h.vn h.vc, .slice h.da h.dn h.dc, .slice h.ta h.tn h.tc] 25)) := (Below.refl _ _).alloc (Nat.le_refl _) _
  have hs0 : (w.alloc (.cells #[.int .i64 h.k, .slice h.ka h.kn h.kc, .slice h.va h.vn h.vc, .slice h.da h.dn h.dc, .slice h.ta h.tn h.tc] 25)).heap.size = w.heap.size + 1 := by simp
  clear hp ht hb ih
  go_enter Tryz.func28, Tryz.ntmps28
  go_upto_region 1 with fail
  generalize (w.alloc (.cells #[.int .i64 h.k, .slice h.ka h.kn h.kc, .slice h.va h.vn h.vc, .slice h.da h.dn h.dc, .slice h.ta h.tn h.tc] 25)) = w0 at *
  have HX0 := Lib.hid hx0
  have HB0 := Lib.hid hb0
  have HS0 := Lib.hid hs0
  obtain ⟨x0, x1, x2, x3, x4⟩ := hx0.cells
  clear hx0 hb0 hs0
  by_cases hk : t.k = 3
  · have HE : Hid (cutsT t = [t.dig]) := Lib.hid (by rw [cutsT_eq, if_pos hk])
    have e3 : (h.k == 3) = true := by rw [HKK.out, hk]; rfl
    clear hk
    go_wp2_with fail
    go_ret
    rw [HE.out]
    exact ⟨_, [⟨h.da, h.dn, h.dc⟩], rfl, (ownR_new recSl w0 22 w.heap.size [⟨h.da, h.dn, h.dc⟩] HB0.out.size (by simp [maxLen])), SlOf.one HP.out.dig, HB0.out.trans (((Below.refl _ _).alloc (Nat.le_refl _) _).mono HB0.out.size)⟩
  · have HE : Hid (cutsT t = (t.kids.map cutsT).flatten) := Lib.hid (by rw [cutsT_eq, if_neg hk])
    have e3 : (h.k == 3) = false := by rw [HKK.out]; simpa using hk
    clear hk
    go_upto_region 5 with fail
    clear x0 x1 x2 x3 x4 e3
    go_loopw [3, 4] (fun s3 s4 wx => ∃ (i : Nat) (rs : List SLH), i ≤ h.tn ∧ s4 = .int .i64 i ∧ CW w wx h s3 rs ∧ SlOf wb rs ((t.kids.take i).map cutsT).flatten) (fun _ s4 _ => h.tn - (intOf s4).toNat)
    case atStart => exact ⟨0, [], by omega, rfl, ⟨HX0.out, OwnR.nil _ _ _ _, HB0.out⟩, SlOf.nil wb⟩
    case round =>
      clear HX0 HB0 HS0
      obtain ⟨i, rs, hi, rfl, hd, hso⟩ := hrel
      have HSO := Lib.hid hso
      obtain ⟨a3, c3, hv3⟩ := hd.own.sl
      subst hv3
      have HD := Lib.hid hd
      have HBX : Hid (Below wb.heap.size wb wr) := Lib.hid (HBW.out.trans (hd.b.mono HBW.out.size))
      obtain ⟨x0, x1, x2, x3, x4⟩ := hd.box.cells
      clear hd hso
      by_cases hlt : i < h.tn
      · have q1 : (i : Int) < (h.tn : Int) := by omega
        obtain ⟨g, off, hta, hg, hcs⟩ := (HP.out.below HBX.out).place (by omega)
        obtain ⟨k0, k1, k2, k3, k4⟩ := hcs i hlt
        have him : i < t.kids.length := by omega
        have HLB : Hid (rs.length + countT t.kids[i] ≤ 1000) := Lib.hid (by
          have q2 := HCB.out i him
          have q3 := HSO.out.1
          omega)
        have HCL := Lib.hid (cutsT_len t.kids[i])
        clear hcs hcn
        rw [hta] at x4
        clear hta
        go_wp2_with (first
          | (go_at_call 28
             refine (IH.out _ (List.getElem_mem him) (H i) _ (HP.out.kids i him) HBX.out (by have := HLB.out; omega)).mono ?_
             rintro _ w3 ⟨v3, rs3, rfl, ho3, hs3, hb3⟩
             have HD3 := Lib.hid (HD.out.below hb3)
             have HO3 := Lib.hid ho3
             have HS3 := Lib.hid hs3
             have HZ3 : Hid (w.heap.size + 1 ≤ w3.heap.size) := Lib.hid HD3.out.box.lt
             clear ho3 hs3 hb3 x0 x1 x2 x3 x4 k0 k1 k2 k3 k4)
          | (at_builtin
             refine wpList_append_recs (c := recSl) _ rfl (.tmp 18) (.tmp 24) 65 rfl (w.heap.size + 1) 22 i0 _ 24 Tryz.underlying65 hi0 hz0 hz1 hz2 rfl (.slice a3 rs.length c3) rs rfl HD3.out.own wr.heap.size v3 rs3 rfl HO3.out ?_ (by omega) HZ3.out ?_
             · have q1 := HLB.out
               have q2 := HCL.out
               have q3 := HS3.out.1
               omega
             intro v4 w4 hown4 hg4
             have HD4 := Lib.hid (HD3.out.grown hown4 hg4)
             clear hown4 hg4))
        exact ⟨⟨i + 1, rs ++ rs3, by omega, by go_num, HD4.out, by rw [cuts_take _ i him]; exact HSO.out.app HS3.out⟩, by simp [intOf]; omega⟩
      · obtain rfl : i = h.tn := by omega
        have q1 : ¬ (h.tn : Int) < (h.tn : Int) := by omega
        go_wp2_with fail
        go_ret
        have q := HSO.out
        rw [List.take_of_length_le (by omega)] at q
        rw [HE.out]
        exact ⟨_, rs, rfl, HD.out.own.weak (Nat.le_succ _), q, HD.out.b⟩
end Go.Proofs.YtkcmohmfejmfoaaGreatDoor

/- The contract of the document's Full. -/
namespace Go.Proofs.YtkcmohmfejmfoaaGreatDoor
open Go.RowKit
set_option linter.unusedVariables false

set_option maxRecDepth 100000 in
set_option maxHeartbeats 4000000 in
theorem refFull_any : ∀ (t : Tr) (h : TH) (w : World), InTree w h t →
    Calls Tryz.prog 50 #[h.v] w (Says w (.bool (fullT t))) := by
  intro t
  induction t using Tr.ind with
  | h t ih =>
  intro h w ht
  unfold TH.v
  obtain ⟨H, hp⟩ := ht.parts
  have hkl := hp.key.len
  have hvl := hp.val.len
  have hdl := hp.dig.len
  have htl := hp.len
  have HK := Lib.hid hp.hk
  have htm := Nat.le_trans hp.sl.le hp.sl.max
  have htc := hp.sl.le
  simp only [maxLen] at htm
  have HP := Lib.hid hp
  have IH := Lib.hid ih
  clear hp ht ih
  have hbox := Box.new w 25 h
  have HX := Lib.hid hbox
  obtain ⟨x0, x1, x2, x3, x4⟩ := hbox.cells
  clear hbox
  have hw1 : Below w.heap.size w (w.alloc (.cells #[.int .i64 h.k, .slice h.ka h.kn h.kc, .slice h.va h.vn h.vc, .slice h.da h.dn h.dc, .slice h.ta h.tn h.tc] 25)) := (Below.refl _ _).alloc (Nat.le_refl _) _
  have HB := Lib.hid hw1
  clear hw1
  go_enter Tryz.func50, Tryz.ntmps50
  by_cases hk1 : 1 < h.k
  · go_wp2_with fail
    go_ret
    have hd : fullT t = false := by
      rw [fullT_eq, ← HK.out]
      have : decide (h.k ≤ 1) = false := by simp; omega
      rw [this]
      rfl
    exact ⟨by rw [hd]; rfl, HB.out⟩
  have HK1 : Hid (decide (t.k ≤ 1) = true) := Lib.hid (by rw [← HK.out]; simp; omega)
  go_wp2_with fail
  clear x0 x1 x2 x3 x4
  go_loopw [3] (fun s3 wx => ∃ i : Nat, i ≤ h.tn ∧ s3 = .int .i64 i ∧ Box wx 25 w.heap.size h ∧ Below w.heap.size w wx ∧ (t.kids.take i).all fullT = true) (fun s3 _ => h.tn - (intOf s3).toNat)
  case atStart => exact ⟨0, by omega, rfl, HX.out, HB.out, by simp⟩
  case round =>
    clear HX HB
    obtain ⟨i, hi, rfl, hbx, hbw, hany⟩ := hrel
    have hx4 := hbx.cells.2.2.2.2
    have HBX := Lib.hid hbx
    have HBW := Lib.hid hbw
    have HA := Lib.hid hany
    clear hbx hbw hany
    by_cases hlt : i < h.tn
    · have q1 : (i : Int) < (h.tn : Int) := by omega
      obtain ⟨g, off, hta, hg, hcs⟩ := (HP.out.below HBW.out).place (by omega)
      rw [hta] at hx4
      obtain ⟨k0, k1, k2, k3, k4⟩ := hcs i hlt
      have him : i < t.kids.length := by omega
      clear hcs hta
      go_upto_region 7 with (first
        | (go_at_call 50
           refine (IH.out _ (List.getElem_mem him) (H i) _ ((HP.out.below HBW.out).kids i him)).mono ?_
           rintro _ w1 ⟨rfl, hb1⟩
           have HB1 : Hid (Below w.heap.size w w1) := Lib.hid (HBW.out.trans (hb1.mono HBW.out.size))
           have HX1 := Lib.hid (HBX.out.below hb1 HBX.out.lt)
           generalize hr : fullT t.kids[i] = r
           have HR := Lib.hid hr
           clear hb1 hr))
      clear hx4 k0 k1 k2 k3 k4
      cases r
      · go_wp2_with fail
        go_ret
        have hd : fullT t = false := by rw [fullT_eq, all_not i him HR.out, Bool.and_false]
        exact ⟨by rw [hd]; rfl, HB1.out⟩
      · go_wp2_with fail
        exact ⟨⟨i + 1, by omega, by go_num, HX1.out, HB1.out, by rw [all_take _ _ i him, HA.out, HR.out]; rfl⟩, by simp [intOf]; omega⟩
    · obtain rfl : i = h.tn := by omega
      have q1 : ¬ (h.tn : Int) < (h.tn : Int) := by omega
      go_wp2_with fail
      go_ret
      have hA := HA.out
      rw [List.take_of_length_le (by omega)] at hA
      have hd : fullT t = true := by rw [fullT_eq, HK1.out, hA]; rfl
      exact ⟨by rw [hd]; rfl, HBW.out⟩
end Go.Proofs.YtkcmohmfejmfoaaGreatDoor

/- The contracts of the document's Number and Bytes. -/
namespace Go.Proofs.YtkcmohmfejmfoaaGreatDoor
open Go.RowKit
set_option linter.unusedVariables false

set_option maxRecDepth 100000 in
set_option maxHeartbeats 2000000 in
theorem refNumber_any (v : Nat) (w : World) (hv : v < 18446744073709551616) :
    Calls Tryz.prog 94 #[.int .u64 v] w (OwnPost w (numL v)) := by
  obtain ⟨i0, hi0, hz0, hz1, hz2⟩ := info_parts infoU8
  go_enter Tryz.func94, Tryz.ntmps94
  by_cases h : v < 248
  · have hb : (v : Int) < 248 := by omega
    go_wp2_with fail
    go_ret
    have e : numL v = [(v : Int)] := by unfold numL; rw [if_pos h]
    rw [e]
    exact ⟨w.heap.size, 1, rfl, own_new w 5 .u8 [(v : Int)] w.heap.size (Nat.le_refl _) (by simp [maxLen]), (Below.refl _ _).alloc (Nat.le_refl _) _⟩
  · have hb : ¬ (v : Int) < 248 := by omega
    go_wp2_with fail
    go_loopw [0, 3] (fun s0 s3 wx => ∃ (k : Nat) (a : Option Addr) (cap : Nat), s0 = .int .u64 ((v / 256 ^ k : Nat) : Int) ∧ s3 = .slice a k cap ∧ (k = 0 ∨ v / 256 ^ (k - 1) ≠ 0) ∧ InBytes wx a k cap (be k v) ∧ Below w.heap.size w wx) (fun s0 _ _ => (intOf s0).toNat)
    case atStart => exact ⟨0, none, 0, by simp, rfl, .inl rfl, ⟨rfl, (fun z hz => by cases hz), Nat.le_refl _, by simp [maxLen], fun _ => rfl, (fun h => by omega)⟩, Below.refl _ _⟩
    case round =>
      obtain ⟨k, a, cap, rfl, rfl, hk, hin, hbel⟩ := hrel
      have hk8 : k ≤ nd v := by
        rcases hk with rfl | hk
        · omega
        · rcases Nat.lt_or_ge (nd v) k with h6 | h6
          · exfalso
            apply hk
            apply Nat.div_eq_of_lt
            exact Nat.lt_of_lt_of_le (nd_lt v) (Nat.pow_le_pow_right (by omega) (by omega))
          · exact h6
      have hn8 := nd_64 hv
      have hle := Nat.div_le_self v (256 ^ k)
      have hds := div_step v k
      obtain ⟨q, hq⟩ : ∃ q, q = v / 256 ^ k := ⟨_, rfl⟩
      rw [← hq] at hle hds ⊢
      have HQ := Lib.hid hq
      have HIN := Lib.hid hin
      have HB := Lib.hid hbel
      have HDS := Lib.hid hds
      have HK := Lib.hid hk
      clear hin hbel hds hk hq
      by_cases hz : q = 0
      · have hkn : k = nd v := nd_unique (by rw [← HQ.out]; exact hz) HK.out
        subst hkn
        have hfin : numL v = ((247 + nd v : Nat) : Int) :: be (nd v) v := by unfold numL; rw [if_neg h]
        subst hz
        have HFIN := Lib.hid hfin
        clear hfin hle
        go_wp2_with (first
          | (at_builtin
             refine wpList_append_bytes' _ rfl (.tmp 23) (.tmp 24) 22 rfl w.heap.size 5 i0 _ 1 Tryz.underlying22 hi0 hz0 hz1 hz2 rfl wr.heap.size 1 1 [.int .u8 (247 + (nd v : Int))] rfl (own_new wr 5 .u8 [247 + (nd v : Int)] w.heap.size HB.out.size (by simp [maxLen])) a (nd v) cap (be (nd v) v) rfl (HIN.out.below ((Below.refl _ _).alloc (Nat.le_refl _) _)) (by simp only [maxLen]; omega) (by omega) (by have := HB.out.size; simp; omega) ?_
             intro g1 c1 w1 hown1 hg1
             have HO1 := Lib.hid hown1
             have HB1 : Hid (Below w.heap.size w w1) := Lib.hid (below_only (HB.out.alloc HB.out.size _) hg1 (by have := HB.out.size; simp; omega) HB.out.size)
             clear hown1 hg1))
        go_ret
        have hfin := HFIN.out
        have hc : ((247 + nd v : Nat) : Int) = 247 + (nd v : Int) := by omega
        rw [hc] at hfin
        have hl : (numL v).length = 1 + nd v := by rw [hfin, List.length_cons, be_length]; omega
        have ho := HO1.out
        refine ⟨g1, c1, by rw [hl]; rfl, ?_, HB1.out⟩
        rw [hl, hfin]
        exact ho
      · have hz2' : (0 : Int) < (q : Int) := by omega
        go_wp2_with (first
          | (at_builtin
             refine wpList_append_bytes' _ rfl (.tmp 14) (.tmp 15) 22 rfl w.heap.size 5 i0 _ 1 Tryz.underlying22 hi0 hz0 hz1 hz2 rfl wr.heap.size 1 1 [.int .u8 ((q : Int) % 256)] rfl (own_new wr 5 .u8 [(q : Int) % 256] w.heap.size HB.out.size (by simp [maxLen])) a k cap (be k v) rfl (HIN.out.below ((Below.refl _ _).alloc (Nat.le_refl _) _)) (by simp only [maxLen]; omega) (by omega) (by have := HB.out.size; simp; omega) ?_
             intro g1 c1 w1 hown1 hg1
             have HO1 := Lib.hid hown1
             have HB1 : Hid (Below w.heap.size w w1) := Lib.hid (below_only (HB.out.alloc HB.out.size _) hg1 (by have := HB.out.size; simp; omega) HB.out.size)
             clear hown1 hg1))
        have hq := HQ.out
        have hb8 : [(q : Int) % 256] ++ be k v = be (k + 1) v := by simp [be, hq]
        have ho := HO1.out
        rw [show [Value.int IntKind.u8 ((q : Int) % 256)] = [(q : Int) % 256].map (Value.int .u8) from rfl, ← List.map_append, hb8, Nat.add_comm 1 k] at ho
        rw [Nat.add_comm 1 k]
        refine ⟨⟨k + 1, some ⟨g1, 0, none⟩, c1, ?_, rfl, .inr ?_, InBytes.of_own ho (be_bytes _ _), HB1.out⟩, ?_⟩
        · congr 1
          rw [← HDS.out]
          omega
        · rw [Nat.add_sub_cancel, ← hq]; omega
        · simp only [intOf]; omega

set_option maxRecDepth 100000 in
set_option maxHeartbeats 2000000 in
theorem refBytes_any (a : Option Addr) (n cap : Nat) (bs : List Int) (w : World) (hin : InBytes w a n cap bs) (hn : n ≤ 140737488351232) :
    Calls Tryz.prog 85 #[.slice a n cap] w (OwnPost w (bytL bs)) := by
  obtain ⟨i0, hi0, hz0, hz1, hz2⟩ := info_parts infoU8
  have hbl := hin.len
  have h9 := numL_le (v := n) (by omega)
  have hle := hin.le
  have HIN := Lib.hid hin
  clear hin
  go_enter Tryz.func85, Tryz.ntmps85
  go_wp2_with (first
    | (go_at_call 94
       (with_reducible refine (refNumber_any n _ (by omega)).mono ?_)
       rintro _ w1 ⟨g1, c1, rfl, hown1, hb1⟩
       have HO1 := Lib.hid hown1
       have HB1 := Lib.hid hb1
       clear hown1 hb1)
    | (at_builtin
       refine wpList_append_bytes' _ rfl (.tmp 6) (.tmp 7) 22 rfl w.heap.size 5 i0 _ 1 Tryz.underlying22 hi0 hz0 hz1 hz2 rfl g1 (numL n).length c1 _ rfl HO1.out a n cap bs rfl (HIN.out.below HB1.out) (by simp only [maxLen]; omega) (by omega) HB1.out.size ?_
       intro g2 c2 w2 hown2 hg2
       have HO2 := Lib.hid hown2
       have HB2 : Hid (Below w.heap.size w w2) := Lib.hid (below_only HB1.out hg2 HB1.out.size (HO1.out.lt g1 rfl).1)
       clear hown2 hg2))
  go_ret
  have ho := HO2.out
  rw [← List.map_append] at ho
  have e : bytL bs = numL n ++ bs := by unfold bytL; rw [hbl]
  have hl : (bytL bs).length = (numL n).length + n := by rw [e, List.length_append, hbl]
  refine ⟨g2, c2, by rw [hl]; rfl, ?_, HB2.out⟩
  rw [hl, e]
  exact ho
end Go.Proofs.YtkcmohmfejmfoaaGreatDoor

/- The contracts of the document's preimages. -/
namespace Go.Proofs.YtkcmohmfejmfoaaGreatDoor
open Go.RowKit
set_option linter.unusedVariables false

set_option maxRecDepth 100000 in
set_option maxHeartbeats 2000000 in
theorem refValue_any (a : Option Addr) (n cap : Nat) (bs : List Int) (w : World) (hin : InBytes w a n cap bs) (hn : n ≤ 140737488351232) :
    Calls Tryz.prog 71 #[.slice a n cap] w (OwnPost w (valL bs)) := by
  obtain ⟨i0, hi0, hz0, hz1, hz2⟩ := info_parts infoU8
  have hbl := hin.len
  have HIN := Lib.hid hin
  clear hin
  go_enter Tryz.func71, Tryz.ntmps71
  go_wp2_with (first
    | (at_builtin
       refine wpList_append_bytes' _ rfl (.tmp 3) (.tmp 4) 22 rfl w.heap.size 5 i0 _ 1 Tryz.underlying22 hi0 hz0 hz1 hz2 rfl w.heap.size 1 1 [.int .u8 0] rfl (own_new w 5 .u8 [0] w.heap.size (Nat.le_refl _) (by simp [maxLen])) a n cap bs rfl (HIN.out.below ((Below.refl _ _).alloc (Nat.le_refl _) _)) (by simp only [maxLen]; omega) (by omega) (by simp) ?_
       intro g1 c1 w1 hown1 hg1
       have HO1 := Lib.hid (own_app (xs := [0]) (ys := bs) hown1 rfl hbl.symm)
       have HB1 : Hid (Below w.heap.size w w1) := Lib.hid (below_only ((Below.refl _ _).alloc (Nat.le_refl _) _) hg1 (by simp) (Nat.le_refl _))
       clear hown1 hg1))
  go_ret
  have e : (valL bs).length = 1 + n := by simp [valL, hbl]; omega
  exact ⟨g1, c1, by rw [e]; rfl, HO1.out, HB1.out⟩

set_option maxRecDepth 100000 in
set_option maxHeartbeats 2000000 in
theorem refPair_any (a : Option Addr) (n cap : Nat) (bs : List Int) (a2 : Option Addr) (n2 cap2 : Nat) (ds : List Int) (w : World) (hin : InBytes w a n cap bs) (hn : n ≤ 140737488351232) (hin2 : InBytes w a2 n2 cap2 ds) (hn2 : n2 ≤ 32) :
    Calls Tryz.prog 72 #[.slice a n cap, .slice a2 n2 cap2] w (OwnPost w (pairL bs ds)) := by
  obtain ⟨i0, hi0, hz0, hz1, hz2⟩ := info_parts infoU8
  have hbl := hin.len
  have hbl2 := hin2.len
  have h8 := bytL_bytes hin.bytes (by omega)
  have h9 := numL_le (v := n) (by omega)
  have hlen : (bytL bs).length = (numL n).length + n := by unfold bytL; rw [List.length_append, hbl]
  have HIN := Lib.hid hin
  have HIN2 := Lib.hid hin2
  have H8 := Lib.hid h8
  obtain ⟨bl, hble⟩ : ∃ bl, bl = (bytL bs).length := ⟨_, rfl⟩
  have HBL := Lib.hid hble
  have hbl3 : bl ≤ n + 9 := by omega
  clear hin hin2 h8 hble hlen h9
  go_enter Tryz.func72, Tryz.ntmps72
  go_wp2_with (first
    | (go_at_call 85
       (with_reducible refine (refBytes_any a n cap bs _ ?_ hn).mono ?_)
       · exact HIN.out.below ((Below.refl _ _).alloc (Nat.le_refl _) _)
       rintro _ w1 ⟨g1, c1, rfl, ho1, hb1⟩
       rw [← HBL.out] at ho1 ⊢
       have HI1 := Lib.hid (InBytes.of_own ho1 H8.out)
       have HO0 := Lib.hid (own_below (own_new w 5 .u8 [1] w.heap.size (Nat.le_refl _) (by simp [maxLen])) hb1 (by simp))
       have HB1 : Hid (Below w.heap.size w w1) := Lib.hid ((((Below.refl w.heap.size w).alloc (Nat.le_refl _) _)).trans (hb1.mono (by simp)))
       clear ho1 hb1)
    | (at_builtin
       refine wpList_append_bytes' _ rfl (.tmp 6) (.tmp 8) 22 rfl w.heap.size 5 i0 _ 1 Tryz.underlying22 hi0 hz0 hz1 hz2 rfl w.heap.size 1 1 [.int .u8 1] rfl HO0.out (some ⟨g1, 0, none⟩) bl c1 (bytL bs) rfl HI1.out (by simp only [maxLen]; omega) (by omega) HB1.out.size ?_
       intro g2 c2 w2 hown2 hg2
       have hown2' := own_app (xs := [1]) (ys := bytL bs) hown2 rfl HBL.out
       have e2 : ([1] ++ bytL bs).length = 1 + bl := by rw [List.length_append, ← HBL.out]; rfl
       rw [e2] at hown2'
       have HO2 := Lib.hid hown2'
       have HB2 : Hid (Below w.heap.size w w2) := Lib.hid (below_only HB1.out hg2 HB1.out.size (Nat.le_refl _))
       clear hown2 hg2 hown2' e2)
    | (at_builtin
       refine wpList_append_bytes' _ rfl (.tmp 10) (.tmp 11) 22 rfl w.heap.size 5 i0 _ 1 Tryz.underlying22 hi0 hz0 hz1 hz2 rfl g2 (1 + bl) c2 (([1] ++ bytL bs).map (Value.int .u8)) rfl HO2.out a2 n2 cap2 ds rfl (HIN2.out.below HB2.out) (by simp only [maxLen]; omega) (by omega) HB2.out.size ?_
       intro g3 c3 w3 hown3 hg3
       have HO3 := Lib.hid (own_app (xs := [1] ++ bytL bs) (ys := ds) hown3 (by rw [List.length_append, ← HBL.out]; rfl) hbl2.symm)
       have HB3 : Hid (Below w.heap.size w w3) := Lib.hid (below_only HB2.out hg3 HB2.out.size (HO2.out.lt g2 rfl).1)
       clear hown3 hg3))
  go_ret
  have e : pairL bs ds = [1] ++ bytL bs ++ ds := by unfold pairL; simp
  have e2 : (pairL bs ds).length = 1 + bl + n2 := by rw [e, List.length_append, List.length_append, ← HBL.out, hbl2]; rfl
  refine ⟨g3, c3, by rw [e2]; rfl, ?_, HB3.out⟩
  rw [e]
  exact HO3.out

set_option maxRecDepth 100000 in
set_option maxHeartbeats 2000000 in
theorem refNodeB_any (a : Option Addr) (n cap : Nat) (ls : List Int) (a2 : Option Addr) (n2 cap2 : Nat) (ps : List Int) (a3 : Option Addr) (n3 cap3 : Nat) (rs : List Int) (w : World)
    (hin : InBytes w a n cap ls) (hn : n ≤ 32) (hin2 : InBytes w a2 n2 cap2 ps) (hn2 : n2 ≤ 32) (hin3 : InBytes w a3 n3 cap3 rs) (hn3 : n3 ≤ 32) :
    Calls Tryz.prog 73 #[.slice a n cap, .slice a2 n2 cap2, .slice a3 n3 cap3] w (OwnPost w (nodeL ls ps rs)) := by
  obtain ⟨i0, hi0, hz0, hz1, hz2⟩ := info_parts infoU8
  have hl1 := hin.len
  have hl2 := hin2.len
  have hl3 := hin3.len
  have HIN := Lib.hid hin
  have HIN2 := Lib.hid hin2
  have HIN3 := Lib.hid hin3
  clear hin hin2 hin3
  go_enter Tryz.func73, Tryz.ntmps73
  go_wp2_with (first
    | (at_builtin
       refine wpList_append_bytes' _ rfl (.tmp 8) (.tmp 9) 22 rfl w.heap.size 5 i0 _ 1 Tryz.underlying22 hi0 hz0 hz1 hz2 rfl w.heap.size 1 1 [.int .u8 2] rfl (own_new w 5 .u8 [2] w.heap.size (Nat.le_refl _) (by simp [maxLen])) a n cap ls rfl (HIN.out.below ((Below.refl _ _).alloc (Nat.le_refl _) _)) (by simp only [maxLen]; omega) (by omega) (by simp) ?_
       intro g1 c1 w1 hown1 hg1
       have hown1' := own_app (xs := [2]) (ys := ls) hown1 rfl hl1.symm
       have e1 : ([2] ++ ls).length = 1 + n := by rw [List.length_append, hl1]; rfl
       rw [e1] at hown1'
       have HO1 := Lib.hid hown1'
       have HB1 : Hid (Below w.heap.size w w1) := Lib.hid (below_only ((Below.refl _ _).alloc (Nat.le_refl _) _) hg1 (by simp) (Nat.le_refl _))
       clear hown1 hg1 hown1' e1)
    | (at_builtin
       refine wpList_append_bytes' _ rfl (.tmp 11) (.tmp 12) 22 rfl w.heap.size 5 i0 _ 1 Tryz.underlying22 hi0 hz0 hz1 hz2 rfl g1 (1 + n) c1 (([2] ++ ls).map (Value.int .u8)) rfl HO1.out a2 n2 cap2 ps rfl (HIN2.out.below HB1.out) (by simp only [maxLen]; omega) (by omega) HB1.out.size ?_
       intro g2 c2 w2 hown2 hg2
       have hown2' := own_app (xs := [2] ++ ls) (ys := ps) hown2 (by rw [List.length_append, hl1]; rfl) hl2.symm
       have e2 : ([2] ++ ls ++ ps).length = 1 + n + n2 := by rw [List.length_append, List.length_append, hl1, hl2]; rfl
       rw [e2] at hown2'
       have HO2 := Lib.hid hown2'
       have HB2 : Hid (Below w.heap.size w w2) := Lib.hid (below_only HB1.out hg2 HB1.out.size (HO1.out.lt g1 rfl).1)
       clear hown2 hg2 hown2' e2)
    | (at_builtin
       refine wpList_append_bytes' _ rfl (.tmp 14) (.tmp 15) 22 rfl w.heap.size 5 i0 _ 1 Tryz.underlying22 hi0 hz0 hz1 hz2 rfl g2 (1 + n + n2) c2 (([2] ++ ls ++ ps).map (Value.int .u8)) rfl HO2.out a3 n3 cap3 rs rfl (HIN3.out.below HB2.out) (by simp only [maxLen]; omega) (by omega) HB2.out.size ?_
       intro g3 c3 w3 hown3 hg3
       have HO3 := Lib.hid (own_app (xs := [2] ++ ls ++ ps) (ys := rs) hown3 (by rw [List.length_append, List.length_append, hl1, hl2]; rfl) hl3.symm)
       have HB3 : Hid (Below w.heap.size w w3) := Lib.hid (below_only HB2.out hg3 HB2.out.size (HO2.out.lt g2 rfl).1)
       clear hown3 hg3))
  go_ret
  have e : nodeL ls ps rs = [2] ++ ls ++ ps ++ rs := by unfold nodeL; simp
  have e2 : (nodeL ls ps rs).length = 1 + n + n2 + n3 := by rw [e, List.length_append, List.length_append, List.length_append, hl1, hl2, hl3]; rfl
  refine ⟨g3, c3, by rw [e2]; rfl, ?_, HB3.out⟩
  rw [e]
  exact HO3.out
end Go.Proofs.YtkcmohmfejmfoaaGreatDoor
