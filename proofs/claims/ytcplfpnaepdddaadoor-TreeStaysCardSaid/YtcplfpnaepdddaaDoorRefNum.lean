/- The contracts of the document's Number and Bytes. -/
import Derived.Test.YtcplfpnaepdddaaDoorCodMath
import Derived.Test.YtcplfpnaepdddaaDoorInfo
namespace Go.Proofs.YtcplfpnaepdddaaDoor
open Go.RowKit
set_option linter.unusedVariables false

set_option maxRecDepth 100000 in
set_option maxHeartbeats 2000000 in
theorem refNumber_any (v : Nat) (w : World) (hv : v < 18446744073709551616) :
    Calls Tryd.prog 63 #[.int .u64 v] w (OwnPost w (numL v)) := by
  obtain ⟨i0, hi0, hz0, hz1, hz2⟩ := info_parts infoU8
  go_enter Tryd.func63, Tryd.ntmps63
  by_cases h : v < 248
  · have hb : (v : Int) < 248 := by omega
    go_wp2_with fail
    go_ret
    have e : numL v = [(v : Int)] := by unfold numL; rw [if_pos h]
    rw [e]
    exact ⟨w.heap.size, 1, rfl, own_new w 5 .u8 [(v : Int)] w.heap.size (Nat.le_refl _) (by simp [maxLen]), (Below.refl _ _).alloc (Nat.le_refl _) _⟩
  · have hb : ¬ (v : Int) < 248 := by omega
    go_wp2_with fail
    go_loopw [0, 3] (fun s0 s3 wx => ∃ (k : Nat) (a : Option Addr) (cap : Nat), s0 = .int .u64 ((v / 256 ^ k : Nat) : Int) ∧ s3 = .slice a k cap ∧ (k = 0 ∨ v / 256 ^ (k - 1) ≠ 0) ∧ InBytes wx a k cap (be k v) ∧ Below w.heap.size w wx) (fun s0 _ _ => (intOf s0).toNat)
    case atStart => exact ⟨0, none, 0, by simp, rfl, .inl rfl, ⟨rfl, (fun z hz => by cases hz), Nat.le_refl _, by simp [maxLen], fun _ => rfl, (fun h => by omega)⟩, Below.refl _ _⟩
    case round =>
      obtain ⟨k, a, cap, rfl, rfl, hk, hin, hbel⟩ := hrel
      have hk8 : k ≤ nd v := by
        rcases hk with rfl | hk
        · omega
        · rcases Nat.lt_or_ge (nd v) k with h6 | h6
          · exfalso
            apply hk
            apply Nat.div_eq_of_lt
            exact Nat.lt_of_lt_of_le (nd_lt v) (Nat.pow_le_pow_right (by omega) (by omega))
          · exact h6
      have hn8 := nd_64 hv
      have hle := Nat.div_le_self v (256 ^ k)
      have hds := div_step v k
      obtain ⟨q, hq⟩ : ∃ q, q = v / 256 ^ k := ⟨_, rfl⟩
      rw [← hq] at hle hds ⊢
      have HQ := Lib.hid hq
      have HIN := Lib.hid hin
      have HB := Lib.hid hbel
      have HDS := Lib.hid hds
      have HK := Lib.hid hk
      clear hin hbel hds hk hq
      by_cases hz : q = 0
      · have hkn : k = nd v := nd_unique (by rw [← HQ.out]; exact hz) HK.out
        subst hkn
        have hfin : numL v = ((247 + nd v : Nat) : Int) :: be (nd v) v := by unfold numL; rw [if_neg h]
        subst hz
        have HFIN := Lib.hid hfin
        clear hfin hle
        go_wp2_with (first
          | (at_builtin
             refine wpList_append_bytes' _ rfl (.tmp 23) (.tmp 24) 22 rfl w.heap.size 5 i0 _ 1 Tryd.underlying22 hi0 hz0 hz1 hz2 rfl wr.heap.size 1 1 [.int .u8 (247 + (nd v : Int))] rfl (own_new wr 5 .u8 [247 + (nd v : Int)] w.heap.size HB.out.size (by simp [maxLen])) a (nd v) cap (be (nd v) v) rfl (HIN.out.below ((Below.refl _ _).alloc (Nat.le_refl _) _)) (by simp only [maxLen]; omega) (by omega) (by have := HB.out.size; simp; omega) ?_
             intro g1 c1 w1 hown1 hg1
             have HO1 := Lib.hid hown1
             have HB1 : Hid (Below w.heap.size w w1) := Lib.hid (below_only (HB.out.alloc HB.out.size _) hg1 (by have := HB.out.size; simp; omega) HB.out.size)
             clear hown1 hg1))
        go_ret
        have hfin := HFIN.out
        have hc : ((247 + nd v : Nat) : Int) = 247 + (nd v : Int) := by omega
        rw [hc] at hfin
        have hl : (numL v).length = 1 + nd v := by rw [hfin, List.length_cons, be_length]; omega
        have ho := HO1.out
        refine ⟨g1, c1, by rw [hl]; rfl, ?_, HB1.out⟩
        rw [hl, hfin]
        exact ho
      · have hz2' : (0 : Int) < (q : Int) := by omega
        go_wp2_with (first
          | (at_builtin
             refine wpList_append_bytes' _ rfl (.tmp 14) (.tmp 15) 22 rfl w.heap.size 5 i0 _ 1 Tryd.underlying22 hi0 hz0 hz1 hz2 rfl wr.heap.size 1 1 [.int .u8 ((q : Int) % 256)] rfl (own_new wr 5 .u8 [(q : Int) % 256] w.heap.size HB.out.size (by simp [maxLen])) a k cap (be k v) rfl (HIN.out.below ((Below.refl _ _).alloc (Nat.le_refl _) _)) (by simp only [maxLen]; omega) (by omega) (by have := HB.out.size; simp; omega) ?_
             intro g1 c1 w1 hown1 hg1
             have HO1 := Lib.hid hown1
             have HB1 : Hid (Below w.heap.size w w1) := Lib.hid (below_only (HB.out.alloc HB.out.size _) hg1 (by have := HB.out.size; simp; omega) HB.out.size)
             clear hown1 hg1))
        have hq := HQ.out
        have hb8 : [(q : Int) % 256] ++ be k v = be (k + 1) v := by simp [be, hq]
        have ho := HO1.out
        rw [show [Value.int IntKind.u8 ((q : Int) % 256)] = [(q : Int) % 256].map (Value.int .u8) from rfl, ← List.map_append, hb8, Nat.add_comm 1 k] at ho
        rw [Nat.add_comm 1 k]
        refine ⟨⟨k + 1, some ⟨g1, 0, none⟩, c1, ?_, rfl, .inr ?_, InBytes.of_own ho (be_bytes _ _), HB1.out⟩, ?_⟩
        · congr 1
          rw [← HDS.out]
          omega
        · rw [Nat.add_sub_cancel, ← hq]; omega
        · simp only [intOf]; omega

set_option maxRecDepth 100000 in
set_option maxHeartbeats 2000000 in
theorem refBytes_any (a : Option Addr) (n cap : Nat) (bs : List Int) (w : World) (hin : InBytes w a n cap bs) (hn : n ≤ 140737488351232) :
    Calls Tryd.prog 54 #[.slice a n cap] w (OwnPost w (bytL bs)) := by
  obtain ⟨i0, hi0, hz0, hz1, hz2⟩ := info_parts infoU8
  have hbl := hin.len
  have h9 := numL_le (v := n) (by omega)
  have hle := hin.le
  have HIN := Lib.hid hin
  clear hin
  go_enter Tryd.func54, Tryd.ntmps54
  go_wp2_with (first
    | (go_at_call 63
       (with_reducible refine (refNumber_any n _ (by omega)).mono ?_)
       rintro _ w1 ⟨g1, c1, rfl, hown1, hb1⟩
       have HO1 := Lib.hid hown1
       have HB1 := Lib.hid hb1
       clear hown1 hb1)
    | (at_builtin
       refine wpList_append_bytes' _ rfl (.tmp 6) (.tmp 7) 22 rfl w.heap.size 5 i0 _ 1 Tryd.underlying22 hi0 hz0 hz1 hz2 rfl g1 (numL n).length c1 _ rfl HO1.out a n cap bs rfl (HIN.out.below HB1.out) (by simp only [maxLen]; omega) (by omega) HB1.out.size ?_
       intro g2 c2 w2 hown2 hg2
       have HO2 := Lib.hid hown2
       have HB2 : Hid (Below w.heap.size w w2) := Lib.hid (below_only HB1.out hg2 HB1.out.size (HO1.out.lt g1 rfl).1)
       clear hown2 hg2))
  go_ret
  have ho := HO2.out
  rw [← List.map_append] at ho
  have e : bytL bs = numL n ++ bs := by unfold bytL; rw [hbl]
  have hl : (bytL bs).length = (numL n).length + n := by rw [e, List.length_append, hbl]
  refine ⟨g2, c2, by rw [hl]; rfl, ?_, HB2.out⟩
  rw [hl, e]
  exact ho
end Go.Proofs.YtcplfpnaepdddaaDoor
