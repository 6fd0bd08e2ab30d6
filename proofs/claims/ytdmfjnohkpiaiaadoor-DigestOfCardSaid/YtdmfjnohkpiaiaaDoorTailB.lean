/- The contract of the document's Tail. -/
import Derived.Test.YtdmfjnohkpiaiaaDoorLib
import Derived.Test.YtdmfjnohkpiaiaaDoorTailA
import Derived.OwnWalk
import Derived.Deep.AppendLies
namespace Go.Proofs.YtdmfjnohkpiaiaaDoor
open Go.RowKit
set_option linter.unusedVariables false

def RefTailPost (w : World) (n : Nat) (e : Ending) (w' : World) : Prop :=
  ∃ v, e = .returned v ∧ w'.ownsRow w.heap.size 5 1 v (nils n + 9) ((tailL n).map (Value.int .u8)) ∧ Below w.heap.size w w'

set_option maxHeartbeats 1000000 in
theorem refTail_any (n : Nat) (w : World) (hn : (n : Int) ≤ 1125899906842624) :
    Calls Tryd.prog 24 #[.int .i64 n] w (RefTailPost w n) := by
  obtain ⟨i0, hi0, hz0, hz1, hz2⟩ := info_parts infoU8
  have hnl := nils_lt n
  go_enter Tryd.func24, Tryd.ntmps24
  go_wp2_with fail
  go_loopw [3] (fun v wx => ∃ j g cap : Nat, j ≤ nils n ∧ v = .slice (some ⟨g, 0, none⟩) (1 + j) cap ∧ wx.ownsRow w.heap.size 5 1 (.slice (some ⟨g, 0, none⟩) (1 + j) cap) (1 + j) ((128 :: List.replicate j 0).map (Value.int .u8)) ∧ Below w.heap.size w wx) (fun v _ => nils n + 1 - lenV v)
  case atStart =>
    refine ⟨0, w.heap.size, 1, Nat.zero_le _, rfl, ⟨by simp, .inr ⟨w.heap.size, 1, #[.int .u8 128], rfl, Nat.le_refl _, heap_alloc_new w _, by omega, by simp [maxLen], by simp, by simp⟩⟩, (Below.refl _ _).alloc (Nat.le_refl _) _⟩
  case round =>
    obtain ⟨j, g, cap, hj, rfl, hown, hb⟩ := hrel
    have HO := Lib.hid hown
    clear hown
    by_cases hlt : j < nils n
    · have ht : (((n : Int) + (1 + (j : Int))) % 64 != 56) = true := by
        rw [bne_iff_ne]
        unfold nils at hlt
        omega
      go_wp2_with (first
        | (at_builtin
           refine wpList_append_own _ rfl (.tmp 14) (.tmp 15) 22 rfl w.heap.size 5 i0 _ 1 1 Tryd.underlying22 hi0 hz0 hz1 hz2 rfl (by omega) (.slice (some ⟨g, 0, none⟩) (1 + j) cap) (1 + j) ((128 :: List.replicate j 0).map (Value.int .u8)) rfl (HO.out.alloc _)
             ⟨wr.heap.size, 0, none⟩ 1 1 [.int .u8 0] rfl rfl (cell_one_new _ _ _) (by simp [Value.oneCell']) (by simp only [maxLen]; omega) (by omega) (by have := hb.size; simp; omega) ?_
           intro v1 w1 hown1 hg1 hat1
           obtain ⟨g1, cap1, hv1, hgg1, hlt1⟩ := hown1.form (by omega)
           rw [hv1]
           rw [hv1] at hown1
           have HO1 := Lib.hid hown1
           clear hown1 hat1 hv1))
      go_roundw
      case rel =>
        refine ⟨j + 1, g1, cap1, by omega, rfl, ?_, ?_⟩
        · have h := HO1.out
          rw [rep_snoc] at h
          exact h
        · exact (hb.alloc hb.size _).grown hg1 (by have := hb.size; simp; omega) (fun k hk => (HO.out.lt k hk).1)
      case measure => simp [lenV]; omega
    · obtain rfl : j = nils n := by omega
      have ht : (((n : Int) + (1 + (nils n : Int))) % 64 != 56) = false := by
        have : ((n : Int) + (1 + (nils n : Int))) % 64 = 56 := by
          unfold nils
          omega
        rw [this]; rfl
      go_wp2_with (first
        | (at_make
           refine wpList_make_ints _ rfl (.const (.int .i64 8)) (.const (.int .i64 8)) 22 rfl 5 i0 .u8 Tryd.underlying22 hi0 hz0 hz1 .i64 .i64 _ _ 8 rfl rfl (by omega) (by omega) (by rw [hz2]; omega) (by simp only [maxLen]; omega) ?_
           intro w1 hr1 hb1 hs1
           have HR1 := Lib.hid hr1
           have HS1 := Lib.hid hs1
           clear hr1 hs1))
      obtain ⟨w0, hw0⟩ : ∃ w0, w0 = wr := ⟨wr, rfl⟩
      subst hw0
      go_loopw [5, 6] (fun x i wx => ∃ m : Nat, m ≤ 8 ∧ i = .int .i64 ((m : Int) - 1) ∧ x = .int .u64 ((8 * (n : Int)) / 256 ^ (8 - m)) ∧ Row .u8 wx 5 w0.heap.size (bitsAt (8 * (n : Int)) m) ∧ wx.heap.size = w1.heap.size ∧ w1.grownBy wx (some w0.heap.size)) (fun _ i _ => (intOf i + 1).toNat)
      case atStart => exact ⟨8, by omega, rfl, by simp, HR1.out, rfl, only_refl _ _⟩
      case round =>
        obtain ⟨m, hm, rfl, rfl, hr, hs, hg⟩ := hrel
        have HS := Lib.hid hs
        have HG := Lib.hid hg
        clear hs hg
        by_cases hm0 : m = 0
        · subst hm0
          have hnews := hr.seg
          have HR := Lib.hid hr
          clear hr
          have hgl := HO.out.lt g rfl
          have own2 := (HO.out.kept (only_below hb1 none) (.inr (by simp [Value.ownBlock]))).kept HG.out (.inr (by simp [Value.ownBlock]; omega))
          have HO2 := Lib.hid own2
          have HN := Lib.hid hnews
          have hb3 : Below w.heap.size w wr := (hb.trans (hb1.mono hb.size)).grown HG.out (by have := hb.size; rw [HS1.out]; omega) (fun k hk => by have := hb.size; injection hk; omega)
          clear own2 hnews
          go_wp2_with (first
            | (at_builtin
               refine wpList_append_own _ rfl (.tmp 33) (.tmp 34) 22 rfl w.heap.size 5 i0 _ 1 1 Tryd.underlying22 hi0 hz0 hz1 hz2 rfl (by omega) (.slice (some ⟨g, 0, none⟩) (1 + nils n) cap) (1 + nils n) ((128 :: List.replicate (nils n) 0).map (Value.int .u8)) rfl HO2.out ⟨w0.heap.size, 0, none⟩ 8 8 ((be8 (8 * (n : Int))).map (Value.int .u8)) rfl rfl (by have h := HN.out.news; exact h) (by simp [be8, Value.oneCell']) (by simp only [maxLen]; omega) (by omega) hb3.size ?_
               intro v1 w2 hown1 hg1 hat1
               have HO1 := Lib.hid hown1
               have HG1 := Lib.hid hg1
               clear hown1 hat1 hg1))
          go_ret
          refine ⟨v1, rfl, ?_, hb3.grown HG1.out hb3.size (fun k hk => (HO2.out.lt k hk).1)⟩
          have h := HO1.out
          rw [← List.map_append, show 1 + nils n + 8 = nils n + 9 by omega] at h
          exact h
        · obtain ⟨q, rfl⟩ : ∃ q, m = q + 1 := ⟨m - 1, by omega⟩
          have hlen := bitsAt_length (8 * (n : Int)) (q + 1) hm
          obtain ⟨z0, hc⟩ := hr.has q (by omega)
          have hf := hr.frozen q
          have HR := Lib.hid hr
          clear hr hlen
          generalize hy : (8 * (n : Int)) / 256 ^ (8 - (q + 1)) = y
          have hy0 : 0 ≤ y := by rw [← hy]; exact Int.ediv_nonneg (by omega) (Int.pow_nonneg (by omega))
          have hy1 : y ≤ 9007199254740992 := by
            rw [← hy]
            exact Int.le_trans (Int.ediv_le_self _ (by omega)) (by omega)
          have HY := Lib.hid hy
          clear hy
          rw [show ((q + 1 : Nat) : Int) - 1 = (q : Int) by omega]
          go_wp2_with fail
          go_roundw
          case rel =>
            refine ⟨q, by omega, rfl, ?_, ?_, by simpa [World.setCell] using HS.out, only_set HG.out _ _⟩
            · rw [← HY.out, show 8 - (q + 1) = 7 - q by omega, pow_step _ _ (by omega)]
            · have h := HR.out.set q (y % 256)
              rw [← HY.out, show 8 - (q + 1) = 7 - q by omega, bitsAt_step _ _ (by omega)] at h
              rw [← HY.out, show 8 - (q + 1) = 7 - q by omega]
              exact h
          case measure => simp [intOf]
end Go.Proofs.YtdmfjnohkpiaiaaDoor
