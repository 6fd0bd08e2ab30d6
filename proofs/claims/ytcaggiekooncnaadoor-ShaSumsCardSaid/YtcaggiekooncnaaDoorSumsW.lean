/- The walk of the law ShaSums. -/
import Derived.Test.YtcaggiekooncnaaDoorRefSum
import Derived.Test.YtcaggiekooncnaaDoorStaysW
namespace Go.Proofs.YtcaggiekooncnaaDoor
open Go.RowKit
set_option linter.unusedVariables false

theorem cv32 {w : World} {g : Nat} {bs : List Int} (h : Row .u8 w 5 g (sumL bs)) : (convert 24 9 (.slice (some ⟨g, 0, none⟩) 32 32)).run Tryd.prog w = .ok (.string (strOfNums (sumL bs))) w := by
  have hsl32 := sumL_length bs
  have h := conv_in (P := Tryd.prog) (InBytes.of_row h (sumL_bytes bs) (by rw [hsl32]; omega)) 24 5 9 Tryd.underlying24 Tryd.underlying5 Tryd.underlying9
  rw [hsl32] at h
  exact h

set_option maxRecDepth 100000 in
set_option maxHeartbeats 4000000 in
theorem sums_law (a : Option Addr) (n0 cap : Nat) (bs0 : List Int) (w : World) (hin0 : InBytes w a n0 cap bs0) (hT : TabLies w) :
    Calls Tryd.prog 4 #[.slice a n0 cap] w fun e w' => e = .returned (.bool true) ∧ Below w.heap.size w w' := by
  have hle0 := hin0.le
  have hmax := hin0.max
  simp only [maxLen] at hmax
  have HIN0 := Lib.hid hin0
  have HT := Lib.hid hT
  clear hin0 hT
  go_enter Tryd.func4, Tryd.ntmps4
  go_upto_if 7 with fail
  go_cut [0] (fun s0 wx => ∃ (n : Nat) (bs : List Int), s0 = .slice a n cap ∧ n ≤ 20000 ∧ InBytes w a n cap bs ∧ w = wx)
  case first =>
    by_cases hb : n0 ≤ 20000
    · have hb2 : ¬ (20000 : Int) < (n0 : Int) := by omega
      go_wp2_with fail
      go_meet
      exact ⟨n0, bs0, rfl, hb, HIN0.out, rfl⟩
    · have hb2 : (20000 : Int) < (n0 : Int) := by omega
      have hb3 : (20000 : Int) ≤ (cap : Int) := by omega
      go_wp2_with fail
      go_meet
      exact ⟨20000, bs0.take 20000, rfl, by omega, HIN0.out.upto 20000 (by omega), rfl⟩
  case rest =>
    obtain ⟨n, bs, rfl, hn, hin, rfl⟩ := hcut
    have HIN := Lib.hid hin
    have hcode : (n : Int) ≤ 1125899906842624 := by omega
    clear hin HIN0
    go_wp2_with (first
      | (go_at_call 7
         refine (made_any _).mono ?_
         rintro _ w1 ⟨gk, ck, rfl, ho1, hb1⟩
         have HO1 := Lib.hid ho1
         have HB1 := Lib.hid hb1
         have hgk := (ho1.lt gk rfl).2
         clear ho1 hb1)
      | (refine wpList_store_row rfl 27 (.tmp 3) (.tmp 10) rfl w1.heap.size (Value.slice (some ⟨gk, 0, none⟩) 64 ck :: hTab.map (Value.int .u32)).toArray rfl rfl 27 _ (tabZero w1) sizeTab rfl (by simp [Value.oneCell']) ?_
         obtain ⟨w2, hw2⟩ : ∃ w2, w2 = (w1.alloc (.cells #[.slice none 0 0, .int .u32 0, .int .u32 0, .int .u32 0, .int .u32 0, .int .u32 0, .int .u32 0, .int .u32 0, .int .u32 0] 27)).setRow w1.heap.size (Value.slice (some ⟨gk, 0, none⟩) 64 ck :: hTab.map (Value.int .u32)).toArray := ⟨_, rfl⟩
         rw [← hw2]
         have hg2 : (w1.alloc (.cells #[.slice none 0 0, .int .u32 0, .int .u32 0, .int .u32 0, .int .u32 0, .int .u32 0, .int .u32 0, .int .u32 0, .int .u32 0] 27)).grownBy w2 (some w1.heap.size) := by rw [hw2]; exact ⟨rfl, rfl, rfl, by simp, fun q hq hne => setRow_other _ w1.heap.size q _ (fun e => hne (by rw [e]))⟩
         have HT2 : Hid (TB w2 w1.heap.size (.slice (some ⟨gk, 0, none⟩) 64 ck) hTab) := Lib.hid (by rw [hw2]; exact setRow_heap _ w1.heap.size _ _ _ _ (tabZero w1))
         have HO2 : Hid (Seg .u32 w2 gk 0 kTab) := Lib.hid (own_seg ((HO1.out.alloc _).kept hg2 (.inr (by simp [Value.ownBlock]; omega))))
         have HB2 : Hid (Below w.heap.size w w2) := Lib.hid (below_only (HB1.out.alloc HB1.out.size _) hg2 (by have := HB1.out.size; simp; omega) HB1.out.size)
         have hsz2 : w1.heap.size < w2.heap.size := HT2.out.lt
         clear hw2 hg2)
      | (go_at_call 11
         (with_reducible refine (Sum_any a n cap bs _ ?_ hcode ?_).mono ?_)
         · exact HIN.out.below HB2.out
         · exact HT.out.below HB2.out (Nat.le_refl _)
         rintro _ w3 ⟨gs, hgs, rfl, hr3, hb3⟩
         have HR3 := Lib.hid hr3
         have HT3 : Hid (TB w3 w1.heap.size (.slice (some ⟨gk, 0, none⟩) 64 ck) hTab) := Lib.hid (HT2.out.below hb3 HT2.out.lt)
         have HO3 : Hid (Seg .u32 w3 gk 0 kTab) := Lib.hid (HO2.out.below hb3 (Nat.lt_trans hgk hsz2))
         have HB3 : Hid (Below w.heap.size w w3) := Lib.hid (HB2.out.trans (hb3.mono HB2.out.size))
         have hsz3 : w1.heap.size < w3.heap.size := HT3.out.lt
         clear hr3 hb3))
    have hc : ∀ W, Below w3.heap.size w3 W → Calls Tryd.prog 12 #[.agg #[.slice (some ⟨gk, 0, none⟩) 64 ck, .int .u32 1779033703, .int .u32 3144134277, .int .u32 1013904242, .int .u32 2773480762, .int .u32 1359893119, .int .u32 2600822924, .int .u32 528734635, .int .u32 1541459225], .slice a n cap] W (fun e w' => ∃ g, W.heap.size ≤ g ∧ e = .returned (.slice (some ⟨g, 0, none⟩) 32 32) ∧ Row .u8 w' 5 g (sumL bs) ∧ Below W.heap.size W w') := fun W hW =>
      refSum_any a n cap gk ck bs W (HIN.out.below (HB3.out.trans (hW.mono HB3.out.size))) hn (HO3.out.below hW (by omega)) (by have := hW.size; omega)
    have HC := Lib.hid hc
    have t0 := HT3.out.cell0
    obtain ⟨t1, t2, t3, t4, t5, t6, t7, t8⟩ := tb_cells HT3.out
    have v1 := cv32 HR3.out
    have v2 := cv32 HR3.out.drew
    clear hc
    go_wp2_with fail
    go_region_with (first
      | (go_at_call 12
         (with_reducible refine (HC.out _ ?_).mono ?_)
         · exact (Below.refl _ _).drew
         rintro _ w7 ⟨g7, hg7, rfl, hr7, hb7⟩
         have HB7 := Lib.hid hb7
         have v3 := cv32 hr7
         have v4 := cv32 (HR3.out.drew.below hb7 HR3.out.lt)
         clear hr7 hb7))
    all_goals
      go_wp2_with fail
      go_ret
      exact ⟨rfl, HB3.out.drew.trans (HB7.out.mono HB3.out.size)⟩
end Go.Proofs.YtcaggiekooncnaaDoor
