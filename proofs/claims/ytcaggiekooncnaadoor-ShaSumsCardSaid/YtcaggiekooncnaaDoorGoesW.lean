/- The walk of the law ShaGoes. -/
import Derived.Test.YtcaggiekooncnaaDoorSumC
namespace Go.Proofs.YtcaggiekooncnaaDoor
open Go.RowKit
set_option linter.unusedVariables false

theorem own_drew' {w : World} {base : Nat} {e : TypeId} {size : Nat} {v : Value} {n : Nat} {xs : List Value} (h : w.ownsRow base e size v n xs) : w.drew.ownsRow base e size v n xs := h
theorem bytesL_at (s : List Int) (i : Nat) (h : i < 4 * s.length) : (bytesL s).getD i 0 = s.getD (i / 4) 0 / 2 ^ (24 - 8 * (i % 4)) % 256 := by
  induction s generalizing i with
  | nil => simp at h
  | cons x r ih =>
    have hb : bytesL (x :: r) = be4 x ++ bytesL r := by simp [bytesL]
    rw [hb]
    by_cases hi : i < 4
    · have hd : i / 4 = 0 := by omega
      have hm : i % 4 = i := by omega
      rw [hd, hm]
      have : i = 0 ∨ i = 1 ∨ i = 2 ∨ i = 3 := by omega
      rcases this with rfl | rfl | rfl | rfl <;> simp [be4]
    · obtain ⟨j, rfl⟩ : ∃ j, i = 4 + j := ⟨i - 4, by omega⟩
      have ih2 := ih j (by simp at h; omega)
      rw [show (4 + j) / 4 = j / 4 + 1 by omega, show (4 + j) % 4 = j % 4 by omega]
      simp only [List.getD, List.getElem?_cons_succ] at ih2 ⊢
      rw [← ih2]
      rw [List.getElem?_append_right (by simp [be4])]
      simp [be4]

set_option maxRecDepth 100000 in
set_option maxHeartbeats 8000000 in
theorem goes_walk (a : Option Addr) (n0 cap : Nat) (bs0 : List Int) (w : World) (hin0 : InBytes w a n0 cap bs0) (hT : TabLies w) :
    Calls Tryd.prog 6 #[.slice a n0 cap] w fun e w' => e = .returned (.bool true) ∧ Below w.heap.size w w' := by
  obtain ⟨i0, hi0, hz0, hz1, hz2⟩ := info_parts infoU8
  have hle0 := hin0.le
  have hmax := hin0.max
  simp only [maxLen] at hmax
  have HIN0 := Lib.hid hin0
  have HT := Lib.hid hT
  clear hin0 hT
  go_enter Tryd.func6, Tryd.ntmps6
  go_upto_if 14 with fail
  go_cut [0] (fun s0 wx => ∃ (n : Nat) (bs : List Int), s0 = .slice a n cap ∧ n ≤ 20000 ∧ InBytes w a n cap bs ∧ w = wx)
  case first =>
    by_cases hb : n0 ≤ 20000
    · have hb2 : ¬ (20000 : Int) < (n0 : Int) := by omega
      go_wp2_with fail
      go_meet
      exact ⟨n0, bs0, rfl, hb, HIN0.out, rfl⟩
    · have hb2 : (20000 : Int) < (n0 : Int) := by omega
      have hb3 : (20000 : Int) ≤ (cap : Int) := by omega
      go_wp2_with fail
      go_meet
      exact ⟨20000, bs0.take 20000, rfl, by omega, HIN0.out.upto 20000 (by omega), rfl⟩
  case rest =>
    obtain ⟨n, bs, rfl, hn, hin, rfl⟩ := hcut
    have hnl := nils_lt n
    have hbl := hin.len
    obtain ⟨T, hT1⟩ : ∃ T, n + (nils n + 9) = 64 * T := by
      obtain ⟨q, _, _, h3, _⟩ := whole_blocks n (n / 64) (n % 64) (by omega) (by omega)
      exact ⟨n / 64 + q, by omega⟩
    have hall : (bs ++ tailL n).length = n + (nils n + 9) := by rw [List.length_append, tailL_length, hbl]
    have hab : Bytes8 (bs ++ tailL n) := app_bytes hin.bytes (tailL_bytes n)
    have HIN := Lib.hid hin
    have HT1 := Lib.hid hT1
    have HALL := Lib.hid hall
    have HAB := Lib.hid hab
    have HBL := Lib.hid hbl
    have hcode : (n : Int) ≤ 1125899906842624 := by omega
    clear hin hT1 hall hab hbl HIN0
    go_wp2_with (first
      | (go_at_call 14
         (with_reducible refine (Tail_yes n _ hcode).mono ?_)
         rintro _ w1 ⟨rfl, hr1, hb1, hs1⟩
         have HR1 := Lib.hid hr1
         have HB1 := Lib.hid hb1
         have HS1 := Lib.hid hs1
         clear hr1 hb1 hs1)
      | (at_builtin
         refine wpList_append_bytes _ rfl (.tmp 25) (.tmp 26) 24 rfl w.heap.size 5 i0 _ 1 Tryd.underlying24 hi0 hz0 hz1 hz2 rfl (.slice (some ⟨w1.heap.size, 0, none⟩) 0 0) 0 [] rfl ⟨by simp, .inr ⟨w1.heap.size, 0, #[], rfl, HB1.out.size, heap_alloc_new w1 _, Nat.le_refl _, by simp [maxLen], by simp, by simp⟩⟩ a n cap bs rfl (HIN.out.below (HB1.out.alloc HB1.out.size _)) (by simp only [maxLen]; omega) (by omega) (by have := HB1.out.size; simp; omega) ?_
         intro v2 w2 hown2 hg2
         have HO2 := Lib.hid hown2
         have HB2 : Hid (Below w.heap.size w w2) := Lib.hid ((HB1.out.alloc HB1.out.size _).grown hg2 (by have := HB1.out.size; simp; omega) (fun j hj => by have := HB1.out.size; simp [Value.ownBlock] at hj; omega))
         have HR2 : Hid (Row .u8 w2 5 w.heap.size (tailL n)) := Lib.hid ((HR1.out.alloc _).grown hg2 (by have := HR1.out.lt; simp [Value.ownBlock]; omega))
         clear hown2 hg2)
      | (at_builtin
         refine wpList_append_own _ rfl (.tmp 27) (.tmp 28) 24 rfl w.heap.size 5 i0 _ 1 1 Tryd.underlying24 hi0 hz0 hz1 hz2 rfl (by omega) v2 (0 + n) ([] ++ bs.map (Value.int .u8)) rfl HO2.out ⟨w.heap.size, 0, none⟩ (nils n + 9) (nils n + 9) ((tailL n).map (Value.int .u8)) rfl (by simp [tailL_length]) (by exact HR2.out.seg.news) (by simp [Value.oneCell']) (by simp only [maxLen]; omega) (by omega) HB2.out.size ?_
         intro v3 w3 hown3 hg3 hat3
         obtain ⟨ga, cpa, hv3, hgga, hlta⟩ := hown3.form (by omega)
         rw [hv3]
         rw [hv3] at hown3
         rw [List.nil_append, Nat.zero_add, ← List.map_append] at hown3
         have HO3 := Lib.hid hown3
         have HB3 : Hid (Below w.heap.size w w3) := Lib.hid (HB2.out.grown hg3 HB2.out.size (fun j hj => (HO2.out.lt j hj).1))
         clear hown3 hg3 hat3 hv3)
      | (go_at_call 9
         (with_reducible refine (First_any _ (HT.out.below HB3.out (Nat.le_refl _))).mono ?_)
         rintro _ w4 ⟨rfl, hb4⟩
         have HO4 : Hid (w4.ownsRow w.heap.size 5 1 (.slice (some ⟨ga, 0, none⟩) (n + (nils n + 9)) cpa) (n + (nils n + 9)) ((bs ++ tailL n).map (Value.int .u8))) := Lib.hid (HO3.out.kept (only_below hb4 none) (.inr (by simp [Value.ownBlock])))
         have HB4 : Hid (Below w.heap.size w w4) := Lib.hid (HB3.out.trans (hb4.mono HB3.out.size))
         clear hb4)
      | (refine wpList_store_ints rfl 23 (.tmp 6) (.tmp 30) rfl w4.heap.size .u32 hTab rfl rfl 23 [0, 0, 0, 0, 0, 0, 0, 0] (Row.new w4 23 [0, 0, 0, 0, 0, 0, 0, 0]) sizeA8 rfl ?_
         intro w5 hr5 hg5 hs5
         have HR5 := Lib.hid hr5
         have hga := HO4.out.lt ga rfl
         have HO5 : Hid (w5.ownsRow w.heap.size 5 1 (.slice (some ⟨ga, 0, none⟩) (n + (nils n + 9)) cpa) (n + (nils n + 9)) ((bs ++ tailL n).map (Value.int .u8))) := Lib.hid ((HO4.out.alloc _).kept hg5 (.inr (by simp [Value.ownBlock]; omega)))
         have HB5 : Hid (Below w.heap.size w w5) := Lib.hid (below_only (HB4.out.alloc HB4.out.size _) hg5 (by have := HB4.out.size; simp; omega) HB4.out.size)
         clear hr5 hg5 hs5))
    have hoT := HO5.out
    rw [HT1.out] at hoT
    have HOT := Lib.hid hoT
    clear hoT HO5 HO4 HO3 HO2
    rw [HT1.out]
    obtain ⟨gv, hgv⟩ : ∃ gv, gv = w4.heap.size := ⟨_, rfl⟩
    rw [← hgv]
    have hgv2 : w.heap.size ≤ gv := by rw [hgv]; exact HB4.out.size
    have hgav : ga < gv := by rw [hgv]; exact (hga).2
    have HR5' : Hid (Row .u32 w5 23 gv hTab) := Lib.hid (by rw [hgv]; exact HR5.out)
    clear hgv HR5 hga
    go_loopw [7] (fun i wx => ∃ k : Nat, k ≤ T ∧ i = .int .i64 (64 * (k : Int)) ∧ Row .u32 wx 23 gv (stepsL hTab (bs ++ tailL n) k) ∧ wx.ownsRow w.heap.size 5 1 (.slice (some ⟨ga, 0, none⟩) (64 * T) cpa) (64 * T) ((bs ++ tailL n).map (Value.int .u8)) ∧ Below w.heap.size w wx) (fun i _ => 64 * T - (intOf i).toNat)
    case atStart => exact ⟨0, by omega, rfl, HR5'.out, HOT.out, HB5.out⟩
    case round =>
      obtain ⟨k, hk, rfl, hr, ho, hb⟩ := hrel
      have HR := Lib.hid hr
      have HO := Lib.hid ho
      have HB := Lib.hid hb
      clear hr ho hb
      have hT2 := HT1.out
      by_cases hlt : k < T
      · have hl8 : (stepsL hTab (bs ++ tailL n) k).length = 8 := stepsL_length rfl _ k
        have hinA := InBytes.of_own HO.out HAB.out
        obtain ⟨g', off', e', hgA, hsegA⟩ := hinA.place (by omega)
        injection e' with e'
        injection e' with e1 e2
        subst e1
        subst e2
        have hcpa := hinA.le
        have hcpm := hinA.max
        simp only [maxLen] at hcpm
        obtain ⟨y0, y1, y2, y3, y4, y5, y6, y7, hy⟩ := list_8 (stepL (stepsL hTab (bs ++ tailL n) k) (((bs ++ tailL n).drop (64 * k)).take 64)) (stepL_length hl8 _)
        have hnx : stepsL hTab (bs ++ tailL n) (k + 1) = [y0, y1, y2, y3, y4, y5, y6, y7] := hy
        obtain ⟨x0, x1, x2, x3, x4, x5, x6, x7, hx⟩ := list_8 (stepsL hTab (bs ++ tailL n) k) hl8
        have hc : ∀ W, Below wr.heap.size wr W → Calls Tryd.prog 8 #[.agg #[.int .u32 x0, .int .u32 x1, .int .u32 x2, .int .u32 x3, .int .u32 x4, .int .u32 x5, .int .u32 x6, .int .u32 x7], .slice (some ⟨ga, 64 * k, none⟩) 64 (cpa - 64 * k)] W (fun e w' => e = .returned (.tuple #[.agg #[.int .u32 y0, .int .u32 y1, .int .u32 y2, .int .u32 y3, .int .u32 y4, .int .u32 y5, .int .u32 y6, .int .u32 y7], .nilIface]) ∧ Below W.heap.size W w') := fun W hW => by
          have hbW : Below w.heap.size w W := HB.out.trans (hW.mono HB.out.size)
          have h := Step_yes ga (0 + 64 * k) (cpa - 64 * k) _ (((bs ++ tailL n).drop (64 * k)).take 64) W hl8 (stepsL_bd hTab_bd _ k) (by have := HALL.out; simp only [List.length_take, List.length_drop]; omega) (fun z hz => HAB.out z (List.mem_of_mem_drop (List.mem_of_mem_take hz))) (((hsegA.below hW hgA).drop (64 * k)).take 64) (by omega) (Nat.lt_of_lt_of_le hgA hW.size) (HT.out.below hbW (Nat.le_refl _)).kl
          unfold StepTuple at h
          rw [hy, hx, Nat.zero_add] at h
          exact h
        have hr := HR.out
        rw [hx] at hr
        have HC := Lib.hid hc
        have HNX := Lib.hid hnx
        have HR2 := Lib.hid hr
        have c0 := hr.cell 0 (by simp)
        have c1 := hr.cell 1 (by simp)
        have c2 := hr.cell 2 (by simp)
        have c3 := hr.cell 3 (by simp)
        have c4 := hr.cell 4 (by simp)
        have c5 := hr.cell 5 (by simp)
        have c6 := hr.cell 6 (by simp)
        have c7 := hr.cell 7 (by simp)
        simp only [List.getElem_cons_zero, List.getElem_cons_succ] at c0 c1 c2 c3 c4 c5 c6 c7
        have k1 : 64 * (k : Int) + 64 ≤ 64 * (T : Int) := by omega
        have k2 : (64 * (k : Int) + 64).toNat = 64 * k + 64 := by omega
        have k3 : IntKind.i64.wrap (64 * (k : Int) + 64) = 64 * (k : Int) + 64 := IntWalk.i64_in _ (by omega)
        have k4 : (0 : Int) ≤ 64 * (k : Int) := by omega
        have k5 : 64 * (k : Int) + 64 ≤ (cpa : Int) := by omega
        have k6 : (64 * (k : Int)).toNat = 64 * k := by omega
        have k7 : 64 * (k : Int) ≤ 64 * (k : Int) + 64 := by omega
        have k8 : ¬ cpa = 64 * k := by omega
        have k9 : gv < wr.heap.size := HR2.out.lt
        have k10 : ¬ gv = wr.heap.size := by omega
        clear hl8 hinA hsegA hy hnx hx hc hr hT2
        go_wp2_with fail
        go_region_with (first
          | (go_at_call 8
             (with_reducible refine (HC.out _ ?_).mono ?_)
             · exact (Below.refl _ _).drew
             rintro _ w7 ⟨rfl, hb7⟩
             have HB7 := Lib.hid hb7
             clear hb7)
          | (go_at_call 8
             (with_reducible refine (HC.out _ ?_).mono ?_)
             · exact ((Below.refl _ _).alloc (Nat.le_refl _) _).drew
             rintro _ w7 ⟨rfl, hb7⟩
             have HZ7 : Hid (Row .u32 w7 23 wr.heap.size [0, 0, 0, 0, 0, 0, 0, 0]) := Lib.hid ((Row.new wr 23 [0, 0, 0, 0, 0, 0, 0, 0]).drew.below hb7 (by simp))
             have q0 := HZ7.out.cell 0 (by simp)
             have q1 := HZ7.out.cell 1 (by simp)
             have q2 := HZ7.out.cell 2 (by simp)
             have q3 := HZ7.out.cell 3 (by simp)
             have q4 := HZ7.out.cell 4 (by simp)
             have q5 := HZ7.out.cell 5 (by simp)
             have q6 := HZ7.out.cell 6 (by simp)
             have q7 := HZ7.out.cell 7 (by simp)
             have qf := fun o => HZ7.out.frozen o
             have HB7 := Lib.hid hb7
             clear hb7)
          | (go_at_call 8
             trace_state
             fail))
        · have HG8 := Lib.hid (Row.new (k := .u32) w7 23 [y0, y1, y2, y3, y4, y5, y6, y7])
          have HV8 := Lib.hid ((HR2.out.drew.below HB7.out HR2.out.lt).alloc (.cells (([y0, y1, y2, y3, y4, y5, y6, y7] : List Int).map (Value.int .u32)).toArray 23))
          have HO8 := Lib.hid ((World.ownsRow.kept (w := wr.drew) HO.out (only_below HB7.out none) (.inr (by simp [Value.ownBlock]))).alloc (.cells (([y0, y1, y2, y3, y4, y5, y6, y7] : List Int).map (Value.int .u32)).toArray 23))
          have HB8 := Lib.hid ((HB.out.drew.trans (HB7.out.mono HB.out.size)).alloc (Nat.le_trans HB.out.size HB7.out.size) (.cells (([y0, y1, y2, y3, y4, y5, y6, y7] : List Int).map (Value.int .u32)).toArray 23))
          clear HB7 HO HB c0 c1 c2 c3 c4 c5 c6 c7
          go_wp2_with (first
            | (refine wpList_load_ints rfl 23 (.tmp 8) rfl w7.heap.size rfl 23 .u32 [y0, y1, y2, y3, y4, y5, y6, y7] HG8.out 8 22 Tryd.underlying23 sizeA8 ?_)
            | (refine wpList_store_ints rfl 23 (.tmp 6) (.tmp 50) rfl gv .u32 [y0, y1, y2, y3, y4, y5, y6, y7] rfl rfl 23 [x0, x1, x2, x3, x4, x5, x6, x7] HV8.out sizeA8 rfl ?_
               intro w9 hr9 hg9 hs9
               have HR9 := Lib.hid hr9
               have HO9 := Lib.hid (HO8.out.kept hg9 (.inr (by simp [Value.ownBlock]; omega)))
               have HB9 := Lib.hid (below_only HB8.out hg9 HB8.out.size hgv2)
               clear hr9 hg9 hs9))
          go_roundw
          case rel => exact ⟨k + 1, by omega, by congr 1, by rw [HNX.out]; exact HR9.out, HO9.out, HB9.out⟩
          case measure => simp [intOf]; omega
        all_goals
          obtain ⟨w8, hw8⟩ : ∃ w8, w8 = ((((((((w7.setCell ⟨wr.heap.size, 0, none⟩ (.int .u32 y0)).setCell ⟨wr.heap.size, 1, none⟩ (.int .u32 y1)).setCell ⟨wr.heap.size, 2, none⟩ (.int .u32 y2)).setCell ⟨wr.heap.size, 3, none⟩ (.int .u32 y3)).setCell ⟨wr.heap.size, 4, none⟩ (.int .u32 y4)).setCell ⟨wr.heap.size, 5, none⟩ (.int .u32 y5)).setCell ⟨wr.heap.size, 6, none⟩ (.int .u32 y6)).setCell ⟨wr.heap.size, 7, none⟩ (.int .u32 y7)) := ⟨_, rfl⟩
          rw [← hw8]
          have HG8 : Hid (Row .u32 w8 23 wr.heap.size [y0, y1, y2, y3, y4, y5, y6, y7]) := Lib.hid (by rw [hw8]; exact ((((((((HZ7.out.set 0 y0).set 1 y1).set 2 y2).set 3 y3).set 4 y4).set 5 y5).set 6 y6).set 7 y7))
          have hv8 : Row .u32 w7 23 gv [x0, x1, x2, x3, x4, x5, x6, x7] := (HR2.out.alloc _).drew.below HB7.out (by simp; omega)
          have HV8 : Hid (Row .u32 w8 23 gv [x0, x1, x2, x3, x4, x5, x6, x7]) := Lib.hid (by rw [hw8]; exact ((((((((hv8.far (p := ⟨wr.heap.size, 0, none⟩) (by simp; omega) (.int .u32 y0)).far (p := ⟨wr.heap.size, 1, none⟩) (by simp; omega) (.int .u32 y1)).far (p := ⟨wr.heap.size, 2, none⟩) (by simp; omega) (.int .u32 y2)).far (p := ⟨wr.heap.size, 3, none⟩) (by simp; omega) (.int .u32 y3)).far (p := ⟨wr.heap.size, 4, none⟩) (by simp; omega) (.int .u32 y4)).far (p := ⟨wr.heap.size, 5, none⟩) (by simp; omega) (.int .u32 y5)).far (p := ⟨wr.heap.size, 6, none⟩) (by simp; omega) (.int .u32 y6)).far (p := ⟨wr.heap.size, 7, none⟩) (by simp; omega) (.int .u32 y7)))
          have ho8 : w7.ownsRow w.heap.size 5 1 (.slice (some ⟨ga, 0, none⟩) (64 * T) cpa) (64 * T) ((bs ++ tailL n).map (Value.int .u8)) := (own_drew' (HO.out.alloc _)).kept (only_below HB7.out none) (.inr (by simp [Value.ownBlock]))
          have HO8 : Hid (w8.ownsRow w.heap.size 5 1 (.slice (some ⟨ga, 0, none⟩) (64 * T) cpa) (64 * T) ((bs ++ tailL n).map (Value.int .u8))) := Lib.hid (by rw [hw8]; exact ho8.kept (only_set (only_set (only_set (only_set (only_set (only_set (only_set (only_set (only_refl w7 (some wr.heap.size)) 0 (.int .u32 y0)) 1 (.int .u32 y1)) 2 (.int .u32 y2)) 3 (.int .u32 y3)) 4 (.int .u32 y4)) 5 (.int .u32 y5)) 6 (.int .u32 y6)) 7 (.int .u32 y7)) (.inr (by simp [Value.ownBlock]; omega)))
          have hb8 : Below w.heap.size w w7 := ((HB.out.alloc HB.out.size _).drew.trans (HB7.out.mono (by have := HB.out.size; simp; omega)))
          have HB8 : Hid (Below w.heap.size w w8) := Lib.hid (by rw [hw8]; exact ((((((((hb8.setCell (p := ⟨wr.heap.size, 0, none⟩) HB.out.size (.int .u32 y0)).setCell (p := ⟨wr.heap.size, 1, none⟩) HB.out.size (.int .u32 y1)).setCell (p := ⟨wr.heap.size, 2, none⟩) HB.out.size (.int .u32 y2)).setCell (p := ⟨wr.heap.size, 3, none⟩) HB.out.size (.int .u32 y3)).setCell (p := ⟨wr.heap.size, 4, none⟩) HB.out.size (.int .u32 y4)).setCell (p := ⟨wr.heap.size, 5, none⟩) HB.out.size (.int .u32 y5)).setCell (p := ⟨wr.heap.size, 6, none⟩) HB.out.size (.int .u32 y6)).setCell (p := ⟨wr.heap.size, 7, none⟩) HB.out.size (.int .u32 y7)))
          clear hw8 hv8 ho8 hb8 q0 q1 q2 q3 q4 q5 q6 q7 qf HZ7
          clear HB7 HO HB c0 c1 c2 c3 c4 c5 c6 c7
          go_wp2_with (first
            | (refine wpList_load_ints rfl 23 (.tmp 8) rfl wr.heap.size rfl 23 .u32 [y0, y1, y2, y3, y4, y5, y6, y7] HG8.out 8 22 Tryd.underlying23 sizeA8 ?_)
            | (refine wpList_store_ints rfl 23 (.tmp 6) (.tmp 50) rfl gv .u32 [y0, y1, y2, y3, y4, y5, y6, y7] rfl rfl 23 [x0, x1, x2, x3, x4, x5, x6, x7] HV8.out sizeA8 rfl ?_
               intro w9 hr9 hg9 hs9
               have HR9 := Lib.hid hr9
               have HO9 := Lib.hid (HO8.out.kept hg9 (.inr (by simp [Value.ownBlock]; omega)))
               have HB9 := Lib.hid (below_only HB8.out hg9 HB8.out.size hgv2)
               clear hr9 hg9 hs9))
          go_roundw
          case rel => exact ⟨k + 1, by omega, by congr 1, by rw [HNX.out]; exact HR9.out, HO9.out, HB9.out⟩
          case measure => simp [intOf]; omega
      · obtain rfl : k = T := by omega
        have hrl8 : (stepsL hTab (bs ++ tailL n) k).length = 8 := stepsL_length rfl _ k
        have hsum : sumL bs = bytesL (stepsL hTab (bs ++ tailL n) k) := by
          unfold sumL
          rw [HBL.out, show (n + nils n + 9) / 64 = k by omega]
        have hsb := stepsL_bd hTab_bd (bs ++ tailL n) k
        generalize stepsL hTab (bs ++ tailL n) k = st at *
        have HSUM := Lib.hid hsum
        have HL8 := Lib.hid hrl8
        have HSB := Lib.hid hsb
        have k1 : ¬ 64 * (k : Int) + 64 ≤ 64 * (k : Int) := by omega
        have k2 : (64 * (k : Int)) % 64 = 0 := by omega
        have k3 : 64 * (k : Int) + 64 ≤ 9223372036854775807 := by omega
        clear hrl8 hsum hsb hT2
        go_wp2_with (first
          | (go_at_call 11
             (with_reducible refine (Sum_any a n cap bs _ ?_ hcode ?_).mono ?_)
             · exact HIN.out.below HB.out
             · exact HT.out.below HB.out (Nat.le_refl _)
             rintro _ w8 ⟨gs, hgs, rfl, hr8, hb8⟩
             rw [HSUM.out] at hr8
             have HR8 := Lib.hid hr8
             have HV8 : Hid (Row .u32 w8 23 gv st) := Lib.hid (HR.out.below hb8 HR.out.lt)
             have HB8 : Hid (Below w.heap.size w w8) := Lib.hid (HB.out.trans (hb8.mono HB.out.size))
             clear hr8 hb8))
        go_loopw [11] (fun i wx => ∃ j m : Nat, j ≤ 32 ∧ i = .int .i64 j ∧ wx = w8.drewN m) (fun i _ => 32 - (intOf i).toNat)
        case atStart => exact ⟨0, 0, by omega, rfl, rfl⟩
        case round =>
          obtain ⟨j, m, hj, rfl, rfl⟩ := hrel
          by_cases hlt : j < 32
          · have e1 := HR8.out.cellD j (by rw [bytesL_length, HL8.out]; omega)
            have e2 := HV8.out.cellD (j / 4) (by rw [HL8.out]; omega)
            rw [bytesL_at st j (by rw [HL8.out]; omega)] at e1
            have bx := word_at HSB.out (j / 4)
            generalize st.getD (j / 4) 0 = x at *
            have jb : (j : Int) < 32 := by omega
            go_wp2_with fail
            go_quiet (fail)
            go_wp2_with fail
            exact ⟨⟨j + 1, m + nq, by omega, by go_num, rfl⟩, by simp [intOf]; omega⟩
          · obtain rfl : j = 32 := by omega
            go_wp2_with fail
            go_ret
            exact ⟨rfl, below_drewN HB8.out m⟩
end Go.Proofs.YtcaggiekooncnaaDoor
