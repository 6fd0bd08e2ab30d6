/- The contract of the document's digest. -/
import Derived.Test.YtdmfjnohkpiaiaaDoorStepF
import Derived.Test.YtdmfjnohkpiaiaaDoorLib
import Derived.Test.YtdmfjnohkpiaiaaDoorTailB
import Derived.Test.YtdmfjnohkpiaiaaDoorSumD
import Derived.Deep.RegionWith
namespace Go.Proofs.YtdmfjnohkpiaiaaDoor
open Go.RowKit
set_option linter.unusedVariables false

/-- The first j of a list, zeros behind them. -/
def outN (l : List Int) (j : Nat) : List Int := l.take j ++ List.replicate (l.length - j) 0
theorem outN_zero (l : List Int) : outN l 0 = List.replicate l.length 0 := by simp [outN]
theorem outN_all (l : List Int) (j : Nat) (h : l.length ≤ j) : outN l j = l := by simp [outN, List.take_of_length_le h, Nat.sub_eq_zero_of_le h]
theorem outN_length (l : List Int) (j : Nat) : (outN l j).length = l.length := by simp [outN]; omega
theorem outN_set (l : List Int) (j : Nat) (h : j < l.length) : (outN l j).set j (l.getD j 0) = outN l (j + 1) := by
  unfold outN
  rw [List.set_append_right _ _ (by simp; omega), show l.take (j + 1) = l.take j ++ [l[j]] from List.take_succ_eq_append_getElem h]
  have e : l.length - j = (l.length - (j + 1)) + 1 := by omega
  rw [e, List.replicate_succ]
  have hm : j - (l.take j).length = 0 := by rw [List.length_take]; omega
  rw [hm, List.set_cons_zero, List.append_assoc]
  simp [List.getD, h, -List.take_append_getElem]
theorem tab_row1 (w : World) (gk ck : Nat) (o1 : Obj) : TB ((w.alloc (.cells (Value.slice (some ⟨gk, 0, none⟩) 64 ck :: hTab.map (Value.int .u32)).toArray 34)).alloc o1) w.heap.size (.slice (some ⟨gk, 0, none⟩) 64 ck) hTab := by
  have h : TB (w.alloc (.cells (Value.slice (some ⟨gk, 0, none⟩) 64 ck :: hTab.map (Value.int .u32)).toArray 34)) w.heap.size (.slice (some ⟨gk, 0, none⟩) 64 ck) hTab := heap_alloc_new w _
  exact h.alloc _

set_option maxRecDepth 100000 in
set_option maxHeartbeats 4000000 in
theorem refSum_any (a : Option Addr) (n cap gk ck : Nat) (bs : List Int) (w : World) (hin : InBytes w a n cap bs) (hn : n ≤ 20000) (hks : Seg .u32 w gk 0 kTab) (hgk : gk < w.heap.size) :
    Calls Tryd.prog 17 #[tabV gk ck, .slice a n cap] w (SumPost w bs) := by
  obtain ⟨i0, hi0, hz0, hz1, hz2⟩ := info_parts infoU8
  have hle0 := hin.le
  have hmax := hin.max
  simp only [maxLen] at hmax
  have hnl := nils_lt n
  have hbl := hin.len
  obtain ⟨T, hT1⟩ : ∃ T, n + (nils n + 9) = 64 * T := by
    obtain ⟨q, _, _, h3, _⟩ := whole_blocks n (n / 64) (n % 64) (by omega) (by omega)
    exact ⟨n / 64 + q, by omega⟩
  have hall : (bs ++ tailL n).length = n + (nils n + 9) := by rw [List.length_append, tailL_length, hbl]
  have hab : Bytes8 (bs ++ tailL n) := app_bytes hin.bytes (tailL_bytes n)
  have hcode : (n : Int) ≤ 1125899906842624 := by omega
  have HIN := Lib.hid hin
  have HKS := Lib.hid hks
  have HT1 := Lib.hid hT1
  have HALL := Lib.hid hall
  have HAB := Lib.hid hab
  have HBL := Lib.hid hbl
  clear hin hks hT1 hall hab hbl
  unfold tabV
  go_enter Tryd.func17, Tryd.ntmps17
  have hown0 : ((w.alloc (.cells (Value.slice (some ⟨gk, 0, none⟩) 64 ck :: hTab.map (Value.int .u32)).toArray 34)).alloc (.cells #[] 5)).ownsRow (w.heap.size + 1) 5 1 (.slice (some ⟨w.heap.size + 1, 0, none⟩) 0 0) 0 [] := by
    refine ⟨by simp, .inr ⟨w.heap.size + 1, 0, #[], rfl, Nat.le_refl _, ?_, Nat.le_refl _, by simp [maxLen], by simp, by simp⟩⟩
    have h := heap_alloc_new (w.alloc (.cells (Value.slice (some ⟨gk, 0, none⟩) 64 ck :: hTab.map (Value.int .u32)).toArray 34)) (.cells #[] 5)
    have e : (w.alloc (.cells (Value.slice (some ⟨gk, 0, none⟩) 64 ck :: hTab.map (Value.int .u32)).toArray 34)).heap.size = w.heap.size + 1 := by simp
    rw [e] at h
    exact h
  have HO0 := Lib.hid hown0
  have b2 : ∀ o1 o2, Below w.heap.size w ((w.alloc o1).alloc o2) := fun o1 o2 => ((Below.refl _ _).alloc (Nat.le_refl _) _).alloc (by simp) _
  have HB0 := Lib.hid b2
  have HT0 := Lib.hid (tab_row1 w gk ck)
  clear hown0 b2
  go_wp2_with (first
    | (at_builtin
       refine wpList_append_bytes' _ rfl (.tmp 10) (.tmp 11) 22 rfl (w.heap.size + 1) 5 i0 _ 1 Tryd.underlying22 hi0 hz0 hz1 hz2 rfl (w.heap.size + 1) 0 0 [] rfl HO0.out a n cap bs rfl (HIN.out.below (HB0.out _ _)) (by simp only [maxLen]; omega) (by omega) (by simp) ?_
       intro g1 c1 w1 hown1 hg1
       rw [List.nil_append, Nat.zero_add] at hown1
       have HO1 := Lib.hid hown1
       have HT1a : Hid (TB w1 w.heap.size (.slice (some ⟨gk, 0, none⟩) 64 ck) hTab) := Lib.hid ((HT0.out _).grown hg1 (by simp))
       have HB1 : Hid (Below w.heap.size w w1) := Lib.hid (below_only (HB0.out _ _) hg1 (by simp; omega) (by omega))
       have hsz1 := HT1a.out.lt
       clear hown1 hg1)
    | (go_at_call 24
       (with_reducible refine (refTail_any n _ hcode).mono ?_)
       rintro _ w2 ⟨v2, rfl, hown2, hb2⟩
       obtain ⟨gt, ct, hv2, hgt1, hgt2⟩ := hown2.form (by omega)
       subst hv2
       have HA2 := Lib.hid hown2
       have HO2 : Hid (w2.ownsRow (w.heap.size + 1) 5 1 (.slice (some ⟨g1, 0, none⟩) n c1) n (bs.map (Value.int .u8))) := Lib.hid (HO1.out.kept (only_below hb2 none) (.inr (by simp [Value.ownBlock])))
       have HT2 : Hid (TB w2 w.heap.size (.slice (some ⟨gk, 0, none⟩) 64 ck) hTab) := Lib.hid (HT1a.out.below hb2 HT1a.out.lt)
       have HB2 : Hid (Below w.heap.size w w2) := Lib.hid (HB1.out.trans (hb2.mono HB1.out.size))
       have hsz2 := HT2.out.lt
       have hg1 := HO2.out.lt g1 rfl
       clear hown2 hb2)
    | (at_builtin
       refine wpList_append_own _ rfl (.tmp 13) (.tmp 16) 22 rfl (w.heap.size + 1) 5 i0 _ 1 1 Tryd.underlying22 hi0 hz0 hz1 hz2 rfl (by omega) (.slice (some ⟨g1, 0, none⟩) n c1) n (bs.map (Value.int .u8)) rfl HO2.out ⟨gt, 0, none⟩ (nils n + 9) ct ((tailL n).map (Value.int .u8)) rfl (by simp [tailL_length]) (by exact (own_seg HA2.out).news) (by simp [Value.oneCell']) (by simp only [maxLen]; omega) (by omega) (by omega) ?_
       intro v3 w3 hown3 hg3 hat3
       obtain ⟨ga, cpa, hv3, hgga, hlta⟩ := hown3.form (by omega)
       rw [hv3]
       rw [hv3] at hown3
       rw [← List.map_append] at hown3
       have HO3 := Lib.hid hown3
       have HT3 : Hid (TB w3 w.heap.size (.slice (some ⟨gk, 0, none⟩) 64 ck) hTab) := Lib.hid (HT2.out.grown hg3 (by simp [Value.ownBlock]; omega))
       have HB3 : Hid (Below w.heap.size w w3) := Lib.hid (HB2.out.grown hg3 HB2.out.size (fun j hj => by have := (HO2.out.lt j hj).1; omega))
       have hsz3 := HT3.out.lt
       obtain ⟨t1, t2, t3, t4, t5, t6, t7, t8⟩ := tb_cells HT3.out
       clear hown3 hg3 hat3 hv3)
    | (refine wpList_store_ints rfl 32 (.tmp 6) (.tmp 19) rfl w3.heap.size .u32 hTab rfl rfl 32 [0, 0, 0, 0, 0, 0, 0, 0] (Row.new w3 32 [0, 0, 0, 0, 0, 0, 0, 0]) sizeA8 rfl ?_
       intro w5 hr5 hg5 hs5
       have HR5 := Lib.hid hr5
       have hga := HO3.out.lt ga rfl
       have HO5 : Hid (w5.ownsRow (w.heap.size + 1) 5 1 (.slice (some ⟨ga, 0, none⟩) (n + (nils n + 9)) cpa) (n + (nils n + 9)) ((bs ++ tailL n).map (Value.int .u8))) := Lib.hid ((HO3.out.alloc _).kept hg5 (.inr (by simp [Value.ownBlock]; omega)))
       have HT5 : Hid (TB w5 w.heap.size (.slice (some ⟨gk, 0, none⟩) 64 ck) hTab) := Lib.hid ((HT3.out.alloc _).grown hg5 (by simp; omega))
       have HB5 : Hid (Below w.heap.size w w5) := Lib.hid (below_only (HB3.out.alloc HB3.out.size _) hg5 (by have := HB3.out.size; simp; omega) HB3.out.size)
       clear hr5 hg5 hs5 t1 t2 t3 t4 t5 t6 t7 t8))
  have hoT := HO5.out
  rw [HT1.out] at hoT
  have HOT := Lib.hid hoT
  clear hoT HO5 HO3 HO2
  rw [HT1.out]
  obtain ⟨gv, hgv⟩ : ∃ gv, gv = w3.heap.size := ⟨_, rfl⟩
  rw [← hgv]
  have hgv2 : w.heap.size + 1 ≤ gv := by omega
  have hgav : ga < gv := by rw [hgv]; exact hga.2
  have hga1 : w.heap.size + 1 ≤ ga := hga.1
  have HR5' : Hid (Row .u32 w5 32 gv hTab) := Lib.hid (by rw [hgv]; exact HR5.out)
  clear hgv HR5 hga HA2 HT2 HB2 HT3 HB3 HO0 HB0 HT0 HO1 HT1a HB1
  go_loopw [7] (fun i wx => ∃ k : Nat, k ≤ T ∧ i = .int .i64 (64 * (k : Int)) ∧ Row .u32 wx 32 gv (stepsL hTab (bs ++ tailL n) k) ∧ TB wx w.heap.size (.slice (some ⟨gk, 0, none⟩) 64 ck) hTab ∧ wx.ownsRow (w.heap.size + 1) 5 1 (.slice (some ⟨ga, 0, none⟩) (64 * T) cpa) (64 * T) ((bs ++ tailL n).map (Value.int .u8)) ∧ Below w.heap.size w wx) (fun i _ => 64 * T - (intOf i).toNat)
  case atStart => exact ⟨0, by omega, rfl, HR5'.out, HT5.out, HOT.out, HB5.out⟩
  case round =>
    obtain ⟨k, hk, rfl, hr, ht, ho, hb⟩ := hrel
    have HR := Lib.hid hr
    have HT := Lib.hid ht
    have HO := Lib.hid ho
    have HB := Lib.hid hb
    clear hr ht ho hb
    have hT2 := HT1.out
    by_cases hlt : k < T
    · have hl8 : (stepsL hTab (bs ++ tailL n) k).length = 8 := stepsL_length rfl _ k
      have hinA := InBytes.of_own HO.out HAB.out
      obtain ⟨g', off', e', hgA, hsegA⟩ := hinA.place (by omega)
      injection e' with e'
      injection e' with e1 e2
      subst e1
      subst e2
      have hcpa := hinA.le
      have hcpm := hinA.max
      simp only [maxLen] at hcpm
      obtain ⟨y0, y1, y2, y3, y4, y5, y6, y7, hy⟩ := list_8 (stepL (stepsL hTab (bs ++ tailL n) k) (((bs ++ tailL n).drop (64 * k)).take 64)) (stepL_length hl8 _)
      have hnx : stepsL hTab (bs ++ tailL n) (k + 1) = [y0, y1, y2, y3, y4, y5, y6, y7] := hy
      obtain ⟨x0, x1, x2, x3, x4, x5, x6, x7, hx⟩ := list_8 (stepsL hTab (bs ++ tailL n) k) hl8
      have hc : ∀ W, Below wr.heap.size wr W → Calls Tryd.prog 25 #[.agg #[.slice (some ⟨gk, 0, none⟩) 64 ck, .int .u32 1779033703, .int .u32 3144134277, .int .u32 1013904242, .int .u32 2773480762, .int .u32 1359893119, .int .u32 2600822924, .int .u32 528734635, .int .u32 1541459225], .agg #[.int .u32 x0, .int .u32 x1, .int .u32 x2, .int .u32 x3, .int .u32 x4, .int .u32 x5, .int .u32 x6, .int .u32 x7], .slice (some ⟨ga, 64 * k, none⟩) 64 (cpa - 64 * k)] W (fun e w' => e = .returned (.agg #[.int .u32 y0, .int .u32 y1, .int .u32 y2, .int .u32 y3, .int .u32 y4, .int .u32 y5, .int .u32 y6, .int .u32 y7]) ∧ Below W.heap.size W w') := fun W hW => by
        have hbW : Below w.heap.size w W := HB.out.trans (hW.mono HB.out.size)
        have h := refStep_any ga (0 + 64 * k) (cpa - 64 * k) gk ck _ (((bs ++ tailL n).drop (64 * k)).take 64) W hl8 (stepsL_bd hTab_bd _ k) (by have := HALL.out; simp only [List.length_take, List.length_drop]; omega) (fun z hz => HAB.out z (List.mem_of_mem_drop (List.mem_of_mem_take hz))) (((hsegA.below hW hgA).drop (64 * k)).take 64) (Nat.lt_of_lt_of_le hgA hW.size) (HKS.out.below hbW hgk) (Nat.lt_of_lt_of_le hgk hbW.size)
        unfold StepPost at h
        rw [hy, hx, Nat.zero_add] at h
        exact h
      have hr := HR.out
      rw [hx] at hr
      have HC := Lib.hid hc
      have HNX := Lib.hid hnx
      have HR2 := Lib.hid hr
      have c0 := hr.cell 0 (by simp)
      have c1 := hr.cell 1 (by simp)
      have c2 := hr.cell 2 (by simp)
      have c3 := hr.cell 3 (by simp)
      have c4 := hr.cell 4 (by simp)
      have c5 := hr.cell 5 (by simp)
      have c6 := hr.cell 6 (by simp)
      have c7 := hr.cell 7 (by simp)
      simp only [List.getElem_cons_zero, List.getElem_cons_succ] at c0 c1 c2 c3 c4 c5 c6 c7
      have t0 := HT.out.cell0
      obtain ⟨t1, t2, t3, t4, t5, t6, t7, t8⟩ := tb_cells HT.out
      have k1 : 64 * (k : Int) < 64 * (T : Int) := by omega
      have k2 : (64 * (k : Int) + 64).toNat = 64 * k + 64 := by omega
      have k3 : IntKind.i64.wrap (64 * (k : Int) + 64) = 64 * (k : Int) + 64 := IntWalk.i64_in _ (by omega)
      have k4 : (0 : Int) ≤ 64 * (k : Int) := by omega
      have k5 : 64 * (k : Int) + 64 ≤ (cpa : Int) := by omega
      have k6 : (64 * (k : Int)).toNat = 64 * k := by omega
      have k7 : 64 * (k : Int) ≤ 64 * (k : Int) + 64 := by omega
      have k8 : ¬ cpa = 64 * k := by omega
      have k9 : gv < wr.heap.size := HR2.out.lt
      clear hl8 hinA hsegA hy hnx hx hc hr hT2
      go_wp2_with fail
      go_region_with (first
        | (go_at_call 25
           (with_reducible refine (HC.out _ ?_).mono ?_)
           · exact (Below.refl _ _).drew
           rintro _ w7 ⟨rfl, hb7⟩
           have HR3 : Hid (Row .u32 w7 32 gv [x0, x1, x2, x3, x4, x5, x6, x7]) := Lib.hid (HR2.out.drew.below hb7 HR2.out.lt)
           have HT3 : Hid (TB w7 w.heap.size (.slice (some ⟨gk, 0, none⟩) 64 ck) hTab) := Lib.hid (TB.below (w := wr.drew) HT.out hb7 HT.out.lt)
           have HO3 : Hid (w7.ownsRow (w.heap.size + 1) 5 1 (.slice (some ⟨ga, 0, none⟩) (64 * T) cpa) (64 * T) ((bs ++ tailL n).map (Value.int .u8))) := Lib.hid ((own_drew' HO.out).kept (only_below hb7 none) (.inr (by simp [Value.ownBlock])))
           have HB3 : Hid (Below w.heap.size w w7) := Lib.hid (HB.out.drew.trans (hb7.mono HB.out.size))
           have q0 := HR3.out.cell 0 (by simp)
           have q1 := HR3.out.cell 1 (by simp)
           have q2 := HR3.out.cell 2 (by simp)
           have q3 := HR3.out.cell 3 (by simp)
           have q4 := HR3.out.cell 4 (by simp)
           have q5 := HR3.out.cell 5 (by simp)
           have q6 := HR3.out.cell 6 (by simp)
           have q7 := HR3.out.cell 7 (by simp)
           have qf := fun o => HR3.out.frozen o
           clear hb7))
      all_goals
        obtain ⟨w8, hw8⟩ : ∃ w8, w8 = ((((((((w7.setCell ⟨gv, 0, none⟩ (.int .u32 y0)).setCell ⟨gv, 1, none⟩ (.int .u32 y1)).setCell ⟨gv, 2, none⟩ (.int .u32 y2)).setCell ⟨gv, 3, none⟩ (.int .u32 y3)).setCell ⟨gv, 4, none⟩ (.int .u32 y4)).setCell ⟨gv, 5, none⟩ (.int .u32 y5)).setCell ⟨gv, 6, none⟩ (.int .u32 y6)).setCell ⟨gv, 7, none⟩ (.int .u32 y7)) := ⟨_, rfl⟩
        rw [← hw8]
        have HX8 : Hid (Row .u32 w8 32 gv [y0, y1, y2, y3, y4, y5, y6, y7]) := Lib.hid (by rw [hw8]; exact ((((((((HR3.out.set 0 y0).set 1 y1).set 2 y2).set 3 y3).set 4 y4).set 5 y5).set 6 y6).set 7 y7))
        have HT8 : Hid (TB w8 w.heap.size (.slice (some ⟨gk, 0, none⟩) 64 ck) hTab) := Lib.hid (by rw [hw8]; exact ((((((((HT3.out.far (p := ⟨gv, 0, none⟩) (by simp; omega) (.int .u32 y0)).far (p := ⟨gv, 1, none⟩) (by simp; omega) (.int .u32 y1)).far (p := ⟨gv, 2, none⟩) (by simp; omega) (.int .u32 y2)).far (p := ⟨gv, 3, none⟩) (by simp; omega) (.int .u32 y3)).far (p := ⟨gv, 4, none⟩) (by simp; omega) (.int .u32 y4)).far (p := ⟨gv, 5, none⟩) (by simp; omega) (.int .u32 y5)).far (p := ⟨gv, 6, none⟩) (by simp; omega) (.int .u32 y6)).far (p := ⟨gv, 7, none⟩) (by simp; omega) (.int .u32 y7)))
        have hgrow : w7.grownBy w8 (some gv) := by rw [hw8]; exact (only_set (only_set (only_set (only_set (only_set (only_set (only_set (only_set (only_refl w7 (some gv)) 0 (.int .u32 y0)) 1 (.int .u32 y1)) 2 (.int .u32 y2)) 3 (.int .u32 y3)) 4 (.int .u32 y4)) 5 (.int .u32 y5)) 6 (.int .u32 y6)) 7 (.int .u32 y7))
        have HO8 : Hid (w8.ownsRow (w.heap.size + 1) 5 1 (.slice (some ⟨ga, 0, none⟩) (64 * T) cpa) (64 * T) ((bs ++ tailL n).map (Value.int .u8))) := Lib.hid (HO3.out.kept hgrow (.inr (by simp [Value.ownBlock]; omega)))
        have HB8 : Hid (Below w.heap.size w w8) := Lib.hid (below_only HB3.out hgrow HB3.out.size (by omega))
        clear hw8 hgrow q0 q1 q2 q3 q4 q5 q6 q7 qf c0 c1 c2 c3 c4 c5 c6 c7 t0 t1 t2 t3 t4 t5 t6 t7 t8
        go_wp2_with fail
        go_roundw
        case rel => exact ⟨k + 1, by omega, by congr 1, by rw [HNX.out]; exact HX8.out, HT8.out, HO8.out, HB8.out⟩
        case measure => simp [intOf]; omega
    · obtain rfl : k = T := by omega
      have hrl8 : (stepsL hTab (bs ++ tailL n) k).length = 8 := stepsL_length rfl _ k
      have hsum : sumL bs = bytesL (stepsL hTab (bs ++ tailL n) k) := by
        unfold sumL
        rw [HBL.out, show (n + nils n + 9) / 64 = k by omega]
      have hsb := stepsL_bd hTab_bd (bs ++ tailL n) k
      generalize stepsL hTab (bs ++ tailL n) k = st at *
      have HSUM := Lib.hid hsum
      have HL8 := Lib.hid hrl8
      have HSB := Lib.hid hsb
      have k1 : ¬ 64 * (k : Int) < 64 * (k : Int) := by omega
      clear hrl8 hsum hsb hT2
      go_wp2_with (first
        | (at_make
           refine wpList_make_ints _ rfl (.const (.int .i64 32)) (.const (.int .i64 32)) 22 rfl 5 i0 .u8 Tryd.underlying22 hi0 hz0 hz1 .i64 .i64 _ _ 32 rfl rfl (by omega) (by omega) (by rw [hz2]; omega) (by simp only [maxLen]; omega) ?_
           intro w8 hr8 hb8 hs8
           have HR8 : Hid (Row .u8 w8 5 wr.heap.size (outN (bytesL st) 0)) := Lib.hid (by rw [outN_zero, bytesL_length, HL8.out]; exact hr8)
           have HV8 : Hid (Row .u32 w8 32 gv st) := Lib.hid (HR.out.below hb8 HR.out.lt)
           have HB8 : Hid (Below w.heap.size w w8) := Lib.hid (HB.out.trans (hb8.mono HB.out.size))
           have hgvr : gv < wr.heap.size := HR.out.lt
           have hbs := HB.out.size
           clear hr8 hb8 hs8))
      obtain ⟨go, hgo⟩ : ∃ go, go = wr.heap.size := ⟨_, rfl⟩
      rw [← hgo] at hgvr hbs ⊢
      have HR8' : Hid (Row .u8 w8 5 go (outN (bytesL st) 0)) := Lib.hid (by rw [hgo]; exact HR8.out)
      clear HR8 hgo
      go_loopw [9] (fun i wx => ∃ j : Nat, j ≤ 32 ∧ i = .int .i64 j ∧ Row .u8 wx 5 go (outN (bytesL st) j) ∧ Row .u32 wx 32 gv st ∧ Below w.heap.size w wx) (fun i _ => 32 - (intOf i).toNat)
      case atStart => exact ⟨0, by omega, rfl, HR8'.out, HV8.out, HB8.out⟩
      case round =>
        obtain ⟨j, hj, rfl, hr, hv, hb⟩ := hrel
        clear HR HB HV8 HR8' HB8
        have HR := Lib.hid hr
        have HV := Lib.hid hv
        have HB := Lib.hid hb
        clear hr hv hb
        by_cases hlt : j < 32
        · have e1 := HR.out.cellD j (by rw [outN_length, bytesL_length, HL8.out]; omega)
          have f1 := HR.out.frozen j
          have e2 := HV.out.cellD (j / 4) (by rw [HL8.out]; omega)
          have hst : Row .u8 (wr.setCell ⟨go, j, none⟩ (.int .u8 (st.getD (j / 4) 0 / 2 ^ (24 - 8 * (j % 4)) % 256))) 5 go (outN (bytesL st) (j + 1)) := by
            have h := HR.out.set j ((bytesL st).getD j 0)
            rw [outN_set _ j (by rw [bytesL_length, HL8.out]; omega), bytesL_at st j (by rw [HL8.out]; omega)] at h
            exact h
          have bx := word_at HSB.out (j / 4)
          generalize st.getD (j / 4) 0 = x at *
          generalize (outN (bytesL st) j).getD j 0 = ov at *
          have HST := Lib.hid hst
          have jb : (j : Int) < 32 := by omega
          clear hst
          go_wp2_with fail
          refine ⟨⟨j + 1, by omega, by go_num, HST.out, HV.out.far (p := ⟨go, j, none⟩) (by simp; omega) _, HB.out.setCell (p := ⟨go, j, none⟩) hbs _⟩, by simp [intOf]; omega⟩
        · obtain rfl : j = 32 := by omega
          go_wp2_with fail
          go_ret
          have hr := HR.out
          rw [outN_all _ 32 (by rw [bytesL_length, HL8.out]; omega), ← HSUM.out] at hr
          exact ⟨go, hbs, rfl, hr, HB.out⟩
end Go.Proofs.YtdmfjnohkpiaiaaDoor
