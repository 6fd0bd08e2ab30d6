/- The contract of Sum. -/
import Derived.Test.YtcplfpnaepdddaaDoorLib
import Derived.Test.YtcplfpnaepdddaaDoorSumB
import Derived.Test.YtcplfpnaepdddaaDoorShaC
import Derived.Test.YtcplfpnaepdddaaDoorStepMath2
import Derived.Deep.DeepCutAuto
import Derived.Deep.RegionWith
namespace Go.Proofs.YtcplfpnaepdddaaDoor
open Go.RowKit
set_option linter.unusedVariables false

def SumPost (w : World) (bs : List Int) (e : Ending) (w' : World) : Prop :=
  ∃ g, w.heap.size ≤ g ∧ e = .returned (.slice (some ⟨g, 0, none⟩) 32 32) ∧ Row .u8 w' 5 g (sumL bs) ∧ Below w.heap.size w w'

set_option maxRecDepth 100000 in
set_option maxHeartbeats 2000000 in
theorem Sum_any (a : Option Addr) (n cap : Nat) (bs : List Int) (w : World) (hin : InBytes w a n cap bs) (hn : (n : Int) ≤ 1125899906842624) (hT : TabLies w) :
    Calls Tryd.prog 51 #[.slice a n cap] w (SumPost w bs) := by
  obtain ⟨m, r, hr, hnm⟩ : ∃ m r, r < 64 ∧ n = 64 * m + r := ⟨n / 64, n % 64, by omega, by omega⟩
  have hle := hin.le
  have hmax := hin.max
  simp only [maxLen] at hmax
  have hwh : (n : Int) - (n : Int) % 64 = 64 * (m : Int) := by omega
  have HIN := Lib.hid hin
  have HT := Lib.hid hT
  have HNM := Lib.hid hnm
  have k1 : (64 * (m : Int)).toNat = 64 * m := by omega
  have k2 : (0 : Int) ≤ 64 * (m : Int) := by omega
  have k3 : 64 * (m : Int) ≤ (cap : Int) := by omega
  have k4 : 64 * (m : Int) ≤ (n : Int) := by omega
  clear hin hT hnm
  go_enter Tryd.func51, Tryd.ntmps51
  go_upto_region 2 with fail
  have hstep : ∀ W, Below w.heap.size w W → Calls Tryd.prog 58 #[stV hTab, .slice a (64 * m) cap] W (StepsPost W hTab (bs.take (64 * m)) m) := fun W hW =>
    steps_any a (64 * m) cap m hTab _ W rfl hTab_bd ((HIN.out.below hW).upto (64 * m) (by have := HNM.out; omega)) rfl (HT.out.below hW (Nat.le_refl _)).kl
  have hfirst : ∀ W, Below w.heap.size w W → Calls Tryd.prog 59 #[] W (FirstPost W) := fun W hW => First_any W (HT.out.below hW (Nat.le_refl _))
  obtain ⟨y0, y1, y2, y3, y4, y5, y6, y7, hy⟩ := list_8 (stepsL hTab (bs.take (64 * m)) m) (stepsL_length rfl _ m)
  have hstep2 : ∀ W, Below w.heap.size w W → Calls Tryd.prog 58 #[stV hTab, .slice a (64 * m) cap] W (fun e w' => e = .returned (.agg #[.int .u32 y0, .int .u32 y1, .int .u32 y2, .int .u32 y3, .int .u32 y4, .int .u32 y5, .int .u32 y6, .int .u32 y7]) ∧ Below W.heap.size W w') := fun W hW => by
    have h := hstep W hW
    unfold StepsPost at h
    rw [hy] at h
    exact h
  have HSTEP := Lib.hid hstep2
  have HFIRST := Lib.hid hfirst
  have HY := Lib.hid hy
  clear hstep hstep2 hfirst hy
  go_cut [4] (fun s4 wx => ∃ g : Nat, s4 = .pointer (some ⟨g, 0, none⟩) ∧ w.heap.size ≤ g ∧ Row .u32 wx 40 g [y0, y1, y2, y3, y4, y5, y6, y7] ∧ Below w.heap.size w wx)
  case first =>
    go_region_with (first
      | (go_at_call 59
         (with_reducible refine (HFIRST.out _ ?_).mono ?_)
         · exact (Below.refl _ _).drew
         rintro _ w1 ⟨rfl, hb1⟩
         have HW1 : Hid (Below w.heap.size w w1) := Lib.hid ((Below.refl _ _).drew.trans (hb1.mono (Nat.le_refl _)))
         clear hb1)
      | (go_at_call 59
         (with_reducible refine (HFIRST.out _ ?_).mono ?_)
         · exact ((Below.refl _ _).alloc (Nat.le_refl _) _).drew
         rintro _ w1 ⟨rfl, hb1⟩
         have HW1 : Hid (Below w.heap.size w w1) := Lib.hid (((Below.refl _ _).alloc (Nat.le_refl _) _).drew.trans (hb1.mono (by simp)))
         have HZ1 : Hid (Row .u32 w1 40 w.heap.size [0, 0, 0, 0, 0, 0, 0, 0]) := Lib.hid ((Row.new w 40 [0, 0, 0, 0, 0, 0, 0, 0]).drew.below hb1 (by simp))
         clear hb1)
      | (go_at_call 59
         (with_reducible refine (HFIRST.out _ ?_).mono ?_)
         · exact ((Below.refl _ _).drew.alloc (Nat.le_refl _) _)
         rintro _ w1 ⟨rfl, hb1⟩
         have HW1 : Hid (Below w.heap.size w w1) := Lib.hid (((Below.refl _ _).drew.alloc (Nat.le_refl _) _).trans (hb1.mono (by simp)))
         have HZ1 : Hid (Row .u32 w1 40 w.heap.size [0, 0, 0, 0, 0, 0, 0, 0]) := Lib.hid ((Row.new w.drew 40 [0, 0, 0, 0, 0, 0, 0, 0]).below hb1 (by simp))
         clear hb1)
      | (go_at_call 58
         (with_reducible refine (HSTEP.out _ ?_).mono ?_)
         · exact HW1.out
         rintro _ w2 ⟨rfl, hb2⟩
         have HW2 : Hid (Below w.heap.size w w2) := Lib.hid (HW1.out.trans (hb2.mono HW1.out.size))
         have HZ2 : Hid (Row .u32 w2 40 w.heap.size [0, 0, 0, 0, 0, 0, 0, 0]) := Lib.hid (HZ1.out.below hb2 HZ1.out.lt)
         have q0 := HZ2.out.cell 0 (by simp)
         have q1 := HZ2.out.cell 1 (by simp)
         have q2 := HZ2.out.cell 2 (by simp)
         have q3 := HZ2.out.cell 3 (by simp)
         have q4 := HZ2.out.cell 4 (by simp)
         have q5 := HZ2.out.cell 5 (by simp)
         have q6 := HZ2.out.cell 6 (by simp)
         have q7 := HZ2.out.cell 7 (by simp)
         simp only [List.getElem_cons_zero, List.getElem_cons_succ] at q0 q1 q2 q3 q4 q5 q6 q7
         have qf := fun o => HZ2.out.frozen o
         clear hb2)
      | (go_at_call 58
         (with_reducible refine (HSTEP.out _ ?_).mono ?_)
         · exact HW1.out.alloc HW1.out.size _
         rintro _ w2 ⟨rfl, hb2⟩
         have HW2 : Hid (Below w.heap.size w w2) := Lib.hid ((HW1.out.alloc HW1.out.size _).trans (hb2.mono (by have := HW1.out.size; simp; omega)))
         have HZ2 : Hid (Row .u32 w2 40 w1.heap.size [0, 0, 0, 0, 0, 0, 0, 0]) := Lib.hid ((Row.new w1 40 [0, 0, 0, 0, 0, 0, 0, 0]).below hb2 (by simp))
         have q0 := HZ2.out.cell 0 (by simp)
         have q1 := HZ2.out.cell 1 (by simp)
         have q2 := HZ2.out.cell 2 (by simp)
         have q3 := HZ2.out.cell 3 (by simp)
         have q4 := HZ2.out.cell 4 (by simp)
         have q5 := HZ2.out.cell 5 (by simp)
         have q6 := HZ2.out.cell 6 (by simp)
         have q7 := HZ2.out.cell 7 (by simp)
         simp only [List.getElem_cons_zero, List.getElem_cons_succ] at q0 q1 q2 q3 q4 q5 q6 q7
         have qf := fun o => HZ2.out.frozen o
         clear hb2)
      | (go_at_call 58
         (with_reducible refine (HSTEP.out _ ?_).mono ?_)
         · exact HW1.out
         rintro _ w2 ⟨rfl, hb2⟩
         have HW2 : Hid (Below w.heap.size w w2) := Lib.hid (HW1.out.trans (hb2.mono HW1.out.size))
         clear hb2))
    · go_wp2_with fail
      go_meet
      exact ⟨w2.heap.size, rfl, HW2.out.size, Row.new w2 40 [y0, y1, y2, y3, y4, y5, y6, y7], HW2.out.alloc HW2.out.size _⟩
    · go_wp2_with fail
      go_meet
      exact ⟨w1.heap.size, rfl, HW1.out.size, ((((((((HZ2.out.set 0 y0).set 1 y1).set 2 y2).set 3 y3).set 4 y4).set 5 y5).set 6 y6).set 7 y7), ((((((((HW2.out.setCell HW1.out.size _).setCell HW1.out.size _).setCell HW1.out.size _).setCell HW1.out.size _).setCell HW1.out.size _).setCell HW1.out.size _).setCell HW1.out.size _).setCell HW1.out.size _)⟩
    · go_wp2_with fail
      go_meet
      exact ⟨w.heap.size, rfl, Nat.le_refl _, ((((((((HZ2.out.set 0 y0).set 1 y1).set 2 y2).set 3 y3).set 4 y4).set 5 y5).set 6 y6).set 7 y7), ((((((((HW2.out.setCell (Nat.le_refl _) _).setCell (Nat.le_refl _) _).setCell (Nat.le_refl _) _).setCell (Nat.le_refl _) _).setCell (Nat.le_refl _) _).setCell (Nat.le_refl _) _).setCell (Nat.le_refl _) _).setCell (Nat.le_refl _) _)⟩
  case rest =>
    obtain ⟨gv, rfl, hgv, hrv, hbv⟩ := hcut
    have HRV := Lib.hid hrv
    have HBV := Lib.hid hbv
    clear hrv hbv HSTEP HFIRST
    go_upto_region 3 with fail
    have hn2 := HNM.out
    obtain ⟨qn, hq1, hq2, hq3, hq4⟩ := whole_blocks n m r hr hn2
    obtain ⟨a2, hif⟩ : ∃ a2, (if cap = 64 * m then a else a.map (fun x => x.add (64 * m))) = a2 := ⟨_, rfl⟩
    have hwt : ∀ W, Below wc.heap.size wc W → Calls Tryd.prog 60 #[.slice a2 (n - 64 * m) (cap - 64 * m), .int .i64 n] W (WithTailPost W (bs.drop (64 * m)) n) := fun W hW => by
      rw [← hif]
      exact withTail_any _ (n - 64 * m) (cap - 64 * m) n (bs.drop (64 * m)) W ((HIN.out.below (HBV.out.trans (hW.mono HBV.out.size))).behind (64 * m) (by omega)) (by omega) hn
    have hrl : (bs.drop (64 * m)).length = r := by rw [List.length_drop, HIN.out.len]; omega
    obtain ⟨z0, z1, z2, z3, z4, z5, z6, z7, hz⟩ := list_8 (stepsL [y0, y1, y2, y3, y4, y5, y6, y7] (bs.drop (64 * m) ++ tailL n) qn) (stepsL_length rfl _ qn)
    have hyb : Words32 [y0, y1, y2, y3, y4, y5, y6, y7] := by
      rw [← HY.out]
      exact stepsL_bd hTab_bd _ _
    have hst : ∀ W g4 cap4, Below wc.heap.size wc W → W.ownsRow wc.heap.size 5 1 (.slice (some ⟨g4, 0, none⟩) (r + (nils n + 9)) cap4) (r + (nils n + 9)) ((bs.drop (64 * m) ++ tailL n).map (Value.int .u8)) →
        Calls Tryd.prog 58 #[.agg #[.int .u32 y0, .int .u32 y1, .int .u32 y2, .int .u32 y3, .int .u32 y4, .int .u32 y5, .int .u32 y6, .int .u32 y7], .slice (some ⟨g4, 0, none⟩) (r + (nils n + 9)) cap4] W
          (fun e w' => e = .returned (.agg #[.int .u32 z0, .int .u32 z1, .int .u32 z2, .int .u32 z3, .int .u32 z4, .int .u32 z5, .int .u32 z6, .int .u32 z7]) ∧ Below W.heap.size W w') := fun W g4 cap4 hW ho => by
      have hbW : Below w.heap.size w W := HBV.out.trans (hW.mono HBV.out.size)
      have h := steps_any (some ⟨g4, 0, none⟩) (r + (nils n + 9)) cap4 qn [y0, y1, y2, y3, y4, y5, y6, y7] (bs.drop (64 * m) ++ tailL n) W rfl hyb (InBytes.of_own ho (app_bytes (fun z h => HIN.out.bytes z (List.mem_of_mem_drop h)) (tailL_bytes n))) hq3 (HT.out.below hbW (Nat.le_refl _)).kl
      unfold StepsPost at h
      rw [hz] at h
      exact h
    have hfin : sumL bs = bytesL [z0, z1, z2, z3, z4, z5, z6, z7] := by
      rw [← hz, sumL_parts bs m qn r hr (by rw [HIN.out.len]; exact hn2) (by rw [HIN.out.len]; exact hq4), HIN.out.len, HY.out]
    have hzb : Words32 [z0, z1, z2, z3, z4, z5, z6, z7] := by
      rw [← hz]
      exact stepsL_bd hyb _ _
    have HWT := Lib.hid hwt
    have HST := Lib.hid hst
    have HFIN := Lib.hid hfin
    have HZB := Lib.hid hzb
    have HRL := Lib.hid hrl
    have p0 := HRV.out.cell 0 (by simp)
    have p1 := HRV.out.cell 1 (by simp)
    have p2 := HRV.out.cell 2 (by simp)
    have p3 := HRV.out.cell 3 (by simp)
    have p4 := HRV.out.cell 4 (by simp)
    have p5 := HRV.out.cell 5 (by simp)
    have p6 := HRV.out.cell 6 (by simp)
    have p7 := HRV.out.cell 7 (by simp)
    simp only [List.getElem_cons_zero, List.getElem_cons_succ] at p0 p1 p2 p3 p4 p5 p6 p7
    have k5 : 64 * m ≤ n := by omega
    clear hwt hst hfin hzb hyb hrl hz hn2 hq1 hq2 hq3 hq4
    go_cut [4] (fun s4 wx => s4 = .pointer (some ⟨gv, 0, none⟩) ∧ Row .u32 wx 40 gv [z0, z1, z2, z3, z4, z5, z6, z7] ∧ Below w.heap.size w wx)
    case first =>
      go_region_with (first
        | (go_at_call 60
           (with_reducible refine (HWT.out _ ?_).mono ?_)
           · exact (Below.refl _ _).drew
           rintro _ w3 ⟨g4, cap4, rfl, ho4, hb3⟩
           rw [HRL.out] at ho4
           rw [HRL.out]
           have HO4 := Lib.hid ho4
           have HRX : Hid (Row .u32 w3 40 gv [y0, y1, y2, y3, y4, y5, y6, y7]) := Lib.hid (HRV.out.drew.below hb3 HRV.out.lt)
           have HW3 : Hid (Below wc.heap.size wc w3) := Lib.hid ((Below.refl _ _).drew.trans (hb3.mono (Nat.le_refl _)))
           have q0 := HRX.out.cell 0 (by simp); have q1 := HRX.out.cell 1 (by simp); have q2 := HRX.out.cell 2 (by simp); have q3 := HRX.out.cell 3 (by simp); have q4 := HRX.out.cell 4 (by simp); have q5 := HRX.out.cell 5 (by simp); have q6 := HRX.out.cell 6 (by simp); have q7 := HRX.out.cell 7 (by simp)
           simp only [List.getElem_cons_zero, List.getElem_cons_succ] at q0 q1 q2 q3 q4 q5 q6 q7
           clear ho4 hb3)
        | (go_at_call 58
           (with_reducible refine (HST.out _ _ _ ?_ ?_).mono ?_)
           · exact HW3.out
           · exact HO4.out
           rintro _ w4 ⟨rfl, hb4⟩
           have HR4 : Hid (Row .u32 w4 40 gv [y0, y1, y2, y3, y4, y5, y6, y7]) := Lib.hid (HRX.out.below hb4 HRX.out.lt)
           have HW4 : Hid (Below w.heap.size w w4) := Lib.hid ((HBV.out.trans (HW3.out.mono HBV.out.size)).trans (hb4.mono (Nat.le_trans HBV.out.size HW3.out.size)))
           have t0 := HR4.out.cell 0 (by simp)
           have t1 := HR4.out.cell 1 (by simp)
           have t2 := HR4.out.cell 2 (by simp)
           have t3 := HR4.out.cell 3 (by simp)
           have t4 := HR4.out.cell 4 (by simp)
           have t5 := HR4.out.cell 5 (by simp)
           have t6 := HR4.out.cell 6 (by simp)
           have t7 := HR4.out.cell 7 (by simp)
           have tf := fun o => HR4.out.frozen o
           clear hb4))
      all_goals
        go_wp2_with fail
        go_meet
        exact ⟨rfl, ((((((((HR4.out.set 0 z0).set 1 z1).set 2 z2).set 3 z3).set 4 z4).set 5 z5).set 6 z6).set 7 z7), ((((((((HW4.out.setCell hgv _).setCell hgv _).setCell hgv _).setCell hgv _).setCell hgv _).setCell hgv _).setCell hgv _).setCell hgv _)⟩
    case rest =>
      obtain ⟨rfl, hrz, hbz⟩ := hcut
      have HRZ := Lib.hid hrz
      have HBZ := Lib.hid hbz
      clear hrz hbz HWT HST p0 p1 p2 p3 p4 p5 p6 p7 hif
      have hsb : ∀ W, Calls Tryd.prog 61 #[.agg #[.int .u32 z0, .int .u32 z1, .int .u32 z2, .int .u32 z3, .int .u32 z4, .int .u32 z5, .int .u32 z6, .int .u32 z7]] W (StateBytesPost W [z0, z1, z2, z3, z4, z5, z6, z7]) := fun W => stateBytes_any [z0, z1, z2, z3, z4, z5, z6, z7] W rfl HZB.out
      have HSBY := Lib.hid hsb
      clear hsb
      go_wp2_with (first
        | (refine wpList_load_ints rfl 40 (.tmp 4) rfl gv rfl 40 .u32 [z0, z1, z2, z3, z4, z5, z6, z7] HRZ.out 8 39 Tryd.underlying40 sizeA8 ?_)
        | (go_at_call 61
           refine (HSBY.out _).mono ?_
           rintro _ w6 ⟨rfl, hr6, hb6⟩
           have HR6 := Lib.hid hr6
           have HB6 := Lib.hid hb6
           clear hr6 hb6))
      go_ret
      refine ⟨_, ?_, rfl, ?_, HBZ.out.trans (HB6.out.mono HBZ.out.size)⟩
      · have := HBZ.out.size
        omega
      · rw [HFIN.out]
        exact HR6.out
end Go.Proofs.YtcplfpnaepdddaaDoor
