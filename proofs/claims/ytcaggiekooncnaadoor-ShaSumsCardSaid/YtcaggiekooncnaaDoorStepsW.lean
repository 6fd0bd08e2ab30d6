/- The walk of the law ShaSteps. -/
import Derived.Test.YtcaggiekooncnaaDoorRefStep
import Derived.Test.YtcaggiekooncnaaDoorStepC
import Derived.Test.YtcaggiekooncnaaDoorShaC
import Derived.Test.YtcaggiekooncnaaDoorOpen2
import Derived.Lib.IfaceEq
import Derived.Deep.RegionWith
import Derived.Deep.DeepCutAuto
namespace Go.Proofs.YtcaggiekooncnaaDoor
open Go.RowKit
set_option linter.unusedVariables false

theorem compCodeS : (Tryd.prog.info? 34).map (·.comparable) = some true := by kernel_rfl
theorem eql_codeS (a b : Int) (w : World) : (binOp .eql 30 (.iface 34 (.int .i64 a)) (.iface 34 (.int .i64 b))).run Tryd.prog w = .ok (.bool (a == b)) w :=
  Lib.run_eql_iface_int w a b Tryd.underlying30 compCodeS Tryd.underlying34
theorem run_neq_agg8 (a b c d e f g h : Int) (w : World) : (binOp .neq 23 (agg8 a b c d e f g h) (agg8 a b c d e f g h)).run Tryd.prog w = .ok (.bool false) w := by
  have h1 := run_equal8 a b c d e f g h 9998 w
  unfold agg8 at h1 ⊢
  rw [run_neq_struct, h1]
  simp
theorem tabZero (w : World) : TB (w.alloc (.cells #[.slice none 0 0, .int .u32 0, .int .u32 0, .int .u32 0, .int .u32 0, .int .u32 0, .int .u32 0, .int .u32 0, .int .u32 0] 27)) w.heap.size (.slice none 0 0) [0, 0, 0, 0, 0, 0, 0, 0] := heap_alloc_new w _
theorem tb_cells {w : World} {g : Nat} {v : Value} (h : TB w g v hTab) : w.cell? ⟨g, 1, none⟩ = some (.int .u32 1779033703) ∧ w.cell? ⟨g, 2, none⟩ = some (.int .u32 3144134277) ∧ w.cell? ⟨g, 3, none⟩ = some (.int .u32 1013904242) ∧ w.cell? ⟨g, 4, none⟩ = some (.int .u32 2773480762) ∧ w.cell? ⟨g, 5, none⟩ = some (.int .u32 1359893119) ∧ w.cell? ⟨g, 6, none⟩ = some (.int .u32 2600822924) ∧ w.cell? ⟨g, 7, none⟩ = some (.int .u32 528734635) ∧ w.cell? ⟨g, 8, none⟩ = some (.int .u32 1541459225) :=
  ⟨h.cellH 0 (by decide), h.cellH 1 (by decide), h.cellH 2 (by decide), h.cellH 3 (by decide), h.cellH 4 (by decide), h.cellH 5 (by decide), h.cellH 6 (by decide), h.cellH 7 (by decide)⟩
theorem first_eq (w : World) : (binOp .neq 23 (.agg #[.int .u32 1779033703, .int .u32 3144134277, .int .u32 1013904242, .int .u32 2773480762, .int .u32 1359893119, .int .u32 2600822924, .int .u32 528734635, .int .u32 1541459225]) (.agg #[.int .u32 1779033703, .int .u32 3144134277, .int .u32 1013904242, .int .u32 2773480762, .int .u32 1359893119, .int .u32 2600822924, .int .u32 528734635, .int .u32 1541459225])).run Tryd.prog w = .ok (.bool false) w := run_neq_agg8 1779033703 3144134277 1013904242 2773480762 1359893119 2600822924 528734635 1541459225 w

set_option maxRecDepth 100000 in
set_option maxHeartbeats 4000000 in
theorem steps_law (a : Option Addr) (n cap : Nat) (s bs : List Int) (w : World) (hs : s.length = 8) (hsb : Words32 s) (hin : InBytes w a n cap bs) (hT : TabLies w) :
    Calls Tryd.prog 3 #[stV s, .slice a n cap] w fun e w' => e = .returned (.bool true) ∧ Below w.heap.size w w' := by
  have hfe := first_eq
  have HIN := Lib.hid hin
  have HT := Lib.hid hT
  have HSB := Lib.hid hsb
  have HS := Lib.hid hs
  clear hin hT
  obtain ⟨x0, x1, x2, x3, x4, x5, x6, x7, rfl⟩ := list_8 s hs
  clear hs hsb
  have hst : ∃ (y0 y1 y2 y3 y4 y5 y6 y7 : Int) (ev : Value), (∀ W, Below w.heap.size w W → Calls Tryd.prog 8 #[.agg #[.int .u32 x0, .int .u32 x1, .int .u32 x2, .int .u32 x3, .int .u32 x4, .int .u32 x5, .int .u32 x6, .int .u32 x7], .slice a n cap] W (fun e w' => e = .returned (.tuple #[.agg #[.int .u32 y0, .int .u32 y1, .int .u32 y2, .int .u32 y3, .int .u32 y4, .int .u32 y5, .int .u32 y6, .int .u32 y7], ev]) ∧ Below W.heap.size W w')) ∧
      ((n = 64 ∧ ev = .nilIface ∧ stepL [x0, x1, x2, x3, x4, x5, x6, x7] bs = [y0, y1, y2, y3, y4, y5, y6, y7]) ∨ (n ≠ 64 ∧ ev = .iface 34 (.int .i64 1) ∧ [y0, y1, y2, y3, y4, y5, y6, y7] = [0, 0, 0, 0, 0, 0, 0, 0])) := by
    by_cases h64 : n = 64
    · subst h64
      obtain ⟨g, off, rfl, hg, hseg⟩ := HIN.out.place (by omega)
      obtain ⟨y0, y1, y2, y3, y4, y5, y6, y7, hy⟩ := list_8 (stepL [x0, x1, x2, x3, x4, x5, x6, x7] bs) (stepL_length rfl bs)
      refine ⟨y0, y1, y2, y3, y4, y5, y6, y7, .nilIface, fun W hW => ?_, .inl ⟨rfl, rfl, hy⟩⟩
      have h := Step_yes g off cap [x0, x1, x2, x3, x4, x5, x6, x7] bs W rfl HSB.out HIN.out.len HIN.out.bytes (hseg.below hW hg) HIN.out.le (Nat.lt_of_lt_of_le hg hW.size) (HT.out.below hW (Nat.le_refl _)).kl
      unfold StepTuple at h
      rw [hy] at h
      exact h
    · exact ⟨0, 0, 0, 0, 0, 0, 0, 0, _, fun W hW => Step_no a n cap [x0, x1, x2, x3, x4, x5, x6, x7] W rfl h64, .inr ⟨h64, rfl, rfl⟩⟩
  obtain ⟨y0, y1, y2, y3, y4, y5, y6, y7, ev, hstep, hcase⟩ := hst
  have HSTEP := Lib.hid hstep
  have HCASE := Lib.hid hcase
  clear hstep hcase
  have r0 : Row .u32 (w.alloc (.cells (([x0, x1, x2, x3, x4, x5, x6, x7] : List Int).map (Value.int .u32)).toArray 23)) 23 w.heap.size [x0, x1, x2, x3, x4, x5, x6, x7] := Row.new w 23 [x0, x1, x2, x3, x4, x5, x6, x7]
  have R0 := Lib.hid r0
  clear r0
  unfold stV
  simp only [List.map_cons, List.map_nil]
  go_enter Tryd.func3, Tryd.ntmps3
  go_wp2_with fail
  refine (made_any _).mono ?_
  rintro _ w1 ⟨gk, ck, rfl, ho1, hb1⟩
  have HO1 := Lib.hid ho1
  have HR1 : Hid (Row .u32 w1 23 w.heap.size [x0, x1, x2, x3, x4, x5, x6, x7]) := Lib.hid (R0.out.below hb1 (by simp))
  have HB1 : Hid (Below w.heap.size w w1) := Lib.hid (((Below.refl _ _).alloc (Nat.le_refl _) _).trans (hb1.mono (by simp)))
  have hgk := (ho1.lt gk rfl).2
  clear ho1 hb1
  go_wp2_with (first
    | (refine wpList_store_row rfl 27 (.tmp 5) (.tmp 8) rfl w1.heap.size (Value.slice (some ⟨gk, 0, none⟩) 64 ck :: hTab.map (Value.int .u32)).toArray rfl rfl 27 _ (tabZero w1) sizeTab rfl (by simp [Value.oneCell']) ?_
       obtain ⟨w2, hw2⟩ : ∃ w2, w2 = (w1.alloc (.cells #[.slice none 0 0, .int .u32 0, .int .u32 0, .int .u32 0, .int .u32 0, .int .u32 0, .int .u32 0, .int .u32 0, .int .u32 0] 27)).setRow w1.heap.size (Value.slice (some ⟨gk, 0, none⟩) 64 ck :: hTab.map (Value.int .u32)).toArray := ⟨_, rfl⟩
       rw [← hw2]
       have hg2 : (w1.alloc (.cells #[.slice none 0 0, .int .u32 0, .int .u32 0, .int .u32 0, .int .u32 0, .int .u32 0, .int .u32 0, .int .u32 0, .int .u32 0] 27)).grownBy w2 (some w1.heap.size) := by rw [hw2]; exact ⟨rfl, rfl, rfl, by simp, fun q hq hne => setRow_other _ w1.heap.size q _ (fun e => hne (by rw [e]))⟩
       have HT2 : Hid (TB w2 w1.heap.size (.slice (some ⟨gk, 0, none⟩) 64 ck) hTab) := Lib.hid (by rw [hw2]; exact setRow_heap _ w1.heap.size _ _ _ _ (tabZero w1))
       have HR2 : Hid (Row .u32 w2 23 w.heap.size [x0, x1, x2, x3, x4, x5, x6, x7]) := Lib.hid ((HR1.out.alloc _).grown hg2 (by have := HR1.out.lt; simp; omega))
       have HO2 : Hid (Seg .u32 w2 gk 0 kTab) := Lib.hid (own_seg ((HO1.out.alloc _).kept hg2 (.inr (by simp [Value.ownBlock]; omega))))
       have HB2 : Hid (Below w.heap.size w w2) := Lib.hid (below_only (HB1.out.alloc HB1.out.size _) hg2 (by have := HB1.out.size; simp; omega) HB1.out.size)
       have hsz2 : w1.heap.size < w2.heap.size := HT2.out.lt
       clear hw2 hg2)
    | (refine wpList_load_ints rfl 23 (.tmp 2) rfl w.heap.size rfl 23 .u32 [x0, x1, x2, x3, x4, x5, x6, x7] HR2.out 8 22 Tryd.underlying23 sizeA8 ?_)
    | (go_at_call 8
       refine (HSTEP.out _ HB2.out).mono ?_
       rintro _ w3 ⟨rfl, hb3⟩
       have HT3 : Hid (TB w3 w1.heap.size (.slice (some ⟨gk, 0, none⟩) 64 ck) hTab) := Lib.hid (HT2.out.below hb3 HT2.out.lt)
       have HR3 : Hid (Row .u32 w3 23 w.heap.size [x0, x1, x2, x3, x4, x5, x6, x7]) := Lib.hid (HR2.out.below hb3 HR2.out.lt)
       have HO3 : Hid (Seg .u32 w3 gk 0 kTab) := Lib.hid (HO2.out.below hb3 (Nat.lt_trans hgk hsz2))
       have HB3 : Hid (Below w.heap.size w w3) := Lib.hid (HB2.out.trans (hb3.mono HB2.out.size))
       have hsz3 : w1.heap.size < w3.heap.size := HT3.out.lt
       clear hb3)
    | (refine wpList_store_ints rfl 23 (.tmp 6) (.tmp 13) rfl w3.heap.size .u32 [y0, y1, y2, y3, y4, y5, y6, y7] rfl rfl 23 [0, 0, 0, 0, 0, 0, 0, 0] (Row.new w3 23 [0, 0, 0, 0, 0, 0, 0, 0]) sizeA8 rfl ?_
       intro w4 hr4 hg4 hs4
       have HY4 := Lib.hid hr4
       have HT4 : Hid (TB w4 w1.heap.size (.slice (some ⟨gk, 0, none⟩) 64 ck) hTab) := Lib.hid ((HT3.out.alloc _).grown hg4 (by simp; omega))
       have HR4 : Hid (Row .u32 w4 23 w.heap.size [x0, x1, x2, x3, x4, x5, x6, x7]) := Lib.hid ((HR3.out.alloc _).grown hg4 (by have := HR3.out.lt; simp; omega))
       have HO4 : Hid (Seg .u32 w4 gk 0 kTab) := Lib.hid (HO3.out.keep fun o => (World.cell?_of_block (hg4.block gk (by simp; omega) (by simp; omega))).trans (World.cell?_alloc_lt w3 _ ⟨gk, o, none⟩ (by simp; omega)))
       have HB4 : Hid (Below w.heap.size w w4) := Lib.hid (below_only (HB3.out.alloc HB3.out.size _) hg4 (by have := HB3.out.size; simp; omega) HB3.out.size)
       clear hr4 hg4 hs4))
  have hfi : ∀ W, Below w.heap.size w W → Calls Tryd.prog 9 #[] W (fun e w' => e = .returned (.agg #[.int .u32 1779033703, .int .u32 3144134277, .int .u32 1013904242, .int .u32 2773480762, .int .u32 1359893119, .int .u32 2600822924, .int .u32 528734635, .int .u32 1541459225]) ∧ Below W.heap.size W w') := fun W hW => First_any W (HT.out.below hW (Nat.le_refl _))
  have HFI := Lib.hid hfi
  clear hfi
  have p0 : w4.cell? ⟨w1.heap.size, 1, none⟩ = some (.int .u32 1779033703) := HT4.out.cellH 0 (by decide)
  have p1 : w4.cell? ⟨w1.heap.size, 2, none⟩ = some (.int .u32 3144134277) := HT4.out.cellH 1 (by decide)
  have p2 : w4.cell? ⟨w1.heap.size, 3, none⟩ = some (.int .u32 1013904242) := HT4.out.cellH 2 (by decide)
  have p3 : w4.cell? ⟨w1.heap.size, 4, none⟩ = some (.int .u32 2773480762) := HT4.out.cellH 3 (by decide)
  have p4 : w4.cell? ⟨w1.heap.size, 5, none⟩ = some (.int .u32 1359893119) := HT4.out.cellH 4 (by decide)
  have p5 : w4.cell? ⟨w1.heap.size, 6, none⟩ = some (.int .u32 2600822924) := HT4.out.cellH 5 (by decide)
  have p6 : w4.cell? ⟨w1.heap.size, 7, none⟩ = some (.int .u32 528734635) := HT4.out.cellH 6 (by decide)
  have p7 : w4.cell? ⟨w1.heap.size, 8, none⟩ = some (.int .u32 1541459225) := HT4.out.cellH 7 (by decide)
  go_upto_region 3 with fail
  go_cut [18] (fun s18 wx => s18 = .bool false ∧ TB wx w1.heap.size (.slice (some ⟨gk, 0, none⟩) 64 ck) hTab ∧ Row .u32 wx 23 w.heap.size [x0, x1, x2, x3, x4, x5, x6, x7] ∧ Row .u32 wx 23 w3.heap.size [y0, y1, y2, y3, y4, y5, y6, y7] ∧ Seg .u32 wx gk 0 kTab ∧ Below w.heap.size w wx)
  case first =>
    go_region_with (first
      | (go_at_call 9
         (with_reducible refine (HFI.out _ ?_).mono ?_)
         · exact HB4.out.drew
         rintro _ w5 ⟨rfl, hb5⟩
         have HB5 := Lib.hid hb5
         have HT5 : Hid (TB w5 w1.heap.size (.slice (some ⟨gk, 0, none⟩) 64 ck) hTab) := Lib.hid (TB.below (w := w4.drew) HT4.out hb5 HT4.out.lt)
         have q0 : w5.cell? ⟨w1.heap.size, 1, none⟩ = some (.int .u32 1779033703) := HT5.out.cellH 0 (by decide)
         have q1 : w5.cell? ⟨w1.heap.size, 2, none⟩ = some (.int .u32 3144134277) := HT5.out.cellH 1 (by decide)
         have q2 : w5.cell? ⟨w1.heap.size, 3, none⟩ = some (.int .u32 1013904242) := HT5.out.cellH 2 (by decide)
         have q3 : w5.cell? ⟨w1.heap.size, 4, none⟩ = some (.int .u32 2773480762) := HT5.out.cellH 3 (by decide)
         have q4 : w5.cell? ⟨w1.heap.size, 5, none⟩ = some (.int .u32 1359893119) := HT5.out.cellH 4 (by decide)
         have q5 : w5.cell? ⟨w1.heap.size, 6, none⟩ = some (.int .u32 2600822924) := HT5.out.cellH 5 (by decide)
         have q6 : w5.cell? ⟨w1.heap.size, 7, none⟩ = some (.int .u32 528734635) := HT5.out.cellH 6 (by decide)
         have q7 : w5.cell? ⟨w1.heap.size, 8, none⟩ = some (.int .u32 1541459225) := HT5.out.cellH 7 (by decide)
         clear hb5))
    all_goals
      go_wp2_with fail
      go_meet
      exact ⟨rfl, HT5.out, HR4.out.drew.below HB5.out HR4.out.lt, HY4.out.drew.below HB5.out HY4.out.lt, HO4.out.drew.below HB5.out (by have := HY4.out.lt; simp; omega), HB4.out.drew.trans (HB5.out.mono HB4.out.size)⟩
  case rest =>
    clear HT4 HR4 HO4 HY4 HB4 p0 p1 p2 p3 p4 p5 p6 p7
    obtain ⟨rfl, ht5, hr5, hy5, ho5, hb5⟩ := hcut
    rcases HCASE.out with ⟨rfl, rfl, hst⟩ | ⟨hne, rfl, hz⟩
    · obtain ⟨g, off, rfl, hg, hseg⟩ := HIN.out.place (by omega)
      have hq := run_eql_agg8 y0 y1 y2 y3 y4 y5 y6 y7
      unfold agg8 at hq
      have hgk5 : gk < w3.heap.size := by omega
      have hlt5 := hy5.lt
      have hc : ∀ W, Below w.heap.size w W → Seg .u32 W gk 0 kTab → gk < W.heap.size → Calls Tryd.prog 10 #[.agg #[.slice (some ⟨gk, 0, none⟩) 64 ck, .int .u32 1779033703, .int .u32 3144134277, .int .u32 1013904242, .int .u32 2773480762, .int .u32 1359893119, .int .u32 2600822924, .int .u32 528734635, .int .u32 1541459225], .agg #[.int .u32 x0, .int .u32 x1, .int .u32 x2, .int .u32 x3, .int .u32 x4, .int .u32 x5, .int .u32 x6, .int .u32 x7], .slice (some ⟨g, off, none⟩) 64 cap] W (fun e w' => e = .returned (.agg #[.int .u32 y0, .int .u32 y1, .int .u32 y2, .int .u32 y3, .int .u32 y4, .int .u32 y5, .int .u32 y6, .int .u32 y7]) ∧ Below W.heap.size W w') := fun W hW hks hgk => by
        have h := refStep_any g off cap gk ck [x0, x1, x2, x3, x4, x5, x6, x7] bs W rfl HSB.out HIN.out.len HIN.out.bytes (hseg.below hW hg) (Nat.lt_of_lt_of_le hg hW.size) hks hgk
        unfold StepPost at h
        rw [hst] at h
        exact h
      have HC := Lib.hid hc
      have c0 := hy5.cell 0 (by simp)
      have c1 := hy5.cell 1 (by simp)
      have c2 := hy5.cell 2 (by simp)
      have c3 := hy5.cell 3 (by simp)
      have c4 := hy5.cell 4 (by simp)
      have c5 := hy5.cell 5 (by simp)
      have c6 := hy5.cell 6 (by simp)
      have c7 := hy5.cell 7 (by simp)
      have d0 := hr5.cell 0 (by simp)
      have d1 := hr5.cell 1 (by simp)
      have d2 := hr5.cell 2 (by simp)
      have d3 := hr5.cell 3 (by simp)
      have d4 := hr5.cell 4 (by simp)
      have d5 := hr5.cell 5 (by simp)
      have d6 := hr5.cell 6 (by simp)
      have d7 := hr5.cell 7 (by simp)
      simp only [List.getElem_cons_zero, List.getElem_cons_succ] at c0 c1 c2 c3 c4 c5 c6 c7 d0 d1 d2 d3 d4 d5 d6 d7
      have t0 := ht5.cell0
      obtain ⟨t1, t2, t3, t4, t5, t6, t7, t8⟩ := tb_cells ht5
      have HY5 := Lib.hid hy5
      have HO5 := Lib.hid ho5
      have HB5 := Lib.hid hb5
      have hgk6 := Nat.lt_trans hgk5 hlt5
      clear ht5 hr5 hy5 ho5 hb5 hc hst hseg
      go_wp2_with fail
      go_region_with (first
        | (go_at_call 10
           (with_reducible refine (HC.out _ ?_ ?_ ?_).mono ?_)
           · exact HB5.out.drew
           · exact HO5.out.drew
           · exact hgk6
           rintro _ w7 ⟨rfl, hb7⟩
           have HB7 := Lib.hid hb7
           have HY7 := Lib.hid (HY5.out.drew.below hb7 HY5.out.lt)
           have q0 := HY7.out.cell 0 (by simp)
           have q1 := HY7.out.cell 1 (by simp)
           have q2 := HY7.out.cell 2 (by simp)
           have q3 := HY7.out.cell 3 (by simp)
           have q4 := HY7.out.cell 4 (by simp)
           have q5 := HY7.out.cell 5 (by simp)
           have q6 := HY7.out.cell 6 (by simp)
           have q7 := HY7.out.cell 7 (by simp)
           clear hb7))
      all_goals
        go_wp2_with fail
        go_ret
        exact ⟨rfl, HB5.out.drew.trans (HB7.out.mono HB5.out.size)⟩
    · have hne2 : ¬ (n : Int) = 64 := by omega
      injection hz with e0 hz
      injection hz with e1 hz
      injection hz with e2 hz
      injection hz with e3 hz
      injection hz with e4 hz
      injection hz with e5 hz
      injection hz with e6 hz
      injection hz with e7 hz
      subst e0 e1 e2 e3 e4 e5 e6 e7
      clear hz
      have hq := run_eql_agg8 0 0 0 0 0 0 0 0
      have hce := eql_codeS 1 1
      unfold agg8 at hq
      have c0 := hy5.cell 0 (by simp)
      have c1 := hy5.cell 1 (by simp)
      have c2 := hy5.cell 2 (by simp)
      have c3 := hy5.cell 3 (by simp)
      have c4 := hy5.cell 4 (by simp)
      have c5 := hy5.cell 5 (by simp)
      have c6 := hy5.cell 6 (by simp)
      have c7 := hy5.cell 7 (by simp)
      simp only [List.getElem_cons_zero, List.getElem_cons_succ] at c0 c1 c2 c3 c4 c5 c6 c7
      have HB5 := Lib.hid hb5
      clear ht5 hr5 hy5 ho5 hb5
      go_wp2_with fail
      go_ret
      exact ⟨rfl, HB5.out⟩
end Go.Proofs.YtcaggiekooncnaaDoor
