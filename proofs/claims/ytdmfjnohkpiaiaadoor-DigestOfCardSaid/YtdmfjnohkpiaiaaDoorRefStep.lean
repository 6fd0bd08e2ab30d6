/- The contract of the document's step of a block. -/
import Derived.Test.YtdmfjnohkpiaiaaDoorMadeD
import Derived.Test.YtdmfjnohkpiaiaaDoorStepB
import Derived.Test.YtdmfjnohkpiaiaaDoorLib
import Derived.Test.YtdmfjnohkpiaiaaDoorShaB
import Derived.Test.YtdmfjnohkpiaiaaDoorWordD
import Derived.Deep.RegionWith
namespace Go.Proofs.YtdmfjnohkpiaiaaDoor
open Go.RowKit
set_option linter.unusedVariables false

theorem refRound_list (s : List Int) (k v : Int) (w : World) (hs : s.length = 8) (hsb : Words32 s) (hk : 0 ≤ k) (hk2 : k ≤ 4294967295) (hv : 0 ≤ v) (hv2 : v ≤ 4294967295) :
    Calls Tryd.prog 32 #[stV s, .int .u32 k, .int .u32 v] w fun e w' => e = .returned (stV (rnd s k v)) ∧ Below w.heap.size w w' := by
  obtain ⟨a, b, c, d, e, f, g, z, rfl⟩ := list_8 s hs
  have ba := hsb a (by simp)
  have bd := hsb d (by simp)
  have be := hsb e (by simp)
  have bz := hsb z (by simp)
  exact refRound_any a b c d e f g z k v w ba.1 ba.2 bd.1 bd.2 be.1 be.2 bz.1 bz.2 hk hk2 hv hv2
theorem tab_row (w : World) (gk ck : Nat) (o1 o2 : Obj) : TB (((w.alloc (.cells (Value.slice (some ⟨gk, 0, none⟩) 64 ck :: hTab.map (Value.int .u32)).toArray 34)).alloc o1).alloc o2) w.heap.size (.slice (some ⟨gk, 0, none⟩) 64 ck) hTab := by
  have h : TB (w.alloc (.cells (Value.slice (some ⟨gk, 0, none⟩) 64 ck :: hTab.map (Value.int .u32)).toArray 34)) w.heap.size (.slice (some ⟨gk, 0, none⟩) 64 ck) hTab := heap_alloc_new w _
  exact (h.alloc _).alloc _


set_option maxRecDepth 100000 in
set_option maxHeartbeats 4000000 in
theorem refStep_any (g off cap gk ck : Nat) (s bs : List Int) (w : World) (hs : s.length = 8) (hsb : Words32 s) (hl : bs.length = 64) (hb8 : Bytes8 bs) (hseg : Seg .u8 w g off bs) (hg : g < w.heap.size) (hks : Seg .u32 w gk 0 kTab) (hgk : gk < w.heap.size) :
    Calls Tryd.prog 25 #[tabV gk ck, stV s, .slice (some ⟨g, off, none⟩) 64 cap] w (StepPost w s bs) := by
  have hlen := sched_length bs
  have hwb := sched_bd hb8
  have hi8 : (Tryd.prog.info? 32).map (·.size) = some s.length := by rw [hs]; exact sizeA8
  have b3 : ∀ o1 o2 o3, Below w.heap.size w (((w.alloc o1).alloc o2).alloc o3) := fun o1 o2 o3 => (((Below.refl _ _).alloc (Nat.le_refl _) _).alloc (by simp) _).alloc (by simp; omega) _
  have r1 : ∀ o1 o3, Row .u32 (((w.alloc o1).alloc (.cells (s.map (Value.int .u32)).toArray 32)).alloc o3) 32 (w.heap.size + 1) s := fun o1 o3 => by
    have h := (Row.new (k := .u32) (w.alloc o1) 32 s).alloc o3
    have e : (w.alloc o1).heap.size = w.heap.size + 1 := by simp
    rw [e] at h
    exact h
  have r2 : ∀ o1 o2, Row .u32 (((w.alloc o1).alloc o2).alloc (.cells (([0, 0, 0, 0, 0, 0, 0, 0] : List Int).map (Value.int .u32)).toArray 32)) 32 (w.heap.size + 2) [0, 0, 0, 0, 0, 0, 0, 0] := fun o1 o2 => by
    have h := Row.new (k := .u32) ((w.alloc o1).alloc o2) 32 [0, 0, 0, 0, 0, 0, 0, 0]
    have e : ((w.alloc o1).alloc o2).heap.size = w.heap.size + 2 := by simp
    rw [e] at h
    exact h
  have HI8 := Lib.hid hi8
  have HL := Lib.hid hlen
  have HWB := Lib.hid hwb
  have HS := Lib.hid hs
  have HSB := Lib.hid hsb
  have HKS := Lib.hid hks
  have HBS := Lib.hid (And.intro hl (And.intro hb8 hseg))
  have B3 := Lib.hid b3
  have R1 := Lib.hid r1
  have R2 := Lib.hid r2
  have TR := Lib.hid (tab_row w gk ck)
  clear hlen hwb hi8 hs hsb hks hl hb8 hseg b3 r1 r2
  unfold stV tabV
  go_enter Tryd.func25, Tryd.ntmps25
  go_wp2_with fail
  refine (refWords_any g off cap bs _ HBS.out.1 HBS.out.2.1 (HBS.out.2.2.below (B3.out _ _ _) hg) (by simp; omega)).mono ?_
  rintro e w1 ⟨gw, cw, rfl, ho1, hb1⟩
  have hgw := ho1.lt gw rfl
  have HO1 := Lib.hid ho1
  have HT1 : Hid (TB w1 w.heap.size (.slice (some ⟨gk, 0, none⟩) 64 ck) hTab) := Lib.hid ((TR.out _ _).below hb1 (by first | (simp; done) | (simp; omega)))
  have HV1 : Hid (Row .u32 w1 32 (w.heap.size + 1) s) := Lib.hid ((R1.out _ _).below hb1 (by first | (simp; done) | (simp; omega)))
  have HZ1 : Hid (Row .u32 w1 32 (w.heap.size + 2) [0, 0, 0, 0, 0, 0, 0, 0]) := Lib.hid ((R2.out _ _).below hb1 (by simp))
  have HB1 : Hid (Below w.heap.size w w1) := Lib.hid ((B3.out _ _ _).trans (hb1.mono (by simp; omega)))
  have hgw2 : w.heap.size + 3 ≤ gw := by have := hgw.1; simp at this; omega
  have hgw3 : gw < w1.heap.size := hgw.2
  clear ho1 hb1 hgw
  go_wp2_with (first
    | (refine wpList_load_ints rfl 32 (.tmp 4) rfl (w.heap.size + 1) rfl 32 .u32 s HV1.out 8 31 Tryd.underlying32 HI8.out ?_)
    | (refine wpList_store_ints rfl 32 (.tmp 8) (.tmp 13) rfl w1.heap.size .u32 s rfl rfl 32 [0, 0, 0, 0, 0, 0, 0, 0] (Row.new w1 32 [0, 0, 0, 0, 0, 0, 0, 0]) HI8.out (by rw [HS.out]; rfl) ?_
       intro w2 hr2 hg2 hs2
       have HX2 := Lib.hid hr2
       have HO2 := Lib.hid ((HO1.out.alloc (.cells (([0, 0, 0, 0, 0, 0, 0, 0] : List Int).map (Value.int .u32)).toArray 32)).kept hg2 (.inr (by simp [Value.ownBlock]; omega)))
       have HT2 := Lib.hid ((HT1.out.alloc (.cells (([0, 0, 0, 0, 0, 0, 0, 0] : List Int).map (Value.int .u32)).toArray 32)).grown hg2 (by have := HT1.out.lt; simp; omega))
       have HV2 := Lib.hid ((HV1.out.alloc (.cells (([0, 0, 0, 0, 0, 0, 0, 0] : List Int).map (Value.int .u32)).toArray 32)).grown hg2 (by have := HV1.out.lt; simp; omega))
       have HZ2 := Lib.hid ((HZ1.out.alloc (.cells (([0, 0, 0, 0, 0, 0, 0, 0] : List Int).map (Value.int .u32)).toArray 32)).grown hg2 (by have := HZ1.out.lt; simp; omega))
       have HB2 : Hid (Below w.heap.size w w2) := Lib.hid (below_only (HB1.out.alloc HB1.out.size _) hg2 (by have := HB1.out.size; simp; omega) HB1.out.size)
       clear hr2 hg2 hs2))
  obtain ⟨gx, hgx⟩ : ∃ gx, gx = w1.heap.size := ⟨_, rfl⟩
  rw [← hgx]
  have hgx2 : gw < gx := by omega
  have HX2' : Hid (Row .u32 w2 32 gx s) := Lib.hid (by rw [hgx]; exact HX2.out)
  clear hgx HX2
  go_loopw [9] (fun i wx => ∃ n : Nat, n ≤ 64 ∧ i = .int .i64 n ∧ Row .u32 wx 32 gx (rnds (sched bs) s n) ∧ Row .u32 wx 32 (w.heap.size + 1) s ∧ Row .u32 wx 32 (w.heap.size + 2) [0, 0, 0, 0, 0, 0, 0, 0] ∧ TB wx w.heap.size (.slice (some ⟨gk, 0, none⟩) 64 ck) hTab ∧ Seg .u32 wx gw 0 (sched bs) ∧ Below w.heap.size w wx) (fun i _ => 64 - (intOf i).toNat)
  case atStart => exact ⟨0, by omega, rfl, HX2'.out, HV2.out, HZ2.out, HT2.out, own_seg HO2.out, HB2.out⟩
  case round =>
    obtain ⟨n, hn, rfl, hx, hv, hz, ht, hsw, hb⟩ := hrel
    have HX := Lib.hid hx
    have HV := Lib.hid hv
    have HZ := Lib.hid hz
    have HT := Lib.hid ht
    have HSW := Lib.hid hsw
    have HB := Lib.hid hb
    clear hx hv hz ht hsw hb
    by_cases hlt : n < 64
    · have hl8 : (rnds (sched bs) s n).length = 8 := rnds_length HS.out n
      have hck := (HKS.out.below HB.out hgk).cellD n (by rw [kTab_length]; exact hlt)
      have hcw := HSW.out.cellD n (by rw [HL.out]; exact hlt)
      rw [Nat.zero_add] at hck hcw
      have hct := HT.out.cell0
      have bw := word_at HWB.out n
      have bk := word_at kTab_bd n
      have hrr : ∀ W, Calls Tryd.prog 32 #[stV (rnds (sched bs) s n), .int .u32 (kTab.getD n 0), .int .u32 ((sched bs).getD n 0)] W (fun e w' => e = .returned (stV (rnds (sched bs) s (n + 1))) ∧ Below W.heap.size W w') := fun W => refRound_list _ _ _ W hl8 (rnds_bd HS.out HSB.out n) bk.1 bk.2 bw.1 bw.2
      obtain ⟨y0, y1, y2, y3, y4, y5, y6, y7, hy⟩ := list_8 (rnds (sched bs) s (n + 1)) (rnds_length HS.out (n + 1))
      obtain ⟨x0, x1, x2, x3, x4, x5, x6, x7, hx⟩ := list_8 (rnds (sched bs) s n) hl8
      have hr := HX.out
      rw [hx] at hr hrr
      rw [hy] at hrr
      generalize kTab.getD n 0 = kk at *
      generalize (sched bs).getD n 0 = ww at *
      have hc : ∀ W, Calls Tryd.prog 32 #[.agg #[.int .u32 x0, .int .u32 x1, .int .u32 x2, .int .u32 x3, .int .u32 x4, .int .u32 x5, .int .u32 x6, .int .u32 x7], .int .u32 kk, .int .u32 ww] W (fun e w' => e = .returned (.agg #[.int .u32 y0, .int .u32 y1, .int .u32 y2, .int .u32 y3, .int .u32 y4, .int .u32 y5, .int .u32 y6, .int .u32 y7]) ∧ Below W.heap.size W w') := hrr
      have HC := Lib.hid hc
      have HNX := Lib.hid hy
      have HR2 := Lib.hid hr
      have c0 := hr.cell 0 (by simp)
      have c1 := hr.cell 1 (by simp)
      have c2 := hr.cell 2 (by simp)
      have c3 := hr.cell 3 (by simp)
      have c4 := hr.cell 4 (by simp)
      have c5 := hr.cell 5 (by simp)
      have c6 := hr.cell 6 (by simp)
      have c7 := hr.cell 7 (by simp)
      simp only [List.getElem_cons_zero, List.getElem_cons_succ] at c0 c1 c2 c3 c4 c5 c6 c7
      have nb : (n : Int) < 64 := by omega
      clear hl8 hrr hy hx hr hc
      go_wp2_with fail
      go_region_with (first
        | (go_at_call 32
           (with_reducible refine (HC.out _).mono ?_)
           rintro _ w7 ⟨rfl, hb7⟩
           have HR3 : Hid (Row .u32 w7 32 gx [x0, x1, x2, x3, x4, x5, x6, x7]) := Lib.hid (HR2.out.drew.below hb7 HR2.out.lt)
           have HV3 : Hid (Row .u32 w7 32 (w.heap.size + 1) s) := Lib.hid (HV.out.drew.below hb7 HV.out.lt)
           have HZ3 : Hid (Row .u32 w7 32 (w.heap.size + 2) [0, 0, 0, 0, 0, 0, 0, 0]) := Lib.hid (HZ.out.drew.below hb7 HZ.out.lt)
           have HT3 : Hid (TB w7 w.heap.size (.slice (some ⟨gk, 0, none⟩) 64 ck) hTab) := Lib.hid (TB.below (w := wr.drew) HT.out hb7 HT.out.lt)
           have HSW3 : Hid (Seg .u32 w7 gw 0 (sched bs)) := Lib.hid (HSW.out.drew.below hb7 (Nat.lt_trans hgx2 HR2.out.lt))
           have HB3 : Hid (Below w.heap.size w w7) := Lib.hid (HB.out.drew.trans (hb7.mono HB.out.size))
           have t0 := HR3.out.cell 0 (by simp)
           have t1 := HR3.out.cell 1 (by simp)
           have t2 := HR3.out.cell 2 (by simp)
           have t3 := HR3.out.cell 3 (by simp)
           have t4 := HR3.out.cell 4 (by simp)
           have t5 := HR3.out.cell 5 (by simp)
           have t6 := HR3.out.cell 6 (by simp)
           have t7 := HR3.out.cell 7 (by simp)
           have tf := fun o => HR3.out.frozen o
           clear hb7))
      all_goals
        obtain ⟨w8, hw8⟩ : ∃ w8, w8 = ((((((((w7.setCell ⟨gx, 0, none⟩ (.int .u32 y0)).setCell ⟨gx, 1, none⟩ (.int .u32 y1)).setCell ⟨gx, 2, none⟩ (.int .u32 y2)).setCell ⟨gx, 3, none⟩ (.int .u32 y3)).setCell ⟨gx, 4, none⟩ (.int .u32 y4)).setCell ⟨gx, 5, none⟩ (.int .u32 y5)).setCell ⟨gx, 6, none⟩ (.int .u32 y6)).setCell ⟨gx, 7, none⟩ (.int .u32 y7)) := ⟨_, rfl⟩
        rw [← hw8]
        have HX8 : Hid (Row .u32 w8 32 gx [y0, y1, y2, y3, y4, y5, y6, y7]) := Lib.hid (by rw [hw8]; exact ((((((((HR3.out.set 0 y0).set 1 y1).set 2 y2).set 3 y3).set 4 y4).set 5 y5).set 6 y6).set 7 y7))
        have HV8 : Hid (Row .u32 w8 32 (w.heap.size + 1) s) := Lib.hid (by rw [hw8]; exact ((((((((HV3.out.far (p := ⟨gx, 0, none⟩) (by simp; omega) (.int .u32 y0)).far (p := ⟨gx, 1, none⟩) (by simp; omega) (.int .u32 y1)).far (p := ⟨gx, 2, none⟩) (by simp; omega) (.int .u32 y2)).far (p := ⟨gx, 3, none⟩) (by simp; omega) (.int .u32 y3)).far (p := ⟨gx, 4, none⟩) (by simp; omega) (.int .u32 y4)).far (p := ⟨gx, 5, none⟩) (by simp; omega) (.int .u32 y5)).far (p := ⟨gx, 6, none⟩) (by simp; omega) (.int .u32 y6)).far (p := ⟨gx, 7, none⟩) (by simp; omega) (.int .u32 y7)))
        have HZ8 : Hid (Row .u32 w8 32 (w.heap.size + 2) [0, 0, 0, 0, 0, 0, 0, 0]) := Lib.hid (by rw [hw8]; exact ((((((((HZ3.out.far (p := ⟨gx, 0, none⟩) (by simp; omega) (.int .u32 y0)).far (p := ⟨gx, 1, none⟩) (by simp; omega) (.int .u32 y1)).far (p := ⟨gx, 2, none⟩) (by simp; omega) (.int .u32 y2)).far (p := ⟨gx, 3, none⟩) (by simp; omega) (.int .u32 y3)).far (p := ⟨gx, 4, none⟩) (by simp; omega) (.int .u32 y4)).far (p := ⟨gx, 5, none⟩) (by simp; omega) (.int .u32 y5)).far (p := ⟨gx, 6, none⟩) (by simp; omega) (.int .u32 y6)).far (p := ⟨gx, 7, none⟩) (by simp; omega) (.int .u32 y7)))
        have HT8 : Hid (TB w8 w.heap.size (.slice (some ⟨gk, 0, none⟩) 64 ck) hTab) := Lib.hid (by rw [hw8]; exact ((((((((HT3.out.far (p := ⟨gx, 0, none⟩) (by simp; omega) (.int .u32 y0)).far (p := ⟨gx, 1, none⟩) (by simp; omega) (.int .u32 y1)).far (p := ⟨gx, 2, none⟩) (by simp; omega) (.int .u32 y2)).far (p := ⟨gx, 3, none⟩) (by simp; omega) (.int .u32 y3)).far (p := ⟨gx, 4, none⟩) (by simp; omega) (.int .u32 y4)).far (p := ⟨gx, 5, none⟩) (by simp; omega) (.int .u32 y5)).far (p := ⟨gx, 6, none⟩) (by simp; omega) (.int .u32 y6)).far (p := ⟨gx, 7, none⟩) (by simp; omega) (.int .u32 y7)))
        have hgrow : w7.grownBy w8 (some gx) := by rw [hw8]; exact (only_set (only_set (only_set (only_set (only_set (only_set (only_set (only_set (only_refl w7 (some gx)) 0 (.int .u32 y0)) 1 (.int .u32 y1)) 2 (.int .u32 y2)) 3 (.int .u32 y3)) 4 (.int .u32 y4)) 5 (.int .u32 y5)) 6 (.int .u32 y6)) 7 (.int .u32 y7))
        have HSW8 : Hid (Seg .u32 w8 gw 0 (sched bs)) := Lib.hid (HSW3.out.keep fun o => World.cell?_of_block (hgrow.block gw (Nat.lt_trans hgx2 HR3.out.lt) (by simp; omega)))
        have HB8 : Hid (Below w.heap.size w w8) := Lib.hid (below_only HB3.out hgrow HB3.out.size (by omega))
        clear hw8 hgrow t0 t1 t2 t3 t4 t5 t6 t7 tf c0 c1 c2 c3 c4 c5 c6 c7 hct hck hcw
        go_wp2_with fail
        go_roundw
        case rel => exact ⟨n + 1, by omega, by go_num, by rw [HNX.out]; exact HX8.out, HV8.out, HZ8.out, HT8.out, HSW8.out, HB8.out⟩
        case measure => simp [intOf]; omega
    · obtain rfl : n = 64 := by omega
      have hxl : (rnds (sched bs) s 64).length = 8 := rnds_length HS.out 64
      have hfin : stepL s bs = addN (rnds (sched bs) s 64) s 8 := (addN_all hxl HS.out).symm
      have hxb : Words32 (rnds (sched bs) s 64) := rnds_bd HS.out HSB.out 64
      generalize rnds (sched bs) s 64 = x at *
      have HXL := Lib.hid hxl
      have HFIN := Lib.hid hfin
      have HXB := Lib.hid hxb
      have hi8x : (Tryd.prog.info? 32).map (·.size) = some x.length := by rw [hxl]; exact sizeA8
      have HI8X := Lib.hid hi8x
      clear hxl hfin hxb hi8x
      rw [show ((64 : Nat) : Int) = 64 from rfl]
      go_wp2_with fail
      go_loopw [10] (fun i wx => ∃ n : Nat, n ≤ 8 ∧ i = .int .i64 n ∧ Row .u32 wx 32 gx (addN x s n) ∧ Row .u32 wx 32 (w.heap.size + 1) s ∧ Row .u32 wx 32 (w.heap.size + 2) [0, 0, 0, 0, 0, 0, 0, 0] ∧ Below w.heap.size w wx) (fun i _ => 8 - (intOf i).toNat)
      case atStart => exact ⟨0, by omega, rfl, HX.out, HV.out, HZ.out, HB.out⟩
      case round =>
        obtain ⟨n, hn, rfl, hx, hr, hz, hb⟩ := hrel
        clear HX HV HZ HB HT HSW
        have HX := Lib.hid hx
        have HR := Lib.hid hr
        have HZ := Lib.hid hz
        have HB := Lib.hid hb
        clear hx hr hz hb
        by_cases hlt : n < 8
        · have c1 := HX.out.cellD n (by rw [addN_length, HXL.out]; exact hlt)
          have c2 := HR.out.cellD n (by rw [HS.out]; exact hlt)
          have f1 := HX.out.frozen n
          rw [addN_get x s n n (Nat.le_refl _)] at c1
          have b1 := word_at HXB.out n
          have b2 := word_at HSB.out n
          have hst : Row .u32 (wr.setCell ⟨gx, n, none⟩ (.int .u32 ((x.getD n 0 + s.getD n 0) % 4294967296))) 32 gx (addN x s (n + 1)) := HX.out.set n _
          generalize x.getD n 0 = y at *
          generalize s.getD n 0 = v at *
          have HST := Lib.hid hst
          have nb : (n : Int) < 8 := by omega
          clear hst
          go_wp2_with fail
          go_region
          go_wp2_with fail
          go_roundw
          case rel =>
            refine ⟨n + 1, by omega, by go_num, ?_, ?_, ?_, ?_⟩
            · exact HST.out.drew
            · exact HR.out.drew.far (p := ⟨gx, n, none⟩) (by simp; omega) _
            · exact HZ.out.drew.far (p := ⟨gx, n, none⟩) (by simp; omega) _
            · exact HB.out.drew.setCell (p := ⟨gx, n, none⟩) (by simp; omega) _
          case measure => simp [intOf]; omega
        · obtain rfl : n = 8 := by omega
          have hi8y : (Tryd.prog.info? 32).map (·.size) = some (addN x s 8).length := by rw [addN_length]; exact HI8X.out
          have HI8Y := Lib.hid hi8y
          clear hi8y
          go_wp2_with (first
            | (refine wpList_load_ints rfl 32 (.tmp 8) rfl gx rfl 32 .u32 (addN x s 8) HX.out 8 31 Tryd.underlying32 HI8Y.out ?_)
            | (refine wpList_store_ints rfl 32 (.tmp 6) (.tmp 42) rfl (w.heap.size + 2) .u32 (addN x s 8) rfl rfl 32 [0, 0, 0, 0, 0, 0, 0, 0] HZ.out HI8Y.out (by rw [addN_length, HXL.out]; rfl) ?_
               intro w5 hr5 hg5 hs5
               have HR5 := Lib.hid hr5
               have HG5 := Lib.hid hg5
               clear hr5 hg5 hs5))
          refine bodyPost_ret (v := stV (addN x s 8)) (results_cell_row Tryd.results25 _ _ (w.heap.size + 2) 32 _ _ _ rfl HR5.out Tryd.underlying32 rfl (by rw [ints_size]; exact HI8Y.out)) rfl ⟨by rw [HFIN.out], ?_⟩
          exact below_only HB.out HG5.out HB.out.size (by omega)
end Go.Proofs.YtdmfjnohkpiaiaaDoor
