/- The contract of step. -/
import Derived.Test.YtcplfpnaepdddaaDoorStepA
import Derived.Test.YtcplfpnaepdddaaDoorWordB
namespace Go.Proofs.YtcplfpnaepdddaaDoor
open Go.RowKit
set_option linter.unusedVariables false

def StepPost (w : World) (s bs : List Int) (e : Ending) (w' : World) : Prop :=
  e = .returned (stV (stepL s bs)) ∧ Below w.heap.size w w'

set_option maxRecDepth 100000 in
set_option maxHeartbeats 2000000 in
theorem step_any (g off cap : Nat) (s bs : List Int) (w : World) (hs : s.length = 8) (hsb : Words32 s) (hl : bs.length = 64) (hb8 : Bytes8 bs) (hseg : Seg .u8 w g off bs) (hcap : 64 ≤ cap) (hg : g < w.heap.size) (hK : KLies w) :
    Calls Tryd.prog 67 #[stV s, .slice (some ⟨g, off, none⟩) 64 cap] w (StepPost w s bs) := by
  have hlen := sched_length bs
  have hwb := sched_bd hb8
  have hi64 : (Tryd.prog.info? 81).map (·.size) = some (sched bs).length := by rw [hlen]; exact sizeA64
  have hi8 : (Tryd.prog.info? 40).map (·.size) = some s.length := by rw [hs]; exact sizeA8
  have HI64 := Lib.hid hi64
  have HI8 := Lib.hid hi8
  have HL := Lib.hid hlen
  have HWB := Lib.hid hwb
  have HS := Lib.hid hs
  have HSB := Lib.hid hsb
  have HK := Lib.hid hK
  have HBS := Lib.hid (And.intro hl (And.intro hb8 hseg))
  clear hlen hwb hi64 hi8 hs hsb hK hl hb8 hseg
  have b2 : ∀ o1 o2, Below w.heap.size w ((w.alloc o1).alloc o2) := fun o1 o2 => ((Below.refl _ _).alloc (Nat.le_refl _) _).alloc (by simp) _
  have B2 := Lib.hid b2
  have r0 : ∀ o2, Row .u32 ((w.alloc (.cells (s.map (Value.int .u32)).toArray 40)).alloc o2) 40 w.heap.size s := fun o2 => (Row.new w 40 s).alloc o2
  have R0 := Lib.hid r0
  have r1 : ∀ o1, Row .u32 ((w.alloc o1).alloc (.cells (([0, 0, 0, 0, 0, 0, 0, 0] : List Int).map (Value.int .u32)).toArray 40)) 40 (w.heap.size + 1) [0, 0, 0, 0, 0, 0, 0, 0] := fun o1 => by
    have h := Row.new (k := .u32) (w.alloc o1) 40 [0, 0, 0, 0, 0, 0, 0, 0]
    have e : (w.alloc o1).heap.size = w.heap.size + 1 := by simp
    rw [e] at h
    exact h
  have R1 := Lib.hid r1
  clear b2 r0 r1
  unfold stV
  go_enter Tryd.func67, Tryd.ntmps67
  go_wp2_with fail
  refine (sched_any g off cap bs _ HBS.out.1 HBS.out.2.1 (by exact HBS.out.2.2.below (B2.out _ _) hg) hcap (by simp; omega)).mono ?_
  rintro e w1 ⟨rfl, hb1, hs1⟩
  have HB1 : Hid (Below w.heap.size w w1) := Lib.hid ((B2.out _ _).trans (hb1.mono (by simp; omega)))
  have HR1 : Hid (Row .u32 w1 40 w.heap.size s) := Lib.hid ((R0.out _).below hb1 (by simp; omega))
  have HZ1 : Hid (Row .u32 w1 40 (w.heap.size + 1) [0, 0, 0, 0, 0, 0, 0, 0]) := Lib.hid ((R1.out _).below hb1 (by simp))
  have HS1 : Hid (w1.heap.size = w.heap.size + 4) := Lib.hid (by rw [hs1]; simp)
  clear hb1 hs1
  go_wp2_with (first
    | (refine wpList_store_ints rfl 81 (.tmp 5) (.tmp 9) rfl w1.heap.size .u32 (sched bs) rfl rfl 81 (List.replicate 64 0) (Row.new w1 81 (List.replicate 64 0)) HI64.out (by rw [HL.out]; simp) ?_
       intro w2 hr2 hg2 hs2
       have HW2 := Lib.hid hr2
       have HB2 : Hid (Below w.heap.size w w2) := Lib.hid (below_only (HB1.out.alloc HB1.out.size _) hg2 (by have := HB1.out.size; simp; omega) HB1.out.size)
       have HR2 : Hid (Row .u32 w2 40 w.heap.size s) := Lib.hid ((HR1.out.alloc _).grown hg2 (by have := HR1.out.lt; simp; omega))
       have HZ2 : Hid (Row .u32 w2 40 (w.heap.size + 1) [0, 0, 0, 0, 0, 0, 0, 0]) := Lib.hid ((HZ1.out.alloc _).grown hg2 (by have := HZ1.out.lt; simp; omega))
       have HS2 : Hid (w2.heap.size = w.heap.size + 5) := Lib.hid (by rw [hs2]; simp [HS1.out])
       clear hr2 hg2 hs2)
    | (refine wpList_load_ints rfl 40 (.tmp 2) rfl w.heap.size rfl 40 .u32 s HR2.out 8 39 Tryd.underlying40 HI8.out ?_)
    | (refine wpList_load_ints rfl 81 (.tmp 5) rfl w1.heap.size rfl 81 .u32 (sched bs) HW2.out 64 39 Tryd.underlying81 HI64.out ?_))
  refine (rounds_any (sched bs) s w2 HL.out HWB.out HS.out HSB.out (HK.out.below HB2.out HK.out.lt)).mono ?_
  rintro e w3 ⟨rfl, hb3, hs3⟩
  have hxl : (rnds (sched bs) s 64).length = 8 := rnds_length HS.out 64
  have hfin : stepL s bs = addN (rnds (sched bs) s 64) s 8 := (addN_all hxl HS.out).symm
  have hxb : Words32 (rnds (sched bs) s 64) := rnds_bd HS.out HSB.out 64
  generalize rnds (sched bs) s 64 = x at *
  have HXL := Lib.hid hxl
  have HFIN := Lib.hid hfin
  have HXB := Lib.hid hxb
  have HB3 : Hid (Below w.heap.size w w3) := Lib.hid (HB2.out.trans (hb3.mono HB2.out.size))
  have HR3 : Hid (Row .u32 w3 40 w.heap.size s) := Lib.hid (HR2.out.below hb3 HR2.out.lt)
  have HZ3 : Hid (Row .u32 w3 40 (w.heap.size + 1) [0, 0, 0, 0, 0, 0, 0, 0]) := Lib.hid (HZ2.out.below hb3 HZ2.out.lt)
  have HS3 : Hid (w3.heap.size = w.heap.size + 8) := Lib.hid (by rw [hs3, HS2.out])
  have hi8x : (Tryd.prog.info? 40).map (·.size) = some x.length := by rw [hxl]; exact sizeA8
  have HI8X := Lib.hid hi8x
  clear hxl hfin hxb hb3 hs3 hi8x
  go_wp2_with (first
    | (refine wpList_store_ints rfl 40 (.tmp 6) (.tmp 12) rfl w3.heap.size .u32 x rfl rfl 40 [0, 0, 0, 0, 0, 0, 0, 0] (Row.new w3 40 [0, 0, 0, 0, 0, 0, 0, 0]) HI8X.out (by rw [HXL.out]; rfl) ?_
       intro w4 hr4 hg4 hs4
       have HX4 := Lib.hid hr4
       have HB4 : Hid (Below w.heap.size w w4) := Lib.hid (below_only (HB3.out.alloc HB3.out.size _) hg4 (by have := HB3.out.size; simp; omega) HB3.out.size)
       have HR4 : Hid (Row .u32 w4 40 w.heap.size s) := Lib.hid ((HR3.out.alloc _).grown hg4 (by have := HR3.out.lt; simp; omega))
       have HZ4 : Hid (Row .u32 w4 40 (w.heap.size + 1) [0, 0, 0, 0, 0, 0, 0, 0]) := Lib.hid ((HZ3.out.alloc _).grown hg4 (by have := HZ3.out.lt; simp; omega))
       have HS4 : Hid (w4.heap.size = w.heap.size + 9) := Lib.hid (by rw [hs4]; simp [HS3.out])
       clear hr4 hg4 hs4))
  go_loopw [13] (fun i wx => ∃ n : Nat, n ≤ 8 ∧ i = .int .i64 n ∧ Row .u32 wx 40 w3.heap.size (addN x s n) ∧ Row .u32 wx 40 w.heap.size s ∧ Row .u32 wx 40 (w.heap.size + 1) [0, 0, 0, 0, 0, 0, 0, 0] ∧ Below w.heap.size w wx) (fun i _ => 8 - (intOf i).toNat)
  case atStart => exact ⟨0, by omega, rfl, HX4.out, HR4.out, HZ4.out, HB4.out⟩
  case round =>
    obtain ⟨n, hn, rfl, hx, hr, hz, hb⟩ := hrel
    have HX := Lib.hid hx
    have HR := Lib.hid hr
    have HZ := Lib.hid hz
    have HB := Lib.hid hb
    clear hx hr hz hb
    by_cases hlt : n < 8
    · have c1 := HX.out.cellD n (by rw [addN_length, HXL.out]; exact hlt)
      have c2 := HR.out.cellD n (by rw [HS.out]; exact hlt)
      have f1 := HX.out.frozen n
      rw [addN_get x s n n (Nat.le_refl _)] at c1
      have b1 := word_at HXB.out n
      have b2 := word_at HSB.out n
      have hst : ∀ q, Row .u32 ((wr.drewN q).setCell ⟨w3.heap.size, n, none⟩ (.int .u32 ((x.getD n 0 + s.getD n 0) % 4294967296))) 40 w3.heap.size (addN x s (n + 1)) := fun q => (HX.out.drewN q).set n _
      generalize x.getD n 0 = y at *
      generalize s.getD n 0 = v at *
      have HST := Lib.hid hst
      have nb : (n : Int) < 8 := by omega
      clear hst
      go_wp2_with fail
      go_region
      go_wp2_with fail
      go_roundw
      case rel =>
        refine ⟨n + 1, by omega, by go_num, ?_, ?_, ?_, ?_⟩
        · first
            | exact HST.out _
            | exact HST.out 1
        · exact HR.out.drew.far (by have := HR4.out.lt; have := HS3.out; simp; omega) _
        · exact HZ.out.drew.far (by have := HS3.out; simp; omega) _
        · exact HB.out.drew.setCell (by have := HS3.out; simp; omega) _
      case measure => simp [intOf]; omega
    · obtain rfl : n = 8 := by omega
      have hi8y : (Tryd.prog.info? 40).map (·.size) = some (addN x s 8).length := by rw [addN_length]; exact HI8X.out
      have HI8Y := Lib.hid hi8y
      clear hi8y
      go_wp2_with (first
        | (refine wpList_load_ints rfl 40 (.tmp 6) rfl w3.heap.size rfl 40 .u32 (addN x s 8) HX.out 8 39 Tryd.underlying40 HI8Y.out ?_)
        | (refine wpList_store_ints rfl 40 (.tmp 4) (.tmp 25) rfl (w.heap.size + 1) .u32 (addN x s 8) rfl rfl 40 [0, 0, 0, 0, 0, 0, 0, 0] HZ.out HI8Y.out (by rw [addN_length, HXL.out]; rfl) ?_
           intro w5 hr5 hg5 hs5
           have HR5 := Lib.hid hr5
           have HG5 := Lib.hid hg5
           clear hr5 hg5 hs5))
      refine bodyPost_ret (v := stV (addN x s 8)) (results_cell_row Tryd.results67 _ _ (w.heap.size + 1) 40 _ _ _ rfl HR5.out Tryd.underlying40 rfl (by rw [ints_size]; exact HI8Y.out)) rfl ⟨by rw [HFIN.out], ?_⟩
      exact below_only HB.out HG5.out HB.out.size (by omega)
end Go.Proofs.YtcplfpnaepdddaaDoor
