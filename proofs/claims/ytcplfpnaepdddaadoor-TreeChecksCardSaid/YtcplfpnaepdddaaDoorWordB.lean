/- The contract of schedule. -/
import Derived.Test.YtcplfpnaepdddaaDoorWordA
import Derived.Deep.RegionHeld3
import Derived.IntWalk
namespace Go.Proofs.YtcplfpnaepdddaaDoor
open Go.RowKit
set_option linter.unusedVariables false

def SchedPost (w : World) (bs : List Int) (e : Ending) (w' : World) : Prop :=
  e = .returned (.agg ((sched bs).map (Value.int .u32)).toArray) ∧ Below w.heap.size w w' ∧ w'.heap.size = w.heap.size + 2

theorem size64 : (Tryd.prog.info? 81).map (·.size) = some 64 := by kernel_rfl

set_option maxRecDepth 100000 in
set_option maxHeartbeats 2000000 in
theorem sched_any (g off cap : Nat) (bs : List Int) (w : World) (hl : bs.length = 64) (hb8 : Bytes8 bs) (hseg : Seg .u8 w g off bs) (hcap : 64 ≤ cap) (hg : g < w.heap.size) :
    Calls Tryd.prog 72 #[.slice (some ⟨g, off, none⟩) 64 cap] w (SchedPost w bs) := by
  have HL := Lib.hid hl
  have HB8 := Lib.hid hb8
  have HSEG := Lib.hid hseg
  clear hl hb8 hseg
  go_enter Tryd.func72, Tryd.ntmps72
  go_wp2_with fail
  go_loopw [6] (fun i wx => ∃ k : Nat, k ≤ 16 ∧ i = .int .i64 k ∧ Row .u32 wx 81 (w.heap.size + 1) (first16 bs k ++ List.replicate (64 - k) 0) ∧ Row .u32 wx 81 w.heap.size (List.replicate 64 0) ∧ Below w.heap.size w wx ∧ wx.heap.size = w.heap.size + 2) (fun i _ => 16 - (intOf i).toNat)
  case atStart =>
    refine ⟨0, by omega, rfl, ?_, ?_, ?_, by simp⟩
    · have h := heap_alloc2_new w (.cells ((List.replicate 64 (0 : Int)).map (Value.int .u32)).toArray 81) (.cells ((List.replicate 64 (0 : Int)).map (Value.int .u32)).toArray 81)
      exact h
    · have h := heap_alloc2_old w (.cells ((List.replicate 64 (0 : Int)).map (Value.int .u32)).toArray 81) (.cells ((List.replicate 64 (0 : Int)).map (Value.int .u32)).toArray 81)
      exact h
    · exact ((Below.refl _ _).alloc (Nat.le_refl _) _).alloc (by simp) _
  case round =>
    obtain ⟨k, hk, rfl, hr, hr0, hb, hs⟩ := hrel
    have HR := Lib.hid hr
    have HR0 := Lib.hid hr0
    have HB := Lib.hid hb
    have HS := Lib.hid hs
    clear hr hr0 hb hs
    by_cases hlt : k < 16
    · have hsg : Seg .u8 wr g off bs := HSEG.out.below HB.out hg
      have hl := HL.out
      have c0 := hsg.cellD (4 * k) (by omega)
      have c1 := hsg.cellD (4 * k + 1) (by omega)
      have c2 := hsg.cellD (4 * k + 2) (by omega)
      have c3 := hsg.cellD (4 * k + 3) (by omega)
      have hw := fun W (hW : wr = W) => word_any g (off + 4 * k) (64 - 4 * k) (cap - 4 * k) _ _ _ _ wr (by omega) c0 c1 c2 c3 (byte_at HB8.out _).1 (byte_at HB8.out _).2 (byte_at HB8.out _).1 (byte_at HB8.out _).2 (byte_at HB8.out _).1 (byte_at HB8.out _).2 (byte_at HB8.out _).1 (byte_at HB8.out _).2
      have HW := Lib.hid (hw wr rfl)
      have hlen : (first16 bs k ++ List.replicate (64 - k) (0 : Int)).length = 64 := by simp [first16_length]; omega
      have HLEN := Lib.hid hlen
      obtain ⟨z0, hc⟩ := HR.out.has k (by omega)
      have hf := HR.out.frozen k
      clear hsg hl c0 c1 c2 c3 hw hlen
      go_wp2_with fail
      refine HW.out.mono ?_
      rintro e w' ⟨rfl, m, rfl⟩
      go_wp2_with fail
      go_roundw
      case rel =>
        refine ⟨k + 1, by omega, by go_num, ?_, HR0.out.far (by simp) _, ?_, ?_⟩
        · have h := (HR.out.drewN m).set k (wordAt bs k)
          have e := set_at (first16 bs k) (63 - k) (wordAt bs k)
          rw [first16_length, show 63 - k + 1 = 64 - k by omega, ← first16_succ] at e
          rw [e, show 63 - k = 64 - (k + 1) by omega] at h
          exact h
        · exact (below_drewN HB.out m).setCell (by simp) _
        · simpa [World.setCell] using HS.out
      case measure => simp [intOf]; omega
    · obtain rfl : k = 16 := by omega
      rw [show ((16 : Nat) : Int) = 16 from rfl]
      go_wp2_with fail
      go_loopw [5] (fun i wx => ∃ n : Nat, 16 ≤ n ∧ n ≤ 64 ∧ i = .int .i64 n ∧ Row .u32 wx 81 (w.heap.size + 1) (extW (first16 bs 16) (n - 16) ++ List.replicate (64 - n) 0) ∧ Row .u32 wx 81 w.heap.size (List.replicate 64 0) ∧ Below w.heap.size w wx ∧ wx.heap.size = w.heap.size + 2) (fun i _ => 64 - (intOf i).toNat)
      case atStart => exact ⟨16, by omega, by omega, rfl, HR.out, HR0.out, HB.out, HS.out⟩
      case round =>
        obtain ⟨n, hn, hn2, rfl, hr, hr0, hb, hs⟩ := hrel
        clear HR HR0 HB HS
        have HR := Lib.hid hr
        have HR0 := Lib.hid hr0
        have HB := Lib.hid hb
        have HS := Lib.hid hs
        clear hr hr0 hb hs
        by_cases hlt : n < 64
        · have hlm : (extW (first16 bs 16) (n - 16)).length = n := by rw [extW_length, first16_length]; omega
          have hlen : (extW (first16 bs 16) (n - 16) ++ List.replicate (64 - n) (0 : Int)).length = 64 := by simp [hlm]; omega
          have hbd := extW_bd (first16_bd HB8.out 16) (n - 16)
          have cell : ∀ j, 2 ≤ j → j ≤ 16 → wr.cell? ⟨w.heap.size + 1, n - j, none⟩ = some (.int .u32 ((extW (first16 bs 16) (n - 16)).getD (n - j) 0)) := fun j h1 h2 => by
            rw [HR.out.cellD (n - j) (by omega), getD_app _ _ _ (by omega)]
          have c16 := cell 16 (by omega) (by omega)
          have c15 := cell 15 (by omega) (by omega)
          have c7 := cell 7 (by omega) (by omega)
          have c2 := cell 2 (by omega) (by omega)
          obtain ⟨z0, hc⟩ := HR.out.has n (by omega)
          have hf := HR.out.frozen n
          have b16 := word_at hbd (n - 16)
          have b15 := word_at hbd (n - 15)
          have b7 := word_at hbd (n - 7)
          have b2 := word_at hbd (n - 2)
          have hnext : nextW (extW (first16 bs 16) (n - 16)) = ((extW (first16 bs 16) (n - 16)).getD (n - 16) 0 + sp3 ((extW (first16 bs 16) (n - 16)).getD (n - 15) 0) 7 18 3 + (extW (first16 bs 16) (n - 16)).getD (n - 7) 0 + sp3 ((extW (first16 bs 16) (n - 16)).getD (n - 2) 0) 17 19 10) % 4294967296 := by
            unfold nextW; rw [hlm]
          generalize (extW (first16 bs 16) (n - 16)).getD (n - 16) 0 = x16 at *
          generalize (extW (first16 bs 16) (n - 16)).getD (n - 15) 0 = x15 at *
          generalize (extW (first16 bs 16) (n - 16)).getD (n - 7) 0 = x7 at *
          generalize (extW (first16 bs 16) (n - 16)).getD (n - 2) 0 = x2 at *
          have HN := Lib.hid hnext
          have hst : ∀ q, Row .u32 ((wr.drewN q).setCell ⟨w.heap.size + 1, n, none⟩ (.int .u32 (nextW (extW (first16 bs 16) (n - 16))))) 81 (w.heap.size + 1) (extW (first16 bs 16) (n + 1 - 16) ++ List.replicate (64 - (n + 1)) 0) := fun q => by
            have h := (HR.out.drewN q).set n (nextW (extW (first16 bs 16) (n - 16)))
            have e := set_at (extW (first16 bs 16) (n - 16)) (63 - n) (nextW (extW (first16 bs 16) (n - 16)))
            rw [hlm, show 63 - n + 1 = 64 - n by omega] at e
            rw [e, show 63 - n = 64 - (n + 1) by omega] at h
            rw [show n + 1 - 16 = (n - 16) + 1 by omega]
            exact h
          have HST := Lib.hid hst
          clear hst
          have HLM := Lib.hid hlm
          have s15 := sp3_bd x15 7 18 3
          have s2 := sp3_bd x2 17 19 10
          clear hlm hlen hbd cell hnext
          go_wp2_with fail
          have wr16 : IntKind.i64.wrap ((n : Int) - 16) = (n : Int) - 16 := IntWalk.i64_in _ (by omega)
          have nn16 : (0 : Int) ≤ (n : Int) - 16 := by omega
          have ni16 : (16 : Int) ≤ (n : Int) := by omega
          have ub16 : (n : Int) - 16 < 64 := by omega
          have tn16 : ((n : Int) - 16).toNat = n - 16 := by omega
          have wr15 : IntKind.i64.wrap ((n : Int) - 15) = (n : Int) - 15 := IntWalk.i64_in _ (by omega)
          have nn15 : (0 : Int) ≤ (n : Int) - 15 := by omega
          have ni15 : (15 : Int) ≤ (n : Int) := by omega
          have ub15 : (n : Int) - 15 < 64 := by omega
          have tn15 : ((n : Int) - 15).toNat = n - 15 := by omega
          have wr7 : IntKind.i64.wrap ((n : Int) - 7) = (n : Int) - 7 := IntWalk.i64_in _ (by omega)
          have nn7 : (0 : Int) ≤ (n : Int) - 7 := by omega
          have ni7 : (7 : Int) ≤ (n : Int) := by omega
          have ub7 : (n : Int) - 7 < 64 := by omega
          have tn7 : ((n : Int) - 7).toNat = n - 7 := by omega
          have wr2 : IntKind.i64.wrap ((n : Int) - 2) = (n : Int) - 2 := IntWalk.i64_in _ (by omega)
          have nn2 : (0 : Int) ≤ (n : Int) - 2 := by omega
          have ni2 : (2 : Int) ≤ (n : Int) := by omega
          have ub2 : (n : Int) - 2 < 64 := by omega
          have tn2 : ((n : Int) - 2).toNat = n - 2 := by omega
          have nn0 : (0 : Int) ≤ (n : Int) := by omega
          have ub0 : (n : Int) < 64 := by omega
          go_region_held3 (fun w' => w'.cell? ⟨w.heap.size + 1, n - 16, none⟩ = some (.int .u32 x16) ∧ w'.cell? ⟨w.heap.size + 1, n - 15, none⟩ = some (.int .u32 x15) ∧ w'.cell? ⟨w.heap.size + 1, n - 7, none⟩ = some (.int .u32 x7) ∧ w'.cell? ⟨w.heap.size + 1, n - 2, none⟩ = some (.int .u32 x2))
            (first
              | (go_keep; done)
              | (refine ⟨?_, ?_, ?_, ?_⟩ <;> (rw [World.cell?_setCell_other _ _ _ _ (by first | (simp; done) | (simp; omega))]; simp [*]; done)))
            (first
              | (go_at_call 76; (with_reducible refine (spread_any _ _ _ _ _ (by omega) (by omega) (by omega) (by omega) (by omega) (by omega) (by omega) (by omega)).mono ?_); rintro _ wx ⟨rfl, mx, rfl⟩))
          clear wr16 nn16 ni16 ub16 tn16 wr15 nn15 ni15 ub15 tn15 wr7 nn7 ni7 ub7 tn7 wr2 nn2 ni2 ub2 tn2 nn0 ub0 c16 c15 c7 c2 b16 b15 b7 b2 s15 s2
          go_wp2_with fail
          go_roundw
          case rel =>
            refine ⟨n + 1, by omega, by omega, by go_num, ?_, ?_, ?_, ?_⟩
            · rw [mod_sum, ← HN.out]
              exact HST.out _
            · exact (HR0.out.drewN _).far (by simp) _
            · exact (below_drewN HB.out _).setCell (by simp) _
            · simpa [World.setCell] using HS.out
          case measure => simp [intOf]; omega
        · obtain rfl : n = 64 := by omega
          have hr64 : Row .u32 wr 81 (w.heap.size + 1) (sched bs) := by
            have h := HR.out
            simp only [Nat.sub_self, List.replicate_zero, List.append_nil] at h
            exact h
          have hl64 := sched_length bs
          have HR64 := Lib.hid hr64
          have hi64 : (Tryd.prog.info? 81).map (·.size) = some (sched bs).length := by rw [hl64]; exact size64
          have HI64 := Lib.hid hi64
          have HL64 := Lib.hid hl64
          clear hr64 hi64 hl64
          go_wp2_with (first
            | (refine wpList_load_ints rfl 81 (.tmp 3) rfl (w.heap.size + 1) rfl 81 .u32 (sched bs) HR64.out 64 39 Tryd.underlying81 HI64.out ?_)
            | (refine wpList_store_ints rfl 81 (.tmp 2) (.tmp 44) rfl w.heap.size .u32 (sched bs) rfl rfl 81 (List.replicate 64 0) HR0.out HI64.out (by rw [HL64.out]; simp) ?_
               intro w5 hr5 hg5 hs5
               have HR5 := Lib.hid hr5
               have HG5 := Lib.hid hg5
               have HS5 := Lib.hid hs5
               clear hr5 hg5 hs5))
          refine bodyPost_ret (v := .agg ((sched bs).map (Value.int .u32)).toArray) (results_cell_row Tryd.results72 _ _ w.heap.size 81 _ _ _ rfl HR5.out Tryd.underlying81 rfl (by rw [ints_size]; exact HI64.out)) rfl ⟨rfl, ?_, ?_⟩
          · exact below_only HB.out HG5.out (by rw [HS.out]; omega) (Nat.le_refl _)
          · rw [HS5.out, HS.out]
end Go.Proofs.YtcplfpnaepdddaaDoor
