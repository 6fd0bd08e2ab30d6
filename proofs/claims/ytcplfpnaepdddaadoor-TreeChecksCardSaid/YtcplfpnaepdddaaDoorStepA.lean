/- The contract of rounds. -/
import Derived.Test.YtcplfpnaepdddaaDoorShaA
import Derived.Test.YtcplfpnaepdddaaDoorStepMath
import Derived.Test.YtcplfpnaepdddaaDoorLib
namespace Go.Proofs.YtcplfpnaepdddaaDoor
open Go.RowKit
set_option linter.unusedVariables false

/-- The table of constants lies where the program has it. -/
structure KLies (w : World) : Prop where
  seg : Seg .u32 w 1 0 kTab
  lt : 1 < w.heap.size
theorem KLies.below {w w' : World} (h : KLies w) {B : Nat} (hb : Below B w w') (hB : 1 < B) : KLies w' := ⟨h.seg.below hb hB, Nat.lt_of_lt_of_le h.lt hb.size⟩

theorem infoW : (Tryd.prog.info? 39).map (fun i => (i.zero, i.size, i.bytes)) = some (some (.int .u32 0), 1, 4) := by kernel_rfl
theorem sizeA8 : (Tryd.prog.info? 40).map (·.size) = some 8 := by kernel_rfl
theorem sizeA64 : (Tryd.prog.info? 81).map (·.size) = some 64 := by kernel_rfl
theorem run_index_ints (t : TypeId) (zs : List Int) (ht : Tryd.prog.underlying t = some (.array zs.length 39)) (i : Nat) (hi : i < zs.length) (w : World) :
    (Instr.index t (.agg (zs.map (Value.int .u32)).toArray) (.int .i64 i)).run Tryd.prog w = .ok (.int .u32 (zs.getD i 0)) w := by
  obtain ⟨i0, hi0, hz0, hz1, hz2⟩ := info_parts infoW
  simp [Instr.index, asIntOf, run_underlying ht, sizeOf, typeInfo, hi0, hz1, part, hi, List.getD]

def RoundsPost (w : World) (ws s : List Int) (e : Ending) (w' : World) : Prop :=
  e = .returned (stV (rnds ws s 64)) ∧ Below w.heap.size w w' ∧ w'.heap.size = w.heap.size + 3

set_option maxRecDepth 100000 in
set_option maxHeartbeats 2000000 in
theorem rounds_any (ws s : List Int) (w : World) (hw : ws.length = 64) (hwb : Words32 ws) (hs : s.length = 8) (hsb : Words32 s) (hK : KLies w) :
    Calls Tryd.prog 73 #[stV s, .agg (ws.map (Value.int .u32)).toArray] w (RoundsPost w ws s) := by
  have hix : ∀ (i : Nat), i < 64 → ∀ W, (Instr.index 81 (.agg (ws.map (Value.int .u32)).toArray) (.int .i64 i)).run Tryd.prog W = .ok (.int .u32 (ws.getD i 0)) W :=
    fun i hi W => run_index_ints 81 ws (by rw [hw]; exact Tryd.underlying81) i (by omega) W
  have HIX := Lib.hid hix
  have HW := Lib.hid hw
  have HWB := Lib.hid hwb
  have HK := Lib.hid hK
  have hi64 : (Tryd.prog.info? 81).map (·.size) = some ws.length := by rw [hw]; exact sizeA64
  have HI64 := Lib.hid hi64
  obtain ⟨a, b, c, d, e, f, g, z, rfl⟩ := list_8 s hs
  have HSB := Lib.hid hsb
  clear hix hw hwb hs hsb hi64 hK
  have hrow : ∀ o1 o3, Row .u32 (((w.alloc o1).alloc (.cells (ws.map (Value.int .u32)).toArray 81)).alloc o3) 81 (w.heap.size + 1) ws := fun o1 o3 => by
    have h := (Row.new (k := .u32) (w.alloc o1) 81 ws).alloc o3
    have e : (w.alloc o1).heap.size = w.heap.size + 1 := by simp
    rw [e] at h
    exact h
  have HROW := Lib.hid hrow
  clear hrow
  simp only [stV, List.map_cons, List.map_nil]
  go_enter Tryd.func73, Tryd.ntmps73
  go_wp2_with fail
  go_quiet (fail)
  go_wp2_with (refine wpList_load_ints rfl 81 (.tmp 3) rfl (w.heap.size + 1) rfl 81 .u32 ws (HROW.out _ _) 64 39 Tryd.underlying81 HI64.out ?_)
  go_loopw [5, 6, 7, 8, 9, 10, 11, 12, 34] (fun x0 x1 x2 x3 x4 x5 x6 x7 i wx => ∃ (n : Nat) (a' b' c' d' e' f' g' z' : Int), n ≤ 64 ∧ i = .int .i64 n ∧ x0 = .int .u32 a' ∧ x1 = .int .u32 b' ∧ x2 = .int .u32 c' ∧ x3 = .int .u32 d' ∧ x4 = .int .u32 e' ∧ x5 = .int .u32 f' ∧ x6 = .int .u32 g' ∧ x7 = .int .u32 z' ∧
      rnds ws [a, b, c, d, e, f, g, z] n = [a', b', c', d', e', f', g', z'] ∧ KLies wx ∧ Row .u32 wx 40 (w.heap.size + 2) [0, 0, 0, 0, 0, 0, 0, 0] ∧ Below w.heap.size w wx ∧ wx.heap.size = w.heap.size + 3) (fun _ _ _ _ _ _ _ _ i _ => 64 - (intOf i).toNat)
  case atStart =>
    have b3 : ∀ o1 o2 o3, Below w.heap.size w (((w.alloc o1).alloc o2).alloc o3) := fun o1 o2 o3 => (((Below.refl _ _).alloc (Nat.le_refl _) _).alloc (by simp) _).alloc (by simp; omega) _
    refine ⟨0, a, b, c, d, e, f, g, z, by omega, rfl, rfl, rfl, rfl, rfl, rfl, rfl, rfl, rfl, rfl, ?_, ?_, ?_, ?_⟩
    · exact HK.out.below (below_drewN (b3 _ _ _) _) HK.out.lt
    · have h : ∀ o1 o2, Row .u32 (((w.alloc o1).alloc o2).alloc (.cells (([0, 0, 0, 0, 0, 0, 0, 0] : List Int).map (Value.int .u32)).toArray 40)) 40 (w.heap.size + 2) [0, 0, 0, 0, 0, 0, 0, 0] := fun o1 o2 => by
        have h := Row.new (k := .u32) ((w.alloc o1).alloc o2) 40 [0, 0, 0, 0, 0, 0, 0, 0]
        have e : ((w.alloc o1).alloc o2).heap.size = w.heap.size + 2 := by simp
        rw [e] at h
        exact h
      exact (h _ _).drewN _
    · exact below_drewN (b3 _ _ _) _
    · simp
  case round =>
    obtain ⟨n, a', b', c', d', e', f', g', z', hn, rfl, rfl, rfl, rfl, rfl, rfl, rfl, rfl, rfl, hrn, hK, hr0, hb, hs⟩ := hrel
    have hbd : Words32 (rnds ws [a, b, c, d, e, f, g, z] n) := rnds_bd rfl HSB.out n
    rw [hrn] at hbd
    have HRN := Lib.hid hrn
    have HK2 := Lib.hid hK
    have HR0 := Lib.hid hr0
    have HB := Lib.hid hb
    have HS := Lib.hid hs
    have ba := hbd a' (by simp)
    have bd := hbd d' (by simp)
    have be := hbd e' (by simp)
    have bz := hbd z' (by simp)
    clear hrn hK hr0 hb hs hbd
    by_cases hlt : n < 64
    · have hx := HIX.out n hlt
      have hk := HK2.out.seg.cellD n (by rw [kTab_length]; exact hlt)
      have bw := word_at HWB.out n
      have bk := word_at kTab_bd n
      have hnext : rnds ws [a, b, c, d, e, f, g, z] (n + 1) = rnd [a', b', c', d', e', f', g', z'] (kTab.getD n 0) (ws.getD n 0) := by rw [← HRN.out]; rfl
      simp only [rnd] at hnext
      rw [Nat.zero_add] at hk
      generalize ws.getD n 0 = v at *
      generalize kTab.getD n 0 = kk at *
      have HN := Lib.hid hnext
      clear hnext
      have bl := lowS_bd e' f' g' z' kk v
      have bu := upS_bd a' b' c'
      have nb : (n : Int) < 64 := by omega
      go_wp2_with (first
        | (go_at_call 77; (with_reducible refine (low_any _ _ _ _ _ _ _ be.1 be.2 bz.1 bz.2 bk.1 bk.2 bw.1 bw.2).mono ?_); rintro e' w' ⟨rfl, rfl⟩)
        | (go_at_call 78; (with_reducible refine (up_any _ _ _ _ ba.1 ba.2).mono ?_); rintro e' w' ⟨rfl, rfl⟩))
      go_roundw
      case rel =>
        exact ⟨n + 1, _, _, _, _, _, _, _, _, by omega, by go_num, rfl, rfl, rfl, rfl, rfl, rfl, rfl, rfl, HN.out, HK2.out, HR0.out, HB.out, HS.out⟩
      case measure => simp [intOf]; omega
    · obtain rfl : n = 64 := by omega
      go_wp2_with (first
        | (refine wpList_store_ints rfl 40 (.tmp 4) (.tmp 72) rfl (w.heap.size + 2) .u32 [a', b', c', d', e', f', g', z'] rfl rfl 40 [0, 0, 0, 0, 0, 0, 0, 0] HR0.out sizeA8 rfl ?_
           intro w5 hr5 hg5 hs5
           have HR5 := Lib.hid hr5
           have HG5 := Lib.hid hg5
           have HS5 := Lib.hid hs5
           clear hr5 hg5 hs5))
      refine bodyPost_ret (v := stV [a', b', c', d', e', f', g', z']) (results_cell_row Tryd.results73 _ _ (w.heap.size + 2) 40 _ _ _ rfl HR5.out Tryd.underlying40 rfl sizeA8) rfl ⟨by rw [HRN.out], ?_, ?_⟩
      · exact below_only HB.out HG5.out (by rw [HS.out]; omega) (by omega)
      · rw [HS5.out, HS.out]
end Go.Proofs.YtcplfpnaepdddaaDoor
