/- The contract of stateBytes. -/
import Derived.Test.YtcplfpnaepdddaaDoorSumA
namespace Go.Proofs.YtcplfpnaepdddaaDoor
open Go.RowKit
set_option linter.unusedVariables false

theorem putB_be4 (pre : List Int) (k : Nat) (x : Int) : putB (pre ++ List.replicate (k + 4) 0) pre.length 4 x 4 = (pre ++ be4 x) ++ List.replicate k 0 := by
  rw [putB_append, List.append_assoc]
  congr 1
  simp [putB, be4, List.replicate_succ]
theorem bytesL_take (s : List Int) (i : Nat) (h : i < s.length) : bytesL (s.take (i + 1)) = bytesL (s.take i) ++ be4 (s.getD i 0) := by
  rw [List.take_succ_eq_append_getElem h]
  simp only [bytesL, List.flatMap_append, List.flatMap_cons, List.flatMap_nil, List.append_nil]
  simp [List.getD, h]
theorem bytesL_length (s : List Int) : (bytesL s).length = 4 * s.length := by
  induction s with
  | nil => rfl
  | cons a r ih => simp only [bytesL, List.flatMap_cons, List.length_append, List.length_cons] at ih ⊢; rw [ih]; simp [be4]; omega

def StateBytesPost (w : World) (s : List Int) (e : Ending) (w' : World) : Prop :=
  e = .returned (.slice (some ⟨w.heap.size + 1, 0, none⟩) 32 32) ∧ Row .u8 w' 5 (w.heap.size + 1) (bytesL s) ∧ Below w.heap.size w w'

set_option maxRecDepth 100000 in
set_option maxHeartbeats 1000000 in
theorem stateBytes_any (s : List Int) (w : World) (hs : s.length = 8) (hsb : Words32 s) :
    Calls Tryd.prog 61 #[stV s] w (StateBytesPost w s) := by
  obtain ⟨i0, hi0, hz0, hz1, hz2⟩ := info_parts infoU8
  have hix : ∀ (i : Nat), i < 8 → ∀ W, (Instr.index 40 (.agg (s.map (Value.int .u32)).toArray) (.int .i64 i)).run Tryd.prog W = .ok (.int .u32 (s.getD i 0)) W :=
    fun i hi W => run_index_ints 40 s (by rw [hs]; exact Tryd.underlying40) i (by omega) W
  have hi8 : (Tryd.prog.info? 40).map (·.size) = some s.length := by rw [hs]; exact sizeA8
  have HI8 := Lib.hid hi8
  have HIX := Lib.hid hix
  have HS := Lib.hid hs
  have HSB := Lib.hid hsb
  clear hix hi8 hs hsb
  unfold stV
  go_enter Tryd.func61, Tryd.ntmps61
  go_wp2_with (first
    | (at_make
       refine wpList_make_ints _ rfl (.const (.int .i64 32)) (.const (.int .i64 32)) 22 rfl 5 i0 .u8 Tryd.underlying22 hi0 hz0 hz1 .i64 .i64 _ _ 32 rfl rfl (by omega) (by omega) (by rw [hz2]; omega) (by simp only [maxLen]; omega) ?_
       intro w1 hr1 hb1 hs1
       have HR1 : Hid (Row .u8 w1 5 (w.heap.size + 1) (List.replicate 32 0)) := Lib.hid (by have h := hr1; simp only [World.size_alloc] at h; exact h)
       have HV1 : Hid (Row .u32 w1 40 w.heap.size s) := Lib.hid ((Row.new w 40 s).below hb1 (by simp))
       have HB1 : Hid (Below w.heap.size w w1) := Lib.hid (((Below.refl _ _).alloc (Nat.le_refl _) _).trans (hb1.mono (by simp)))
       clear hr1 hb1 hs1)
    | (refine wpList_load_ints rfl 40 (.tmp 1) rfl w.heap.size rfl 40 .u32 s HV1.out 8 39 Tryd.underlying40 HI8.out ?_))
  go_loopw [8] (fun i wx => ∃ n : Nat, n ≤ 8 ∧ i = .int .i64 n ∧ Row .u8 wx 5 (w.heap.size + 1) (bytesL (s.take n) ++ List.replicate (32 - 4 * n) 0) ∧ Below w.heap.size w wx) (fun i _ => 8 - (intOf i).toNat)
  case atStart => exact ⟨0, by omega, rfl, HR1.out, HB1.out⟩
  case round =>
    obtain ⟨n, hn, rfl, hr, hb⟩ := hrel
    have HR := Lib.hid hr
    have HB := Lib.hid hb
    clear hr hb
    by_cases hlt : n < 8
    · have hx := HIX.out n hlt
      have bx := word_at HSB.out n
      have hnx := bytesL_take s n (by rw [HS.out]; exact hlt)
      generalize s.getD n 0 = x at *
      have HNX := Lib.hid hnx
      clear hnx
      have hpl : (bytesL (s.take n)).length = 4 * n := by rw [bytesL_length, List.length_take, HS.out]; omega
      have hput := putB_be4 (bytesL (s.take n)) (28 - 4 * n) x
      rw [hpl, show 28 - 4 * n + 4 = 32 - 4 * n by omega] at hput
      have HPUT := Lib.hid hput
      have HPL := Lib.hid hpl
      clear hput hpl
      go_wp2_with fail
      rw [show 4 * (n + 1) - 4 * n = 4 by omega]
      refine (putBig_any (w.heap.size + 1) (4 * n) 4 (32 - 4 * n) _ x wr HR.out (by rw [List.length_append, HPL.out, List.length_replicate]; omega) (by omega) bx.1 (by omega)).mono ?_
      rintro e w2 ⟨rfl, hr2, hs2, hg2⟩
      rw [HPUT.out, ← HNX.out] at hr2
      have HR2 := Lib.hid hr2
      have HB2 : Hid (Below w.heap.size w w2) := Lib.hid (below_only HB.out hg2 HB.out.size (by omega))
      clear hr2 hs2 hg2
      go_wp2_with fail
      go_roundw
      case rel => exact ⟨n + 1, by omega, by go_num, by rw [show 32 - 4 * (n + 1) = 28 - 4 * n by omega]; exact HR2.out, HB2.out⟩
      case measure => simp [intOf]; omega
    · obtain rfl : n = 8 := by omega
      have hfin : bytesL (s.take 8) ++ List.replicate (32 - 4 * 8) 0 = bytesL s := by
        rw [List.take_of_length_le (by rw [HS.out]; omega)]
        simp
      have hr := HR.out
      rw [hfin] at hr
      have HR2 := Lib.hid hr
      clear hr hfin
      go_wp2_with fail
      go_ret
      exact ⟨rfl, HR2.out, HB.out⟩
end Go.Proofs.YtcplfpnaepdddaaDoor
