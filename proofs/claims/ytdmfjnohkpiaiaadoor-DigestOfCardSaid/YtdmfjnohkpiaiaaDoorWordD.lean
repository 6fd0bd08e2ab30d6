/- The contract of the document's Words. -/
import Derived.Test.YtdmfjnohkpiaiaaDoorWordA
import Derived.Test.YtdmfjnohkpiaiaaDoorShaB
import Derived.OwnWalk
import Derived.Maps.AppendAt
import Derived.Deep.AppendLies
import Derived.IntWalk
import Derived.Deep.RegionLaw
namespace Go.Proofs.YtdmfjnohkpiaiaaDoor
open Go.RowKit
set_option linter.unusedVariables false

theorem infoU32' : (Tryd.prog.info? 31).map (fun i => (i.zero, i.size, i.bytes)) = some (some (.int .u32 0), 1, 4) := by kernel_rfl
def RefWordsPost (w : World) (bs : List Int) (e : Ending) (w' : World) : Prop :=
  ∃ g cap, e = .returned (.slice (some ⟨g, 0, none⟩) 64 cap) ∧ w'.ownsRow w.heap.size 31 1 (.slice (some ⟨g, 0, none⟩) 64 cap) 64 ((sched bs).map (Value.int .u32)) ∧ Below w.heap.size w w'
theorem own_drewN {w : World} {base : Nat} {e : TypeId} {size : Nat} {v : Value} {n : Nat} {xs : List Value} (h : w.ownsRow base e size v n xs) (k : Nat) : (w.drewN k).ownsRow base e size v n xs := h
def pre4 (bs : List Int) (i : Nat) : Nat → Int
  | 0 => 0
  | k + 1 => 256 * pre4 bs i k + bs.getD (4 * i + k) 0
theorem pre4_all (bs : List Int) (i : Nat) : pre4 bs i 4 = wordAt bs i := by
  simp [pre4, wordAt, wordOf]; omega
theorem pre4_bd {bs : List Int} (h : Bytes8 bs) (i : Nat) : ∀ k, k ≤ 3 → 0 ≤ pre4 bs i k ∧ pre4 bs i k ≤ 16777215
  | 0, _ => by simp [pre4]
  | 1, _ => by have := byte_at h (4 * i); simp [pre4]; simp at this; omega
  | 2, _ => by have h0 := byte_at h (4 * i); have h1 := byte_at h (4 * i + 1); simp [pre4]; simp at h0 h1; omega
  | 3, _ => by have h0 := byte_at h (4 * i); have h1 := byte_at h (4 * i + 1); have h2 := byte_at h (4 * i + 2); simp [pre4]; simp at h0 h1 h2; omega

set_option maxRecDepth 100000 in
set_option maxHeartbeats 2000000 in
theorem refWords_any (g off cap : Nat) (bs : List Int) (w : World) (hl : bs.length = 64) (hb8 : Bytes8 bs) (hseg : Seg .u8 w g off bs) (hg : g < w.heap.size) :
    Calls Tryd.prog 31 #[.slice (some ⟨g, off, none⟩) 64 cap] w (RefWordsPost w bs) := by
  obtain ⟨i0, hi0, hz0, hz1, hz2⟩ := info_parts infoU32'
  have HL := Lib.hid hl
  have HB8 := Lib.hid hb8
  have HSEG := Lib.hid hseg
  clear hl hb8 hseg
  go_enter Tryd.func31, Tryd.ntmps31
  go_wp2_with fail
  go_loopw [3, 4] (fun v i wx => ∃ k : Nat, k ≤ 16 ∧ i = .int .i64 k ∧ wx.ownsRow w.heap.size 31 1 v k ((first16 bs k).map (Value.int .u32)) ∧ Below w.heap.size w wx) (fun _ i _ => 16 - (intOf i).toNat)
  case atStart => exact ⟨0, by omega, rfl, World.ownsRow_nil _ _ _ _, Below.refl _ _⟩
  case round =>
    obtain ⟨k, hk, rfl, hown, hb⟩ := hrel
    have HO := Lib.hid hown
    have HB := Lib.hid hb
    clear hown hb
    by_cases hlt : k < 16
    · have hsg : Seg .u8 wr g off bs := HSEG.out.below HB.out hg
      have hl := HL.out
      have hcell : ∀ q, q < 4 → wr.cell? ⟨g, off + (4 * k + q), none⟩ = some (.int .u8 (bs.getD (4 * k + q) 0)) := fun q hq => hsg.cellD (4 * k + q) (by omega)
      have HC := Lib.hid hcell
      clear hsg hl hcell
      go_wp2_with fail
      go_loop [5, 6] (fun x i => ∃ q : Nat, q ≤ 4 ∧ i = .int .i64 q ∧ x = .int .u32 (pre4 bs k q)) (fun _ i => 4 - (intOf i).toNat)
      case atStart => exact ⟨0, by omega, rfl, rfl⟩
      case round =>
        obtain ⟨q, hq, rfl, rfl⟩ := hrel
        by_cases hlt2 : q < 4
        · have hp := pre4_bd HB8.out k q (by omega)
          have hy := byte_at HB8.out (4 * k + q)
          have hc := HC.out q hlt2
          have hpn : pre4 bs k (q + 1) = 256 * pre4 bs k q + bs.getD (4 * k + q) 0 := rfl
          have HPN := Lib.hid hpn
          clear hpn
          generalize pre4 bs k q = x at *
          generalize bs.getD (4 * k + q) 0 = y at *
          go_wp2_with fail
          go_round
          case rel => exact ⟨q + 1, by omega, by go_num, by rw [HPN.out]⟩
          case measure => simp [intOf]; omega
        · obtain rfl : q = 4 := by omega
          rw [pre4_all]
          generalize hx : wordAt bs k = x
          have HX := Lib.hid hx
          clear hx
          go_wp2_with (first
            | (at_builtin
               refine wpList_append_own _ rfl (.tmp 29) (.tmp 31) 30 rfl w.heap.size 31 i0 _ 1 4 Tryd.underlying30 hi0 hz0 hz1 hz2 rfl (by omega) u3 k ((first16 bs k).map (Value.int .u32)) rfl (HO.out.alloc _) ⟨wr.heap.size, 0, none⟩ 1 1 [.int .u32 x] rfl rfl (cell_one_new _ _ _) (by simp [Value.oneCell']) (by simp only [maxLen]; omega) (by omega) (by have := HB.out.size; simp; omega) ?_
               intro v1 w1 hown1 hg1 hat1
               have HO1 := Lib.hid hown1
               have HG1 := Lib.hid hg1
               clear hown1 hat1 hg1))
          go_roundw
          case rel =>
            refine ⟨k + 1, by omega, by go_num, ?_, ?_⟩
            · have h := HO1.out
              rw [first16_succ, List.map_append, HX.out]
              exact h
            · exact (HB.out.alloc HB.out.size _).grown HG1.out (by have := HB.out.size; simp; omega) (fun j hj => (HO.out.lt j hj).1)
          case measure => simp [intOf]; omega
    · obtain rfl : k = 16 := by omega
      rw [show ((16 : Nat) : Int) = 16 from rfl]
      go_wp2_with fail
      go_loopw [3, 7] (fun v i wx => ∃ n gg cp : Nat, 16 ≤ n ∧ n ≤ 64 ∧ i = .int .i64 n ∧ v = .slice (some ⟨gg, 0, none⟩) n cp ∧ wx.ownsRow w.heap.size 31 1 (.slice (some ⟨gg, 0, none⟩) n cp) n ((extW (first16 bs 16) (n - 16)).map (Value.int .u32)) ∧ Below w.heap.size w wx) (fun _ i _ => 64 - (intOf i).toNat)
      case atStart =>
        have ho := HO.out
        obtain ⟨gg, cp, hv, _, _⟩ := ho.form (by omega)
        rw [hv] at ho
        exact ⟨16, gg, cp, by omega, by omega, rfl, hv, ho, HB.out⟩
      case round =>
        obtain ⟨n, gg, cp, hn, hn2, rfl, rfl, hown, hb⟩ := hrel
        clear HO HB
        have HO := Lib.hid hown
        have HB := Lib.hid hb
        clear hown hb
        by_cases hlt : n < 64
        · have hlm : (extW (first16 bs 16) (n - 16)).length = n := by rw [extW_length, first16_length]; omega
          have hbd := extW_bd (first16_bd HB8.out 16) (n - 16)
          have cell : ∀ j, 2 ≤ j → j ≤ 16 → wr.cell? ⟨gg, n - j, none⟩ = some (.int .u32 ((extW (first16 bs 16) (n - 16)).getD (n - j) 0)) := fun j h1 h2 => by
            have h := HO.out.cells (g := gg) rfl (n - j) (.int .u32 ((extW (first16 bs 16) (n - 16)).getD (n - j) 0)) (by simp [List.getD, show n - j < (extW (first16 bs 16) (n - 16)).length by omega])
            have hp : (⟨gg, 0, none⟩ : Addr).add (n - j) = ⟨gg, n - j, none⟩ := by unfold Addr.add; split <;> simp_all
            rw [hp] at h
            exact h
          have c16 := cell 16 (by omega) (by omega)
          have c15 := cell 15 (by omega) (by omega)
          have c7 := cell 7 (by omega) (by omega)
          have c2 := cell 2 (by omega) (by omega)
          have b16 := word_at hbd (n - 16)
          have b15 := word_at hbd (n - 15)
          have b7 := word_at hbd (n - 7)
          have b2 := word_at hbd (n - 2)
          have hnext : nextW (extW (first16 bs 16) (n - 16)) = ((extW (first16 bs 16) (n - 16)).getD (n - 16) 0 + sp3 ((extW (first16 bs 16) (n - 16)).getD (n - 15) 0) 7 18 3 + (extW (first16 bs 16) (n - 16)).getD (n - 7) 0 + sp3 ((extW (first16 bs 16) (n - 16)).getD (n - 2) 0) 17 19 10) % 4294967296 := by
            unfold nextW; rw [hlm]
          generalize (extW (first16 bs 16) (n - 16)).getD (n - 16) 0 = x16 at *
          generalize (extW (first16 bs 16) (n - 16)).getD (n - 15) 0 = x15 at *
          generalize (extW (first16 bs 16) (n - 16)).getD (n - 7) 0 = x7 at *
          generalize (extW (first16 bs 16) (n - 16)).getD (n - 2) 0 = x2 at *
          have HN := Lib.hid hnext
          have HLM := Lib.hid hlm
          have s15 := sp3_bd x15 7 18 3
          have s2 := sp3_bd x2 17 19 10
          clear hlm hbd cell hnext
          go_wp2_with fail
          have wr16 : IntKind.i64.wrap ((n : Int) - 16) = (n : Int) - 16 := IntWalk.i64_in _ (by omega)
          have nn16 : (0 : Int) ≤ (n : Int) - 16 := by omega
          have ni16 : (16 : Int) ≤ (n : Int) := by omega
          have ub16 : (n : Int) - 16 < (n : Int) := by omega
          have tn16 : ((n : Int) - 16).toNat = n - 16 := by omega
          have wr15 : IntKind.i64.wrap ((n : Int) - 15) = (n : Int) - 15 := IntWalk.i64_in _ (by omega)
          have nn15 : (0 : Int) ≤ (n : Int) - 15 := by omega
          have ni15 : (15 : Int) ≤ (n : Int) := by omega
          have ub15 : (n : Int) - 15 < (n : Int) := by omega
          have tn15 : ((n : Int) - 15).toNat = n - 15 := by omega
          have wr7 : IntKind.i64.wrap ((n : Int) - 7) = (n : Int) - 7 := IntWalk.i64_in _ (by omega)
          have nn7 : (0 : Int) ≤ (n : Int) - 7 := by omega
          have ni7 : (7 : Int) ≤ (n : Int) := by omega
          have ub7 : (n : Int) - 7 < (n : Int) := by omega
          have tn7 : ((n : Int) - 7).toNat = n - 7 := by omega
          have wr2 : IntKind.i64.wrap ((n : Int) - 2) = (n : Int) - 2 := IntWalk.i64_in _ (by omega)
          have nn2 : (0 : Int) ≤ (n : Int) - 2 := by omega
          have ni2 : (2 : Int) ≤ (n : Int) := by omega
          have ub2 : (n : Int) - 2 < (n : Int) := by omega
          have tn2 : ((n : Int) - 2).toNat = n - 2 := by omega
          go_quiet ((go_at_call 36; exact Calls.quiet_of (turn_any _ _ _ b15.1 b15.2 (by omega) (by omega))))
          go_wp2_with fail
          go_quiet ((go_at_call 36; exact quiet_add (turn_any _ _ _ b2.1 b2.2 (by omega) (by omega))))
          go_wp2_with fail
          have e15 : bits .xor .u32 (bits .xor .u32 (rotr x15 7) (rotr x15 18)) (x15 / 8) = sp3 x15 7 18 3 := by unfold sp3; rfl
          have e2 : bits .xor .u32 (bits .xor .u32 (rotr x2 17) (rotr x2 19)) (x2 / 1024) = sp3 x2 17 19 10 := by unfold sp3; rfl
          rw [e15, e2]
          clear e15 e2
          generalize hS1 : sp3 x15 7 18 3 = y15 at *
          generalize hS2 : sp3 x2 17 19 10 = y2 at *
          have HS1 := Lib.hid hS1
          have HS2 := Lib.hid hS2
          clear hS1 hS2
          go_region_law (first
            | (refine step_append_lies _ (by rfl) (.tmp 77) (.tmp 93) 30 (by rfl) w.heap.size 31 i0 _ 1 4 Tryd.underlying30 hi0 hz0 hz1 hz2 rfl (by omega) (.slice (some ⟨gg, 0, none⟩) n cp) n ((extW (first16 bs 16) (n - 16)).map (Value.int .u32)) (by rfl) ((own_drewN HO.out _).alloc _) ⟨wr.heap.size, 0, none⟩ 1 1 [.int .u32 (IntKind.u32.wrap (IntKind.u32.wrap (IntKind.u32.wrap (x16 + y15) + x7) + y2))] (by rfl) (by rfl) (cell_one_new (wr.drewN _) _ _) (by simp [Value.oneCell']) (by omega) (by simp only [maxLen]; omega) (by omega) (by have := HB.out.size; simp; omega) (wr.heap.size + 1) (by simp) ?_; intro g5 cap5 w5 hown5 hg5 hat5 hlt5; have HO5 := Lib.hid hown5; have HG5 := Lib.hid hg5; clear hown5 hg5 hat5 hlt5))
          all_goals
            clear wr16 nn16 ni16 ub16 tn16 wr15 nn15 ni15 ub15 tn15 wr7 nn7 ni7 ub7 tn7 wr2 nn2 ni2 ub2 tn2 c16 c15 c7 c2 b16 b15 b7 b2 s15 s2
            go_wp2_with fail
            go_roundw
            case rel =>
              refine ⟨n + 1, g5, cap5, by omega, by omega, by go_num, rfl, ?_, ?_⟩
              · have h := HO5.out
                rw [wrap_sum, ← HN.out] at h
                rw [show n + 1 - 16 = (n - 16) + 1 by omega, extW, List.map_append]
                exact h
              · exact ((below_drewN HB.out _).alloc HB.out.size _).grown HG5.out (by have := HB.out.size; simp; omega) (fun j hj => (HO.out.lt j hj).1)
            case measure => simp [intOf]; omega
        · obtain rfl : n = 64 := by omega
          go_wp2_with fail
          go_ret
          exact ⟨gg, cp, rfl, HO.out, HB.out⟩
end Go.Proofs.YtdmfjnohkpiaiaaDoor
