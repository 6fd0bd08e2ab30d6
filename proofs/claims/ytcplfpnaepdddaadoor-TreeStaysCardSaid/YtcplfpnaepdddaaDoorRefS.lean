/- The contract of the document's Tail. The contract of the document's Words. The contract of the document's step of a block. Facts on states and tables that the laws ask. The contract of the document's digest. -/
import Derived.Test.YtcplfpnaepdddaaDoorLib
import Derived.Test.YtcplfpnaepdddaaDoorShaP
import Derived.OwnWalk
import Derived.Deep.AppendLies
import Derived.Maps.AppendAt
import Derived.IntWalk
import Derived.Deep.RegionLaw
import Derived.Test.YtcplfpnaepdddaaDoorMade
import Derived.Deep.RegionWith
import Derived.Lib.IfaceEq
import Derived.Deep.DeepCutAuto
/- The contract of the document's Tail. -/
namespace Go.Proofs.YtcplfpnaepdddaaDoor
open Go.RowKit
set_option linter.unusedVariables false

def RefTailPost (w : World) (n : Nat) (e : Ending) (w' : World) : Prop :=
  ∃ v, e = .returned v ∧ w'.ownsRow w.heap.size 5 1 v (nils n + 9) ((tailL n).map (Value.int .u8)) ∧ Below w.heap.size w w'

set_option maxHeartbeats 1000000 in
theorem refTail_any (n : Nat) (w : World) (hn : (n : Int) ≤ 1125899906842624) :
    Calls Tryd.prog 56 #[.int .i64 n] w (RefTailPost w n) := by
  obtain ⟨i0, hi0, hz0, hz1, hz2⟩ := info_parts infoU8
  have hnl := nils_lt n
  go_enter Tryd.func56, Tryd.ntmps56
  go_wp2_with fail
  go_loopw [3] (fun v wx => ∃ j g cap : Nat, j ≤ nils n ∧ v = .slice (some ⟨g, 0, none⟩) (1 + j) cap ∧ wx.ownsRow w.heap.size 5 1 (.slice (some ⟨g, 0, none⟩) (1 + j) cap) (1 + j) ((128 :: List.replicate j 0).map (Value.int .u8)) ∧ Below w.heap.size w wx) (fun v _ => nils n + 1 - lenV v)
  case atStart =>
    refine ⟨0, w.heap.size, 1, Nat.zero_le _, rfl, ⟨by simp, .inr ⟨w.heap.size, 1, #[.int .u8 128], rfl, Nat.le_refl _, heap_alloc_new w _, by omega, by simp [maxLen], by simp, by simp⟩⟩, (Below.refl _ _).alloc (Nat.le_refl _) _⟩
  case round =>
    obtain ⟨j, g, cap, hj, rfl, hown, hb⟩ := hrel
    have HO := Lib.hid hown
    clear hown
    by_cases hlt : j < nils n
    · have ht : (((n : Int) + (1 + (j : Int))) % 64 != 56) = true := by
        rw [bne_iff_ne]
        unfold nils at hlt
        omega
      go_wp2_with (first
        | (at_builtin
           refine wpList_append_own _ rfl (.tmp 14) (.tmp 15) 22 rfl w.heap.size 5 i0 _ 1 1 Tryd.underlying22 hi0 hz0 hz1 hz2 rfl (by omega) (.slice (some ⟨g, 0, none⟩) (1 + j) cap) (1 + j) ((128 :: List.replicate j 0).map (Value.int .u8)) rfl (HO.out.alloc _)
             ⟨wr.heap.size, 0, none⟩ 1 1 [.int .u8 0] rfl rfl (cell_one_new _ _ _) (by simp [Value.oneCell']) (by simp only [maxLen]; omega) (by omega) (by have := hb.size; simp; omega) ?_
           intro v1 w1 hown1 hg1 hat1
           obtain ⟨g1, cap1, hv1, hgg1, hlt1⟩ := hown1.form (by omega)
           rw [hv1]
           rw [hv1] at hown1
           have HO1 := Lib.hid hown1
           clear hown1 hat1 hv1))
      go_roundw
      case rel =>
        refine ⟨j + 1, g1, cap1, by omega, rfl, ?_, ?_⟩
        · have h := HO1.out
          rw [rep_snoc] at h
          exact h
        · exact (hb.alloc hb.size _).grown hg1 (by have := hb.size; simp; omega) (fun k hk => (HO.out.lt k hk).1)
      case measure => simp [lenV]; omega
    · obtain rfl : j = nils n := by omega
      have ht : (((n : Int) + (1 + (nils n : Int))) % 64 != 56) = false := by
        have : ((n : Int) + (1 + (nils n : Int))) % 64 = 56 := by
          unfold nils
          omega
        rw [this]; rfl
      go_wp2_with (first
        | (at_make
           refine wpList_make_ints _ rfl (.const (.int .i64 8)) (.const (.int .i64 8)) 22 rfl 5 i0 .u8 Tryd.underlying22 hi0 hz0 hz1 .i64 .i64 _ _ 8 rfl rfl (by omega) (by omega) (by rw [hz2]; omega) (by simp only [maxLen]; omega) ?_
           intro w1 hr1 hb1 hs1
           have HR1 := Lib.hid hr1
           have HS1 := Lib.hid hs1
           clear hr1 hs1))
      obtain ⟨w0, hw0⟩ : ∃ w0, w0 = wr := ⟨wr, rfl⟩
      subst hw0
      go_loopw [5, 6] (fun x i wx => ∃ m : Nat, m ≤ 8 ∧ i = .int .i64 ((m : Int) - 1) ∧ x = .int .u64 ((8 * (n : Int)) / 256 ^ (8 - m)) ∧ Row .u8 wx 5 w0.heap.size (bitsAt (8 * (n : Int)) m) ∧ wx.heap.size = w1.heap.size ∧ w1.grownBy wx (some w0.heap.size)) (fun _ i _ => (intOf i + 1).toNat)
      case atStart => exact ⟨8, by omega, rfl, by simp, HR1.out, rfl, only_refl _ _⟩
      case round =>
        obtain ⟨m, hm, rfl, rfl, hr, hs, hg⟩ := hrel
        have HS := Lib.hid hs
        have HG := Lib.hid hg
        clear hs hg
        by_cases hm0 : m = 0
        · subst hm0
          have hnews := hr.seg
          have HR := Lib.hid hr
          clear hr
          have hgl := HO.out.lt g rfl
          have own2 := (HO.out.kept (only_below hb1 none) (.inr (by simp [Value.ownBlock]))).kept HG.out (.inr (by simp [Value.ownBlock]; omega))
          have HO2 := Lib.hid own2
          have HN := Lib.hid hnews
          have hb3 : Below w.heap.size w wr := (hb.trans (hb1.mono hb.size)).grown HG.out (by have := hb.size; rw [HS1.out]; omega) (fun k hk => by have := hb.size; injection hk; omega)
          clear own2 hnews
          go_wp2_with (first
            | (at_builtin
               refine wpList_append_own _ rfl (.tmp 33) (.tmp 34) 22 rfl w.heap.size 5 i0 _ 1 1 Tryd.underlying22 hi0 hz0 hz1 hz2 rfl (by omega) (.slice (some ⟨g, 0, none⟩) (1 + nils n) cap) (1 + nils n) ((128 :: List.replicate (nils n) 0).map (Value.int .u8)) rfl HO2.out ⟨w0.heap.size, 0, none⟩ 8 8 ((be8 (8 * (n : Int))).map (Value.int .u8)) rfl rfl (by have h := HN.out.news; exact h) (by simp [be8, Value.oneCell']) (by simp only [maxLen]; omega) (by omega) hb3.size ?_
               intro v1 w2 hown1 hg1 hat1
               have HO1 := Lib.hid hown1
               have HG1 := Lib.hid hg1
               clear hown1 hat1 hg1))
          go_ret
          refine ⟨v1, rfl, ?_, hb3.grown HG1.out hb3.size (fun k hk => (HO2.out.lt k hk).1)⟩
          have h := HO1.out
          rw [← List.map_append, show 1 + nils n + 8 = nils n + 9 by omega] at h
          exact h
        · obtain ⟨q, rfl⟩ : ∃ q, m = q + 1 := ⟨m - 1, by omega⟩
          have hlen := bitsAt_length (8 * (n : Int)) (q + 1) hm
          obtain ⟨z0, hc⟩ := hr.has q (by omega)
          have hf := hr.frozen q
          have HR := Lib.hid hr
          clear hr hlen
          generalize hy : (8 * (n : Int)) / 256 ^ (8 - (q + 1)) = y
          have hy0 : 0 ≤ y := by rw [← hy]; exact Int.ediv_nonneg (by omega) (Int.pow_nonneg (by omega))
          have hy1 : y ≤ 9007199254740992 := by
            rw [← hy]
            exact Int.le_trans (Int.ediv_le_self _ (by omega)) (by omega)
          have HY := Lib.hid hy
          clear hy
          rw [show ((q + 1 : Nat) : Int) - 1 = (q : Int) by omega]
          go_wp2_with fail
          go_roundw
          case rel =>
            refine ⟨q, by omega, rfl, ?_, ?_, by simpa [World.setCell] using HS.out, only_set HG.out _ _⟩
            · rw [← HY.out, show 8 - (q + 1) = 7 - q by omega, pow_step _ _ (by omega)]
            · have h := HR.out.set q (y % 256)
              rw [← HY.out, show 8 - (q + 1) = 7 - q by omega, bitsAt_step _ _ (by omega)] at h
              rw [← HY.out, show 8 - (q + 1) = 7 - q by omega]
              exact h
          case measure => simp [intOf]
end Go.Proofs.YtcplfpnaepdddaaDoor

/- The contract of the document's Words. -/
namespace Go.Proofs.YtcplfpnaepdddaaDoor
open Go.RowKit
set_option linter.unusedVariables false

theorem infoU32' : (Tryd.prog.info? 39).map (fun i => (i.zero, i.size, i.bytes)) = some (some (.int .u32 0), 1, 4) := by kernel_rfl
def RefWordsPost (w : World) (bs : List Int) (e : Ending) (w' : World) : Prop :=
  ∃ g cap, e = .returned (.slice (some ⟨g, 0, none⟩) 64 cap) ∧ w'.ownsRow w.heap.size 39 1 (.slice (some ⟨g, 0, none⟩) 64 cap) 64 ((sched bs).map (Value.int .u32)) ∧ Below w.heap.size w w'
theorem own_drewN {w : World} {base : Nat} {e : TypeId} {size : Nat} {v : Value} {n : Nat} {xs : List Value} (h : w.ownsRow base e size v n xs) (k : Nat) : (w.drewN k).ownsRow base e size v n xs := h
def pre4 (bs : List Int) (i : Nat) : Nat → Int
  | 0 => 0
  | k + 1 => 256 * pre4 bs i k + bs.getD (4 * i + k) 0
theorem pre4_all (bs : List Int) (i : Nat) : pre4 bs i 4 = wordAt bs i := by
  simp [pre4, wordAt, wordOf]; omega
theorem pre4_bd {bs : List Int} (h : Bytes8 bs) (i : Nat) : ∀ k, k ≤ 3 → 0 ≤ pre4 bs i k ∧ pre4 bs i k ≤ 16777215
  | 0, _ => by simp [pre4]
  | 1, _ => by have := byte_at h (4 * i); simp [pre4]; simp at this; omega
  | 2, _ => by have h0 := byte_at h (4 * i); have h1 := byte_at h (4 * i + 1); simp [pre4]; simp at h0 h1; omega
  | 3, _ => by have h0 := byte_at h (4 * i); have h1 := byte_at h (4 * i + 1); have h2 := byte_at h (4 * i + 2); simp [pre4]; simp at h0 h1 h2; omega

set_option maxRecDepth 100000 in
set_option maxHeartbeats 2000000 in
theorem refWords_any (g off cap : Nat) (bs : List Int) (w : World) (hl : bs.length = 64) (hb8 : Bytes8 bs) (hseg : Seg .u8 w g off bs) (hg : g < w.heap.size) :
    Calls Tryd.prog 65 #[.slice (some ⟨g, off, none⟩) 64 cap] w (RefWordsPost w bs) := by
  obtain ⟨i0, hi0, hz0, hz1, hz2⟩ := info_parts infoU32'
  have HL := Lib.hid hl
  have HB8 := Lib.hid hb8
  have HSEG := Lib.hid hseg
  clear hl hb8 hseg
  go_enter Tryd.func65, Tryd.ntmps65
  go_wp2_with fail
  go_loopw [3, 4] (fun v i wx => ∃ k : Nat, k ≤ 16 ∧ i = .int .i64 k ∧ wx.ownsRow w.heap.size 39 1 v k ((first16 bs k).map (Value.int .u32)) ∧ Below w.heap.size w wx) (fun _ i _ => 16 - (intOf i).toNat)
  case atStart => exact ⟨0, by omega, rfl, World.ownsRow_nil _ _ _ _, Below.refl _ _⟩
  case round =>
    obtain ⟨k, hk, rfl, hown, hb⟩ := hrel
    have HO := Lib.hid hown
    have HB := Lib.hid hb
    clear hown hb
    by_cases hlt : k < 16
    · have hsg : Seg .u8 wr g off bs := HSEG.out.below HB.out hg
      have hl := HL.out
      have hcell : ∀ q, q < 4 → wr.cell? ⟨g, off + (4 * k + q), none⟩ = some (.int .u8 (bs.getD (4 * k + q) 0)) := fun q hq => hsg.cellD (4 * k + q) (by omega)
      have HC := Lib.hid hcell
      clear hsg hl hcell
      go_wp2_with fail
      go_loop [5, 6] (fun x i => ∃ q : Nat, q ≤ 4 ∧ i = .int .i64 q ∧ x = .int .u32 (pre4 bs k q)) (fun _ i => 4 - (intOf i).toNat)
      case atStart => exact ⟨0, by omega, rfl, rfl⟩
      case round =>
        obtain ⟨q, hq, rfl, rfl⟩ := hrel
        by_cases hlt2 : q < 4
        · have hp := pre4_bd HB8.out k q (by omega)
          have hy := byte_at HB8.out (4 * k + q)
          have hc := HC.out q hlt2
          have hpn : pre4 bs k (q + 1) = 256 * pre4 bs k q + bs.getD (4 * k + q) 0 := rfl
          have HPN := Lib.hid hpn
          clear hpn
          generalize pre4 bs k q = x at *
          generalize bs.getD (4 * k + q) 0 = y at *
          go_wp2_with fail
          go_round
          case rel => exact ⟨q + 1, by omega, by go_num, by rw [HPN.out]⟩
          case measure => simp [intOf]; omega
        · obtain rfl : q = 4 := by omega
          rw [pre4_all]
          generalize hx : wordAt bs k = x
          have HX := Lib.hid hx
          clear hx
          go_wp2_with (first
            | (at_builtin
               refine wpList_append_own _ rfl (.tmp 29) (.tmp 31) 38 rfl w.heap.size 39 i0 _ 1 4 Tryd.underlying38 hi0 hz0 hz1 hz2 rfl (by omega) u3 k ((first16 bs k).map (Value.int .u32)) rfl (HO.out.alloc _) ⟨wr.heap.size, 0, none⟩ 1 1 [.int .u32 x] rfl rfl (cell_one_new _ _ _) (by simp [Value.oneCell']) (by simp only [maxLen]; omega) (by omega) (by have := HB.out.size; simp; omega) ?_
               intro v1 w1 hown1 hg1 hat1
               have HO1 := Lib.hid hown1
               have HG1 := Lib.hid hg1
               clear hown1 hat1 hg1))
          go_roundw
          case rel =>
            refine ⟨k + 1, by omega, by go_num, ?_, ?_⟩
            · have h := HO1.out
              rw [first16_succ, List.map_append, HX.out]
              exact h
            · exact (HB.out.alloc HB.out.size _).grown HG1.out (by have := HB.out.size; simp; omega) (fun j hj => (HO.out.lt j hj).1)
          case measure => simp [intOf]; omega
    · obtain rfl : k = 16 := by omega
      rw [show ((16 : Nat) : Int) = 16 from rfl]
      go_wp2_with fail
      go_loopw [3, 7] (fun v i wx => ∃ n gg cp : Nat, 16 ≤ n ∧ n ≤ 64 ∧ i = .int .i64 n ∧ v = .slice (some ⟨gg, 0, none⟩) n cp ∧ wx.ownsRow w.heap.size 39 1 (.slice (some ⟨gg, 0, none⟩) n cp) n ((extW (first16 bs 16) (n - 16)).map (Value.int .u32)) ∧ Below w.heap.size w wx) (fun _ i _ => 64 - (intOf i).toNat)
      case atStart =>
        have ho := HO.out
        obtain ⟨gg, cp, hv, _, _⟩ := ho.form (by omega)
        rw [hv] at ho
        exact ⟨16, gg, cp, by omega, by omega, rfl, hv, ho, HB.out⟩
      case round =>
        obtain ⟨n, gg, cp, hn, hn2, rfl, rfl, hown, hb⟩ := hrel
        clear HO HB
        have HO := Lib.hid hown
        have HB := Lib.hid hb
        clear hown hb
        by_cases hlt : n < 64
        · have hlm : (extW (first16 bs 16) (n - 16)).length = n := by rw [extW_length, first16_length]; omega
          have hbd := extW_bd (first16_bd HB8.out 16) (n - 16)
          have cell : ∀ j, 2 ≤ j → j ≤ 16 → wr.cell? ⟨gg, n - j, none⟩ = some (.int .u32 ((extW (first16 bs 16) (n - 16)).getD (n - j) 0)) := fun j h1 h2 => by
            have h := HO.out.cells (g := gg) rfl (n - j) (.int .u32 ((extW (first16 bs 16) (n - 16)).getD (n - j) 0)) (by simp [List.getD, show n - j < (extW (first16 bs 16) (n - 16)).length by omega])
            have hp : (⟨gg, 0, none⟩ : Addr).add (n - j) = ⟨gg, n - j, none⟩ := by unfold Addr.add; split <;> simp_all
            rw [hp] at h
            exact h
          have c16 := cell 16 (by omega) (by omega)
          have c15 := cell 15 (by omega) (by omega)
          have c7 := cell 7 (by omega) (by omega)
          have c2 := cell 2 (by omega) (by omega)
          have b16 := word_at hbd (n - 16)
          have b15 := word_at hbd (n - 15)
          have b7 := word_at hbd (n - 7)
          have b2 := word_at hbd (n - 2)
          have hnext : nextW (extW (first16 bs 16) (n - 16)) = ((extW (first16 bs 16) (n - 16)).getD (n - 16) 0 + sp3 ((extW (first16 bs 16) (n - 16)).getD (n - 15) 0) 7 18 3 + (extW (first16 bs 16) (n - 16)).getD (n - 7) 0 + sp3 ((extW (first16 bs 16) (n - 16)).getD (n - 2) 0) 17 19 10) % 4294967296 := by
            unfold nextW; rw [hlm]
          generalize (extW (first16 bs 16) (n - 16)).getD (n - 16) 0 = x16 at *
          generalize (extW (first16 bs 16) (n - 16)).getD (n - 15) 0 = x15 at *
          generalize (extW (first16 bs 16) (n - 16)).getD (n - 7) 0 = x7 at *
          generalize (extW (first16 bs 16) (n - 16)).getD (n - 2) 0 = x2 at *
          have HN := Lib.hid hnext
          have HLM := Lib.hid hlm
          have s15 := sp3_bd x15 7 18 3
          have s2 := sp3_bd x2 17 19 10
          clear hlm hbd cell hnext
          go_wp2_with fail
          have wr16 : IntKind.i64.wrap ((n : Int) - 16) = (n : Int) - 16 := IntWalk.i64_in _ (by omega)
          have nn16 : (0 : Int) ≤ (n : Int) - 16 := by omega
          have ni16 : (16 : Int) ≤ (n : Int) := by omega
          have ub16 : (n : Int) - 16 < (n : Int) := by omega
          have tn16 : ((n : Int) - 16).toNat = n - 16 := by omega
          have wr15 : IntKind.i64.wrap ((n : Int) - 15) = (n : Int) - 15 := IntWalk.i64_in _ (by omega)
          have nn15 : (0 : Int) ≤ (n : Int) - 15 := by omega
          have ni15 : (15 : Int) ≤ (n : Int) := by omega
          have ub15 : (n : Int) - 15 < (n : Int) := by omega
          have tn15 : ((n : Int) - 15).toNat = n - 15 := by omega
          have wr7 : IntKind.i64.wrap ((n : Int) - 7) = (n : Int) - 7 := IntWalk.i64_in _ (by omega)
          have nn7 : (0 : Int) ≤ (n : Int) - 7 := by omega
          have ni7 : (7 : Int) ≤ (n : Int) := by omega
          have ub7 : (n : Int) - 7 < (n : Int) := by omega
          have tn7 : ((n : Int) - 7).toNat = n - 7 := by omega
          have wr2 : IntKind.i64.wrap ((n : Int) - 2) = (n : Int) - 2 := IntWalk.i64_in _ (by omega)
          have nn2 : (0 : Int) ≤ (n : Int) - 2 := by omega
          have ni2 : (2 : Int) ≤ (n : Int) := by omega
          have ub2 : (n : Int) - 2 < (n : Int) := by omega
          have tn2 : ((n : Int) - 2).toNat = n - 2 := by omega
          go_quiet ((go_at_call 71; exact Calls.quiet_of (turn_any _ _ _ b15.1 b15.2 (by omega) (by omega))))
          go_wp2_with fail
          go_quiet ((go_at_call 71; exact quiet_add (turn_any _ _ _ b2.1 b2.2 (by omega) (by omega))))
          go_wp2_with fail
          have e15 : bits .xor .u32 (bits .xor .u32 (rotr x15 7) (rotr x15 18)) (x15 / 8) = sp3 x15 7 18 3 := by unfold sp3; rfl
          have e2 : bits .xor .u32 (bits .xor .u32 (rotr x2 17) (rotr x2 19)) (x2 / 1024) = sp3 x2 17 19 10 := by unfold sp3; rfl
          rw [e15, e2]
          clear e15 e2
          generalize hS1 : sp3 x15 7 18 3 = y15 at *
          generalize hS2 : sp3 x2 17 19 10 = y2 at *
          have HS1 := Lib.hid hS1
          have HS2 := Lib.hid hS2
          clear hS1 hS2
          go_region_law (first
            | (refine step_append_lies _ (by rfl) (.tmp 77) (.tmp 93) 38 (by rfl) w.heap.size 39 i0 _ 1 4 Tryd.underlying38 hi0 hz0 hz1 hz2 rfl (by omega) (.slice (some ⟨gg, 0, none⟩) n cp) n ((extW (first16 bs 16) (n - 16)).map (Value.int .u32)) (by rfl) ((own_drewN HO.out _).alloc _) ⟨wr.heap.size, 0, none⟩ 1 1 [.int .u32 (IntKind.u32.wrap (IntKind.u32.wrap (IntKind.u32.wrap (x16 + y15) + x7) + y2))] (by rfl) (by rfl) (cell_one_new (wr.drewN _) _ _) (by simp [Value.oneCell']) (by omega) (by simp only [maxLen]; omega) (by omega) (by have := HB.out.size; simp; omega) (wr.heap.size + 1) (by simp) ?_; intro g5 cap5 w5 hown5 hg5 hat5 hlt5; have HO5 := Lib.hid hown5; have HG5 := Lib.hid hg5; clear hown5 hg5 hat5 hlt5))
          all_goals
            clear wr16 nn16 ni16 ub16 tn16 wr15 nn15 ni15 ub15 tn15 wr7 nn7 ni7 ub7 tn7 wr2 nn2 ni2 ub2 tn2 c16 c15 c7 c2 b16 b15 b7 b2 s15 s2
            go_wp2_with fail
            go_roundw
            case rel =>
              refine ⟨n + 1, g5, cap5, by omega, by omega, by go_num, rfl, ?_, ?_⟩
              · have h := HO5.out
                rw [wrap_sum, ← HN.out] at h
                rw [show n + 1 - 16 = (n - 16) + 1 by omega, extW, List.map_append]
                exact h
              · exact ((below_drewN HB.out _).alloc HB.out.size _).grown HG5.out (by have := HB.out.size; simp; omega) (fun j hj => (HO.out.lt j hj).1)
            case measure => simp [intOf]; omega
        · obtain rfl : n = 64 := by omega
          go_wp2_with fail
          go_ret
          exact ⟨gg, cp, rfl, HO.out, HB.out⟩
end Go.Proofs.YtcplfpnaepdddaaDoor

/- The contract of the document's step of a block. -/
namespace Go.Proofs.YtcplfpnaepdddaaDoor
open Go.RowKit
set_option linter.unusedVariables false

theorem refRound_list (s : List Int) (k v : Int) (w : World) (hs : s.length = 8) (hsb : Words32 s) (hk : 0 ≤ k) (hk2 : k ≤ 4294967295) (hv : 0 ≤ v) (hv2 : v ≤ 4294967295) :
    Calls Tryd.prog 66 #[stV s, .int .u32 k, .int .u32 v] w fun e w' => e = .returned (stV (rnd s k v)) ∧ Below w.heap.size w w' := by
  obtain ⟨a, b, c, d, e, f, g, z, rfl⟩ := list_8 s hs
  have ba := hsb a (by simp)
  have bd := hsb d (by simp)
  have be := hsb e (by simp)
  have bz := hsb z (by simp)
  exact refRound_any a b c d e f g z k v w ba.1 ba.2 bd.1 bd.2 be.1 be.2 bz.1 bz.2 hk hk2 hv hv2
theorem tab_row (w : World) (gk ck : Nat) (o1 o2 : Obj) : TB (((w.alloc (.cells (Value.slice (some ⟨gk, 0, none⟩) 64 ck :: hTab.map (Value.int .u32)).toArray 42)).alloc o1).alloc o2) w.heap.size (.slice (some ⟨gk, 0, none⟩) 64 ck) hTab := by
  have h : TB (w.alloc (.cells (Value.slice (some ⟨gk, 0, none⟩) 64 ck :: hTab.map (Value.int .u32)).toArray 42)) w.heap.size (.slice (some ⟨gk, 0, none⟩) 64 ck) hTab := heap_alloc_new w _
  exact (h.alloc _).alloc _


set_option maxRecDepth 100000 in
set_option maxHeartbeats 4000000 in
theorem refStep_any (g off cap gk ck : Nat) (s bs : List Int) (w : World) (hs : s.length = 8) (hsb : Words32 s) (hl : bs.length = 64) (hb8 : Bytes8 bs) (hseg : Seg .u8 w g off bs) (hg : g < w.heap.size) (hks : Seg .u32 w gk 0 kTab) (hgk : gk < w.heap.size) :
    Calls Tryd.prog 57 #[tabV gk ck, stV s, .slice (some ⟨g, off, none⟩) 64 cap] w (StepPost w s bs) := by
  have hlen := sched_length bs
  have hwb := sched_bd hb8
  have hi8 : (Tryd.prog.info? 40).map (·.size) = some s.length := by rw [hs]; exact sizeA8
  have b3 : ∀ o1 o2 o3, Below w.heap.size w (((w.alloc o1).alloc o2).alloc o3) := fun o1 o2 o3 => (((Below.refl _ _).alloc (Nat.le_refl _) _).alloc (by simp) _).alloc (by simp; omega) _
  have r1 : ∀ o1 o3, Row .u32 (((w.alloc o1).alloc (.cells (s.map (Value.int .u32)).toArray 40)).alloc o3) 40 (w.heap.size + 1) s := fun o1 o3 => by
    have h := (Row.new (k := .u32) (w.alloc o1) 40 s).alloc o3
    have e : (w.alloc o1).heap.size = w.heap.size + 1 := by simp
    rw [e] at h
    exact h
  have r2 : ∀ o1 o2, Row .u32 (((w.alloc o1).alloc o2).alloc (.cells (([0, 0, 0, 0, 0, 0, 0, 0] : List Int).map (Value.int .u32)).toArray 40)) 40 (w.heap.size + 2) [0, 0, 0, 0, 0, 0, 0, 0] := fun o1 o2 => by
    have h := Row.new (k := .u32) ((w.alloc o1).alloc o2) 40 [0, 0, 0, 0, 0, 0, 0, 0]
    have e : ((w.alloc o1).alloc o2).heap.size = w.heap.size + 2 := by simp
    rw [e] at h
    exact h
  have HI8 := Lib.hid hi8
  have HL := Lib.hid hlen
  have HWB := Lib.hid hwb
  have HS := Lib.hid hs
  have HSB := Lib.hid hsb
  have HKS := Lib.hid hks
  have HBS := Lib.hid (And.intro hl (And.intro hb8 hseg))
  have B3 := Lib.hid b3
  have R1 := Lib.hid r1
  have R2 := Lib.hid r2
  have TR := Lib.hid (tab_row w gk ck)
  clear hlen hwb hi8 hs hsb hks hl hb8 hseg b3 r1 r2
  unfold stV tabV
  go_enter Tryd.func57, Tryd.ntmps57
  go_wp2_with fail
  refine (refWords_any g off cap bs _ HBS.out.1 HBS.out.2.1 (HBS.out.2.2.below (B3.out _ _ _) hg) (by simp; omega)).mono ?_
  rintro e w1 ⟨gw, cw, rfl, ho1, hb1⟩
  have hgw := ho1.lt gw rfl
  have HO1 := Lib.hid ho1
  have HT1 : Hid (TB w1 w.heap.size (.slice (some ⟨gk, 0, none⟩) 64 ck) hTab) := Lib.hid ((TR.out _ _).below hb1 (by first | (simp; done) | (simp; omega)))
  have HV1 : Hid (Row .u32 w1 40 (w.heap.size + 1) s) := Lib.hid ((R1.out _ _).below hb1 (by first | (simp; done) | (simp; omega)))
  have HZ1 : Hid (Row .u32 w1 40 (w.heap.size + 2) [0, 0, 0, 0, 0, 0, 0, 0]) := Lib.hid ((R2.out _ _).below hb1 (by simp))
  have HB1 : Hid (Below w.heap.size w w1) := Lib.hid ((B3.out _ _ _).trans (hb1.mono (by simp; omega)))
  have hgw2 : w.heap.size + 3 ≤ gw := by have := hgw.1; simp at this; omega
  have hgw3 : gw < w1.heap.size := hgw.2
  clear ho1 hb1 hgw
  go_wp2_with (first
    | (refine wpList_load_ints rfl 40 (.tmp 4) rfl (w.heap.size + 1) rfl 40 .u32 s HV1.out 8 39 Tryd.underlying40 HI8.out ?_)
    | (refine wpList_store_ints rfl 40 (.tmp 8) (.tmp 13) rfl w1.heap.size .u32 s rfl rfl 40 [0, 0, 0, 0, 0, 0, 0, 0] (Row.new w1 40 [0, 0, 0, 0, 0, 0, 0, 0]) HI8.out (by rw [HS.out]; rfl) ?_
       intro w2 hr2 hg2 hs2
       have HX2 := Lib.hid hr2
       have HO2 := Lib.hid ((HO1.out.alloc (.cells (([0, 0, 0, 0, 0, 0, 0, 0] : List Int).map (Value.int .u32)).toArray 40)).kept hg2 (.inr (by simp [Value.ownBlock]; omega)))
       have HT2 := Lib.hid ((HT1.out.alloc (.cells (([0, 0, 0, 0, 0, 0, 0, 0] : List Int).map (Value.int .u32)).toArray 40)).grown hg2 (by have := HT1.out.lt; simp; omega))
       have HV2 := Lib.hid ((HV1.out.alloc (.cells (([0, 0, 0, 0, 0, 0, 0, 0] : List Int).map (Value.int .u32)).toArray 40)).grown hg2 (by have := HV1.out.lt; simp; omega))
       have HZ2 := Lib.hid ((HZ1.out.alloc (.cells (([0, 0, 0, 0, 0, 0, 0, 0] : List Int).map (Value.int .u32)).toArray 40)).grown hg2 (by have := HZ1.out.lt; simp; omega))
       have HB2 : Hid (Below w.heap.size w w2) := Lib.hid (below_only (HB1.out.alloc HB1.out.size _) hg2 (by have := HB1.out.size; simp; omega) HB1.out.size)
       clear hr2 hg2 hs2))
  obtain ⟨gx, hgx⟩ : ∃ gx, gx = w1.heap.size := ⟨_, rfl⟩
  rw [← hgx]
  have hgx2 : gw < gx := by omega
  have HX2' : Hid (Row .u32 w2 40 gx s) := Lib.hid (by rw [hgx]; exact HX2.out)
  clear hgx HX2
  go_loopw [9] (fun i wx => ∃ n : Nat, n ≤ 64 ∧ i = .int .i64 n ∧ Row .u32 wx 40 gx (rnds (sched bs) s n) ∧ Row .u32 wx 40 (w.heap.size + 1) s ∧ Row .u32 wx 40 (w.heap.size + 2) [0, 0, 0, 0, 0, 0, 0, 0] ∧ TB wx w.heap.size (.slice (some ⟨gk, 0, none⟩) 64 ck) hTab ∧ Seg .u32 wx gw 0 (sched bs) ∧ Below w.heap.size w wx) (fun i _ => 64 - (intOf i).toNat)
  case atStart => exact ⟨0, by omega, rfl, HX2'.out, HV2.out, HZ2.out, HT2.out, own_seg HO2.out, HB2.out⟩
  case round =>
    obtain ⟨n, hn, rfl, hx, hv, hz, ht, hsw, hb⟩ := hrel
    have HX := Lib.hid hx
    have HV := Lib.hid hv
    have HZ := Lib.hid hz
    have HT := Lib.hid ht
    have HSW := Lib.hid hsw
    have HB := Lib.hid hb
    clear hx hv hz ht hsw hb
    by_cases hlt : n < 64
    · have hl8 : (rnds (sched bs) s n).length = 8 := rnds_length HS.out n
      have hck := (HKS.out.below HB.out hgk).cellD n (by rw [kTab_length]; exact hlt)
      have hcw := HSW.out.cellD n (by rw [HL.out]; exact hlt)
      rw [Nat.zero_add] at hck hcw
      have hct := HT.out.cell0
      have bw := word_at HWB.out n
      have bk := word_at kTab_bd n
      have hrr : ∀ W, Calls Tryd.prog 66 #[stV (rnds (sched bs) s n), .int .u32 (kTab.getD n 0), .int .u32 ((sched bs).getD n 0)] W (fun e w' => e = .returned (stV (rnds (sched bs) s (n + 1))) ∧ Below W.heap.size W w') := fun W => refRound_list _ _ _ W hl8 (rnds_bd HS.out HSB.out n) bk.1 bk.2 bw.1 bw.2
      obtain ⟨y0, y1, y2, y3, y4, y5, y6, y7, hy⟩ := list_8 (rnds (sched bs) s (n + 1)) (rnds_length HS.out (n + 1))
      obtain ⟨x0, x1, x2, x3, x4, x5, x6, x7, hx⟩ := list_8 (rnds (sched bs) s n) hl8
      have hr := HX.out
      rw [hx] at hr hrr
      rw [hy] at hrr
      generalize kTab.getD n 0 = kk at *
      generalize (sched bs).getD n 0 = ww at *
      have hc : ∀ W, Calls Tryd.prog 66 #[.agg #[.int .u32 x0, .int .u32 x1, .int .u32 x2, .int .u32 x3, .int .u32 x4, .int .u32 x5, .int .u32 x6, .int .u32 x7], .int .u32 kk, .int .u32 ww] W (fun e w' => e = .returned (.agg #[.int .u32 y0, .int .u32 y1, .int .u32 y2, .int .u32 y3, .int .u32 y4, .int .u32 y5, .int .u32 y6, .int .u32 y7]) ∧ Below W.heap.size W w') := hrr
      have HC := Lib.hid hc
      have HNX := Lib.hid hy
      have HR2 := Lib.hid hr
      have c0 := hr.cell 0 (by simp)
      have c1 := hr.cell 1 (by simp)
      have c2 := hr.cell 2 (by simp)
      have c3 := hr.cell 3 (by simp)
      have c4 := hr.cell 4 (by simp)
      have c5 := hr.cell 5 (by simp)
      have c6 := hr.cell 6 (by simp)
      have c7 := hr.cell 7 (by simp)
      simp only [List.getElem_cons_zero, List.getElem_cons_succ] at c0 c1 c2 c3 c4 c5 c6 c7
      have nb : (n : Int) < 64 := by omega
      clear hl8 hrr hy hx hr hc
      go_wp2_with fail
      go_region_with (first
        | (go_at_call 66
           (with_reducible refine (HC.out _).mono ?_)
           rintro _ w7 ⟨rfl, hb7⟩
           have HR3 : Hid (Row .u32 w7 40 gx [x0, x1, x2, x3, x4, x5, x6, x7]) := Lib.hid (HR2.out.drew.below hb7 HR2.out.lt)
           have HV3 : Hid (Row .u32 w7 40 (w.heap.size + 1) s) := Lib.hid (HV.out.drew.below hb7 HV.out.lt)
           have HZ3 : Hid (Row .u32 w7 40 (w.heap.size + 2) [0, 0, 0, 0, 0, 0, 0, 0]) := Lib.hid (HZ.out.drew.below hb7 HZ.out.lt)
           have HT3 : Hid (TB w7 w.heap.size (.slice (some ⟨gk, 0, none⟩) 64 ck) hTab) := Lib.hid (TB.below (w := wr.drew) HT.out hb7 HT.out.lt)
           have HSW3 : Hid (Seg .u32 w7 gw 0 (sched bs)) := Lib.hid (HSW.out.drew.below hb7 (Nat.lt_trans hgx2 HR2.out.lt))
           have HB3 : Hid (Below w.heap.size w w7) := Lib.hid (HB.out.drew.trans (hb7.mono HB.out.size))
           have t0 := HR3.out.cell 0 (by simp)
           have t1 := HR3.out.cell 1 (by simp)
           have t2 := HR3.out.cell 2 (by simp)
           have t3 := HR3.out.cell 3 (by simp)
           have t4 := HR3.out.cell 4 (by simp)
           have t5 := HR3.out.cell 5 (by simp)
           have t6 := HR3.out.cell 6 (by simp)
           have t7 := HR3.out.cell 7 (by simp)
           have tf := fun o => HR3.out.frozen o
           clear hb7))
      all_goals
        obtain ⟨w8, hw8⟩ : ∃ w8, w8 = ((((((((w7.setCell ⟨gx, 0, none⟩ (.int .u32 y0)).setCell ⟨gx, 1, none⟩ (.int .u32 y1)).setCell ⟨gx, 2, none⟩ (.int .u32 y2)).setCell ⟨gx, 3, none⟩ (.int .u32 y3)).setCell ⟨gx, 4, none⟩ (.int .u32 y4)).setCell ⟨gx, 5, none⟩ (.int .u32 y5)).setCell ⟨gx, 6, none⟩ (.int .u32 y6)).setCell ⟨gx, 7, none⟩ (.int .u32 y7)) := ⟨_, rfl⟩
        rw [← hw8]
        have HX8 : Hid (Row .u32 w8 40 gx [y0, y1, y2, y3, y4, y5, y6, y7]) := Lib.hid (by rw [hw8]; exact ((((((((HR3.out.set 0 y0).set 1 y1).set 2 y2).set 3 y3).set 4 y4).set 5 y5).set 6 y6).set 7 y7))
        have HV8 : Hid (Row .u32 w8 40 (w.heap.size + 1) s) := Lib.hid (by rw [hw8]; exact ((((((((HV3.out.far (p := ⟨gx, 0, none⟩) (by simp; omega) (.int .u32 y0)).far (p := ⟨gx, 1, none⟩) (by simp; omega) (.int .u32 y1)).far (p := ⟨gx, 2, none⟩) (by simp; omega) (.int .u32 y2)).far (p := ⟨gx, 3, none⟩) (by simp; omega) (.int .u32 y3)).far (p := ⟨gx, 4, none⟩) (by simp; omega) (.int .u32 y4)).far (p := ⟨gx, 5, none⟩) (by simp; omega) (.int .u32 y5)).far (p := ⟨gx, 6, none⟩) (by simp; omega) (.int .u32 y6)).far (p := ⟨gx, 7, none⟩) (by simp; omega) (.int .u32 y7)))
        have HZ8 : Hid (Row .u32 w8 40 (w.heap.size + 2) [0, 0, 0, 0, 0, 0, 0, 0]) := Lib.hid (by rw [hw8]; exact ((((((((HZ3.out.far (p := ⟨gx, 0, none⟩) (by simp; omega) (.int .u32 y0)).far (p := ⟨gx, 1, none⟩) (by simp; omega) (.int .u32 y1)).far (p := ⟨gx, 2, none⟩) (by simp; omega) (.int .u32 y2)).far (p := ⟨gx, 3, none⟩) (by simp; omega) (.int .u32 y3)).far (p := ⟨gx, 4, none⟩) (by simp; omega) (.int .u32 y4)).far (p := ⟨gx, 5, none⟩) (by simp; omega) (.int .u32 y5)).far (p := ⟨gx, 6, none⟩) (by simp; omega) (.int .u32 y6)).far (p := ⟨gx, 7, none⟩) (by simp; omega) (.int .u32 y7)))
        have HT8 : Hid (TB w8 w.heap.size (.slice (some ⟨gk, 0, none⟩) 64 ck) hTab) := Lib.hid (by rw [hw8]; exact ((((((((HT3.out.far (p := ⟨gx, 0, none⟩) (by simp; omega) (.int .u32 y0)).far (p := ⟨gx, 1, none⟩) (by simp; omega) (.int .u32 y1)).far (p := ⟨gx, 2, none⟩) (by simp; omega) (.int .u32 y2)).far (p := ⟨gx, 3, none⟩) (by simp; omega) (.int .u32 y3)).far (p := ⟨gx, 4, none⟩) (by simp; omega) (.int .u32 y4)).far (p := ⟨gx, 5, none⟩) (by simp; omega) (.int .u32 y5)).far (p := ⟨gx, 6, none⟩) (by simp; omega) (.int .u32 y6)).far (p := ⟨gx, 7, none⟩) (by simp; omega) (.int .u32 y7)))
        have hgrow : w7.grownBy w8 (some gx) := by rw [hw8]; exact (only_set (only_set (only_set (only_set (only_set (only_set (only_set (only_set (only_refl w7 (some gx)) 0 (.int .u32 y0)) 1 (.int .u32 y1)) 2 (.int .u32 y2)) 3 (.int .u32 y3)) 4 (.int .u32 y4)) 5 (.int .u32 y5)) 6 (.int .u32 y6)) 7 (.int .u32 y7))
        have HSW8 : Hid (Seg .u32 w8 gw 0 (sched bs)) := Lib.hid (HSW3.out.keep fun o => World.cell?_of_block (hgrow.block gw (Nat.lt_trans hgx2 HR3.out.lt) (by simp; omega)))
        have HB8 : Hid (Below w.heap.size w w8) := Lib.hid (below_only HB3.out hgrow HB3.out.size (by omega))
        clear hw8 hgrow t0 t1 t2 t3 t4 t5 t6 t7 tf c0 c1 c2 c3 c4 c5 c6 c7 hct hck hcw
        go_wp2_with fail
        go_roundw
        case rel => exact ⟨n + 1, by omega, by go_num, by rw [HNX.out]; exact HX8.out, HV8.out, HZ8.out, HT8.out, HSW8.out, HB8.out⟩
        case measure => simp [intOf]; omega
    · obtain rfl : n = 64 := by omega
      have hxl : (rnds (sched bs) s 64).length = 8 := rnds_length HS.out 64
      have hfin : stepL s bs = addN (rnds (sched bs) s 64) s 8 := (addN_all hxl HS.out).symm
      have hxb : Words32 (rnds (sched bs) s 64) := rnds_bd HS.out HSB.out 64
      generalize rnds (sched bs) s 64 = x at *
      have HXL := Lib.hid hxl
      have HFIN := Lib.hid hfin
      have HXB := Lib.hid hxb
      have hi8x : (Tryd.prog.info? 40).map (·.size) = some x.length := by rw [hxl]; exact sizeA8
      have HI8X := Lib.hid hi8x
      clear hxl hfin hxb hi8x
      rw [show ((64 : Nat) : Int) = 64 from rfl]
      go_wp2_with fail
      go_loopw [10] (fun i wx => ∃ n : Nat, n ≤ 8 ∧ i = .int .i64 n ∧ Row .u32 wx 40 gx (addN x s n) ∧ Row .u32 wx 40 (w.heap.size + 1) s ∧ Row .u32 wx 40 (w.heap.size + 2) [0, 0, 0, 0, 0, 0, 0, 0] ∧ Below w.heap.size w wx) (fun i _ => 8 - (intOf i).toNat)
      case atStart => exact ⟨0, by omega, rfl, HX.out, HV.out, HZ.out, HB.out⟩
      case round =>
        obtain ⟨n, hn, rfl, hx, hr, hz, hb⟩ := hrel
        clear HX HV HZ HB HT HSW
        have HX := Lib.hid hx
        have HR := Lib.hid hr
        have HZ := Lib.hid hz
        have HB := Lib.hid hb
        clear hx hr hz hb
        by_cases hlt : n < 8
        · have c1 := HX.out.cellD n (by rw [addN_length, HXL.out]; exact hlt)
          have c2 := HR.out.cellD n (by rw [HS.out]; exact hlt)
          have f1 := HX.out.frozen n
          rw [addN_get x s n n (Nat.le_refl _)] at c1
          have b1 := word_at HXB.out n
          have b2 := word_at HSB.out n
          have hst : Row .u32 (wr.setCell ⟨gx, n, none⟩ (.int .u32 ((x.getD n 0 + s.getD n 0) % 4294967296))) 40 gx (addN x s (n + 1)) := HX.out.set n _
          generalize x.getD n 0 = y at *
          generalize s.getD n 0 = v at *
          have HST := Lib.hid hst
          have nb : (n : Int) < 8 := by omega
          clear hst
          go_wp2_with fail
          go_region
          go_wp2_with fail
          go_roundw
          case rel =>
            refine ⟨n + 1, by omega, by go_num, ?_, ?_, ?_, ?_⟩
            · exact HST.out.drew
            · exact HR.out.drew.far (p := ⟨gx, n, none⟩) (by simp; omega) _
            · exact HZ.out.drew.far (p := ⟨gx, n, none⟩) (by simp; omega) _
            · exact HB.out.drew.setCell (p := ⟨gx, n, none⟩) (by simp; omega) _
          case measure => simp [intOf]; omega
        · obtain rfl : n = 8 := by omega
          have hi8y : (Tryd.prog.info? 40).map (·.size) = some (addN x s 8).length := by rw [addN_length]; exact HI8X.out
          have HI8Y := Lib.hid hi8y
          clear hi8y
          go_wp2_with (first
            | (refine wpList_load_ints rfl 40 (.tmp 8) rfl gx rfl 40 .u32 (addN x s 8) HX.out 8 39 Tryd.underlying40 HI8Y.out ?_)
            | (refine wpList_store_ints rfl 40 (.tmp 6) (.tmp 42) rfl (w.heap.size + 2) .u32 (addN x s 8) rfl rfl 40 [0, 0, 0, 0, 0, 0, 0, 0] HZ.out HI8Y.out (by rw [addN_length, HXL.out]; rfl) ?_
               intro w5 hr5 hg5 hs5
               have HR5 := Lib.hid hr5
               have HG5 := Lib.hid hg5
               clear hr5 hg5 hs5))
          refine bodyPost_ret (v := stV (addN x s 8)) (results_cell_row Tryd.results57 _ _ (w.heap.size + 2) 40 _ _ _ rfl HR5.out Tryd.underlying40 rfl (by rw [ints_size]; exact HI8Y.out)) rfl ⟨by rw [HFIN.out], ?_⟩
          exact below_only HB.out HG5.out HB.out.size (by omega)
end Go.Proofs.YtcplfpnaepdddaaDoor

/- Facts on states and tables that the laws ask. -/
namespace Go.Proofs.YtcplfpnaepdddaaDoor
open Go.RowKit
set_option linter.unusedVariables false

theorem compCodeS : (Tryd.prog.info? 35).map (·.comparable) = some true := by kernel_rfl
theorem eql_codeS (a b : Int) (w : World) : (binOp .eql 29 (.iface 35 (.int .i64 a)) (.iface 35 (.int .i64 b))).run Tryd.prog w = .ok (.bool (a == b)) w :=
  Lib.run_eql_iface_int w a b Tryd.underlying29 compCodeS Tryd.underlying35
theorem run_neq_agg8 (a b c d e f g h : Int) (w : World) : (binOp .neq 40 (agg8 a b c d e f g h) (agg8 a b c d e f g h)).run Tryd.prog w = .ok (.bool false) w := by
  have h1 := run_equal8 a b c d e f g h 9998 w
  unfold agg8 at h1 ⊢
  rw [run_neq_struct, h1]
  simp
theorem tabZero (w : World) : TB (w.alloc (.cells #[.slice none 0 0, .int .u32 0, .int .u32 0, .int .u32 0, .int .u32 0, .int .u32 0, .int .u32 0, .int .u32 0, .int .u32 0] 42)) w.heap.size (.slice none 0 0) [0, 0, 0, 0, 0, 0, 0, 0] := heap_alloc_new w _
theorem tb_cells {w : World} {g : Nat} {v : Value} (h : TB w g v hTab) : w.cell? ⟨g, 1, none⟩ = some (.int .u32 1779033703) ∧ w.cell? ⟨g, 2, none⟩ = some (.int .u32 3144134277) ∧ w.cell? ⟨g, 3, none⟩ = some (.int .u32 1013904242) ∧ w.cell? ⟨g, 4, none⟩ = some (.int .u32 2773480762) ∧ w.cell? ⟨g, 5, none⟩ = some (.int .u32 1359893119) ∧ w.cell? ⟨g, 6, none⟩ = some (.int .u32 2600822924) ∧ w.cell? ⟨g, 7, none⟩ = some (.int .u32 528734635) ∧ w.cell? ⟨g, 8, none⟩ = some (.int .u32 1541459225) :=
  ⟨h.cellH 0 (by decide), h.cellH 1 (by decide), h.cellH 2 (by decide), h.cellH 3 (by decide), h.cellH 4 (by decide), h.cellH 5 (by decide), h.cellH 6 (by decide), h.cellH 7 (by decide)⟩
theorem first_eq (w : World) : (binOp .neq 40 (.agg #[.int .u32 1779033703, .int .u32 3144134277, .int .u32 1013904242, .int .u32 2773480762, .int .u32 1359893119, .int .u32 2600822924, .int .u32 528734635, .int .u32 1541459225]) (.agg #[.int .u32 1779033703, .int .u32 3144134277, .int .u32 1013904242, .int .u32 2773480762, .int .u32 1359893119, .int .u32 2600822924, .int .u32 528734635, .int .u32 1541459225])).run Tryd.prog w = .ok (.bool false) w := run_neq_agg8 1779033703 3144134277 1013904242 2773480762 1359893119 2600822924 528734635 1541459225 w

end Go.Proofs.YtcplfpnaepdddaaDoor

/- The contract of the document's digest. -/
namespace Go.Proofs.YtcplfpnaepdddaaDoor
open Go.RowKit
set_option linter.unusedVariables false

/-- The first j of a list, zeros behind them. -/
def outN (l : List Int) (j : Nat) : List Int := l.take j ++ List.replicate (l.length - j) 0
theorem outN_zero (l : List Int) : outN l 0 = List.replicate l.length 0 := by simp [outN]
theorem outN_all (l : List Int) (j : Nat) (h : l.length ≤ j) : outN l j = l := by simp [outN, List.take_of_length_le h, Nat.sub_eq_zero_of_le h]
theorem outN_length (l : List Int) (j : Nat) : (outN l j).length = l.length := by simp [outN]; omega
theorem outN_set (l : List Int) (j : Nat) (h : j < l.length) : (outN l j).set j (l.getD j 0) = outN l (j + 1) := by
  unfold outN
  rw [List.set_append_right _ _ (by simp; omega), show l.take (j + 1) = l.take j ++ [l[j]] from List.take_succ_eq_append_getElem h]
  have e : l.length - j = (l.length - (j + 1)) + 1 := by omega
  rw [e, List.replicate_succ]
  have hm : j - (l.take j).length = 0 := by rw [List.length_take]; omega
  rw [hm, List.set_cons_zero, List.append_assoc]
  simp [List.getD, h, -List.take_append_getElem]
theorem tab_row1 (w : World) (gk ck : Nat) (o1 : Obj) : TB ((w.alloc (.cells (Value.slice (some ⟨gk, 0, none⟩) 64 ck :: hTab.map (Value.int .u32)).toArray 42)).alloc o1) w.heap.size (.slice (some ⟨gk, 0, none⟩) 64 ck) hTab := by
  have h : TB (w.alloc (.cells (Value.slice (some ⟨gk, 0, none⟩) 64 ck :: hTab.map (Value.int .u32)).toArray 42)) w.heap.size (.slice (some ⟨gk, 0, none⟩) 64 ck) hTab := heap_alloc_new w _
  exact h.alloc _

set_option maxRecDepth 100000 in
set_option maxHeartbeats 4000000 in
theorem refSum_any (a : Option Addr) (n cap gk ck : Nat) (bs : List Int) (w : World) (hin : InBytes w a n cap bs) (hn : n ≤ 20000) (hks : Seg .u32 w gk 0 kTab) (hgk : gk < w.heap.size) :
    Calls Tryd.prog 47 #[tabV gk ck, .slice a n cap] w (SumPost w bs) := by
  obtain ⟨i0, hi0, hz0, hz1, hz2⟩ := info_parts infoU8
  have hle0 := hin.le
  have hmax := hin.max
  simp only [maxLen] at hmax
  have hnl := nils_lt n
  have hbl := hin.len
  obtain ⟨T, hT1⟩ : ∃ T, n + (nils n + 9) = 64 * T := by
    obtain ⟨q, _, _, h3, _⟩ := whole_blocks n (n / 64) (n % 64) (by omega) (by omega)
    exact ⟨n / 64 + q, by omega⟩
  have hall : (bs ++ tailL n).length = n + (nils n + 9) := by rw [List.length_append, tailL_length, hbl]
  have hab : Bytes8 (bs ++ tailL n) := app_bytes hin.bytes (tailL_bytes n)
  have hcode : (n : Int) ≤ 1125899906842624 := by omega
  have HIN := Lib.hid hin
  have HKS := Lib.hid hks
  have HT1 := Lib.hid hT1
  have HALL := Lib.hid hall
  have HAB := Lib.hid hab
  have HBL := Lib.hid hbl
  clear hin hks hT1 hall hab hbl
  unfold tabV
  go_enter Tryd.func47, Tryd.ntmps47
  have hown0 : ((w.alloc (.cells (Value.slice (some ⟨gk, 0, none⟩) 64 ck :: hTab.map (Value.int .u32)).toArray 42)).alloc (.cells #[] 5)).ownsRow (w.heap.size + 1) 5 1 (.slice (some ⟨w.heap.size + 1, 0, none⟩) 0 0) 0 [] := by
    refine ⟨by simp, .inr ⟨w.heap.size + 1, 0, #[], rfl, Nat.le_refl _, ?_, Nat.le_refl _, by simp [maxLen], by simp, by simp⟩⟩
    have h := heap_alloc_new (w.alloc (.cells (Value.slice (some ⟨gk, 0, none⟩) 64 ck :: hTab.map (Value.int .u32)).toArray 42)) (.cells #[] 5)
    have e : (w.alloc (.cells (Value.slice (some ⟨gk, 0, none⟩) 64 ck :: hTab.map (Value.int .u32)).toArray 42)).heap.size = w.heap.size + 1 := by simp
    rw [e] at h
    exact h
  have HO0 := Lib.hid hown0
  have b2 : ∀ o1 o2, Below w.heap.size w ((w.alloc o1).alloc o2) := fun o1 o2 => ((Below.refl _ _).alloc (Nat.le_refl _) _).alloc (by simp) _
  have HB0 := Lib.hid b2
  have HT0 := Lib.hid (tab_row1 w gk ck)
  clear hown0 b2
  go_wp2_with (first
    | (at_builtin
       refine wpList_append_bytes' _ rfl (.tmp 10) (.tmp 11) 22 rfl (w.heap.size + 1) 5 i0 _ 1 Tryd.underlying22 hi0 hz0 hz1 hz2 rfl (w.heap.size + 1) 0 0 [] rfl HO0.out a n cap bs rfl (HIN.out.below (HB0.out _ _)) (by simp only [maxLen]; omega) (by omega) (by simp) ?_
       intro g1 c1 w1 hown1 hg1
       rw [List.nil_append, Nat.zero_add] at hown1
       have HO1 := Lib.hid hown1
       have HT1a : Hid (TB w1 w.heap.size (.slice (some ⟨gk, 0, none⟩) 64 ck) hTab) := Lib.hid ((HT0.out _).grown hg1 (by simp))
       have HB1 : Hid (Below w.heap.size w w1) := Lib.hid (below_only (HB0.out _ _) hg1 (by simp; omega) (by omega))
       have hsz1 := HT1a.out.lt
       clear hown1 hg1)
    | (go_at_call 56
       (with_reducible refine (refTail_any n _ hcode).mono ?_)
       rintro _ w2 ⟨v2, rfl, hown2, hb2⟩
       obtain ⟨gt, ct, hv2, hgt1, hgt2⟩ := hown2.form (by omega)
       subst hv2
       have HA2 := Lib.hid hown2
       have HO2 : Hid (w2.ownsRow (w.heap.size + 1) 5 1 (.slice (some ⟨g1, 0, none⟩) n c1) n (bs.map (Value.int .u8))) := Lib.hid (HO1.out.kept (only_below hb2 none) (.inr (by simp [Value.ownBlock])))
       have HT2 : Hid (TB w2 w.heap.size (.slice (some ⟨gk, 0, none⟩) 64 ck) hTab) := Lib.hid (HT1a.out.below hb2 HT1a.out.lt)
       have HB2 : Hid (Below w.heap.size w w2) := Lib.hid (HB1.out.trans (hb2.mono HB1.out.size))
       have hsz2 := HT2.out.lt
       have hg1 := HO2.out.lt g1 rfl
       clear hown2 hb2)
    | (at_builtin
       refine wpList_append_own _ rfl (.tmp 13) (.tmp 16) 22 rfl (w.heap.size + 1) 5 i0 _ 1 1 Tryd.underlying22 hi0 hz0 hz1 hz2 rfl (by omega) (.slice (some ⟨g1, 0, none⟩) n c1) n (bs.map (Value.int .u8)) rfl HO2.out ⟨gt, 0, none⟩ (nils n + 9) ct ((tailL n).map (Value.int .u8)) rfl (by simp [tailL_length]) (by exact (own_seg HA2.out).news) (by simp [Value.oneCell']) (by simp only [maxLen]; omega) (by omega) (by omega) ?_
       intro v3 w3 hown3 hg3 hat3
       obtain ⟨ga, cpa, hv3, hgga, hlta⟩ := hown3.form (by omega)
       rw [hv3]
       rw [hv3] at hown3
       rw [← List.map_append] at hown3
       have HO3 := Lib.hid hown3
       have HT3 : Hid (TB w3 w.heap.size (.slice (some ⟨gk, 0, none⟩) 64 ck) hTab) := Lib.hid (HT2.out.grown hg3 (by simp [Value.ownBlock]; omega))
       have HB3 : Hid (Below w.heap.size w w3) := Lib.hid (HB2.out.grown hg3 HB2.out.size (fun j hj => by have := (HO2.out.lt j hj).1; omega))
       have hsz3 := HT3.out.lt
       obtain ⟨t1, t2, t3, t4, t5, t6, t7, t8⟩ := tb_cells HT3.out
       clear hown3 hg3 hat3 hv3)
    | (refine wpList_store_ints rfl 40 (.tmp 6) (.tmp 19) rfl w3.heap.size .u32 hTab rfl rfl 40 [0, 0, 0, 0, 0, 0, 0, 0] (Row.new w3 40 [0, 0, 0, 0, 0, 0, 0, 0]) sizeA8 rfl ?_
       intro w5 hr5 hg5 hs5
       have HR5 := Lib.hid hr5
       have hga := HO3.out.lt ga rfl
       have HO5 : Hid (w5.ownsRow (w.heap.size + 1) 5 1 (.slice (some ⟨ga, 0, none⟩) (n + (nils n + 9)) cpa) (n + (nils n + 9)) ((bs ++ tailL n).map (Value.int .u8))) := Lib.hid ((HO3.out.alloc _).kept hg5 (.inr (by simp [Value.ownBlock]; omega)))
       have HT5 : Hid (TB w5 w.heap.size (.slice (some ⟨gk, 0, none⟩) 64 ck) hTab) := Lib.hid ((HT3.out.alloc _).grown hg5 (by simp; omega))
       have HB5 : Hid (Below w.heap.size w w5) := Lib.hid (below_only (HB3.out.alloc HB3.out.size _) hg5 (by have := HB3.out.size; simp; omega) HB3.out.size)
       clear hr5 hg5 hs5 t1 t2 t3 t4 t5 t6 t7 t8))
  have hoT := HO5.out
  rw [HT1.out] at hoT
  have HOT := Lib.hid hoT
  clear hoT HO5 HO3 HO2
  rw [HT1.out]
  obtain ⟨gv, hgv⟩ : ∃ gv, gv = w3.heap.size := ⟨_, rfl⟩
  rw [← hgv]
  have hgv2 : w.heap.size + 1 ≤ gv := by omega
  have hgav : ga < gv := by rw [hgv]; exact hga.2
  have hga1 : w.heap.size + 1 ≤ ga := hga.1
  have HR5' : Hid (Row .u32 w5 40 gv hTab) := Lib.hid (by rw [hgv]; exact HR5.out)
  clear hgv HR5 hga HA2 HT2 HB2 HT3 HB3 HO0 HB0 HT0 HO1 HT1a HB1
  go_loopw [7] (fun i wx => ∃ k : Nat, k ≤ T ∧ i = .int .i64 (64 * (k : Int)) ∧ Row .u32 wx 40 gv (stepsL hTab (bs ++ tailL n) k) ∧ TB wx w.heap.size (.slice (some ⟨gk, 0, none⟩) 64 ck) hTab ∧ wx.ownsRow (w.heap.size + 1) 5 1 (.slice (some ⟨ga, 0, none⟩) (64 * T) cpa) (64 * T) ((bs ++ tailL n).map (Value.int .u8)) ∧ Below w.heap.size w wx) (fun i _ => 64 * T - (intOf i).toNat)
  case atStart => exact ⟨0, by omega, rfl, HR5'.out, HT5.out, HOT.out, HB5.out⟩
  case round =>
    obtain ⟨k, hk, rfl, hr, ht, ho, hb⟩ := hrel
    have HR := Lib.hid hr
    have HT := Lib.hid ht
    have HO := Lib.hid ho
    have HB := Lib.hid hb
    clear hr ht ho hb
    have hT2 := HT1.out
    by_cases hlt : k < T
    · have hl8 : (stepsL hTab (bs ++ tailL n) k).length = 8 := stepsL_length rfl _ k
      have hinA := InBytes.of_own HO.out HAB.out
      obtain ⟨g', off', e', hgA, hsegA⟩ := hinA.place (by omega)
      injection e' with e'
      injection e' with e1 e2
      subst e1
      subst e2
      have hcpa := hinA.le
      have hcpm := hinA.max
      simp only [maxLen] at hcpm
      obtain ⟨y0, y1, y2, y3, y4, y5, y6, y7, hy⟩ := list_8 (stepL (stepsL hTab (bs ++ tailL n) k) (((bs ++ tailL n).drop (64 * k)).take 64)) (stepL_length hl8 _)
      have hnx : stepsL hTab (bs ++ tailL n) (k + 1) = [y0, y1, y2, y3, y4, y5, y6, y7] := hy
      obtain ⟨x0, x1, x2, x3, x4, x5, x6, x7, hx⟩ := list_8 (stepsL hTab (bs ++ tailL n) k) hl8
      have hc : ∀ W, Below wr.heap.size wr W → Calls Tryd.prog 57 #[.agg #[.slice (some ⟨gk, 0, none⟩) 64 ck, .int .u32 1779033703, .int .u32 3144134277, .int .u32 1013904242, .int .u32 2773480762, .int .u32 1359893119, .int .u32 2600822924, .int .u32 528734635, .int .u32 1541459225], .agg #[.int .u32 x0, .int .u32 x1, .int .u32 x2, .int .u32 x3, .int .u32 x4, .int .u32 x5, .int .u32 x6, .int .u32 x7], .slice (some ⟨ga, 64 * k, none⟩) 64 (cpa - 64 * k)] W (fun e w' => e = .returned (.agg #[.int .u32 y0, .int .u32 y1, .int .u32 y2, .int .u32 y3, .int .u32 y4, .int .u32 y5, .int .u32 y6, .int .u32 y7]) ∧ Below W.heap.size W w') := fun W hW => by
        have hbW : Below w.heap.size w W := HB.out.trans (hW.mono HB.out.size)
        have h := refStep_any ga (0 + 64 * k) (cpa - 64 * k) gk ck _ (((bs ++ tailL n).drop (64 * k)).take 64) W hl8 (stepsL_bd hTab_bd _ k) (by have := HALL.out; simp only [List.length_take, List.length_drop]; omega) (fun z hz => HAB.out z (List.mem_of_mem_drop (List.mem_of_mem_take hz))) (((hsegA.below hW hgA).drop (64 * k)).take 64) (Nat.lt_of_lt_of_le hgA hW.size) (HKS.out.below hbW hgk) (Nat.lt_of_lt_of_le hgk hbW.size)
        unfold StepPost at h
        rw [hy, hx, Nat.zero_add] at h
        exact h
      have hr := HR.out
      rw [hx] at hr
      have HC := Lib.hid hc
      have HNX := Lib.hid hnx
      have HR2 := Lib.hid hr
      have c0 := hr.cell 0 (by simp)
      have c1 := hr.cell 1 (by simp)
      have c2 := hr.cell 2 (by simp)
      have c3 := hr.cell 3 (by simp)
      have c4 := hr.cell 4 (by simp)
      have c5 := hr.cell 5 (by simp)
      have c6 := hr.cell 6 (by simp)
      have c7 := hr.cell 7 (by simp)
      simp only [List.getElem_cons_zero, List.getElem_cons_succ] at c0 c1 c2 c3 c4 c5 c6 c7
      have t0 := HT.out.cell0
      obtain ⟨t1, t2, t3, t4, t5, t6, t7, t8⟩ := tb_cells HT.out
      have k1 : 64 * (k : Int) < 64 * (T : Int) := by omega
      have k2 : (64 * (k : Int) + 64).toNat = 64 * k + 64 := by omega
      have k3 : IntKind.i64.wrap (64 * (k : Int) + 64) = 64 * (k : Int) + 64 := IntWalk.i64_in _ (by omega)
      have k4 : (0 : Int) ≤ 64 * (k : Int) := by omega
      have k5 : 64 * (k : Int) + 64 ≤ (cpa : Int) := by omega
      have k6 : (64 * (k : Int)).toNat = 64 * k := by omega
      have k7 : 64 * (k : Int) ≤ 64 * (k : Int) + 64 := by omega
      have k8 : ¬ cpa = 64 * k := by omega
      have k9 : gv < wr.heap.size := HR2.out.lt
      clear hl8 hinA hsegA hy hnx hx hc hr hT2
      go_wp2_with fail
      go_region_with (first
        | (go_at_call 57
           (with_reducible refine (HC.out _ ?_).mono ?_)
           · exact (Below.refl _ _).drew
           rintro _ w7 ⟨rfl, hb7⟩
           have HR3 : Hid (Row .u32 w7 40 gv [x0, x1, x2, x3, x4, x5, x6, x7]) := Lib.hid (HR2.out.drew.below hb7 HR2.out.lt)
           have HT3 : Hid (TB w7 w.heap.size (.slice (some ⟨gk, 0, none⟩) 64 ck) hTab) := Lib.hid (TB.below (w := wr.drew) HT.out hb7 HT.out.lt)
           have HO3 : Hid (w7.ownsRow (w.heap.size + 1) 5 1 (.slice (some ⟨ga, 0, none⟩) (64 * T) cpa) (64 * T) ((bs ++ tailL n).map (Value.int .u8))) := Lib.hid ((own_drew' HO.out).kept (only_below hb7 none) (.inr (by simp [Value.ownBlock])))
           have HB3 : Hid (Below w.heap.size w w7) := Lib.hid (HB.out.drew.trans (hb7.mono HB.out.size))
           have q0 := HR3.out.cell 0 (by simp)
           have q1 := HR3.out.cell 1 (by simp)
           have q2 := HR3.out.cell 2 (by simp)
           have q3 := HR3.out.cell 3 (by simp)
           have q4 := HR3.out.cell 4 (by simp)
           have q5 := HR3.out.cell 5 (by simp)
           have q6 := HR3.out.cell 6 (by simp)
           have q7 := HR3.out.cell 7 (by simp)
           have qf := fun o => HR3.out.frozen o
           clear hb7))
      all_goals
        obtain ⟨w8, hw8⟩ : ∃ w8, w8 = ((((((((w7.setCell ⟨gv, 0, none⟩ (.int .u32 y0)).setCell ⟨gv, 1, none⟩ (.int .u32 y1)).setCell ⟨gv, 2, none⟩ (.int .u32 y2)).setCell ⟨gv, 3, none⟩ (.int .u32 y3)).setCell ⟨gv, 4, none⟩ (.int .u32 y4)).setCell ⟨gv, 5, none⟩ (.int .u32 y5)).setCell ⟨gv, 6, none⟩ (.int .u32 y6)).setCell ⟨gv, 7, none⟩ (.int .u32 y7)) := ⟨_, rfl⟩
        rw [← hw8]
        have HX8 : Hid (Row .u32 w8 40 gv [y0, y1, y2, y3, y4, y5, y6, y7]) := Lib.hid (by rw [hw8]; exact ((((((((HR3.out.set 0 y0).set 1 y1).set 2 y2).set 3 y3).set 4 y4).set 5 y5).set 6 y6).set 7 y7))
        have HT8 : Hid (TB w8 w.heap.size (.slice (some ⟨gk, 0, none⟩) 64 ck) hTab) := Lib.hid (by rw [hw8]; exact ((((((((HT3.out.far (p := ⟨gv, 0, none⟩) (by simp; omega) (.int .u32 y0)).far (p := ⟨gv, 1, none⟩) (by simp; omega) (.int .u32 y1)).far (p := ⟨gv, 2, none⟩) (by simp; omega) (.int .u32 y2)).far (p := ⟨gv, 3, none⟩) (by simp; omega) (.int .u32 y3)).far (p := ⟨gv, 4, none⟩) (by simp; omega) (.int .u32 y4)).far (p := ⟨gv, 5, none⟩) (by simp; omega) (.int .u32 y5)).far (p := ⟨gv, 6, none⟩) (by simp; omega) (.int .u32 y6)).far (p := ⟨gv, 7, none⟩) (by simp; omega) (.int .u32 y7)))
        have hgrow : w7.grownBy w8 (some gv) := by rw [hw8]; exact (only_set (only_set (only_set (only_set (only_set (only_set (only_set (only_set (only_refl w7 (some gv)) 0 (.int .u32 y0)) 1 (.int .u32 y1)) 2 (.int .u32 y2)) 3 (.int .u32 y3)) 4 (.int .u32 y4)) 5 (.int .u32 y5)) 6 (.int .u32 y6)) 7 (.int .u32 y7))
        have HO8 : Hid (w8.ownsRow (w.heap.size + 1) 5 1 (.slice (some ⟨ga, 0, none⟩) (64 * T) cpa) (64 * T) ((bs ++ tailL n).map (Value.int .u8))) := Lib.hid (HO3.out.kept hgrow (.inr (by simp [Value.ownBlock]; omega)))
        have HB8 : Hid (Below w.heap.size w w8) := Lib.hid (below_only HB3.out hgrow HB3.out.size (by omega))
        clear hw8 hgrow q0 q1 q2 q3 q4 q5 q6 q7 qf c0 c1 c2 c3 c4 c5 c6 c7 t0 t1 t2 t3 t4 t5 t6 t7 t8
        go_wp2_with fail
        go_roundw
        case rel => exact ⟨k + 1, by omega, by congr 1, by rw [HNX.out]; exact HX8.out, HT8.out, HO8.out, HB8.out⟩
        case measure => simp [intOf]; omega
    · obtain rfl : k = T := by omega
      have hrl8 : (stepsL hTab (bs ++ tailL n) k).length = 8 := stepsL_length rfl _ k
      have hsum : sumL bs = bytesL (stepsL hTab (bs ++ tailL n) k) := by
        unfold sumL
        rw [HBL.out, show (n + nils n + 9) / 64 = k by omega]
      have hsb := stepsL_bd hTab_bd (bs ++ tailL n) k
      generalize stepsL hTab (bs ++ tailL n) k = st at *
      have HSUM := Lib.hid hsum
      have HL8 := Lib.hid hrl8
      have HSB := Lib.hid hsb
      have k1 : ¬ 64 * (k : Int) < 64 * (k : Int) := by omega
      clear hrl8 hsum hsb hT2
      go_wp2_with (first
        | (at_make
           refine wpList_make_ints _ rfl (.const (.int .i64 32)) (.const (.int .i64 32)) 22 rfl 5 i0 .u8 Tryd.underlying22 hi0 hz0 hz1 .i64 .i64 _ _ 32 rfl rfl (by omega) (by omega) (by rw [hz2]; omega) (by simp only [maxLen]; omega) ?_
           intro w8 hr8 hb8 hs8
           have HR8 : Hid (Row .u8 w8 5 wr.heap.size (outN (bytesL st) 0)) := Lib.hid (by rw [outN_zero, bytesL_length, HL8.out]; exact hr8)
           have HV8 : Hid (Row .u32 w8 40 gv st) := Lib.hid (HR.out.below hb8 HR.out.lt)
           have HB8 : Hid (Below w.heap.size w w8) := Lib.hid (HB.out.trans (hb8.mono HB.out.size))
           have hgvr : gv < wr.heap.size := HR.out.lt
           have hbs := HB.out.size
           clear hr8 hb8 hs8))
      obtain ⟨go, hgo⟩ : ∃ go, go = wr.heap.size := ⟨_, rfl⟩
      rw [← hgo] at hgvr hbs ⊢
      have HR8' : Hid (Row .u8 w8 5 go (outN (bytesL st) 0)) := Lib.hid (by rw [hgo]; exact HR8.out)
      clear HR8 hgo
      go_loopw [9] (fun i wx => ∃ j : Nat, j ≤ 32 ∧ i = .int .i64 j ∧ Row .u8 wx 5 go (outN (bytesL st) j) ∧ Row .u32 wx 40 gv st ∧ Below w.heap.size w wx) (fun i _ => 32 - (intOf i).toNat)
      case atStart => exact ⟨0, by omega, rfl, HR8'.out, HV8.out, HB8.out⟩
      case round =>
        obtain ⟨j, hj, rfl, hr, hv, hb⟩ := hrel
        clear HR HB HV8 HR8' HB8
        have HR := Lib.hid hr
        have HV := Lib.hid hv
        have HB := Lib.hid hb
        clear hr hv hb
        by_cases hlt : j < 32
        · have e1 := HR.out.cellD j (by rw [outN_length, bytesL_length, HL8.out]; omega)
          have f1 := HR.out.frozen j
          have e2 := HV.out.cellD (j / 4) (by rw [HL8.out]; omega)
          have hst : Row .u8 (wr.setCell ⟨go, j, none⟩ (.int .u8 (st.getD (j / 4) 0 / 2 ^ (24 - 8 * (j % 4)) % 256))) 5 go (outN (bytesL st) (j + 1)) := by
            have h := HR.out.set j ((bytesL st).getD j 0)
            rw [outN_set _ j (by rw [bytesL_length, HL8.out]; omega), bytesL_at st j (by rw [HL8.out]; omega)] at h
            exact h
          have bx := word_at HSB.out (j / 4)
          generalize st.getD (j / 4) 0 = x at *
          generalize (outN (bytesL st) j).getD j 0 = ov at *
          have HST := Lib.hid hst
          have jb : (j : Int) < 32 := by omega
          clear hst
          go_wp2_with fail
          refine ⟨⟨j + 1, by omega, by go_num, HST.out, HV.out.far (p := ⟨go, j, none⟩) (by simp; omega) _, HB.out.setCell (p := ⟨go, j, none⟩) hbs _⟩, by simp [intOf]; omega⟩
        · obtain rfl : j = 32 := by omega
          go_wp2_with fail
          go_ret
          have hr := HR.out
          rw [outN_all _ 32 (by rw [bytesL_length, HL8.out]; omega), ← HSUM.out] at hr
          exact ⟨go, hbs, rfl, hr, HB.out⟩
end Go.Proofs.YtcplfpnaepdddaaDoor
