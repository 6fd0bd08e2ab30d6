/- The contract of the document's Tail. The contract of the document's Words. The contract of the document's step of a block. Facts on states and tables that the laws ask. The contract of the document's digest. The contract of the document's digest. The contract of the document's digest of a tree. The contract of the document's In of spans. The contracts of the document's cut, and of its proofs of balanced trees for spans. -/
import Derived.Test.YtkfjhegehhahcaaDoorMSA
import Derived.Test.YtkfjhegehhahcaaDoorMSB
import Derived.OwnWalk
import Derived.Deep.AppendLies
import Derived.Maps.AppendAt
import Derived.IntWalk
import Derived.Deep.RegionLaw
import Derived.Test.YtkfjhegehhahcaaDoorMSE
import Derived.Deep.RegionWith
import Derived.Lib.IfaceEq
import Derived.Deep.DeepCutAuto
import Derived.Test.YtkfjhegehhahcaaDoorMSC
/- The contract of the document's Tail. The contract of the document's Words. The contract of the document's step of a block. Facts on states and tables that the laws ask. The contract of the document's digest. -/
/- The contract of the document's Tail. -/
namespace Go.Proofs.YtkfjhegehhahcaaDoor
open Go.RowKit
set_option linter.unusedVariables false

def RefTailPost (w : World) (n : Nat) (e : Ending) (w' : World) : Prop :=
  ∃ v, e = .returned v ∧ w'.ownsRow w.heap.size 5 1 v (nils n + 9) ((tailL n).map (Value.int .u8)) ∧ Below w.heap.size w w'

set_option maxHeartbeats 1000000 in
theorem refTail_any (n : Nat) (w : World) (hn : (n : Int) ≤ 1125899906842624) :
    Calls Tryd.prog 68 #[.int .i64 n] w (RefTailPost w n) := by
  obtain ⟨i0, hi0, hz0, hz1, hz2⟩ := info_parts infoU8
  have hnl := nils_lt n
  go_enter Tryd.func68, Tryd.ntmps68
  go_wp2_with fail
  go_loopw [3] (fun v wx => ∃ j g cap : Nat, j ≤ nils n ∧ v = .slice (some ⟨g, 0, none⟩) (1 + j) cap ∧ wx.ownsRow w.heap.size 5 1 (.slice (some ⟨g, 0, none⟩) (1 + j) cap) (1 + j) ((128 :: List.replicate j 0).map (Value.int .u8)) ∧ Below w.heap.size w wx) (fun v _ => nils n + 1 - lenV v)
  case atStart =>
    refine ⟨0, w.heap.size, 1, Nat.zero_le _, rfl, ⟨by simp, .inr ⟨w.heap.size, 1, #[.int .u8 128], rfl, Nat.le_refl _, heap_alloc_new w _, by omega, by simp [maxLen], by simp, by simp⟩⟩, (Below.refl _ _).alloc (Nat.le_refl _) _⟩
  case round =>
    obtain ⟨j, g, cap, hj, rfl, hown, hb⟩ := hrel
    have HO := Lib.hid hown
    clear hown
    by_cases hlt : j < nils n
    · have ht : (((n : Int) + (1 + (j : Int))) % 64 != 56) = true := by
        rw [bne_iff_ne]
        unfold nils at hlt
        omega
      go_wp2_with (first
        | (at_builtin
           refine wpList_append_own _ rfl (.tmp 14) (.tmp 15) 22 rfl w.heap.size 5 i0 _ 1 1 Tryd.underlying22 hi0 hz0 hz1 hz2 rfl (by omega) (.slice (some ⟨g, 0, none⟩) (1 + j) cap) (1 + j) ((128 :: List.replicate j 0).map (Value.int .u8)) rfl (HO.out.alloc _)
             ⟨wr.heap.size, 0, none⟩ 1 1 [.int .u8 0] rfl rfl (cell_one_new _ _ _) (by simp [Value.oneCell']) (by simp only [maxLen]; omega) (by omega) (by have := hb.size; simp; omega) ?_
           intro v1 w1 hown1 hg1 hat1
           obtain ⟨g1, cap1, hv1, hgg1, hlt1⟩ := hown1.form (by omega)
           rw [hv1]
           rw [hv1] at hown1
           have HO1 := Lib.hid hown1
           clear hown1 hat1 hv1))
      go_roundw
      case rel =>
        refine ⟨j + 1, g1, cap1, by omega, rfl, ?_, ?_⟩
        · have h := HO1.out
          rw [rep_snoc] at h
          exact h
        · exact (hb.alloc hb.size _).grown hg1 (by have := hb.size; simp; omega) (fun k hk => (HO.out.lt k hk).1)
      case measure => simp [lenV]; omega
    · obtain rfl : j = nils n := by omega
      have ht : (((n : Int) + (1 + (nils n : Int))) % 64 != 56) = false := by
        have : ((n : Int) + (1 + (nils n : Int))) % 64 = 56 := by
          unfold nils
          omega
        rw [this]; rfl
      go_wp2_with (first
        | (at_make
           refine wpList_make_ints _ rfl (.const (.int .i64 8)) (.const (.int .i64 8)) 22 rfl 5 i0 .u8 Tryd.underlying22 hi0 hz0 hz1 .i64 .i64 _ _ 8 rfl rfl (by omega) (by omega) (by rw [hz2]; omega) (by simp only [maxLen]; omega) ?_
           intro w1 hr1 hb1 hs1
           have HR1 := Lib.hid hr1
           have HS1 := Lib.hid hs1
           clear hr1 hs1))
      obtain ⟨w0, hw0⟩ : ∃ w0, w0 = wr := ⟨wr, rfl⟩
      subst hw0
      go_loopw [5, 6] (fun x i wx => ∃ m : Nat, m ≤ 8 ∧ i = .int .i64 ((m : Int) - 1) ∧ x = .int .u64 ((8 * (n : Int)) / 256 ^ (8 - m)) ∧ Row .u8 wx 5 w0.heap.size (bitsAt (8 * (n : Int)) m) ∧ wx.heap.size = w1.heap.size ∧ w1.grownBy wx (some w0.heap.size)) (fun _ i _ => (intOf i + 1).toNat)
      case atStart => exact ⟨8, by omega, rfl, by simp, HR1.out, rfl, only_refl _ _⟩
      case round =>
        obtain ⟨m, hm, rfl, rfl, hr, hs, hg⟩ := hrel
        have HS := Lib.hid hs
        have HG := Lib.hid hg
        clear hs hg
        by_cases hm0 : m = 0
        · subst hm0
          have hnews := hr.seg
          have HR := Lib.hid hr
          clear hr
          have hgl := HO.out.lt g rfl
          have own2 := (HO.out.kept (only_below hb1 none) (.inr (by simp [Value.ownBlock]))).kept HG.out (.inr (by simp [Value.ownBlock]; omega))
          have HO2 := Lib.hid own2
          have HN := Lib.hid hnews
          have hb3 : Below w.heap.size w wr := (hb.trans (hb1.mono hb.size)).grown HG.out (by have := hb.size; rw [HS1.out]; omega) (fun k hk => by have := hb.size; injection hk; omega)
          clear own2 hnews
          go_wp2_with (first
            | (at_builtin
               refine wpList_append_own _ rfl (.tmp 33) (.tmp 34) 22 rfl w.heap.size 5 i0 _ 1 1 Tryd.underlying22 hi0 hz0 hz1 hz2 rfl (by omega) (.slice (some ⟨g, 0, none⟩) (1 + nils n) cap) (1 + nils n) ((128 :: List.replicate (nils n) 0).map (Value.int .u8)) rfl HO2.out ⟨w0.heap.size, 0, none⟩ 8 8 ((be8 (8 * (n : Int))).map (Value.int .u8)) rfl rfl (by have h := HN.out.news; exact h) (by simp [be8, Value.oneCell']) (by simp only [maxLen]; omega) (by omega) hb3.size ?_
               intro v1 w2 hown1 hg1 hat1
               have HO1 := Lib.hid hown1
               have HG1 := Lib.hid hg1
               clear hown1 hat1 hg1))
          go_ret
          refine ⟨v1, rfl, ?_, hb3.grown HG1.out hb3.size (fun k hk => (HO2.out.lt k hk).1)⟩
          have h := HO1.out
          rw [← List.map_append, show 1 + nils n + 8 = nils n + 9 by omega] at h
          exact h
        · obtain ⟨q, rfl⟩ : ∃ q, m = q + 1 := ⟨m - 1, by omega⟩
          have hlen := bitsAt_length (8 * (n : Int)) (q + 1) hm
          obtain ⟨z0, hc⟩ := hr.has q (by omega)
          have hf := hr.frozen q
          have HR := Lib.hid hr
          clear hr hlen
          generalize hy : (8 * (n : Int)) / 256 ^ (8 - (q + 1)) = y
          have hy0 : 0 ≤ y := by rw [← hy]; exact Int.ediv_nonneg (by omega) (Int.pow_nonneg (by omega))
          have hy1 : y ≤ 9007199254740992 := by
            rw [← hy]
            exact Int.le_trans (Int.ediv_le_self _ (by omega)) (by omega)
          have HY := Lib.hid hy
          clear hy
          rw [show ((q + 1 : Nat) : Int) - 1 = (q : Int) by omega]
          go_wp2_with fail
          go_roundw
          case rel =>
            refine ⟨q, by omega, rfl, ?_, ?_, by simpa [World.setCell] using HS.out, only_set HG.out _ _⟩
            · rw [← HY.out, show 8 - (q + 1) = 7 - q by omega, pow_step _ _ (by omega)]
            · have h := HR.out.set q (y % 256)
              rw [← HY.out, show 8 - (q + 1) = 7 - q by omega, bitsAt_step _ _ (by omega)] at h
              rw [← HY.out, show 8 - (q + 1) = 7 - q by omega]
              exact h
          case measure => simp [intOf]
end Go.Proofs.YtkfjhegehhahcaaDoor

/- The contract of the document's Words. -/
namespace Go.Proofs.YtkfjhegehhahcaaDoor
open Go.RowKit
set_option linter.unusedVariables false

theorem infoU32' : (Tryd.prog.info? 39).map (fun i => (i.zero, i.size, i.bytes)) = some (some (.int .u32 0), 1, 4) := by kernel_rfl
def RefWordsPost (w : World) (bs : List Int) (e : Ending) (w' : World) : Prop :=
  ∃ g cap, e = .returned (.slice (some ⟨g, 0, none⟩) 64 cap) ∧ w'.ownsRow w.heap.size 39 1 (.slice (some ⟨g, 0, none⟩) 64 cap) 64 ((sched bs).map (Value.int .u32)) ∧ Below w.heap.size w w'
theorem own_drewN {w : World} {base : Nat} {e : TypeId} {size : Nat} {v : Value} {n : Nat} {xs : List Value} (h : w.ownsRow base e size v n xs) (k : Nat) : (w.drewN k).ownsRow base e size v n xs := h
def pre4 (bs : List Int) (i : Nat) : Nat → Int
  | 0 => 0
  | k + 1 => 256 * pre4 bs i k + bs.getD (4 * i + k) 0
theorem pre4_all (bs : List Int) (i : Nat) : pre4 bs i 4 = wordAt bs i := by
  simp [pre4, wordAt, wordOf]; omega
theorem pre4_bd {bs : List Int} (h : Bytes8 bs) (i : Nat) : ∀ k, k ≤ 3 → 0 ≤ pre4 bs i k ∧ pre4 bs i k ≤ 16777215
  | 0, _ => by simp [pre4]
  | 1, _ => by have := byte_at h (4 * i); simp [pre4]; simp at this; omega
  | 2, _ => by have h0 := byte_at h (4 * i); have h1 := byte_at h (4 * i + 1); simp [pre4]; simp at h0 h1; omega
  | 3, _ => by have h0 := byte_at h (4 * i); have h1 := byte_at h (4 * i + 1); have h2 := byte_at h (4 * i + 2); simp [pre4]; simp at h0 h1 h2; omega

set_option maxRecDepth 100000 in
set_option maxHeartbeats 2000000 in
theorem refWords_any (g off cap : Nat) (bs : List Int) (w : World) (hl : bs.length = 64) (hb8 : Bytes8 bs) (hseg : Seg .u8 w g off bs) (hg : g < w.heap.size) :
    Calls Tryd.prog 82 #[.slice (some ⟨g, off, none⟩) 64 cap] w (RefWordsPost w bs) := by
  obtain ⟨i0, hi0, hz0, hz1, hz2⟩ := info_parts infoU32'
  have HL := Lib.hid hl
  have HB8 := Lib.hid hb8
  have HSEG := Lib.hid hseg
  clear hl hb8 hseg
  go_enter Tryd.func82, Tryd.ntmps82
  go_wp2_with fail
  go_loopw [3, 4] (fun v i wx => ∃ k : Nat, k ≤ 16 ∧ i = .int .i64 k ∧ wx.ownsRow w.heap.size 39 1 v k ((first16 bs k).map (Value.int .u32)) ∧ Below w.heap.size w wx) (fun _ i _ => 16 - (intOf i).toNat)
  case atStart => exact ⟨0, by omega, rfl, World.ownsRow_nil _ _ _ _, Below.refl _ _⟩
  case round =>
    obtain ⟨k, hk, rfl, hown, hb⟩ := hrel
    have HO := Lib.hid hown
    have HB := Lib.hid hb
    clear hown hb
    by_cases hlt : k < 16
    · have hsg : Seg .u8 wr g off bs := HSEG.out.below HB.out hg
      have hl := HL.out
      have hcell : ∀ q, q < 4 → wr.cell? ⟨g, off + (4 * k + q), none⟩ = some (.int .u8 (bs.getD (4 * k + q) 0)) := fun q hq => hsg.cellD (4 * k + q) (by omega)
      have HC := Lib.hid hcell
      clear hsg hl hcell
      go_wp2_with fail
      go_loop [5, 6] (fun x i => ∃ q : Nat, q ≤ 4 ∧ i = .int .i64 q ∧ x = .int .u32 (pre4 bs k q)) (fun _ i => 4 - (intOf i).toNat)
      case atStart => exact ⟨0, by omega, rfl, rfl⟩
      case round =>
        obtain ⟨q, hq, rfl, rfl⟩ := hrel
        by_cases hlt2 : q < 4
        · have hp := pre4_bd HB8.out k q (by omega)
          have hy := byte_at HB8.out (4 * k + q)
          have hc := HC.out q hlt2
          have hpn : pre4 bs k (q + 1) = 256 * pre4 bs k q + bs.getD (4 * k + q) 0 := rfl
          have HPN := Lib.hid hpn
          clear hpn
          generalize pre4 bs k q = x at *
          generalize bs.getD (4 * k + q) 0 = y at *
          go_wp2_with fail
          go_round
          case rel => exact ⟨q + 1, by omega, by go_num, by rw [HPN.out]⟩
          case measure => simp [intOf]; omega
        · obtain rfl : q = 4 := by omega
          rw [pre4_all]
          generalize hx : wordAt bs k = x
          have HX := Lib.hid hx
          clear hx
          go_wp2_with (first
            | (at_builtin
               refine wpList_append_own _ rfl (.tmp 29) (.tmp 31) 38 rfl w.heap.size 39 i0 _ 1 4 Tryd.underlying38 hi0 hz0 hz1 hz2 rfl (by omega) u3 k ((first16 bs k).map (Value.int .u32)) rfl (HO.out.alloc _) ⟨wr.heap.size, 0, none⟩ 1 1 [.int .u32 x] rfl rfl (cell_one_new _ _ _) (by simp [Value.oneCell']) (by simp only [maxLen]; omega) (by omega) (by have := HB.out.size; simp; omega) ?_
               intro v1 w1 hown1 hg1 hat1
               have HO1 := Lib.hid hown1
               have HG1 := Lib.hid hg1
               clear hown1 hat1 hg1))
          go_roundw
          case rel =>
            refine ⟨k + 1, by omega, by go_num, ?_, ?_⟩
            · have h := HO1.out
              rw [first16_succ, List.map_append, HX.out]
              exact h
            · exact (HB.out.alloc HB.out.size _).grown HG1.out (by have := HB.out.size; simp; omega) (fun j hj => (HO.out.lt j hj).1)
          case measure => simp [intOf]; omega
    · obtain rfl : k = 16 := by omega
      rw [show ((16 : Nat) : Int) = 16 from rfl]
      go_wp2_with fail
      go_loopw [3, 7] (fun v i wx => ∃ n gg cp : Nat, 16 ≤ n ∧ n ≤ 64 ∧ i = .int .i64 n ∧ v = .slice (some ⟨gg, 0, none⟩) n cp ∧ wx.ownsRow w.heap.size 39 1 (.slice (some ⟨gg, 0, none⟩) n cp) n ((extW (first16 bs 16) (n - 16)).map (Value.int .u32)) ∧ Below w.heap.size w wx) (fun _ i _ => 64 - (intOf i).toNat)
      case atStart =>
        have ho := HO.out
        obtain ⟨gg, cp, hv, _, _⟩ := ho.form (by omega)
        rw [hv] at ho
        exact ⟨16, gg, cp, by omega, by omega, rfl, hv, ho, HB.out⟩
      case round =>
        obtain ⟨n, gg, cp, hn, hn2, rfl, rfl, hown, hb⟩ := hrel
        clear HO HB
        have HO := Lib.hid hown
        have HB := Lib.hid hb
        clear hown hb
        by_cases hlt : n < 64
        · have hlm : (extW (first16 bs 16) (n - 16)).length = n := by rw [extW_length, first16_length]; omega
          have hbd := extW_bd (first16_bd HB8.out 16) (n - 16)
          have cell : ∀ j, 2 ≤ j → j ≤ 16 → wr.cell? ⟨gg, n - j, none⟩ = some (.int .u32 ((extW (first16 bs 16) (n - 16)).getD (n - j) 0)) := fun j h1 h2 => by
            have h := HO.out.cells (g := gg) rfl (n - j) (.int .u32 ((extW (first16 bs 16) (n - 16)).getD (n - j) 0)) (by simp [List.getD, show n - j < (extW (first16 bs 16) (n - 16)).length by omega])
            have hp : (⟨gg, 0, none⟩ : Addr).add (n - j) = ⟨gg, n - j, none⟩ := by unfold Addr.add; split <;> simp_all
            rw [hp] at h
            exact h
          have c16 := cell 16 (by omega) (by omega)
          have c15 := cell 15 (by omega) (by omega)
          have c7 := cell 7 (by omega) (by omega)
          have c2 := cell 2 (by omega) (by omega)
          have b16 := word_at hbd (n - 16)
          have b15 := word_at hbd (n - 15)
          have b7 := word_at hbd (n - 7)
          have b2 := word_at hbd (n - 2)
          have hnext : nextW (extW (first16 bs 16) (n - 16)) = ((extW (first16 bs 16) (n - 16)).getD (n - 16) 0 + sp3 ((extW (first16 bs 16) (n - 16)).getD (n - 15) 0) 7 18 3 + (extW (first16 bs 16) (n - 16)).getD (n - 7) 0 + sp3 ((extW (first16 bs 16) (n - 16)).getD (n - 2) 0) 17 19 10) % 4294967296 := by
            unfold nextW; rw [hlm]
          generalize (extW (first16 bs 16) (n - 16)).getD (n - 16) 0 = x16 at *
          generalize (extW (first16 bs 16) (n - 16)).getD (n - 15) 0 = x15 at *
          generalize (extW (first16 bs 16) (n - 16)).getD (n - 7) 0 = x7 at *
          generalize (extW (first16 bs 16) (n - 16)).getD (n - 2) 0 = x2 at *
          have HN := Lib.hid hnext
          have HLM := Lib.hid hlm
          have s15 := sp3_bd x15 7 18 3
          have s2 := sp3_bd x2 17 19 10
          clear hlm hbd cell hnext
          go_wp2_with fail
          have wr16 : IntKind.i64.wrap ((n : Int) - 16) = (n : Int) - 16 := IntWalk.i64_in _ (by omega)
          have nn16 : (0 : Int) ≤ (n : Int) - 16 := by omega
          have ni16 : (16 : Int) ≤ (n : Int) := by omega
          have ub16 : (n : Int) - 16 < (n : Int) := by omega
          have tn16 : ((n : Int) - 16).toNat = n - 16 := by omega
          have wr15 : IntKind.i64.wrap ((n : Int) - 15) = (n : Int) - 15 := IntWalk.i64_in _ (by omega)
          have nn15 : (0 : Int) ≤ (n : Int) - 15 := by omega
          have ni15 : (15 : Int) ≤ (n : Int) := by omega
          have ub15 : (n : Int) - 15 < (n : Int) := by omega
          have tn15 : ((n : Int) - 15).toNat = n - 15 := by omega
          have wr7 : IntKind.i64.wrap ((n : Int) - 7) = (n : Int) - 7 := IntWalk.i64_in _ (by omega)
          have nn7 : (0 : Int) ≤ (n : Int) - 7 := by omega
          have ni7 : (7 : Int) ≤ (n : Int) := by omega
          have ub7 : (n : Int) - 7 < (n : Int) := by omega
          have tn7 : ((n : Int) - 7).toNat = n - 7 := by omega
          have wr2 : IntKind.i64.wrap ((n : Int) - 2) = (n : Int) - 2 := IntWalk.i64_in _ (by omega)
          have nn2 : (0 : Int) ≤ (n : Int) - 2 := by omega
          have ni2 : (2 : Int) ≤ (n : Int) := by omega
          have ub2 : (n : Int) - 2 < (n : Int) := by omega
          have tn2 : ((n : Int) - 2).toNat = n - 2 := by omega
          go_quiet ((go_at_call 89; exact Calls.quiet_of (turn_any _ _ _ b15.1 b15.2 (by omega) (by omega))))
          go_wp2_with fail
          go_quiet ((go_at_call 89; exact quiet_add (turn_any _ _ _ b2.1 b2.2 (by omega) (by omega))))
          go_wp2_with fail
          have e15 : bits .xor .u32 (bits .xor .u32 (rotr x15 7) (rotr x15 18)) (x15 / 8) = sp3 x15 7 18 3 := by unfold sp3; rfl
          have e2 : bits .xor .u32 (bits .xor .u32 (rotr x2 17) (rotr x2 19)) (x2 / 1024) = sp3 x2 17 19 10 := by unfold sp3; rfl
          rw [e15, e2]
          clear e15 e2
          generalize hS1 : sp3 x15 7 18 3 = y15 at *
          generalize hS2 : sp3 x2 17 19 10 = y2 at *
          have HS1 := Lib.hid hS1
          have HS2 := Lib.hid hS2
          clear hS1 hS2
          go_region_law (first
            | (refine step_append_lies _ (by rfl) (.tmp 77) (.tmp 93) 38 (by rfl) w.heap.size 39 i0 _ 1 4 Tryd.underlying38 hi0 hz0 hz1 hz2 rfl (by omega) (.slice (some ⟨gg, 0, none⟩) n cp) n ((extW (first16 bs 16) (n - 16)).map (Value.int .u32)) (by rfl) ((own_drewN HO.out _).alloc _) ⟨wr.heap.size, 0, none⟩ 1 1 [.int .u32 (IntKind.u32.wrap (IntKind.u32.wrap (IntKind.u32.wrap (x16 + y15) + x7) + y2))] (by rfl) (by rfl) (cell_one_new (wr.drewN _) _ _) (by simp [Value.oneCell']) (by omega) (by simp only [maxLen]; omega) (by omega) (by have := HB.out.size; simp; omega) (wr.heap.size + 1) (by simp) ?_; intro g5 cap5 w5 hown5 hg5 hat5 hlt5; have HO5 := Lib.hid hown5; have HG5 := Lib.hid hg5; clear hown5 hg5 hat5 hlt5))
          all_goals
            clear wr16 nn16 ni16 ub16 tn16 wr15 nn15 ni15 ub15 tn15 wr7 nn7 ni7 ub7 tn7 wr2 nn2 ni2 ub2 tn2 c16 c15 c7 c2 b16 b15 b7 b2 s15 s2
            go_wp2_with fail
            go_roundw
            case rel =>
              refine ⟨n + 1, g5, cap5, by omega, by omega, by go_num, rfl, ?_, ?_⟩
              · have h := HO5.out
                rw [wrap_sum, ← HN.out] at h
                rw [show n + 1 - 16 = (n - 16) + 1 by omega, extW, List.map_append]
                exact h
              · exact ((below_drewN HB.out _).alloc HB.out.size _).grown HG5.out (by have := HB.out.size; simp; omega) (fun j hj => (HO.out.lt j hj).1)
            case measure => simp [intOf]; omega
        · obtain rfl : n = 64 := by omega
          go_wp2_with fail
          go_ret
          exact ⟨gg, cp, rfl, HO.out, HB.out⟩
end Go.Proofs.YtkfjhegehhahcaaDoor

/- The contract of the document's step of a block. -/
namespace Go.Proofs.YtkfjhegehhahcaaDoor
open Go.RowKit
set_option linter.unusedVariables false

theorem refRound_list (s : List Int) (k v : Int) (w : World) (hs : s.length = 8) (hsb : Words32 s) (hk : 0 ≤ k) (hk2 : k ≤ 4294967295) (hv : 0 ≤ v) (hv2 : v ≤ 4294967295) :
    Calls Tryd.prog 83 #[stV s, .int .u32 k, .int .u32 v] w fun e w' => e = .returned (stV (rnd s k v)) ∧ Below w.heap.size w w' := by
  obtain ⟨a, b, c, d, e, f, g, z, rfl⟩ := list_8 s hs
  have ba := hsb a (by simp)
  have bd := hsb d (by simp)
  have be := hsb e (by simp)
  have bz := hsb z (by simp)
  exact refRound_any a b c d e f g z k v w ba.1 ba.2 bd.1 bd.2 be.1 be.2 bz.1 bz.2 hk hk2 hv hv2
theorem tab_row (w : World) (gk ck : Nat) (o1 o2 : Obj) : TB (((w.alloc (.cells (Value.slice (some ⟨gk, 0, none⟩) 64 ck :: hTab.map (Value.int .u32)).toArray 42)).alloc o1).alloc o2) w.heap.size (.slice (some ⟨gk, 0, none⟩) 64 ck) hTab := by
  have h : TB (w.alloc (.cells (Value.slice (some ⟨gk, 0, none⟩) 64 ck :: hTab.map (Value.int .u32)).toArray 42)) w.heap.size (.slice (some ⟨gk, 0, none⟩) 64 ck) hTab := heap_alloc_new w _
  exact (h.alloc _).alloc _


set_option maxRecDepth 100000 in
set_option maxHeartbeats 4000000 in
theorem refStep_any (g off cap gk ck : Nat) (s bs : List Int) (w : World) (hs : s.length = 8) (hsb : Words32 s) (hl : bs.length = 64) (hb8 : Bytes8 bs) (hseg : Seg .u8 w g off bs) (hg : g < w.heap.size) (hks : Seg .u32 w gk 0 kTab) (hgk : gk < w.heap.size) :
    Calls Tryd.prog 69 #[tabV gk ck, stV s, .slice (some ⟨g, off, none⟩) 64 cap] w (StepPost w s bs) := by
  have hlen := sched_length bs
  have hwb := sched_bd hb8
  have hi8 : (Tryd.prog.info? 40).map (·.size) = some s.length := by rw [hs]; exact sizeA8
  have b3 : ∀ o1 o2 o3, Below w.heap.size w (((w.alloc o1).alloc o2).alloc o3) := fun o1 o2 o3 => (((Below.refl _ _).alloc (Nat.le_refl _) _).alloc (by simp) _).alloc (by simp; omega) _
  have r1 : ∀ o1 o3, Row .u32 (((w.alloc o1).alloc (.cells (s.map (Value.int .u32)).toArray 40)).alloc o3) 40 (w.heap.size + 1) s := fun o1 o3 => by
    have h := (Row.new (k := .u32) (w.alloc o1) 40 s).alloc o3
    have e : (w.alloc o1).heap.size = w.heap.size + 1 := by simp
    rw [e] at h
    exact h
  have r2 : ∀ o1 o2, Row .u32 (((w.alloc o1).alloc o2).alloc (.cells (([0, 0, 0, 0, 0, 0, 0, 0] : List Int).map (Value.int .u32)).toArray 40)) 40 (w.heap.size + 2) [0, 0, 0, 0, 0, 0, 0, 0] := fun o1 o2 => by
    have h := Row.new (k := .u32) ((w.alloc o1).alloc o2) 40 [0, 0, 0, 0, 0, 0, 0, 0]
    have e : ((w.alloc o1).alloc o2).heap.size = w.heap.size + 2 := by simp
    rw [e] at h
    exact h
  have HI8 := Lib.hid hi8
  have HL := Lib.hid hlen
  have HWB := Lib.hid hwb
  have HS := Lib.hid hs
  have HSB := Lib.hid hsb
  have HKS := Lib.hid hks
  have HBS := Lib.hid (And.intro hl (And.intro hb8 hseg))
  have B3 := Lib.hid b3
  have R1 := Lib.hid r1
  have R2 := Lib.hid r2
  have TR := Lib.hid (tab_row w gk ck)
  clear hlen hwb hi8 hs hsb hks hl hb8 hseg b3 r1 r2
  unfold stV tabV
  go_enter Tryd.func69, Tryd.ntmps69
  go_wp2_with fail
  refine (refWords_any g off cap bs _ HBS.out.1 HBS.out.2.1 (HBS.out.2.2.below (B3.out _ _ _) hg) (by simp; omega)).mono ?_
  rintro e w1 ⟨gw, cw, rfl, ho1, hb1⟩
  have hgw := ho1.lt gw rfl
  have HO1 := Lib.hid ho1
  have HT1 : Hid (TB w1 w.heap.size (.slice (some ⟨gk, 0, none⟩) 64 ck) hTab) := Lib.hid ((TR.out _ _).below hb1 (by first | (simp; done) | (simp; omega)))
  have HV1 : Hid (Row .u32 w1 40 (w.heap.size + 1) s) := Lib.hid ((R1.out _ _).below hb1 (by first | (simp; done) | (simp; omega)))
  have HZ1 : Hid (Row .u32 w1 40 (w.heap.size + 2) [0, 0, 0, 0, 0, 0, 0, 0]) := Lib.hid ((R2.out _ _).below hb1 (by simp))
  have HB1 : Hid (Below w.heap.size w w1) := Lib.hid ((B3.out _ _ _).trans (hb1.mono (by simp; omega)))
  have hgw2 : w.heap.size + 3 ≤ gw := by have := hgw.1; simp at this; omega
  have hgw3 : gw < w1.heap.size := hgw.2
  clear ho1 hb1 hgw
  go_wp2_with (first
    | (refine wpList_load_ints rfl 40 (.tmp 4) rfl (w.heap.size + 1) rfl 40 .u32 s HV1.out 8 39 Tryd.underlying40 HI8.out ?_)
    | (refine wpList_store_ints rfl 40 (.tmp 8) (.tmp 13) rfl w1.heap.size .u32 s rfl rfl 40 [0, 0, 0, 0, 0, 0, 0, 0] (Row.new w1 40 [0, 0, 0, 0, 0, 0, 0, 0]) HI8.out (by rw [HS.out]; rfl) ?_
       intro w2 hr2 hg2 hs2
       have HX2 := Lib.hid hr2
       have HO2 := Lib.hid ((HO1.out.alloc (.cells (([0, 0, 0, 0, 0, 0, 0, 0] : List Int).map (Value.int .u32)).toArray 40)).kept hg2 (.inr (by simp [Value.ownBlock]; omega)))
       have HT2 := Lib.hid ((HT1.out.alloc (.cells (([0, 0, 0, 0, 0, 0, 0, 0] : List Int).map (Value.int .u32)).toArray 40)).grown hg2 (by have := HT1.out.lt; simp; omega))
       have HV2 := Lib.hid ((HV1.out.alloc (.cells (([0, 0, 0, 0, 0, 0, 0, 0] : List Int).map (Value.int .u32)).toArray 40)).grown hg2 (by have := HV1.out.lt; simp; omega))
       have HZ2 := Lib.hid ((HZ1.out.alloc (.cells (([0, 0, 0, 0, 0, 0, 0, 0] : List Int).map (Value.int .u32)).toArray 40)).grown hg2 (by have := HZ1.out.lt; simp; omega))
       have HB2 : Hid (Below w.heap.size w w2) := Lib.hid (below_only (HB1.out.alloc HB1.out.size _) hg2 (by have := HB1.out.size; simp; omega) HB1.out.size)
       clear hr2 hg2 hs2))
  obtain ⟨gx, hgx⟩ : ∃ gx, gx = w1.heap.size := ⟨_, rfl⟩
  rw [← hgx]
  have hgx2 : gw < gx := by omega
  have HX2' : Hid (Row .u32 w2 40 gx s) := Lib.hid (by rw [hgx]; exact HX2.out)
  clear hgx HX2
  go_loopw [9] (fun i wx => ∃ n : Nat, n ≤ 64 ∧ i = .int .i64 n ∧ Row .u32 wx 40 gx (rnds (sched bs) s n) ∧ Row .u32 wx 40 (w.heap.size + 1) s ∧ Row .u32 wx 40 (w.heap.size + 2) [0, 0, 0, 0, 0, 0, 0, 0] ∧ TB wx w.heap.size (.slice (some ⟨gk, 0, none⟩) 64 ck) hTab ∧ Seg .u32 wx gw 0 (sched bs) ∧ Below w.heap.size w wx) (fun i _ => 64 - (intOf i).toNat)
  case atStart => exact ⟨0, by omega, rfl, HX2'.out, HV2.out, HZ2.out, HT2.out, own_seg HO2.out, HB2.out⟩
  case round =>
    obtain ⟨n, hn, rfl, hx, hv, hz, ht, hsw, hb⟩ := hrel
    have HX := Lib.hid hx
    have HV := Lib.hid hv
    have HZ := Lib.hid hz
    have HT := Lib.hid ht
    have HSW := Lib.hid hsw
    have HB := Lib.hid hb
    clear hx hv hz ht hsw hb
    by_cases hlt : n < 64
    · have hl8 : (rnds (sched bs) s n).length = 8 := rnds_length HS.out n
      have hck := (HKS.out.below HB.out hgk).cellD n (by rw [kTab_length]; exact hlt)
      have hcw := HSW.out.cellD n (by rw [HL.out]; exact hlt)
      rw [Nat.zero_add] at hck hcw
      have hct := HT.out.cell0
      have bw := word_at HWB.out n
      have bk := word_at kTab_bd n
      have hrr : ∀ W, Calls Tryd.prog 83 #[stV (rnds (sched bs) s n), .int .u32 (kTab.getD n 0), .int .u32 ((sched bs).getD n 0)] W (fun e w' => e = .returned (stV (rnds (sched bs) s (n + 1))) ∧ Below W.heap.size W w') := fun W => refRound_list _ _ _ W hl8 (rnds_bd HS.out HSB.out n) bk.1 bk.2 bw.1 bw.2
      obtain ⟨y0, y1, y2, y3, y4, y5, y6, y7, hy⟩ := list_8 (rnds (sched bs) s (n + 1)) (rnds_length HS.out (n + 1))
      obtain ⟨x0, x1, x2, x3, x4, x5, x6, x7, hx⟩ := list_8 (rnds (sched bs) s n) hl8
      have hr := HX.out
      rw [hx] at hr hrr
      rw [hy] at hrr
      generalize kTab.getD n 0 = kk at *
      generalize (sched bs).getD n 0 = ww at *
      have hc : ∀ W, Calls Tryd.prog 83 #[.agg #[.int .u32 x0, .int .u32 x1, .int .u32 x2, .int .u32 x3, .int .u32 x4, .int .u32 x5, .int .u32 x6, .int .u32 x7], .int .u32 kk, .int .u32 ww] W (fun e w' => e = .returned (.agg #[.int .u32 y0, .int .u32 y1, .int .u32 y2, .int .u32 y3, .int .u32 y4, .int .u32 y5, .int .u32 y6, .int .u32 y7]) ∧ Below W.heap.size W w') := hrr
      have HC := Lib.hid hc
      have HNX := Lib.hid hy
      have HR2 := Lib.hid hr
      have c0 := hr.cell 0 (by simp)
      have c1 := hr.cell 1 (by simp)
      have c2 := hr.cell 2 (by simp)
      have c3 := hr.cell 3 (by simp)
      have c4 := hr.cell 4 (by simp)
      have c5 := hr.cell 5 (by simp)
      have c6 := hr.cell 6 (by simp)
      have c7 := hr.cell 7 (by simp)
      simp only [List.getElem_cons_zero, List.getElem_cons_succ] at c0 c1 c2 c3 c4 c5 c6 c7
      have nb : (n : Int) < 64 := by omega
      clear hl8 hrr hy hx hr hc
      go_wp2_with fail
      go_region_with (first
        | (go_at_call 83
           (with_reducible refine (HC.out _).mono ?_)
           rintro _ w7 ⟨rfl, hb7⟩
           have HR3 : Hid (Row .u32 w7 40 gx [x0, x1, x2, x3, x4, x5, x6, x7]) := Lib.hid (HR2.out.drew.below hb7 HR2.out.lt)
           have HV3 : Hid (Row .u32 w7 40 (w.heap.size + 1) s) := Lib.hid (HV.out.drew.below hb7 HV.out.lt)
           have HZ3 : Hid (Row .u32 w7 40 (w.heap.size + 2) [0, 0, 0, 0, 0, 0, 0, 0]) := Lib.hid (HZ.out.drew.below hb7 HZ.out.lt)
           have HT3 : Hid (TB w7 w.heap.size (.slice (some ⟨gk, 0, none⟩) 64 ck) hTab) := Lib.hid (TB.below (w := wr.drew) HT.out hb7 HT.out.lt)
           have HSW3 : Hid (Seg .u32 w7 gw 0 (sched bs)) := Lib.hid (HSW.out.drew.below hb7 (Nat.lt_trans hgx2 HR2.out.lt))
           have HB3 : Hid (Below w.heap.size w w7) := Lib.hid (HB.out.drew.trans (hb7.mono HB.out.size))
           have t0 := HR3.out.cell 0 (by simp)
           have t1 := HR3.out.cell 1 (by simp)
           have t2 := HR3.out.cell 2 (by simp)
           have t3 := HR3.out.cell 3 (by simp)
           have t4 := HR3.out.cell 4 (by simp)
           have t5 := HR3.out.cell 5 (by simp)
           have t6 := HR3.out.cell 6 (by simp)
           have t7 := HR3.out.cell 7 (by simp)
           have tf := fun o => HR3.out.frozen o
           clear hb7))
      all_goals
        obtain ⟨w8, hw8⟩ : ∃ w8, w8 = ((((((((w7.setCell ⟨gx, 0, none⟩ (.int .u32 y0)).setCell ⟨gx, 1, none⟩ (.int .u32 y1)).setCell ⟨gx, 2, none⟩ (.int .u32 y2)).setCell ⟨gx, 3, none⟩ (.int .u32 y3)).setCell ⟨gx, 4, none⟩ (.int .u32 y4)).setCell ⟨gx, 5, none⟩ (.int .u32 y5)).setCell ⟨gx, 6, none⟩ (.int .u32 y6)).setCell ⟨gx, 7, none⟩ (.int .u32 y7)) := ⟨_, rfl⟩
        rw [← hw8]
        have HX8 : Hid (Row .u32 w8 40 gx [y0, y1, y2, y3, y4, y5, y6, y7]) := Lib.hid (by rw [hw8]; exact ((((((((HR3.out.set 0 y0).set 1 y1).set 2 y2).set 3 y3).set 4 y4).set 5 y5).set 6 y6).set 7 y7))
        have HV8 : Hid (Row .u32 w8 40 (w.heap.size + 1) s) := Lib.hid (by rw [hw8]; exact ((((((((HV3.out.far (p := ⟨gx, 0, none⟩) (by simp; omega) (.int .u32 y0)).far (p := ⟨gx, 1, none⟩) (by simp; omega) (.int .u32 y1)).far (p := ⟨gx, 2, none⟩) (by simp; omega) (.int .u32 y2)).far (p := ⟨gx, 3, none⟩) (by simp; omega) (.int .u32 y3)).far (p := ⟨gx, 4, none⟩) (by simp; omega) (.int .u32 y4)).far (p := ⟨gx, 5, none⟩) (by simp; omega) (.int .u32 y5)).far (p := ⟨gx, 6, none⟩) (by simp; omega) (.int .u32 y6)).far (p := ⟨gx, 7, none⟩) (by simp; omega) (.int .u32 y7)))
        have HZ8 : Hid (Row .u32 w8 40 (w.heap.size + 2) [0, 0, 0, 0, 0, 0, 0, 0]) := Lib.hid (by rw [hw8]; exact ((((((((HZ3.out.far (p := ⟨gx, 0, none⟩) (by simp; omega) (.int .u32 y0)).far (p := ⟨gx, 1, none⟩) (by simp; omega) (.int .u32 y1)).far (p := ⟨gx, 2, none⟩) (by simp; omega) (.int .u32 y2)).far (p := ⟨gx, 3, none⟩) (by simp; omega) (.int .u32 y3)).far (p := ⟨gx, 4, none⟩) (by simp; omega) (.int .u32 y4)).far (p := ⟨gx, 5, none⟩) (by simp; omega) (.int .u32 y5)).far (p := ⟨gx, 6, none⟩) (by simp; omega) (.int .u32 y6)).far (p := ⟨gx, 7, none⟩) (by simp; omega) (.int .u32 y7)))
        have HT8 : Hid (TB w8 w.heap.size (.slice (some ⟨gk, 0, none⟩) 64 ck) hTab) := Lib.hid (by rw [hw8]; exact ((((((((HT3.out.far (p := ⟨gx, 0, none⟩) (by simp; omega) (.int .u32 y0)).far (p := ⟨gx, 1, none⟩) (by simp; omega) (.int .u32 y1)).far (p := ⟨gx, 2, none⟩) (by simp; omega) (.int .u32 y2)).far (p := ⟨gx, 3, none⟩) (by simp; omega) (.int .u32 y3)).far (p := ⟨gx, 4, none⟩) (by simp; omega) (.int .u32 y4)).far (p := ⟨gx, 5, none⟩) (by simp; omega) (.int .u32 y5)).far (p := ⟨gx, 6, none⟩) (by simp; omega) (.int .u32 y6)).far (p := ⟨gx, 7, none⟩) (by simp; omega) (.int .u32 y7)))
        have hgrow : w7.grownBy w8 (some gx) := by rw [hw8]; exact (only_set (only_set (only_set (only_set (only_set (only_set (only_set (only_set (only_refl w7 (some gx)) 0 (.int .u32 y0)) 1 (.int .u32 y1)) 2 (.int .u32 y2)) 3 (.int .u32 y3)) 4 (.int .u32 y4)) 5 (.int .u32 y5)) 6 (.int .u32 y6)) 7 (.int .u32 y7))
        have HSW8 : Hid (Seg .u32 w8 gw 0 (sched bs)) := Lib.hid (HSW3.out.keep fun o => World.cell?_of_block (hgrow.block gw (Nat.lt_trans hgx2 HR3.out.lt) (by simp; omega)))
        have HB8 : Hid (Below w.heap.size w w8) := Lib.hid (below_only HB3.out hgrow HB3.out.size (by omega))
        clear hw8 hgrow t0 t1 t2 t3 t4 t5 t6 t7 tf c0 c1 c2 c3 c4 c5 c6 c7 hct hck hcw
        go_wp2_with fail
        go_roundw
        case rel => exact ⟨n + 1, by omega, by go_num, by rw [HNX.out]; exact HX8.out, HV8.out, HZ8.out, HT8.out, HSW8.out, HB8.out⟩
        case measure => simp [intOf]; omega
    · obtain rfl : n = 64 := by omega
      have hxl : (rnds (sched bs) s 64).length = 8 := rnds_length HS.out 64
      have hfin : stepL s bs = addN (rnds (sched bs) s 64) s 8 := (addN_all hxl HS.out).symm
      have hxb : Words32 (rnds (sched bs) s 64) := rnds_bd HS.out HSB.out 64
      generalize rnds (sched bs) s 64 = x at *
      have HXL := Lib.hid hxl
      have HFIN := Lib.hid hfin
      have HXB := Lib.hid hxb
      have hi8x : (Tryd.prog.info? 40).map (·.size) = some x.length := by rw [hxl]; exact sizeA8
      have HI8X := Lib.hid hi8x
      clear hxl hfin hxb hi8x
      rw [show ((64 : Nat) : Int) = 64 from rfl]
      go_wp2_with fail
      go_loopw [10] (fun i wx => ∃ n : Nat, n ≤ 8 ∧ i = .int .i64 n ∧ Row .u32 wx 40 gx (addN x s n) ∧ Row .u32 wx 40 (w.heap.size + 1) s ∧ Row .u32 wx 40 (w.heap.size + 2) [0, 0, 0, 0, 0, 0, 0, 0] ∧ Below w.heap.size w wx) (fun i _ => 8 - (intOf i).toNat)
      case atStart => exact ⟨0, by omega, rfl, HX.out, HV.out, HZ.out, HB.out⟩
      case round =>
        obtain ⟨n, hn, rfl, hx, hr, hz, hb⟩ := hrel
        clear HX HV HZ HB HT HSW
        have HX := Lib.hid hx
        have HR := Lib.hid hr
        have HZ := Lib.hid hz
        have HB := Lib.hid hb
        clear hx hr hz hb
        by_cases hlt : n < 8
        · have c1 := HX.out.cellD n (by rw [addN_length, HXL.out]; exact hlt)
          have c2 := HR.out.cellD n (by rw [HS.out]; exact hlt)
          have f1 := HX.out.frozen n
          rw [addN_get x s n n (Nat.le_refl _)] at c1
          have b1 := word_at HXB.out n
          have b2 := word_at HSB.out n
          have hst : Row .u32 (wr.setCell ⟨gx, n, none⟩ (.int .u32 ((x.getD n 0 + s.getD n 0) % 4294967296))) 40 gx (addN x s (n + 1)) := HX.out.set n _
          generalize x.getD n 0 = y at *
          generalize s.getD n 0 = v at *
          have HST := Lib.hid hst
          have nb : (n : Int) < 8 := by omega
          clear hst
          go_wp2_with fail
          go_region
          go_wp2_with fail
          go_roundw
          case rel =>
            refine ⟨n + 1, by omega, by go_num, ?_, ?_, ?_, ?_⟩
            · exact HST.out.drew
            · exact HR.out.drew.far (p := ⟨gx, n, none⟩) (by simp; omega) _
            · exact HZ.out.drew.far (p := ⟨gx, n, none⟩) (by simp; omega) _
            · exact HB.out.drew.setCell (p := ⟨gx, n, none⟩) (by simp; omega) _
          case measure => simp [intOf]; omega
        · obtain rfl : n = 8 := by omega
          have hi8y : (Tryd.prog.info? 40).map (·.size) = some (addN x s 8).length := by rw [addN_length]; exact HI8X.out
          have HI8Y := Lib.hid hi8y
          clear hi8y
          go_wp2_with (first
            | (refine wpList_load_ints rfl 40 (.tmp 8) rfl gx rfl 40 .u32 (addN x s 8) HX.out 8 39 Tryd.underlying40 HI8Y.out ?_)
            | (refine wpList_store_ints rfl 40 (.tmp 6) (.tmp 42) rfl (w.heap.size + 2) .u32 (addN x s 8) rfl rfl 40 [0, 0, 0, 0, 0, 0, 0, 0] HZ.out HI8Y.out (by rw [addN_length, HXL.out]; rfl) ?_
               intro w5 hr5 hg5 hs5
               have HR5 := Lib.hid hr5
               have HG5 := Lib.hid hg5
               clear hr5 hg5 hs5))
          refine bodyPost_ret (v := stV (addN x s 8)) (results_cell_row Tryd.results69 _ _ (w.heap.size + 2) 40 _ _ _ rfl HR5.out Tryd.underlying40 rfl (by rw [ints_size]; exact HI8Y.out)) rfl ⟨by rw [HFIN.out], ?_⟩
          exact below_only HB.out HG5.out HB.out.size (by omega)
end Go.Proofs.YtkfjhegehhahcaaDoor

/- Facts on states and tables that the laws ask. -/
namespace Go.Proofs.YtkfjhegehhahcaaDoor
open Go.RowKit
set_option linter.unusedVariables false

theorem compCodeS : (Tryd.prog.info? 34).map (·.comparable) = some true := by kernel_rfl
theorem eql_codeS (a b : Int) (w : World) : (binOp .eql 31 (.iface 34 (.int .i64 a)) (.iface 34 (.int .i64 b))).run Tryd.prog w = .ok (.bool (a == b)) w :=
  Lib.run_eql_iface_int w a b Tryd.underlying31 compCodeS Tryd.underlying34
theorem run_neq_agg8 (a b c d e f g h : Int) (w : World) : (binOp .neq 40 (agg8 a b c d e f g h) (agg8 a b c d e f g h)).run Tryd.prog w = .ok (.bool false) w := by
  have h1 := run_equal8 a b c d e f g h 9998 w
  unfold agg8 at h1 ⊢
  rw [run_neq_struct, h1]
  simp
theorem tabZero (w : World) : TB (w.alloc (.cells #[.slice none 0 0, .int .u32 0, .int .u32 0, .int .u32 0, .int .u32 0, .int .u32 0, .int .u32 0, .int .u32 0, .int .u32 0] 42)) w.heap.size (.slice none 0 0) [0, 0, 0, 0, 0, 0, 0, 0] := heap_alloc_new w _
theorem tb_cells {w : World} {g : Nat} {v : Value} (h : TB w g v hTab) : w.cell? ⟨g, 1, none⟩ = some (.int .u32 1779033703) ∧ w.cell? ⟨g, 2, none⟩ = some (.int .u32 3144134277) ∧ w.cell? ⟨g, 3, none⟩ = some (.int .u32 1013904242) ∧ w.cell? ⟨g, 4, none⟩ = some (.int .u32 2773480762) ∧ w.cell? ⟨g, 5, none⟩ = some (.int .u32 1359893119) ∧ w.cell? ⟨g, 6, none⟩ = some (.int .u32 2600822924) ∧ w.cell? ⟨g, 7, none⟩ = some (.int .u32 528734635) ∧ w.cell? ⟨g, 8, none⟩ = some (.int .u32 1541459225) :=
  ⟨h.cellH 0 (by decide), h.cellH 1 (by decide), h.cellH 2 (by decide), h.cellH 3 (by decide), h.cellH 4 (by decide), h.cellH 5 (by decide), h.cellH 6 (by decide), h.cellH 7 (by decide)⟩
theorem first_eq (w : World) : (binOp .neq 40 (.agg #[.int .u32 1779033703, .int .u32 3144134277, .int .u32 1013904242, .int .u32 2773480762, .int .u32 1359893119, .int .u32 2600822924, .int .u32 528734635, .int .u32 1541459225]) (.agg #[.int .u32 1779033703, .int .u32 3144134277, .int .u32 1013904242, .int .u32 2773480762, .int .u32 1359893119, .int .u32 2600822924, .int .u32 528734635, .int .u32 1541459225])).run Tryd.prog w = .ok (.bool false) w := run_neq_agg8 1779033703 3144134277 1013904242 2773480762 1359893119 2600822924 528734635 1541459225 w

end Go.Proofs.YtkfjhegehhahcaaDoor

/- The contract of the document's digest. -/
namespace Go.Proofs.YtkfjhegehhahcaaDoor
open Go.RowKit
set_option linter.unusedVariables false

/-- The first j of a list, zeros behind them. -/
def outN (l : List Int) (j : Nat) : List Int := l.take j ++ List.replicate (l.length - j) 0
theorem outN_zero (l : List Int) : outN l 0 = List.replicate l.length 0 := by simp [outN]
theorem outN_all (l : List Int) (j : Nat) (h : l.length ≤ j) : outN l j = l := by simp [outN, List.take_of_length_le h, Nat.sub_eq_zero_of_le h]
theorem outN_length (l : List Int) (j : Nat) : (outN l j).length = l.length := by simp [outN]; omega
theorem outN_set (l : List Int) (j : Nat) (h : j < l.length) : (outN l j).set j (l.getD j 0) = outN l (j + 1) := by
  unfold outN
  rw [List.set_append_right _ _ (by simp; omega), show l.take (j + 1) = l.take j ++ [l[j]] from List.take_succ_eq_append_getElem h]
  have e : l.length - j = (l.length - (j + 1)) + 1 := by omega
  rw [e, List.replicate_succ]
  have hm : j - (l.take j).length = 0 := by rw [List.length_take]; omega
  rw [hm, List.set_cons_zero, List.append_assoc]
  simp [List.getD, h, -List.take_append_getElem]
theorem tab_row1 (w : World) (gk ck : Nat) (o1 : Obj) : TB ((w.alloc (.cells (Value.slice (some ⟨gk, 0, none⟩) 64 ck :: hTab.map (Value.int .u32)).toArray 42)).alloc o1) w.heap.size (.slice (some ⟨gk, 0, none⟩) 64 ck) hTab := by
  have h : TB (w.alloc (.cells (Value.slice (some ⟨gk, 0, none⟩) 64 ck :: hTab.map (Value.int .u32)).toArray 42)) w.heap.size (.slice (some ⟨gk, 0, none⟩) 64 ck) hTab := heap_alloc_new w _
  exact h.alloc _

set_option maxRecDepth 100000 in
set_option maxHeartbeats 4000000 in
theorem refSum_any (a : Option Addr) (n cap gk ck : Nat) (bs : List Int) (w : World) (hin : InBytes w a n cap bs) (hn : n ≤ 20000) (hks : Seg .u32 w gk 0 kTab) (hgk : gk < w.heap.size) :
    Calls Tryd.prog 54 #[tabV gk ck, .slice a n cap] w (SumPost w bs) := by
  obtain ⟨i0, hi0, hz0, hz1, hz2⟩ := info_parts infoU8
  have hle0 := hin.le
  have hmax := hin.max
  simp only [maxLen] at hmax
  have hnl := nils_lt n
  have hbl := hin.len
  obtain ⟨T, hT1⟩ : ∃ T, n + (nils n + 9) = 64 * T := by
    obtain ⟨q, _, _, h3, _⟩ := whole_blocks n (n / 64) (n % 64) (by omega) (by omega)
    exact ⟨n / 64 + q, by omega⟩
  have hall : (bs ++ tailL n).length = n + (nils n + 9) := by rw [List.length_append, tailL_length, hbl]
  have hab : Bytes8 (bs ++ tailL n) := app_bytes hin.bytes (tailL_bytes n)
  have hcode : (n : Int) ≤ 1125899906842624 := by omega
  have HIN := Lib.hid hin
  have HKS := Lib.hid hks
  have HT1 := Lib.hid hT1
  have HALL := Lib.hid hall
  have HAB := Lib.hid hab
  have HBL := Lib.hid hbl
  clear hin hks hT1 hall hab hbl
  unfold tabV
  go_enter Tryd.func54, Tryd.ntmps54
  have hown0 : ((w.alloc (.cells (Value.slice (some ⟨gk, 0, none⟩) 64 ck :: hTab.map (Value.int .u32)).toArray 42)).alloc (.cells #[] 5)).ownsRow (w.heap.size + 1) 5 1 (.slice (some ⟨w.heap.size + 1, 0, none⟩) 0 0) 0 [] := by
    refine ⟨by simp, .inr ⟨w.heap.size + 1, 0, #[], rfl, Nat.le_refl _, ?_, Nat.le_refl _, by simp [maxLen], by simp, by simp⟩⟩
    have h := heap_alloc_new (w.alloc (.cells (Value.slice (some ⟨gk, 0, none⟩) 64 ck :: hTab.map (Value.int .u32)).toArray 42)) (.cells #[] 5)
    have e : (w.alloc (.cells (Value.slice (some ⟨gk, 0, none⟩) 64 ck :: hTab.map (Value.int .u32)).toArray 42)).heap.size = w.heap.size + 1 := by simp
    rw [e] at h
    exact h
  have HO0 := Lib.hid hown0
  have b2 : ∀ o1 o2, Below w.heap.size w ((w.alloc o1).alloc o2) := fun o1 o2 => ((Below.refl _ _).alloc (Nat.le_refl _) _).alloc (by simp) _
  have HB0 := Lib.hid b2
  have HT0 := Lib.hid (tab_row1 w gk ck)
  clear hown0 b2
  go_wp2_with (first
    | (at_builtin
       refine wpList_append_bytes' _ rfl (.tmp 10) (.tmp 11) 22 rfl (w.heap.size + 1) 5 i0 _ 1 Tryd.underlying22 hi0 hz0 hz1 hz2 rfl (w.heap.size + 1) 0 0 [] rfl HO0.out a n cap bs rfl (HIN.out.below (HB0.out _ _)) (by simp only [maxLen]; omega) (by omega) (by simp) ?_
       intro g1 c1 w1 hown1 hg1
       rw [List.nil_append, Nat.zero_add] at hown1
       have HO1 := Lib.hid hown1
       have HT1a : Hid (TB w1 w.heap.size (.slice (some ⟨gk, 0, none⟩) 64 ck) hTab) := Lib.hid ((HT0.out _).grown hg1 (by simp))
       have HB1 : Hid (Below w.heap.size w w1) := Lib.hid (below_only (HB0.out _ _) hg1 (by simp; omega) (by omega))
       have hsz1 := HT1a.out.lt
       clear hown1 hg1)
    | (go_at_call 68
       (with_reducible refine (refTail_any n _ hcode).mono ?_)
       rintro _ w2 ⟨v2, rfl, hown2, hb2⟩
       obtain ⟨gt, ct, hv2, hgt1, hgt2⟩ := hown2.form (by omega)
       subst hv2
       have HA2 := Lib.hid hown2
       have HO2 : Hid (w2.ownsRow (w.heap.size + 1) 5 1 (.slice (some ⟨g1, 0, none⟩) n c1) n (bs.map (Value.int .u8))) := Lib.hid (HO1.out.kept (only_below hb2 none) (.inr (by simp [Value.ownBlock])))
       have HT2 : Hid (TB w2 w.heap.size (.slice (some ⟨gk, 0, none⟩) 64 ck) hTab) := Lib.hid (HT1a.out.below hb2 HT1a.out.lt)
       have HB2 : Hid (Below w.heap.size w w2) := Lib.hid (HB1.out.trans (hb2.mono HB1.out.size))
       have hsz2 := HT2.out.lt
       have hg1 := HO2.out.lt g1 rfl
       clear hown2 hb2)
    | (at_builtin
       refine wpList_append_own _ rfl (.tmp 13) (.tmp 16) 22 rfl (w.heap.size + 1) 5 i0 _ 1 1 Tryd.underlying22 hi0 hz0 hz1 hz2 rfl (by omega) (.slice (some ⟨g1, 0, none⟩) n c1) n (bs.map (Value.int .u8)) rfl HO2.out ⟨gt, 0, none⟩ (nils n + 9) ct ((tailL n).map (Value.int .u8)) rfl (by simp [tailL_length]) (by exact (own_seg HA2.out).news) (by simp [Value.oneCell']) (by simp only [maxLen]; omega) (by omega) (by omega) ?_
       intro v3 w3 hown3 hg3 hat3
       obtain ⟨ga, cpa, hv3, hgga, hlta⟩ := hown3.form (by omega)
       rw [hv3]
       rw [hv3] at hown3
       rw [← List.map_append] at hown3
       have HO3 := Lib.hid hown3
       have HT3 : Hid (TB w3 w.heap.size (.slice (some ⟨gk, 0, none⟩) 64 ck) hTab) := Lib.hid (HT2.out.grown hg3 (by simp [Value.ownBlock]; omega))
       have HB3 : Hid (Below w.heap.size w w3) := Lib.hid (HB2.out.grown hg3 HB2.out.size (fun j hj => by have := (HO2.out.lt j hj).1; omega))
       have hsz3 := HT3.out.lt
       obtain ⟨t1, t2, t3, t4, t5, t6, t7, t8⟩ := tb_cells HT3.out
       clear hown3 hg3 hat3 hv3)
    | (refine wpList_store_ints rfl 40 (.tmp 6) (.tmp 19) rfl w3.heap.size .u32 hTab rfl rfl 40 [0, 0, 0, 0, 0, 0, 0, 0] (Row.new w3 40 [0, 0, 0, 0, 0, 0, 0, 0]) sizeA8 rfl ?_
       intro w5 hr5 hg5 hs5
       have HR5 := Lib.hid hr5
       have hga := HO3.out.lt ga rfl
       have HO5 : Hid (w5.ownsRow (w.heap.size + 1) 5 1 (.slice (some ⟨ga, 0, none⟩) (n + (nils n + 9)) cpa) (n + (nils n + 9)) ((bs ++ tailL n).map (Value.int .u8))) := Lib.hid ((HO3.out.alloc _).kept hg5 (.inr (by simp [Value.ownBlock]; omega)))
       have HT5 : Hid (TB w5 w.heap.size (.slice (some ⟨gk, 0, none⟩) 64 ck) hTab) := Lib.hid ((HT3.out.alloc _).grown hg5 (by simp; omega))
       have HB5 : Hid (Below w.heap.size w w5) := Lib.hid (below_only (HB3.out.alloc HB3.out.size _) hg5 (by have := HB3.out.size; simp; omega) HB3.out.size)
       clear hr5 hg5 hs5 t1 t2 t3 t4 t5 t6 t7 t8))
  have hoT := HO5.out
  rw [HT1.out] at hoT
  have HOT := Lib.hid hoT
  clear hoT HO5 HO3 HO2
  rw [HT1.out]
  obtain ⟨gv, hgv⟩ : ∃ gv, gv = w3.heap.size := ⟨_, rfl⟩
  rw [← hgv]
  have hgv2 : w.heap.size + 1 ≤ gv := by omega
  have hgav : ga < gv := by rw [hgv]; exact hga.2
  have hga1 : w.heap.size + 1 ≤ ga := hga.1
  have HR5' : Hid (Row .u32 w5 40 gv hTab) := Lib.hid (by rw [hgv]; exact HR5.out)
  clear hgv HR5 hga HA2 HT2 HB2 HT3 HB3 HO0 HB0 HT0 HO1 HT1a HB1
  go_loopw [7] (fun i wx => ∃ k : Nat, k ≤ T ∧ i = .int .i64 (64 * (k : Int)) ∧ Row .u32 wx 40 gv (stepsL hTab (bs ++ tailL n) k) ∧ TB wx w.heap.size (.slice (some ⟨gk, 0, none⟩) 64 ck) hTab ∧ wx.ownsRow (w.heap.size + 1) 5 1 (.slice (some ⟨ga, 0, none⟩) (64 * T) cpa) (64 * T) ((bs ++ tailL n).map (Value.int .u8)) ∧ Below w.heap.size w wx) (fun i _ => 64 * T - (intOf i).toNat)
  case atStart => exact ⟨0, by omega, rfl, HR5'.out, HT5.out, HOT.out, HB5.out⟩
  case round =>
    obtain ⟨k, hk, rfl, hr, ht, ho, hb⟩ := hrel
    have HR := Lib.hid hr
    have HT := Lib.hid ht
    have HO := Lib.hid ho
    have HB := Lib.hid hb
    clear hr ht ho hb
    have hT2 := HT1.out
    by_cases hlt : k < T
    · have hl8 : (stepsL hTab (bs ++ tailL n) k).length = 8 := stepsL_length rfl _ k
      have hinA := InBytes.of_own HO.out HAB.out
      obtain ⟨g', off', e', hgA, hsegA⟩ := hinA.place (by omega)
      injection e' with e'
      injection e' with e1 e2
      subst e1
      subst e2
      have hcpa := hinA.le
      have hcpm := hinA.max
      simp only [maxLen] at hcpm
      obtain ⟨y0, y1, y2, y3, y4, y5, y6, y7, hy⟩ := list_8 (stepL (stepsL hTab (bs ++ tailL n) k) (((bs ++ tailL n).drop (64 * k)).take 64)) (stepL_length hl8 _)
      have hnx : stepsL hTab (bs ++ tailL n) (k + 1) = [y0, y1, y2, y3, y4, y5, y6, y7] := hy
      obtain ⟨x0, x1, x2, x3, x4, x5, x6, x7, hx⟩ := list_8 (stepsL hTab (bs ++ tailL n) k) hl8
      have hc : ∀ W, Below wr.heap.size wr W → Calls Tryd.prog 69 #[.agg #[.slice (some ⟨gk, 0, none⟩) 64 ck, .int .u32 1779033703, .int .u32 3144134277, .int .u32 1013904242, .int .u32 2773480762, .int .u32 1359893119, .int .u32 2600822924, .int .u32 528734635, .int .u32 1541459225], .agg #[.int .u32 x0, .int .u32 x1, .int .u32 x2, .int .u32 x3, .int .u32 x4, .int .u32 x5, .int .u32 x6, .int .u32 x7], .slice (some ⟨ga, 64 * k, none⟩) 64 (cpa - 64 * k)] W (fun e w' => e = .returned (.agg #[.int .u32 y0, .int .u32 y1, .int .u32 y2, .int .u32 y3, .int .u32 y4, .int .u32 y5, .int .u32 y6, .int .u32 y7]) ∧ Below W.heap.size W w') := fun W hW => by
        have hbW : Below w.heap.size w W := HB.out.trans (hW.mono HB.out.size)
        have h := refStep_any ga (0 + 64 * k) (cpa - 64 * k) gk ck _ (((bs ++ tailL n).drop (64 * k)).take 64) W hl8 (stepsL_bd hTab_bd _ k) (by have := HALL.out; simp only [List.length_take, List.length_drop]; omega) (fun z hz => HAB.out z (List.mem_of_mem_drop (List.mem_of_mem_take hz))) (((hsegA.below hW hgA).drop (64 * k)).take 64) (Nat.lt_of_lt_of_le hgA hW.size) (HKS.out.below hbW hgk) (Nat.lt_of_lt_of_le hgk hbW.size)
        unfold StepPost at h
        rw [hy, hx, Nat.zero_add] at h
        exact h
      have hr := HR.out
      rw [hx] at hr
      have HC := Lib.hid hc
      have HNX := Lib.hid hnx
      have HR2 := Lib.hid hr
      have c0 := hr.cell 0 (by simp)
      have c1 := hr.cell 1 (by simp)
      have c2 := hr.cell 2 (by simp)
      have c3 := hr.cell 3 (by simp)
      have c4 := hr.cell 4 (by simp)
      have c5 := hr.cell 5 (by simp)
      have c6 := hr.cell 6 (by simp)
      have c7 := hr.cell 7 (by simp)
      simp only [List.getElem_cons_zero, List.getElem_cons_succ] at c0 c1 c2 c3 c4 c5 c6 c7
      have t0 := HT.out.cell0
      obtain ⟨t1, t2, t3, t4, t5, t6, t7, t8⟩ := tb_cells HT.out
      have k1 : 64 * (k : Int) < 64 * (T : Int) := by omega
      have k2 : (64 * (k : Int) + 64).toNat = 64 * k + 64 := by omega
      have k3 : IntKind.i64.wrap (64 * (k : Int) + 64) = 64 * (k : Int) + 64 := IntWalk.i64_in _ (by omega)
      have k4 : (0 : Int) ≤ 64 * (k : Int) := by omega
      have k5 : 64 * (k : Int) + 64 ≤ (cpa : Int) := by omega
      have k6 : (64 * (k : Int)).toNat = 64 * k := by omega
      have k7 : 64 * (k : Int) ≤ 64 * (k : Int) + 64 := by omega
      have k8 : ¬ cpa = 64 * k := by omega
      have k9 : gv < wr.heap.size := HR2.out.lt
      clear hl8 hinA hsegA hy hnx hx hc hr hT2
      go_wp2_with fail
      go_region_with (first
        | (go_at_call 69
           (with_reducible refine (HC.out _ ?_).mono ?_)
           · exact (Below.refl _ _).drew
           rintro _ w7 ⟨rfl, hb7⟩
           have HR3 : Hid (Row .u32 w7 40 gv [x0, x1, x2, x3, x4, x5, x6, x7]) := Lib.hid (HR2.out.drew.below hb7 HR2.out.lt)
           have HT3 : Hid (TB w7 w.heap.size (.slice (some ⟨gk, 0, none⟩) 64 ck) hTab) := Lib.hid (TB.below (w := wr.drew) HT.out hb7 HT.out.lt)
           have HO3 : Hid (w7.ownsRow (w.heap.size + 1) 5 1 (.slice (some ⟨ga, 0, none⟩) (64 * T) cpa) (64 * T) ((bs ++ tailL n).map (Value.int .u8))) := Lib.hid ((own_drew' HO.out).kept (only_below hb7 none) (.inr (by simp [Value.ownBlock])))
           have HB3 : Hid (Below w.heap.size w w7) := Lib.hid (HB.out.drew.trans (hb7.mono HB.out.size))
           have q0 := HR3.out.cell 0 (by simp)
           have q1 := HR3.out.cell 1 (by simp)
           have q2 := HR3.out.cell 2 (by simp)
           have q3 := HR3.out.cell 3 (by simp)
           have q4 := HR3.out.cell 4 (by simp)
           have q5 := HR3.out.cell 5 (by simp)
           have q6 := HR3.out.cell 6 (by simp)
           have q7 := HR3.out.cell 7 (by simp)
           have qf := fun o => HR3.out.frozen o
           clear hb7))
      all_goals
        obtain ⟨w8, hw8⟩ : ∃ w8, w8 = ((((((((w7.setCell ⟨gv, 0, none⟩ (.int .u32 y0)).setCell ⟨gv, 1, none⟩ (.int .u32 y1)).setCell ⟨gv, 2, none⟩ (.int .u32 y2)).setCell ⟨gv, 3, none⟩ (.int .u32 y3)).setCell ⟨gv, 4, none⟩ (.int .u32 y4)).setCell ⟨gv, 5, none⟩ (.int .u32 y5)).setCell ⟨gv, 6, none⟩ (.int .u32 y6)).setCell ⟨gv, 7, none⟩ (.int .u32 y7)) := ⟨_, rfl⟩
        rw [← hw8]
        have HX8 : Hid (Row .u32 w8 40 gv [y0, y1, y2, y3, y4, y5, y6, y7]) := Lib.hid (by rw [hw8]; exact ((((((((HR3.out.set 0 y0).set 1 y1).set 2 y2).set 3 y3).set 4 y4).set 5 y5).set 6 y6).set 7 y7))
        have HT8 : Hid (TB w8 w.heap.size (.slice (some ⟨gk, 0, none⟩) 64 ck) hTab) := Lib.hid (by rw [hw8]; exact ((((((((HT3.out.far (p := ⟨gv, 0, none⟩) (by simp; omega) (.int .u32 y0)).far (p := ⟨gv, 1, none⟩) (by simp; omega) (.int .u32 y1)).far (p := ⟨gv, 2, none⟩) (by simp; omega) (.int .u32 y2)).far (p := ⟨gv, 3, none⟩) (by simp; omega) (.int .u32 y3)).far (p := ⟨gv, 4, none⟩) (by simp; omega) (.int .u32 y4)).far (p := ⟨gv, 5, none⟩) (by simp; omega) (.int .u32 y5)).far (p := ⟨gv, 6, none⟩) (by simp; omega) (.int .u32 y6)).far (p := ⟨gv, 7, none⟩) (by simp; omega) (.int .u32 y7)))
        have hgrow : w7.grownBy w8 (some gv) := by rw [hw8]; exact (only_set (only_set (only_set (only_set (only_set (only_set (only_set (only_set (only_refl w7 (some gv)) 0 (.int .u32 y0)) 1 (.int .u32 y1)) 2 (.int .u32 y2)) 3 (.int .u32 y3)) 4 (.int .u32 y4)) 5 (.int .u32 y5)) 6 (.int .u32 y6)) 7 (.int .u32 y7))
        have HO8 : Hid (w8.ownsRow (w.heap.size + 1) 5 1 (.slice (some ⟨ga, 0, none⟩) (64 * T) cpa) (64 * T) ((bs ++ tailL n).map (Value.int .u8))) := Lib.hid (HO3.out.kept hgrow (.inr (by simp [Value.ownBlock]; omega)))
        have HB8 : Hid (Below w.heap.size w w8) := Lib.hid (below_only HB3.out hgrow HB3.out.size (by omega))
        clear hw8 hgrow q0 q1 q2 q3 q4 q5 q6 q7 qf c0 c1 c2 c3 c4 c5 c6 c7 t0 t1 t2 t3 t4 t5 t6 t7 t8
        go_wp2_with fail
        go_roundw
        case rel => exact ⟨k + 1, by omega, by congr 1, by rw [HNX.out]; exact HX8.out, HT8.out, HO8.out, HB8.out⟩
        case measure => simp [intOf]; omega
    · obtain rfl : k = T := by omega
      have hrl8 : (stepsL hTab (bs ++ tailL n) k).length = 8 := stepsL_length rfl _ k
      have hsum : sumL bs = bytesL (stepsL hTab (bs ++ tailL n) k) := by
        unfold sumL
        rw [HBL.out, show (n + nils n + 9) / 64 = k by omega]
      have hsb := stepsL_bd hTab_bd (bs ++ tailL n) k
      generalize stepsL hTab (bs ++ tailL n) k = st at *
      have HSUM := Lib.hid hsum
      have HL8 := Lib.hid hrl8
      have HSB := Lib.hid hsb
      have k1 : ¬ 64 * (k : Int) < 64 * (k : Int) := by omega
      clear hrl8 hsum hsb hT2
      go_wp2_with (first
        | (at_make
           refine wpList_make_ints _ rfl (.const (.int .i64 32)) (.const (.int .i64 32)) 22 rfl 5 i0 .u8 Tryd.underlying22 hi0 hz0 hz1 .i64 .i64 _ _ 32 rfl rfl (by omega) (by omega) (by rw [hz2]; omega) (by simp only [maxLen]; omega) ?_
           intro w8 hr8 hb8 hs8
           have HR8 : Hid (Row .u8 w8 5 wr.heap.size (outN (bytesL st) 0)) := Lib.hid (by rw [outN_zero, bytesL_length, HL8.out]; exact hr8)
           have HV8 : Hid (Row .u32 w8 40 gv st) := Lib.hid (HR.out.below hb8 HR.out.lt)
           have HB8 : Hid (Below w.heap.size w w8) := Lib.hid (HB.out.trans (hb8.mono HB.out.size))
           have hgvr : gv < wr.heap.size := HR.out.lt
           have hbs := HB.out.size
           clear hr8 hb8 hs8))
      obtain ⟨go, hgo⟩ : ∃ go, go = wr.heap.size := ⟨_, rfl⟩
      rw [← hgo] at hgvr hbs ⊢
      have HR8' : Hid (Row .u8 w8 5 go (outN (bytesL st) 0)) := Lib.hid (by rw [hgo]; exact HR8.out)
      clear HR8 hgo
      go_loopw [9] (fun i wx => ∃ j : Nat, j ≤ 32 ∧ i = .int .i64 j ∧ Row .u8 wx 5 go (outN (bytesL st) j) ∧ Row .u32 wx 40 gv st ∧ Below w.heap.size w wx) (fun i _ => 32 - (intOf i).toNat)
      case atStart => exact ⟨0, by omega, rfl, HR8'.out, HV8.out, HB8.out⟩
      case round =>
        obtain ⟨j, hj, rfl, hr, hv, hb⟩ := hrel
        clear HR HB HV8 HR8' HB8
        have HR := Lib.hid hr
        have HV := Lib.hid hv
        have HB := Lib.hid hb
        clear hr hv hb
        by_cases hlt : j < 32
        · have e1 := HR.out.cellD j (by rw [outN_length, bytesL_length, HL8.out]; omega)
          have f1 := HR.out.frozen j
          have e2 := HV.out.cellD (j / 4) (by rw [HL8.out]; omega)
          have hst : Row .u8 (wr.setCell ⟨go, j, none⟩ (.int .u8 (st.getD (j / 4) 0 / 2 ^ (24 - 8 * (j % 4)) % 256))) 5 go (outN (bytesL st) (j + 1)) := by
            have h := HR.out.set j ((bytesL st).getD j 0)
            rw [outN_set _ j (by rw [bytesL_length, HL8.out]; omega), bytesL_at st j (by rw [HL8.out]; omega)] at h
            exact h
          have bx := word_at HSB.out (j / 4)
          generalize st.getD (j / 4) 0 = x at *
          generalize (outN (bytesL st) j).getD j 0 = ov at *
          have HST := Lib.hid hst
          have jb : (j : Int) < 32 := by omega
          clear hst
          go_wp2_with fail
          refine ⟨⟨j + 1, by omega, by go_num, HST.out, HV.out.far (p := ⟨go, j, none⟩) (by simp; omega) _, HB.out.setCell (p := ⟨go, j, none⟩) hbs _⟩, by simp [intOf]; omega⟩
        · obtain rfl : j = 32 := by omega
          go_wp2_with fail
          go_ret
          have hr := HR.out
          rw [outN_all _ 32 (by rw [bytesL_length, HL8.out]; omega), ← HSUM.out] at hr
          exact ⟨go, hbs, rfl, hr, HB.out⟩
end Go.Proofs.YtkfjhegehhahcaaDoor

/- The contract of the document's digest. -/
namespace Go.Proofs.YtkfjhegehhahcaaDoor
open Go.RowKit
set_option linter.unusedVariables false

/-- A slice of new memory: the first k bytes of a sum. -/
def OfPost (w : World) (k : Nat) (bs : List Int) (e : Ending) (w' : World) : Prop :=
  ∃ g, w.heap.size ≤ g ∧ e = .returned (.slice (some ⟨g, 0, none⟩) k 32) ∧ Row .u8 w' 5 g (sumL bs) ∧ Below w.heap.size w w'

set_option maxRecDepth 100000 in
set_option maxHeartbeats 4000000 in
theorem refOf_any (k : Nat) (hk1 : 1 ≤ k) (hk2 : k ≤ 32) (a : Option Addr) (n cap gk ck : Nat) (bs : List Int) (w : World) (hin : InBytes w a n cap bs) (hn : n ≤ 20000) (hks : Seg .u32 w gk 0 kTab) (hgk : gk < w.heap.size) :
    Calls Tryd.prog 26 #[tabV gk ck, .int .i64 k, .slice a n cap] w (OfPost w k bs) := by
  have hs : ∀ W, Below w.heap.size w W → Calls Tryd.prog 54 #[.agg (Value.slice (some ⟨gk, 0, none⟩) 64 ck :: hTab.map (Value.int .u32)).toArray, .slice a n cap] W (SumPost W bs) :=
    fun W hW => refSum_any a n cap gk ck bs W (hin.below hW) hn (hks.below hW hgk) (Nat.lt_of_lt_of_le hgk hW.size)
  have HS := Lib.hid hs
  have hk3 : (k : Int) ≤ 32 := by omega
  have hk4 : (0 : Int) ≤ (k : Int) := by omega
  clear hin hks hs
  unfold tabV
  go_enter Tryd.func26, Tryd.ntmps26
  go_wp2_with (first
    | (refine wpList_load_row rfl 42 (.tmp 3) rfl w.heap.size rfl 42 _ _ _ (heap_alloc_new w _) Tryd.underlying42 rfl (by kernel_rfl) ?_)
    | (go_at_call 54
       (with_reducible refine (HS.out _ ?_).mono ?_)
       · exact (Below.refl _ _).alloc (Nat.le_refl _) _
       rintro _ w1 ⟨g1, hg1, rfl, hr1, hb1⟩
       have H1 := Lib.hid (And.intro hg1 (And.intro hr1 hb1))
       clear hg1 hr1 hb1))
  go_ret
  obtain ⟨hg1, hr1, hb1⟩ := H1.out
  refine ⟨g1, ?_, rfl, hr1, ?_⟩
  · have h := hg1
    simp at h
    omega
  · exact ((Below.refl w.heap.size w).alloc (Nat.le_refl _) _).trans (hb1.mono (by simp))
end Go.Proofs.YtkfjhegehhahcaaDoor

/- The contract of the document's digest of a tree. -/
namespace Go.Proofs.YtkfjhegehhahcaaDoor
open Go.RowKit
set_option linter.unusedVariables false

/-- What the document's digest needs of a world: the tables' box, the tree's box, the constants. -/
structure DW (w W : World) (gk ck : Nat) (h : TH) : Prop where
  tab : TB W w.heap.size (.slice (some ⟨gk, 0, none⟩) 64 ck) hTab
  box : Box W 25 (w.heap.size + 1) h
  ks : Seg .u32 W gk 0 kTab
  b : Below w.heap.size w W
  gk : gk < w.heap.size
theorem DW.below {w W W' : World} {gk ck : Nat} {h : TH} (d : DW w W gk ck h) (hb : Below W.heap.size W W') : DW w W' gk ck h :=
  ⟨d.tab.below hb d.tab.lt, d.box.below hb d.box.lt, d.ks.below hb (Nat.lt_of_lt_of_le d.gk d.b.size), d.b.trans (hb.mono d.b.size), d.gk⟩
theorem DW.drew {w W : World} {gk ck : Nat} {h : TH} (d : DW w W gk ck h) : DW w W.drew gk ck h := d.below (Below.refl _ _).drew
theorem DW.nine {w W : World} {gk ck : Nat} {h : TH} (d : DW w W gk ck h) : W.cell? ⟨w.heap.size, 0, none⟩ = some (.slice (some ⟨gk, 0, none⟩) 64 ck) ∧ W.cell? ⟨w.heap.size, 1, none⟩ = some (.int .u32 1779033703) ∧ W.cell? ⟨w.heap.size, 2, none⟩ = some (.int .u32 3144134277) ∧ W.cell? ⟨w.heap.size, 3, none⟩ = some (.int .u32 1013904242) ∧ W.cell? ⟨w.heap.size, 4, none⟩ = some (.int .u32 2773480762) ∧ W.cell? ⟨w.heap.size, 5, none⟩ = some (.int .u32 1359893119) ∧ W.cell? ⟨w.heap.size, 6, none⟩ = some (.int .u32 2600822924) ∧ W.cell? ⟨w.heap.size, 7, none⟩ = some (.int .u32 528734635) ∧ W.cell? ⟨w.heap.size, 8, none⟩ = some (.int .u32 1541459225) := ⟨d.tab.cell0, tb_cells d.tab⟩
theorem DW.of {w W : World} {gk ck : Nat} {h : TH} (d : DW w W gk ck h) {k : Nat} (hk1 : 1 ≤ k) (hk2 : k ≤ 32) {a : Option Addr} {n cap : Nat} {bs : List Int} (hin : InBytes W a n cap bs) (hn : n ≤ 20000) :
    Calls Tryd.prog 26 #[.agg #[.slice (some ⟨gk, 0, none⟩) 64 ck, .int .u32 1779033703, .int .u32 3144134277, .int .u32 1013904242, .int .u32 2773480762, .int .u32 1359893119, .int .u32 2600822924, .int .u32 528734635, .int .u32 1541459225], .int .i64 k, .slice a n cap] W (OfPost W k bs) :=
  refOf_any k hk1 hk2 a n cap gk ck bs W hin hn d.ks (Nat.lt_of_lt_of_le d.gk d.b.size)

/-- The digest and true, or something and false. -/
def DigPost (w : World) (k : Nat) (t : Tr) (e : Ending) (w' : World) : Prop :=
  ∃ a n c is, e = .returned (.tuple #[.slice a n c, .bool is]) ∧ ((is = true ∧ ∃ zs, digT k t = some zs ∧ InBytes w' a n c zs) ∨ (is = false ∧ digT k t = none)) ∧ Below w.heap.size w w'
set_option maxRecDepth 100000 in
set_option maxHeartbeats 8000000 in
theorem refDigest_any (k : Nat) (hk1 : 1 ≤ k) (hk2 : k ≤ 32) (gk ck : Nat) : ∀ (t : Tr) (h : TH) (w : World), InTree w h t → formedT t = true → Seg .u32 w gk 0 kTab → gk < w.heap.size →
    Calls Tryd.prog 55 #[tabV gk ck, .int .i64 k, h.v] w (DigPost w k t) := by
  intro t
  induction t using Tr.ind with
  | h t ih =>
  intro h w ht hf hks hgk
  obtain ⟨hpb, hfk⟩ := formed_kids hf
  unfold TH.v tabV
  obtain ⟨H, hp⟩ := ht.parts
  have hkl := hp.key.len
  have hvl := hp.val.len
  have hdl := hp.dig.len
  have htl := hp.len
  have HK := Lib.hid hp.hk
  have htc := hp.sl.le
  have HP := Lib.hid hp
  have IH := Lib.hid ih
  clear hp ht ih
  have HPB := Lib.hid (partB_head HP.out)
  have HF := Lib.hid (And.intro hpb hfk)
  have hd0 : DW w ((w.alloc (.cells (Value.slice (some ⟨gk, 0, none⟩) 64 ck :: hTab.map (Value.int .u32)).toArray 42)).alloc (.cells #[.int .i64 h.k, .slice h.ka h.kn h.kc, .slice h.va h.vn h.vc, .slice h.da h.dn h.dc, .slice h.ta h.tn h.tc] 25)) gk ck h := by
    have b1 : Below w.heap.size w (w.alloc (.cells (Value.slice (some ⟨gk, 0, none⟩) 64 ck :: hTab.map (Value.int .u32)).toArray 42)) := (Below.refl _ _).alloc (Nat.le_refl _) _
    have b2 := b1.alloc b1.size (.cells #[.int .i64 h.k, .slice h.ka h.kn h.kc, .slice h.va h.vn h.vc, .slice h.da h.dn h.dc, .slice h.ta h.tn h.tc] 25)
    refine ⟨?_, ?_, hks.below b2 hgk, b2, hgk⟩
    · exact TB.below (heap_alloc_new w _) ((Below.refl _ _).alloc (Nat.le_refl _) _) (by simp)
    · have := Box.new (w.alloc (.cells (Value.slice (some ⟨gk, 0, none⟩) 64 ck :: hTab.map (Value.int .u32)).toArray 42)) 25 h
      simpa using this
  have HD := Lib.hid hd0
  have c1 : 1 ≤ (k : Int) := by omega
  clear hd0 hks hf hpb hfk
  go_enter Tryd.func55, Tryd.ntmps55
  go_upto_region 1 with fail
  generalize (w.alloc (.cells (Value.slice (some ⟨gk, 0, none⟩) 64 ck :: hTab.map (Value.int .u32)).toArray 42)).alloc (.cells #[.int .i64 h.k, .slice h.ka h.kn h.kc, .slice h.va h.vn h.vc, .slice h.da h.dn h.dc, .slice h.ta h.tn h.tc] 25) = w0 at *
  obtain ⟨x0, x1, x2, x3, x4⟩ := HD.out.box.cells
  have hnine := HD.out.nine
  obtain ⟨t0, t1, t2, t3, t4, t5, t6, t7, t8⟩ := hnine
  have hk := HK.out
  have HPK := Lib.hid (part_kids HF.out.1)
  cases e0 : (h.k == 0)
  rotate_left
  · have HE : Hid (t.k = 0) := Lib.hid (by rw [← HK.out]; simpa using e0)
    clear hk
    have hin3 : InBytes (w0.alloc (.cells #[.int .u8 3] 5)) (some ⟨w0.heap.size, 0, none⟩) 1 1 [3] := InBytes.of_own (own_new w0 5 .u8 [3] w0.heap.size (Nat.le_refl _) (by simp [maxLen])) (fun z hz => by simp at hz; omega)
    have HI3 := Lib.hid hin3
    clear hin3
    go_wp2_with (first
      | (go_at_call 26
         (with_reducible refine ((HD.out.below ((Below.refl _ _).alloc (Nat.le_refl _) _)).of hk1 hk2 HI3.out (by omega)).mono ?_)
         rintro _ w1 ⟨g1, hg1, rfl, hr1, hb1⟩
         have HB1 : Hid (Below w.heap.size w w1) := Lib.hid ((HD.out.below ((Below.refl _ _).alloc (Nat.le_refl _) _)).below hb1).b
         have HR1 := Lib.hid (of_in32 hr1 hk2)
         clear hg1 hr1 hb1))
    go_ret2
    exact ⟨_, _, _, true, rfl, .inl ⟨rfl, _, digT_0 HE.out, HR1.out⟩, HB1.out⟩
  cases e3 : (h.k == 3)
  rotate_left
  · have HE : Hid (t.k = 3) := Lib.hid (by rw [← HK.out]; simpa using e3)
    clear hk
    go_upto_region 5 with fail
    refine wp_region_held_drew (S := (fun W => W.cell? ⟨w.heap.size + 1, 3, none⟩ = some (.slice h.da h.dn h.dc))) (by kernel_rfl) x3 (fun hHeld => ?_)
    refine take_w (i := 0) (oi := ?oZ1) (v := ?vZ1) ?hiZ1 (by kernel_rfl) (by kernel_rfl) (by kernel_rfl) ?hQZ1 ?hwZ1 ?hyZ1 (by assumption) ?restZ1
    case hiZ1 => (simp only [List.getElem?_toArray, List.getElem?_cons_zero] <;> rfl)
    case hQZ1 => exact (fun _ _ _ h => h)
    case hwZ1 => rfl
    case hyZ1 => (intro w hSw; (try dsimp only at hSw); go_simp; try with_reducible rfl)
    (try simp only [Act.put, List.setIfInBounds_toArray, List.set_cons_zero, List.set_cons_succ])
    refine take_w (i := 1) (oi := ?oZ2) (v := ?vZ2) ?hiZ2 (by kernel_rfl) (by kernel_rfl) (by kernel_rfl) ?hQZ2 ?hwZ2 ?hyZ2 (by assumption) ?restZ2
    case hiZ2 => (simp only [List.getElem?_toArray, List.getElem?_cons_succ, List.getElem?_cons_zero] <;> rfl)
    case hQZ2 => exact (fun _ _ _ h => h)
    case hwZ2 => rfl
    case hyZ2 => (intro w hSw; (try dsimp only at hSw); go_simp; try with_reducible rfl)
    (try simp only [Act.put, List.setIfInBounds_toArray, List.set_cons_zero, List.set_cons_succ])
    refine take_w (i := 2) (oi := ?oZ3) (v := ?vZ3) ?hiZ3 (by kernel_rfl) (by kernel_rfl) (by kernel_rfl) ?hQZ3 ?hwZ3 ?hyZ3 (by assumption) ?restZ3
    case hiZ3 => (simp only [List.getElem?_toArray, List.getElem?_cons_succ, List.getElem?_cons_zero] <;> rfl)
    case hQZ3 => exact (fun _ _ _ h => h)
    case hwZ3 => rfl
    case hyZ3 => (intro w hSw; (try dsimp only at hSw); go_simp; try with_reducible rfl)
    (try simp only [Act.put, List.setIfInBounds_toArray, List.set_cons_zero, List.set_cons_succ])
    refine take_w (i := 3) (oi := ?oZ4) (v := ?vZ4) ?hiZ4 (by kernel_rfl) (by kernel_rfl) (by kernel_rfl) ?hQZ4 ?hwZ4 ?hyZ4 (by assumption) ?restZ4
    case hiZ4 => (simp only [List.getElem?_toArray, List.getElem?_cons_succ, List.getElem?_cons_zero] <;> rfl)
    case hQZ4 => exact (fun _ _ _ h => h)
    case hwZ4 => rfl
    case hyZ4 => (intro w hSw; (try dsimp only at hSw); go_simp; try with_reducible rfl)
    (try simp only [Act.put, List.setIfInBounds_toArray, List.set_cons_zero, List.set_cons_succ])
    refine take_w (i := 4) (oi := ?oZ5) (v := ?vZ5) ?hiZ5 (by kernel_rfl) (by kernel_rfl) (by kernel_rfl) ?hQZ5 ?hwZ5 ?hyZ5 (by assumption) ?restZ5
    case hiZ5 => (simp only [List.getElem?_toArray, List.getElem?_cons_succ, List.getElem?_cons_zero] <;> rfl)
    case hQZ5 => exact (fun _ _ _ h => h)
    case hwZ5 => rfl
    case hyZ5 => (intro w hSw; (try dsimp only at hSw); go_simp; try with_reducible rfl)
    (try simp only [Act.put, List.setIfInBounds_toArray, List.set_cons_zero, List.set_cons_succ])
    refine take_w (i := 5) (oi := ?oZ6) (v := ?vZ6) ?hiZ6 (by kernel_rfl) (by kernel_rfl) (by kernel_rfl) ?hQZ6 ?hwZ6 ?hyZ6 (by assumption) ?restZ6
    case hiZ6 => (simp only [List.getElem?_toArray, List.getElem?_cons_succ, List.getElem?_cons_zero] <;> rfl)
    case hQZ6 => exact (fun _ _ _ h => h)
    case hwZ6 => rfl
    case hyZ6 => (intro w hSw; (try dsimp only at hSw); go_simp; try with_reducible rfl)
    (try simp only [Act.put, List.setIfInBounds_toArray, List.set_cons_zero, List.set_cons_succ])
    refine take_w (i := 6) (oi := ?oZ7) (v := ?vZ7) ?hiZ7 (by kernel_rfl) (by kernel_rfl) (by kernel_rfl) ?hQZ7 ?hwZ7 ?hyZ7 (by assumption) ?restZ7
    case hiZ7 => (simp only [List.getElem?_toArray, List.getElem?_cons_succ, List.getElem?_cons_zero] <;> rfl)
    case hQZ7 => exact (fun _ _ _ h => h)
    case hwZ7 => rfl
    case hyZ7 => (intro w hSw; (try dsimp only at hSw); go_simp; try with_reducible rfl)
    (try simp only [Act.put, List.setIfInBounds_toArray, List.set_cons_zero, List.set_cons_succ])
    refine take_w (i := 7) (oi := ?oZ8) (v := ?vZ8) ?hiZ8 (by kernel_rfl) (by kernel_rfl) (by kernel_rfl) ?hQZ8 ?hwZ8 ?hyZ8 (by assumption) ?restZ8
    case hiZ8 => (simp only [List.getElem?_toArray, List.getElem?_cons_succ, List.getElem?_cons_zero] <;> rfl)
    case hQZ8 => exact (fun _ _ _ h => h)
    case hwZ8 => rfl
    case hyZ8 => (intro w hSw; (try dsimp only at hSw); go_simp; try with_reducible rfl)
    (try simp only [Act.put, List.setIfInBounds_toArray, List.set_cons_zero, List.set_cons_succ])
    refine take_w (i := 8) (oi := ?oZ9) (v := ?vZ9) ?hiZ9 (by kernel_rfl) (by kernel_rfl) (by kernel_rfl) ?hQZ9 ?hwZ9 ?hyZ9 (by assumption) ?restZ9
    case hiZ9 => (simp only [List.getElem?_toArray, List.getElem?_cons_succ, List.getElem?_cons_zero] <;> rfl)
    case hQZ9 => exact (fun _ _ _ h => h)
    case hwZ9 => rfl
    case hyZ9 => (intro w hSw; (try dsimp only at hSw); go_simp; try with_reducible rfl)
    (try simp only [Act.put, List.setIfInBounds_toArray, List.set_cons_zero, List.set_cons_succ])
    refine wpAnyH_done (by kernel_rfl) ?_ _
    
    go_wp2_with fail
    go_ret2
    refine ⟨_, _, _, _, rfl, ?_, HD.out.drew.b⟩
    rw [digT_3 HE.out, hdl]
    by_cases hdk : h.dn = k
    · exact .inl ⟨by simp [hdk], _, by rw [if_pos hdk], HP.out.dig.below HD.out.drew.b⟩
    · exact .inr ⟨by simp; omega, by rw [if_neg hdk]⟩
  have hk0 : t.k ≠ 0 := by rw [← hk]; simpa using e0
  have hk3 : t.k ≠ 3 := by rw [← hk]; simpa using e3
  have hp2 := HPK.out
  have h2 : t.kids.length = 2 := by omega
  have HH := Lib.hid (And.intro hk0 (And.intro hk3 h2))
  have htn : h.tn = 2 := by omega
  have HTN := Lib.hid htn
  clear hk hk0 hk3 hp2 HPK htn
  go_upto_if 35 with fail
  go_cut [8] (fun s8 wx => ∃ a n c, s8 = .slice a n c ∧ InBytes wx a n c (valT k t) ∧ DW w wx gk ck h)
  case first =>
    have hk := HK.out
    cases e1 : (h.k == 1)
    · have HE : Hid (t.k ≠ 1) := Lib.hid (by rw [← hk]; simpa using e1)
      clear hk
      go_wp2_with fail
      go_meet
      exact ⟨_, _, _, rfl, by unfold valT; rw [if_neg HE.out]; exact HP.out.dig.below HD.out.b, HD.out⟩
    · have HE : Hid (t.k = 1) := Lib.hid (by rw [← hk]; simpa using e1)
      have hpb := HPB.out
      rw [HF.out.1, if_neg (by simpa using e0), if_pos (by simpa using e1)] at hpb
      have hvn : h.vn ≤ 1024 := by
        have := hpb.symm
        simp only [Bool.and_eq_true, decide_eq_true_eq] at this
        omega
      clear hk hpb
      go_upto_region 8 with fail
      refine wp_region_held_drew (S := (fun W => W.cell? ⟨w.heap.size, 0, none⟩ = some (.slice (some ⟨gk, 0, none⟩) 64 ck) ∧ W.cell? ⟨w.heap.size, 1, none⟩ = some (.int .u32 1779033703) ∧ W.cell? ⟨w.heap.size, 2, none⟩ = some (.int .u32 3144134277) ∧ W.cell? ⟨w.heap.size, 3, none⟩ = some (.int .u32 1013904242) ∧ W.cell? ⟨w.heap.size, 4, none⟩ = some (.int .u32 2773480762) ∧ W.cell? ⟨w.heap.size, 5, none⟩ = some (.int .u32 1359893119) ∧ W.cell? ⟨w.heap.size, 6, none⟩ = some (.int .u32 2600822924) ∧ W.cell? ⟨w.heap.size, 7, none⟩ = some (.int .u32 528734635) ∧ W.cell? ⟨w.heap.size, 8, none⟩ = some (.int .u32 1541459225) ∧ W.cell? ⟨w.heap.size + 1, 2, none⟩ = some (.slice h.va h.vn h.vc))) (by kernel_rfl) ⟨HD.out.drew.nine.1, HD.out.drew.nine.2.1, HD.out.drew.nine.2.2.1, HD.out.drew.nine.2.2.2.1, HD.out.drew.nine.2.2.2.2.1, HD.out.drew.nine.2.2.2.2.2.1, HD.out.drew.nine.2.2.2.2.2.2.1, HD.out.drew.nine.2.2.2.2.2.2.2.1, HD.out.drew.nine.2.2.2.2.2.2.2.2, HD.out.drew.box.cells.2.2.1⟩ (fun hHeld => ?_)
      refine take_w (i := 0) (oi := ?oZ10) (v := ?vZ10) ?hiZ10 (by kernel_rfl) (by kernel_rfl) (by kernel_rfl) ?hQZ10 ?hwZ10 ?hyZ10 (by assumption) ?restZ10
      case hiZ10 => (simp only [List.getElem?_toArray, List.getElem?_cons_zero] <;> rfl)
      case hQZ10 => exact (fun _ _ _ h => h)
      case hwZ10 => rfl
      case hyZ10 => (intro w hSw; (try dsimp only at hSw); go_simp; try with_reducible rfl)
      (try simp only [Act.put, List.setIfInBounds_toArray, List.set_cons_zero, List.set_cons_succ])
      refine take_w (i := 1) (oi := ?oZ11) (v := ?vZ11) ?hiZ11 (by kernel_rfl) (by kernel_rfl) (by kernel_rfl) ?hQZ11 ?hwZ11 ?hyZ11 (by assumption) ?restZ11
      case hiZ11 => (simp only [List.getElem?_toArray, List.getElem?_cons_succ, List.getElem?_cons_zero] <;> rfl)
      case hQZ11 => exact (fun _ _ _ h => h)
      case hwZ11 => rfl
      case hyZ11 => (intro w hSw; (try dsimp only at hSw); go_simp; try with_reducible rfl)
      (try simp only [Act.put, List.setIfInBounds_toArray, List.set_cons_zero, List.set_cons_succ])
      refine take_w (i := 2) (oi := ?oZ12) (v := ?vZ12) ?hiZ12 (by kernel_rfl) (by kernel_rfl) (by kernel_rfl) ?hQZ12 ?hwZ12 ?hyZ12 (by assumption) ?restZ12
      case hiZ12 => (simp only [List.getElem?_toArray, List.getElem?_cons_succ, List.getElem?_cons_zero] <;> rfl)
      case hQZ12 => exact (fun _ _ _ h => h)
      case hwZ12 => rfl
      case hyZ12 => (intro w hSw; (try dsimp only at hSw); go_simp; try with_reducible rfl)
      (try simp only [Act.put, List.setIfInBounds_toArray, List.set_cons_zero, List.set_cons_succ])
      refine take_w (i := 3) (oi := ?oZ13) (v := ?vZ13) ?hiZ13 (by kernel_rfl) (by kernel_rfl) (by kernel_rfl) ?hQZ13 ?hwZ13 ?hyZ13 (by assumption) ?restZ13
      case hiZ13 => (simp only [List.getElem?_toArray, List.getElem?_cons_succ, List.getElem?_cons_zero] <;> rfl)
      case hQZ13 => exact (fun _ _ _ h => h)
      case hwZ13 => rfl
      case hyZ13 => (intro w hSw; (try dsimp only at hSw); go_simp; try with_reducible rfl)
      (try simp only [Act.put, List.setIfInBounds_toArray, List.set_cons_zero, List.set_cons_succ])
      refine wpAnyH_ready (rs := [4]) (by kernel_rfl) (by simp) ?_
      refine AllReadyH.cons (o := ?oZ14) ?hiZ14 (fun K hK => ?stZ14) AllReadyH.nil
      case hiZ14 => (simp only [List.getElem?_toArray, List.getElem?_cons_succ, List.getElem?_cons_zero] <;> rfl)
      go_simp
      go_at_call 27
      (with_reducible refine (refValue_any h.va h.vn h.vc t.val _ ?_ (by omega)).mono ?_)
      · exact HP.out.val.below HD.out.drew.b
      rintro _ w1 ⟨g1, c1', rfl, ho1, hb1⟩
      have HD1 := Lib.hid (HD.out.drew.below hb1)
      have HV1 := Lib.hid (InBytes.of_own ho1 (valL_bytes HP.out.val.bytes))
      clear ho1 hb1
      go_simp
      refine hK.out _ _ ?_ (fun hHeld => ?_)
      · (first | exact ⟨HD2.out.nine.1, HD2.out.nine.2.1, HD2.out.nine.2.2.1, HD2.out.nine.2.2.2.1, HD2.out.nine.2.2.2.2.1, HD2.out.nine.2.2.2.2.2.1, HD2.out.nine.2.2.2.2.2.2.1, HD2.out.nine.2.2.2.2.2.2.2.1, HD2.out.nine.2.2.2.2.2.2.2.2, HD2.out.box.cells.2.2.1⟩ | exact ⟨HD1.out.nine.1, HD1.out.nine.2.1, HD1.out.nine.2.2.1, HD1.out.nine.2.2.2.1, HD1.out.nine.2.2.2.2.1, HD1.out.nine.2.2.2.2.2.1, HD1.out.nine.2.2.2.2.2.2.1, HD1.out.nine.2.2.2.2.2.2.2.1, HD1.out.nine.2.2.2.2.2.2.2.2, HD1.out.box.cells.2.2.1⟩ | exact ⟨HD.out.drew.nine.1, HD.out.drew.nine.2.1, HD.out.drew.nine.2.2.1, HD.out.drew.nine.2.2.2.1, HD.out.drew.nine.2.2.2.2.1, HD.out.drew.nine.2.2.2.2.2.1, HD.out.drew.nine.2.2.2.2.2.2.1, HD.out.drew.nine.2.2.2.2.2.2.2.1, HD.out.drew.nine.2.2.2.2.2.2.2.2, HD.out.drew.box.cells.2.2.1⟩)
      clear hK K
      (try simp only [Act.put, List.setIfInBounds_toArray, List.set_cons_zero, List.set_cons_succ])
      refine wpAnyH_ready (rs := [5]) (by kernel_rfl) (by simp) ?_
      refine AllReadyH.cons (o := ?oZ15) ?hiZ15 (fun K hK => ?stZ15) AllReadyH.nil
      case hiZ15 => (simp only [List.getElem?_toArray, List.getElem?_cons_succ, List.getElem?_cons_zero] <;> rfl)
      go_simp
      go_at_call 26
      (with_reducible refine (HD1.out.of hk1 hk2 HV1.out ?_).mono ?_)
      · rw [valL_len]; omega
      rintro _ w2 ⟨g2, hg2, rfl, hr2, hb2⟩
      have HD2 := Lib.hid (HD1.out.below hb2)
      have HR2 := Lib.hid (of_in32 hr2 hk2)
      clear hg2 hr2 hb2
      go_simp
      refine hK.out _ _ ?_ (fun hHeld => ?_)
      · (first | exact ⟨HD2.out.nine.1, HD2.out.nine.2.1, HD2.out.nine.2.2.1, HD2.out.nine.2.2.2.1, HD2.out.nine.2.2.2.2.1, HD2.out.nine.2.2.2.2.2.1, HD2.out.nine.2.2.2.2.2.2.1, HD2.out.nine.2.2.2.2.2.2.2.1, HD2.out.nine.2.2.2.2.2.2.2.2, HD2.out.box.cells.2.2.1⟩ | exact ⟨HD1.out.nine.1, HD1.out.nine.2.1, HD1.out.nine.2.2.1, HD1.out.nine.2.2.2.1, HD1.out.nine.2.2.2.2.1, HD1.out.nine.2.2.2.2.2.1, HD1.out.nine.2.2.2.2.2.2.1, HD1.out.nine.2.2.2.2.2.2.2.1, HD1.out.nine.2.2.2.2.2.2.2.2, HD1.out.box.cells.2.2.1⟩ | exact ⟨HD.out.drew.nine.1, HD.out.drew.nine.2.1, HD.out.drew.nine.2.2.1, HD.out.drew.nine.2.2.2.1, HD.out.drew.nine.2.2.2.2.1, HD.out.drew.nine.2.2.2.2.2.1, HD.out.drew.nine.2.2.2.2.2.2.1, HD.out.drew.nine.2.2.2.2.2.2.2.1, HD.out.drew.nine.2.2.2.2.2.2.2.2, HD.out.drew.box.cells.2.2.1⟩)
      clear hK K
      (try simp only [Act.put, List.setIfInBounds_toArray, List.set_cons_zero, List.set_cons_succ])
      refine take_w (i := 6) (oi := ?oZ16) (v := ?vZ16) ?hiZ16 (by kernel_rfl) (by kernel_rfl) (by kernel_rfl) ?hQZ16 ?hwZ16 ?hyZ16 (by assumption) ?restZ16
      case hiZ16 => (simp only [List.getElem?_toArray, List.getElem?_cons_succ, List.getElem?_cons_zero] <;> rfl)
      case hQZ16 => exact (fun _ _ _ h => h)
      case hwZ16 => rfl
      case hyZ16 => (intro w hSw; (try dsimp only at hSw); go_simp; try with_reducible rfl)
      (try simp only [Act.put, List.setIfInBounds_toArray, List.set_cons_zero, List.set_cons_succ])
      refine wpAnyH_done (by kernel_rfl) ?_ _
      
      go_wp2_with fail
      go_meet
      exact ⟨_, _, _, rfl, by unfold valT; rw [if_pos HE.out]; exact HR2.out, HD2.out⟩
  case rest =>
  obtain ⟨av, nv, cv, rfl, hinv, hdw⟩ := hcut
  have HV := Lib.hid hinv
  have hnv := hinv.len
  clear x0 x1 x2 x3 x4 t0 t1 t2 t3 t4 t5 t6 t7 t8 HD hinv
  generalize wc = w3 at *
  have HD := Lib.hid hdw
  clear hdw
  by_cases hnk : nv = k
  rotate_left
  · have hne : ((nv : Int) != (k : Int)) = true := by simp; omega
    clear hnk
    go_wp2_with fail
    go_ret2
    refine ⟨_, _, _, false, rfl, .inr ⟨rfl, digT_bad HH.out.1 HH.out.2.1 ?_⟩, HD.out.b⟩
    intro hc
    rw [hnv] at hc
    simp [hc] at hne
  obtain rfl : nv = k := hnk
  have HNV := Lib.hid hnv
  clear hnv
  have hkn : h.kn ≤ 80 := by
    have hpb := HPB.out
    rw [HF.out.1, if_neg (by simpa using e0)] at hpb
    have hh := hpb.symm
    split at hh
    · simp only [Bool.and_eq_true, decide_eq_true_eq] at hh
      omega
    · split at hh
      · simp only [Bool.and_eq_true, decide_eq_true_eq] at hh
        omega
      · rw [if_neg (by simpa using e3)] at hh
        cases hh
  have hc0 : ((nv : Int) != (nv : Int)) = false := by simp
  have l0 : 0 < t.kids.length := by omega
  have l1 : 1 < t.kids.length := by omega
  have htn := HTN.out
  have ht0 : 0 < h.tn := by omega
  have ht1 : (1 : Int) < (h.tn : Int) := by omega
  clear htn
  obtain ⟨g, off, hta, _, _⟩ := (HP.out.below HD.out.b).place ht0
  have HTA := Lib.hid hta
  clear hta
  go_upto_region 11 with fail
  refine wp_region_held_drew (S := (fun W => W.cell? ⟨w.heap.size, 0, none⟩ = some (.slice (some ⟨gk, 0, none⟩) 64 ck) ∧ W.cell? ⟨w.heap.size, 1, none⟩ = some (.int .u32 1779033703) ∧ W.cell? ⟨w.heap.size, 2, none⟩ = some (.int .u32 3144134277) ∧ W.cell? ⟨w.heap.size, 3, none⟩ = some (.int .u32 1013904242) ∧ W.cell? ⟨w.heap.size, 4, none⟩ = some (.int .u32 2773480762) ∧ W.cell? ⟨w.heap.size, 5, none⟩ = some (.int .u32 1359893119) ∧ W.cell? ⟨w.heap.size, 6, none⟩ = some (.int .u32 2600822924) ∧ W.cell? ⟨w.heap.size, 7, none⟩ = some (.int .u32 528734635) ∧ W.cell? ⟨w.heap.size, 8, none⟩ = some (.int .u32 1541459225) ∧ W.cell? ⟨w.heap.size + 1, 4, none⟩ = some (.slice (some ⟨g, off, none⟩) h.tn h.tc) ∧ W.cell? ⟨g, off, none⟩ = some (.int .i64 (H 0).k) ∧ W.cell? ⟨g, off + 1, none⟩ = some (.slice (H 0).ka (H 0).kn (H 0).kc) ∧ W.cell? ⟨g, off + 2, none⟩ = some (.slice (H 0).va (H 0).vn (H 0).vc) ∧ W.cell? ⟨g, off + 3, none⟩ = some (.slice (H 0).da (H 0).dn (H 0).dc) ∧ W.cell? ⟨g, off + 4, none⟩ = some (.slice (H 0).ta (H 0).tn (H 0).tc))) (by kernel_rfl) ⟨HD.out.drew.nine.1, HD.out.drew.nine.2.1, HD.out.drew.nine.2.2.1, HD.out.drew.nine.2.2.2.1, HD.out.drew.nine.2.2.2.2.1, HD.out.drew.nine.2.2.2.2.2.1, HD.out.drew.nine.2.2.2.2.2.2.1, HD.out.drew.nine.2.2.2.2.2.2.2.1, HD.out.drew.nine.2.2.2.2.2.2.2.2, (HD.out.drew.box.cells.2.2.2.2).trans (by rw [HTA.out]), (HP.out.below HD.out.drew.b).kid0 HTA.out (by omega)⟩ (fun hHeld => ?_)
  refine take_w (i := 0) (oi := ?oZ17) (v := ?vZ17) ?hiZ17 (by kernel_rfl) (by kernel_rfl) (by kernel_rfl) ?hQZ17 ?hwZ17 ?hyZ17 (by assumption) ?restZ17
  case hiZ17 => (simp only [List.getElem?_toArray, List.getElem?_cons_zero] <;> rfl)
  case hQZ17 => exact (fun _ _ _ h => h)
  case hwZ17 => rfl
  case hyZ17 => (intro w hSw; (try dsimp only at hSw); go_simp; try with_reducible rfl)
  (try simp only [Act.put, List.setIfInBounds_toArray, List.set_cons_zero, List.set_cons_succ])
  refine take_w (i := 1) (oi := ?oZ18) (v := ?vZ18) ?hiZ18 (by kernel_rfl) (by kernel_rfl) (by kernel_rfl) ?hQZ18 ?hwZ18 ?hyZ18 (by assumption) ?restZ18
  case hiZ18 => (simp only [List.getElem?_toArray, List.getElem?_cons_succ, List.getElem?_cons_zero] <;> rfl)
  case hQZ18 => exact (fun _ _ _ h => h)
  case hwZ18 => rfl
  case hyZ18 => (intro w hSw; (try dsimp only at hSw); go_simp; try with_reducible rfl)
  (try simp only [Act.put, List.setIfInBounds_toArray, List.set_cons_zero, List.set_cons_succ])
  refine take_w (i := 2) (oi := ?oZ19) (v := ?vZ19) ?hiZ19 (by kernel_rfl) (by kernel_rfl) (by kernel_rfl) ?hQZ19 ?hwZ19 ?hyZ19 (by assumption) ?restZ19
  case hiZ19 => (simp only [List.getElem?_toArray, List.getElem?_cons_succ, List.getElem?_cons_zero] <;> rfl)
  case hQZ19 => exact (fun _ _ _ h => h)
  case hwZ19 => rfl
  case hyZ19 => (intro w hSw; (try dsimp only at hSw); go_simp; try with_reducible rfl)
  (try simp only [Act.put, List.setIfInBounds_toArray, List.set_cons_zero, List.set_cons_succ])
  refine take_w (i := 3) (oi := ?oZ20) (v := ?vZ20) ?hiZ20 (by kernel_rfl) (by kernel_rfl) (by kernel_rfl) ?hQZ20 ?hwZ20 ?hyZ20 (by assumption) ?restZ20
  case hiZ20 => (simp only [List.getElem?_toArray, List.getElem?_cons_succ, List.getElem?_cons_zero] <;> rfl)
  case hQZ20 => exact (fun _ _ _ h => h)
  case hwZ20 => rfl
  case hyZ20 => (intro w hSw; (try dsimp only at hSw); go_simp; try with_reducible rfl)
  (try simp only [Act.put, List.setIfInBounds_toArray, List.set_cons_zero, List.set_cons_succ])
  refine take_w (i := 4) (oi := ?oZ21) (v := ?vZ21) ?hiZ21 (by kernel_rfl) (by kernel_rfl) (by kernel_rfl) ?hQZ21 ?hwZ21 ?hyZ21 (by assumption) ?restZ21
  case hiZ21 => (simp only [List.getElem?_toArray, List.getElem?_cons_succ, List.getElem?_cons_zero] <;> rfl)
  case hQZ21 => exact (fun _ _ _ h => h)
  case hwZ21 => rfl
  case hyZ21 => (intro w hSw; (try dsimp only at hSw); go_simp; try with_reducible rfl)
  (try simp only [Act.put, List.setIfInBounds_toArray, List.set_cons_zero, List.set_cons_succ])
  refine take_w (i := 5) (oi := ?oZ22) (v := ?vZ22) ?hiZ22 (by kernel_rfl) (by kernel_rfl) (by kernel_rfl) ?hQZ22 ?hwZ22 ?hyZ22 (by assumption) ?restZ22
  case hiZ22 => (simp only [List.getElem?_toArray, List.getElem?_cons_succ, List.getElem?_cons_zero] <;> rfl)
  case hQZ22 => exact (fun _ _ _ h => h)
  case hwZ22 => rfl
  case hyZ22 => (intro w hSw; (try dsimp only at hSw); go_simp; try with_reducible rfl)
  (try simp only [Act.put, List.setIfInBounds_toArray, List.set_cons_zero, List.set_cons_succ])
  refine wpAnyH_ready (rs := [6]) (by kernel_rfl) (by simp) ?_
  refine AllReadyH.cons (o := ?oZ23) ?hiZ23 (fun K hK => ?stZ23) AllReadyH.nil
  case hiZ23 => (simp only [List.getElem?_toArray, List.getElem?_cons_succ, List.getElem?_cons_zero] <;> rfl)
  go_simp
  go_at_call 55
  refine (IH.out _ (List.getElem_mem l0) (H 0) _ ((HP.out.below HD.out.drew.b).kids 0 l0) (HF.out.2 0 l0) HD.out.drew.ks (Nat.lt_of_lt_of_le HD.out.drew.gk HD.out.drew.b.size)).mono ?_
  rintro _ w4 ⟨a4, n4, cc4, is4, rfl, hres4, hb4⟩
  have HD4 := Lib.hid (HD.out.drew.below hb4)
  have HRES4 := Lib.hid hres4
  have HV4 := Lib.hid ((HV.out.below (Below.refl _ _).drew).below hb4)
  clear hres4 hb4
  go_simp
  refine hK.out _ _ ?_ (fun hHeld => ?_)
  · (first | exact ⟨HD4.out.nine.1, HD4.out.nine.2.1, HD4.out.nine.2.2.1, HD4.out.nine.2.2.2.1, HD4.out.nine.2.2.2.2.1, HD4.out.nine.2.2.2.2.2.1, HD4.out.nine.2.2.2.2.2.2.1, HD4.out.nine.2.2.2.2.2.2.2.1, HD4.out.nine.2.2.2.2.2.2.2.2, (HD4.out.box.cells.2.2.2.2).trans (by rw [HTA.out]), (HP.out.below HD4.out.b).kid0 HTA.out (by omega)⟩ | exact ⟨HD.out.drew.nine.1, HD.out.drew.nine.2.1, HD.out.drew.nine.2.2.1, HD.out.drew.nine.2.2.2.1, HD.out.drew.nine.2.2.2.2.1, HD.out.drew.nine.2.2.2.2.2.1, HD.out.drew.nine.2.2.2.2.2.2.1, HD.out.drew.nine.2.2.2.2.2.2.2.1, HD.out.drew.nine.2.2.2.2.2.2.2.2, (HD.out.drew.box.cells.2.2.2.2).trans (by rw [HTA.out]), (HP.out.below HD.out.drew.b).kid0 HTA.out (by omega)⟩)
  clear hK K
  (try simp only [Act.put, List.setIfInBounds_toArray, List.set_cons_zero, List.set_cons_succ])
  refine take_w (i := 7) (oi := ?oZ24) (v := ?vZ24) ?hiZ24 (by kernel_rfl) (by kernel_rfl) (by kernel_rfl) ?hQZ24 ?hwZ24 ?hyZ24 (by assumption) ?restZ24
  case hiZ24 => (simp only [List.getElem?_toArray, List.getElem?_cons_succ, List.getElem?_cons_zero] <;> rfl)
  case hQZ24 => exact (fun _ _ _ h => h)
  case hwZ24 => rfl
  case hyZ24 => (intro w hSw; (try dsimp only at hSw); go_simp; try with_reducible rfl)
  (try simp only [Act.put, List.setIfInBounds_toArray, List.set_cons_zero, List.set_cons_succ])
  refine take_w (i := 8) (oi := ?oZ25) (v := ?vZ25) ?hiZ25 (by kernel_rfl) (by kernel_rfl) (by kernel_rfl) ?hQZ25 ?hwZ25 ?hyZ25 (by assumption) ?restZ25
  case hiZ25 => (simp only [List.getElem?_toArray, List.getElem?_cons_succ, List.getElem?_cons_zero] <;> rfl)
  case hQZ25 => exact (fun _ _ _ h => h)
  case hwZ25 => rfl
  case hyZ25 => (intro w hSw; (try dsimp only at hSw); go_simp; try with_reducible rfl)
  (try simp only [Act.put, List.setIfInBounds_toArray, List.set_cons_zero, List.set_cons_succ])
  refine take_w (i := 9) (oi := ?oZ26) (v := ?vZ26) ?hiZ26 (by kernel_rfl) (by kernel_rfl) (by kernel_rfl) ?hQZ26 ?hwZ26 ?hyZ26 (by assumption) ?restZ26
  case hiZ26 => (simp only [List.getElem?_toArray, List.getElem?_cons_succ, List.getElem?_cons_zero] <;> rfl)
  case hQZ26 => exact (fun _ _ _ h => h)
  case hwZ26 => rfl
  case hyZ26 => (intro w hSw; (try dsimp only at hSw); go_simp; try with_reducible rfl)
  (try simp only [Act.put, List.setIfInBounds_toArray, List.set_cons_zero, List.set_cons_succ])
  refine take_w (i := 10) (oi := ?oZ27) (v := ?vZ27) ?hiZ27 (by kernel_rfl) (by kernel_rfl) (by kernel_rfl) ?hQZ27 ?hwZ27 ?hyZ27 (by assumption) ?restZ27
  case hiZ27 => (simp only [List.getElem?_toArray, List.getElem?_cons_succ, List.getElem?_cons_zero] <;> rfl)
  case hQZ27 => exact (fun _ _ _ h => h)
  case hwZ27 => rfl
  case hyZ27 => (intro w hSw; (try dsimp only at hSw); go_simp; try with_reducible rfl)
  (try simp only [Act.put, List.setIfInBounds_toArray, List.set_cons_zero, List.set_cons_succ])
  refine take_w (i := 11) (oi := ?oZ28) (v := ?vZ28) ?hiZ28 (by kernel_rfl) (by kernel_rfl) (by kernel_rfl) ?hQZ28 ?hwZ28 ?hyZ28 (by assumption) ?restZ28
  case hiZ28 => (simp only [List.getElem?_toArray, List.getElem?_cons_succ, List.getElem?_cons_zero] <;> rfl)
  case hQZ28 => exact (fun _ _ _ h => h)
  case hwZ28 => rfl
  case hyZ28 => (intro w hSw; (try dsimp only at hSw); go_simp; try with_reducible rfl)
  (try simp only [Act.put, List.setIfInBounds_toArray, List.set_cons_zero, List.set_cons_succ])
  refine wpAnyH_done (by kernel_rfl) ?_ _
  
  clear hHeld
  go_upto_region 12 with fail
  refine wp_region_held_drew (S := (fun W => W.cell? ⟨w.heap.size, 0, none⟩ = some (.slice (some ⟨gk, 0, none⟩) 64 ck) ∧ W.cell? ⟨w.heap.size, 1, none⟩ = some (.int .u32 1779033703) ∧ W.cell? ⟨w.heap.size, 2, none⟩ = some (.int .u32 3144134277) ∧ W.cell? ⟨w.heap.size, 3, none⟩ = some (.int .u32 1013904242) ∧ W.cell? ⟨w.heap.size, 4, none⟩ = some (.int .u32 2773480762) ∧ W.cell? ⟨w.heap.size, 5, none⟩ = some (.int .u32 1359893119) ∧ W.cell? ⟨w.heap.size, 6, none⟩ = some (.int .u32 2600822924) ∧ W.cell? ⟨w.heap.size, 7, none⟩ = some (.int .u32 528734635) ∧ W.cell? ⟨w.heap.size, 8, none⟩ = some (.int .u32 1541459225) ∧ W.cell? ⟨w.heap.size + 1, 4, none⟩ = some (.slice (some ⟨g, off, none⟩) h.tn h.tc) ∧ W.cell? ⟨g, off + 5, none⟩ = some (.int .i64 (H 1).k) ∧ W.cell? ⟨g, off + 5 + 1, none⟩ = some (.slice (H 1).ka (H 1).kn (H 1).kc) ∧ W.cell? ⟨g, off + 5 + 2, none⟩ = some (.slice (H 1).va (H 1).vn (H 1).vc) ∧ W.cell? ⟨g, off + 5 + 3, none⟩ = some (.slice (H 1).da (H 1).dn (H 1).dc) ∧ W.cell? ⟨g, off + 5 + 4, none⟩ = some (.slice (H 1).ta (H 1).tn (H 1).tc))) (by kernel_rfl) ⟨HD4.out.drew.nine.1, HD4.out.drew.nine.2.1, HD4.out.drew.nine.2.2.1, HD4.out.drew.nine.2.2.2.1, HD4.out.drew.nine.2.2.2.2.1, HD4.out.drew.nine.2.2.2.2.2.1, HD4.out.drew.nine.2.2.2.2.2.2.1, HD4.out.drew.nine.2.2.2.2.2.2.2.1, HD4.out.drew.nine.2.2.2.2.2.2.2.2, (HD4.out.drew.box.cells.2.2.2.2).trans (by rw [HTA.out]), (HP.out.below HD4.out.drew.b).kid1 HTA.out (by omega)⟩ (fun hHeld => ?_)
  refine take_w (i := 0) (oi := ?oZ29) (v := ?vZ29) ?hiZ29 (by kernel_rfl) (by kernel_rfl) (by kernel_rfl) ?hQZ29 ?hwZ29 ?hyZ29 (by assumption) ?restZ29
  case hiZ29 => (simp only [List.getElem?_toArray, List.getElem?_cons_zero] <;> rfl)
  case hQZ29 => exact (fun _ _ _ h => h)
  case hwZ29 => rfl
  case hyZ29 => (intro w hSw; (try dsimp only at hSw); go_simp; try with_reducible rfl)
  (try simp only [Act.put, List.setIfInBounds_toArray, List.set_cons_zero, List.set_cons_succ])
  refine take_w (i := 1) (oi := ?oZ30) (v := ?vZ30) ?hiZ30 (by kernel_rfl) (by kernel_rfl) (by kernel_rfl) ?hQZ30 ?hwZ30 ?hyZ30 (by assumption) ?restZ30
  case hiZ30 => (simp only [List.getElem?_toArray, List.getElem?_cons_succ, List.getElem?_cons_zero] <;> rfl)
  case hQZ30 => exact (fun _ _ _ h => h)
  case hwZ30 => rfl
  case hyZ30 => (intro w hSw; (try dsimp only at hSw); go_simp; try with_reducible rfl)
  (try simp only [Act.put, List.setIfInBounds_toArray, List.set_cons_zero, List.set_cons_succ])
  refine take_w (i := 2) (oi := ?oZ31) (v := ?vZ31) ?hiZ31 (by kernel_rfl) (by kernel_rfl) (by kernel_rfl) ?hQZ31 ?hwZ31 ?hyZ31 (by assumption) ?restZ31
  case hiZ31 => (simp only [List.getElem?_toArray, List.getElem?_cons_succ, List.getElem?_cons_zero] <;> rfl)
  case hQZ31 => exact (fun _ _ _ h => h)
  case hwZ31 => rfl
  case hyZ31 => (intro w hSw; (try dsimp only at hSw); go_simp; try with_reducible rfl)
  (try simp only [Act.put, List.setIfInBounds_toArray, List.set_cons_zero, List.set_cons_succ])
  refine take_w (i := 3) (oi := ?oZ32) (v := ?vZ32) ?hiZ32 (by kernel_rfl) (by kernel_rfl) (by kernel_rfl) ?hQZ32 ?hwZ32 ?hyZ32 (by assumption) ?restZ32
  case hiZ32 => (simp only [List.getElem?_toArray, List.getElem?_cons_succ, List.getElem?_cons_zero] <;> rfl)
  case hQZ32 => exact (fun _ _ _ h => h)
  case hwZ32 => rfl
  case hyZ32 => (intro w hSw; (try dsimp only at hSw); go_simp; try with_reducible rfl)
  (try simp only [Act.put, List.setIfInBounds_toArray, List.set_cons_zero, List.set_cons_succ])
  refine take_w (i := 4) (oi := ?oZ33) (v := ?vZ33) ?hiZ33 (by kernel_rfl) (by kernel_rfl) (by kernel_rfl) ?hQZ33 ?hwZ33 ?hyZ33 (by assumption) ?restZ33
  case hiZ33 => (simp only [List.getElem?_toArray, List.getElem?_cons_succ, List.getElem?_cons_zero] <;> rfl)
  case hQZ33 => exact (fun _ _ _ h => h)
  case hwZ33 => rfl
  case hyZ33 => (intro w hSw; (try dsimp only at hSw); go_simp; try with_reducible rfl)
  (try simp only [Act.put, List.setIfInBounds_toArray, List.set_cons_zero, List.set_cons_succ])
  refine take_w (i := 5) (oi := ?oZ34) (v := ?vZ34) ?hiZ34 (by kernel_rfl) (by kernel_rfl) (by kernel_rfl) ?hQZ34 ?hwZ34 ?hyZ34 (by assumption) ?restZ34
  case hiZ34 => (simp only [List.getElem?_toArray, List.getElem?_cons_succ, List.getElem?_cons_zero] <;> rfl)
  case hQZ34 => exact (fun _ _ _ h => h)
  case hwZ34 => rfl
  case hyZ34 => (intro w hSw; (try dsimp only at hSw); go_simp; try with_reducible rfl)
  (try simp only [Act.put, List.setIfInBounds_toArray, List.set_cons_zero, List.set_cons_succ])
  refine wpAnyH_ready (rs := [6]) (by kernel_rfl) (by simp) ?_
  refine AllReadyH.cons (o := ?oZ35) ?hiZ35 (fun K hK => ?stZ35) AllReadyH.nil
  case hiZ35 => (simp only [List.getElem?_toArray, List.getElem?_cons_succ, List.getElem?_cons_zero] <;> rfl)
  go_simp
  go_at_call 55
  refine (IH.out _ (List.getElem_mem l1) (H 1) _ ((HP.out.below HD4.out.drew.b).kids 1 l1) (HF.out.2 1 l1) HD4.out.drew.ks (Nat.lt_of_lt_of_le HD4.out.drew.gk HD4.out.drew.b.size)).mono ?_
  rintro _ w5 ⟨a5, n5, cc5, is5, rfl, hres5, hb5⟩
  have HD5 := Lib.hid (HD4.out.drew.below hb5)
  have HRES5 := Lib.hid hres5
  have HV5 := Lib.hid ((HV4.out.below (Below.refl _ _).drew).below hb5)
  have HBB5 : Hid (Below w4.heap.size w4 w5) := Lib.hid ((Below.refl w4.heap.size w4).drew.trans hb5)
  clear hres5 hb5
  go_simp
  refine hK.out _ _ ?_ (fun hHeld => ?_)
  · (first | exact ⟨HD5.out.nine.1, HD5.out.nine.2.1, HD5.out.nine.2.2.1, HD5.out.nine.2.2.2.1, HD5.out.nine.2.2.2.2.1, HD5.out.nine.2.2.2.2.2.1, HD5.out.nine.2.2.2.2.2.2.1, HD5.out.nine.2.2.2.2.2.2.2.1, HD5.out.nine.2.2.2.2.2.2.2.2, (HD5.out.box.cells.2.2.2.2).trans (by rw [HTA.out]), (HP.out.below HD5.out.b).kid1 HTA.out (by omega)⟩ | exact ⟨HD4.out.drew.nine.1, HD4.out.drew.nine.2.1, HD4.out.drew.nine.2.2.1, HD4.out.drew.nine.2.2.2.1, HD4.out.drew.nine.2.2.2.2.1, HD4.out.drew.nine.2.2.2.2.2.1, HD4.out.drew.nine.2.2.2.2.2.2.1, HD4.out.drew.nine.2.2.2.2.2.2.2.1, HD4.out.drew.nine.2.2.2.2.2.2.2.2, (HD4.out.drew.box.cells.2.2.2.2).trans (by rw [HTA.out]), (HP.out.below HD4.out.drew.b).kid1 HTA.out (by omega)⟩)
  clear hK K
  (try simp only [Act.put, List.setIfInBounds_toArray, List.set_cons_zero, List.set_cons_succ])
  refine take_w (i := 7) (oi := ?oZ36) (v := ?vZ36) ?hiZ36 (by kernel_rfl) (by kernel_rfl) (by kernel_rfl) ?hQZ36 ?hwZ36 ?hyZ36 (by assumption) ?restZ36
  case hiZ36 => (simp only [List.getElem?_toArray, List.getElem?_cons_succ, List.getElem?_cons_zero] <;> rfl)
  case hQZ36 => exact (fun _ _ _ h => h)
  case hwZ36 => rfl
  case hyZ36 => (intro w hSw; (try dsimp only at hSw); go_simp; try with_reducible rfl)
  (try simp only [Act.put, List.setIfInBounds_toArray, List.set_cons_zero, List.set_cons_succ])
  refine take_w (i := 8) (oi := ?oZ37) (v := ?vZ37) ?hiZ37 (by kernel_rfl) (by kernel_rfl) (by kernel_rfl) ?hQZ37 ?hwZ37 ?hyZ37 (by assumption) ?restZ37
  case hiZ37 => (simp only [List.getElem?_toArray, List.getElem?_cons_succ, List.getElem?_cons_zero] <;> rfl)
  case hQZ37 => exact (fun _ _ _ h => h)
  case hwZ37 => rfl
  case hyZ37 => (intro w hSw; (try dsimp only at hSw); go_simp; try with_reducible rfl)
  (try simp only [Act.put, List.setIfInBounds_toArray, List.set_cons_zero, List.set_cons_succ])
  refine take_w (i := 9) (oi := ?oZ38) (v := ?vZ38) ?hiZ38 (by kernel_rfl) (by kernel_rfl) (by kernel_rfl) ?hQZ38 ?hwZ38 ?hyZ38 (by assumption) ?restZ38
  case hiZ38 => (simp only [List.getElem?_toArray, List.getElem?_cons_succ, List.getElem?_cons_zero] <;> rfl)
  case hQZ38 => exact (fun _ _ _ h => h)
  case hwZ38 => rfl
  case hyZ38 => (intro w hSw; (try dsimp only at hSw); go_simp; try with_reducible rfl)
  (try simp only [Act.put, List.setIfInBounds_toArray, List.set_cons_zero, List.set_cons_succ])
  refine take_w (i := 10) (oi := ?oZ39) (v := ?vZ39) ?hiZ39 (by kernel_rfl) (by kernel_rfl) (by kernel_rfl) ?hQZ39 ?hwZ39 ?hyZ39 (by assumption) ?restZ39
  case hiZ39 => (simp only [List.getElem?_toArray, List.getElem?_cons_succ, List.getElem?_cons_zero] <;> rfl)
  case hQZ39 => exact (fun _ _ _ h => h)
  case hwZ39 => rfl
  case hyZ39 => (intro w hSw; (try dsimp only at hSw); go_simp; try with_reducible rfl)
  (try simp only [Act.put, List.setIfInBounds_toArray, List.set_cons_zero, List.set_cons_succ])
  refine take_w (i := 11) (oi := ?oZ40) (v := ?vZ40) ?hiZ40 (by kernel_rfl) (by kernel_rfl) (by kernel_rfl) ?hQZ40 ?hwZ40 ?hyZ40 (by assumption) ?restZ40
  case hiZ40 => (simp only [List.getElem?_toArray, List.getElem?_cons_succ, List.getElem?_cons_zero] <;> rfl)
  case hQZ40 => exact (fun _ _ _ h => h)
  case hwZ40 => rfl
  case hyZ40 => (intro w hSw; (try dsimp only at hSw); go_simp; try with_reducible rfl)
  (try simp only [Act.put, List.setIfInBounds_toArray, List.set_cons_zero, List.set_cons_succ])
  refine wpAnyH_done (by kernel_rfl) ?_ _
  
  clear hHeld
  rcases HRES4.out with ⟨rfl, zs4, hz4, hin4⟩ | ⟨rfl, hz4⟩
  rotate_left
  · have HZ := Lib.hid hz4
    clear hz4
    go_wp2_with fail
    go_ret2
    exact ⟨_, _, _, false, rfl, .inr ⟨rfl, by rw [digT_node HH.out.1 HH.out.2.1 HNV.out HH.out.2.2, HZ.out]⟩, HD5.out.b⟩
  rcases HRES5.out with ⟨rfl, zs5, hz5, hin5⟩ | ⟨rfl, hz5⟩
  rotate_left
  · have HZ := Lib.hid (And.intro hz4 hz5)
    clear hz4 hz5 hin4
    go_wp2_with fail
    go_ret2
    exact ⟨_, _, _, false, rfl, .inr ⟨rfl, by rw [digT_node HH.out.1 HH.out.2.1 HNV.out HH.out.2.2, HZ.out.1, HZ.out.2]⟩, HD5.out.b⟩
  have hn4 : n4 = nv := by rw [← hin4.len]; exact digT_len hk2 hz4
  have hn5 : n5 = nv := by rw [← hin5.len]; exact digT_len hk2 hz5
  have HI5 : Hid (InBytes w5 a4 n4 cc4 zs4 ∧ InBytes w5 a5 n5 cc5 zs5) := Lib.hid ⟨hin4.below HBB5.out, hin5⟩
  have hn4' : n4 ≤ 32 := by omega
  have hn5' : n5 ≤ 32 := by omega
  have HZ := Lib.hid (And.intro hz4 hz5)
  clear hz4 hz5 hin4 hin5 hn4 hn5 HRES4 HRES5
  go_upto_region 15 with fail
  refine wp_region_held_drew (S := (fun W => W.cell? ⟨w.heap.size, 0, none⟩ = some (.slice (some ⟨gk, 0, none⟩) 64 ck) ∧ W.cell? ⟨w.heap.size, 1, none⟩ = some (.int .u32 1779033703) ∧ W.cell? ⟨w.heap.size, 2, none⟩ = some (.int .u32 3144134277) ∧ W.cell? ⟨w.heap.size, 3, none⟩ = some (.int .u32 1013904242) ∧ W.cell? ⟨w.heap.size, 4, none⟩ = some (.int .u32 2773480762) ∧ W.cell? ⟨w.heap.size, 5, none⟩ = some (.int .u32 1359893119) ∧ W.cell? ⟨w.heap.size, 6, none⟩ = some (.int .u32 2600822924) ∧ W.cell? ⟨w.heap.size, 7, none⟩ = some (.int .u32 528734635) ∧ W.cell? ⟨w.heap.size, 8, none⟩ = some (.int .u32 1541459225) ∧ W.cell? ⟨w.heap.size + 1, 1, none⟩ = some (.slice h.ka h.kn h.kc))) (by kernel_rfl) ⟨HD5.out.drew.nine.1, HD5.out.drew.nine.2.1, HD5.out.drew.nine.2.2.1, HD5.out.drew.nine.2.2.2.1, HD5.out.drew.nine.2.2.2.2.1, HD5.out.drew.nine.2.2.2.2.2.1, HD5.out.drew.nine.2.2.2.2.2.2.1, HD5.out.drew.nine.2.2.2.2.2.2.2.1, HD5.out.drew.nine.2.2.2.2.2.2.2.2, HD5.out.drew.box.cells.2.1⟩ (fun hHeld => ?_)
  refine take_w (i := 0) (oi := ?oZ41) (v := ?vZ41) ?hiZ41 (by kernel_rfl) (by kernel_rfl) (by kernel_rfl) ?hQZ41 ?hwZ41 ?hyZ41 (by assumption) ?restZ41
  case hiZ41 => (simp only [List.getElem?_toArray, List.getElem?_cons_zero] <;> rfl)
  case hQZ41 => exact (fun _ _ _ h => h)
  case hwZ41 => rfl
  case hyZ41 => (intro w hSw; (try dsimp only at hSw); go_simp; try with_reducible rfl)
  (try simp only [Act.put, List.setIfInBounds_toArray, List.set_cons_zero, List.set_cons_succ])
  refine take_w (i := 1) (oi := ?oZ42) (v := ?vZ42) ?hiZ42 (by kernel_rfl) (by kernel_rfl) (by kernel_rfl) ?hQZ42 ?hwZ42 ?hyZ42 (by assumption) ?restZ42
  case hiZ42 => (simp only [List.getElem?_toArray, List.getElem?_cons_succ, List.getElem?_cons_zero] <;> rfl)
  case hQZ42 => exact (fun _ _ _ h => h)
  case hwZ42 => rfl
  case hyZ42 => (intro w hSw; (try dsimp only at hSw); go_simp; try with_reducible rfl)
  (try simp only [Act.put, List.setIfInBounds_toArray, List.set_cons_zero, List.set_cons_succ])
  refine take_w (i := 2) (oi := ?oZ43) (v := ?vZ43) ?hiZ43 (by kernel_rfl) (by kernel_rfl) (by kernel_rfl) ?hQZ43 ?hwZ43 ?hyZ43 (by assumption) ?restZ43
  case hiZ43 => (simp only [List.getElem?_toArray, List.getElem?_cons_succ, List.getElem?_cons_zero] <;> rfl)
  case hQZ43 => exact (fun _ _ _ h => h)
  case hwZ43 => rfl
  case hyZ43 => (intro w hSw; (try dsimp only at hSw); go_simp; try with_reducible rfl)
  (try simp only [Act.put, List.setIfInBounds_toArray, List.set_cons_zero, List.set_cons_succ])
  refine take_w (i := 3) (oi := ?oZ44) (v := ?vZ44) ?hiZ44 (by kernel_rfl) (by kernel_rfl) (by kernel_rfl) ?hQZ44 ?hwZ44 ?hyZ44 (by assumption) ?restZ44
  case hiZ44 => (simp only [List.getElem?_toArray, List.getElem?_cons_succ, List.getElem?_cons_zero] <;> rfl)
  case hQZ44 => exact (fun _ _ _ h => h)
  case hwZ44 => rfl
  case hyZ44 => (intro w hSw; (try dsimp only at hSw); go_simp; try with_reducible rfl)
  (try simp only [Act.put, List.setIfInBounds_toArray, List.set_cons_zero, List.set_cons_succ])
  refine take_w (i := 4) (oi := ?oZ45) (v := ?vZ45) ?hiZ45 (by kernel_rfl) (by kernel_rfl) (by kernel_rfl) ?hQZ45 ?hwZ45 ?hyZ45 (by assumption) ?restZ45
  case hiZ45 => (simp only [List.getElem?_toArray, List.getElem?_cons_succ, List.getElem?_cons_zero] <;> rfl)
  case hQZ45 => exact (fun _ _ _ h => h)
  case hwZ45 => rfl
  case hyZ45 => (intro w hSw; (try dsimp only at hSw); go_simp; try with_reducible rfl)
  (try simp only [Act.put, List.setIfInBounds_toArray, List.set_cons_zero, List.set_cons_succ])
  refine wpAnyH_ready (rs := [5]) (by kernel_rfl) (by simp) ?_
  refine AllReadyH.cons (o := ?oZ46) ?hiZ46 (fun K hK => ?stZ46) AllReadyH.nil
  case hiZ46 => (simp only [List.getElem?_toArray, List.getElem?_cons_succ, List.getElem?_cons_zero] <;> rfl)
  go_simp
  go_at_call 70
  (with_reducible refine (refPair_any h.ka h.kn h.kc t.key av nv cv (valT nv t) _ ?_ ?_ ?_ hk2).mono ?_)
  · exact HP.out.key.below HD5.out.drew.b
  · omega
  · exact HV5.out.below (Below.refl _ _).drew
  rintro _ w6 ⟨g6, c6, rfl, ho6, hb6⟩
  have HD6 := Lib.hid (HD5.out.drew.below hb6)
  have HP6 := Lib.hid (InBytes.of_own ho6 (pairL_bytes HP.out.key.bytes (by omega) HV5.out.bytes))
  have HI6 : Hid (InBytes w6 a4 n4 cc4 zs4 ∧ InBytes w6 a5 n5 cc5 zs5) := Lib.hid ⟨(HI5.out.1.below (Below.refl _ _).drew).below hb6, (HI5.out.2.below (Below.refl _ _).drew).below hb6⟩
  clear ho6 hb6
  go_simp
  refine hK.out _ _ ?_ (fun hHeld => ?_)
  · (first | exact ⟨HD7.out.nine.1, HD7.out.nine.2.1, HD7.out.nine.2.2.1, HD7.out.nine.2.2.2.1, HD7.out.nine.2.2.2.2.1, HD7.out.nine.2.2.2.2.2.1, HD7.out.nine.2.2.2.2.2.2.1, HD7.out.nine.2.2.2.2.2.2.2.1, HD7.out.nine.2.2.2.2.2.2.2.2, HD7.out.box.cells.2.1⟩ | exact ⟨HD6.out.nine.1, HD6.out.nine.2.1, HD6.out.nine.2.2.1, HD6.out.nine.2.2.2.1, HD6.out.nine.2.2.2.2.1, HD6.out.nine.2.2.2.2.2.1, HD6.out.nine.2.2.2.2.2.2.1, HD6.out.nine.2.2.2.2.2.2.2.1, HD6.out.nine.2.2.2.2.2.2.2.2, HD6.out.box.cells.2.1⟩ | exact ⟨HD5.out.drew.nine.1, HD5.out.drew.nine.2.1, HD5.out.drew.nine.2.2.1, HD5.out.drew.nine.2.2.2.1, HD5.out.drew.nine.2.2.2.2.1, HD5.out.drew.nine.2.2.2.2.2.1, HD5.out.drew.nine.2.2.2.2.2.2.1, HD5.out.drew.nine.2.2.2.2.2.2.2.1, HD5.out.drew.nine.2.2.2.2.2.2.2.2, HD5.out.drew.box.cells.2.1⟩)
  clear hK K
  (try simp only [Act.put, List.setIfInBounds_toArray, List.set_cons_zero, List.set_cons_succ])
  refine wpAnyH_ready (rs := [6]) (by kernel_rfl) (by simp) ?_
  refine AllReadyH.cons (o := ?oZ47) ?hiZ47 (fun K hK => ?stZ47) AllReadyH.nil
  case hiZ47 => (simp only [List.getElem?_toArray, List.getElem?_cons_succ, List.getElem?_cons_zero] <;> rfl)
  go_simp
  go_at_call 26
  (with_reducible refine (HD6.out.of hk1 hk2 HP6.out ?_).mono ?_)
  · have hq := pairL_len (a := t.key) (b := valT nv t) (by omega)
    have hq2 := HNV.out
    omega
  rintro _ w7 ⟨g7, hg7, rfl, hr7, hb7⟩
  have HD7 := Lib.hid (HD6.out.below hb7)
  have HR7 := Lib.hid (of_in32 hr7 hk2)
  have HI7 : Hid (InBytes w7 a4 n4 cc4 zs4 ∧ InBytes w7 a5 n5 cc5 zs5) := Lib.hid ⟨HI6.out.1.below hb7, HI6.out.2.below hb7⟩
  clear hg7 hr7 hb7
  go_simp
  refine hK.out _ _ ?_ (fun hHeld => ?_)
  · (first | exact ⟨HD7.out.nine.1, HD7.out.nine.2.1, HD7.out.nine.2.2.1, HD7.out.nine.2.2.2.1, HD7.out.nine.2.2.2.2.1, HD7.out.nine.2.2.2.2.2.1, HD7.out.nine.2.2.2.2.2.2.1, HD7.out.nine.2.2.2.2.2.2.2.1, HD7.out.nine.2.2.2.2.2.2.2.2, HD7.out.box.cells.2.1⟩ | exact ⟨HD6.out.nine.1, HD6.out.nine.2.1, HD6.out.nine.2.2.1, HD6.out.nine.2.2.2.1, HD6.out.nine.2.2.2.2.1, HD6.out.nine.2.2.2.2.2.1, HD6.out.nine.2.2.2.2.2.2.1, HD6.out.nine.2.2.2.2.2.2.2.1, HD6.out.nine.2.2.2.2.2.2.2.2, HD6.out.box.cells.2.1⟩ | exact ⟨HD5.out.drew.nine.1, HD5.out.drew.nine.2.1, HD5.out.drew.nine.2.2.1, HD5.out.drew.nine.2.2.2.1, HD5.out.drew.nine.2.2.2.2.1, HD5.out.drew.nine.2.2.2.2.2.1, HD5.out.drew.nine.2.2.2.2.2.2.1, HD5.out.drew.nine.2.2.2.2.2.2.2.1, HD5.out.drew.nine.2.2.2.2.2.2.2.2, HD5.out.drew.box.cells.2.1⟩)
  clear hK K
  (try simp only [Act.put, List.setIfInBounds_toArray, List.set_cons_zero, List.set_cons_succ])
  refine take_w (i := 7) (oi := ?oZ48) (v := ?vZ48) ?hiZ48 (by kernel_rfl) (by kernel_rfl) (by kernel_rfl) ?hQZ48 ?hwZ48 ?hyZ48 (by assumption) ?restZ48
  case hiZ48 => (simp only [List.getElem?_toArray, List.getElem?_cons_succ, List.getElem?_cons_zero] <;> rfl)
  case hQZ48 => exact (fun _ _ _ h => h)
  case hwZ48 => rfl
  case hyZ48 => (intro w hSw; (try dsimp only at hSw); go_simp; try with_reducible rfl)
  (try simp only [Act.put, List.setIfInBounds_toArray, List.set_cons_zero, List.set_cons_succ])
  refine wpAnyH_done (by kernel_rfl) ?_ _
  
  clear hHeld
  go_upto_region 16 with fail
  refine wp_region_held_drew (S := (fun W => W.cell? ⟨w.heap.size, 0, none⟩ = some (.slice (some ⟨gk, 0, none⟩) 64 ck) ∧ W.cell? ⟨w.heap.size, 1, none⟩ = some (.int .u32 1779033703) ∧ W.cell? ⟨w.heap.size, 2, none⟩ = some (.int .u32 3144134277) ∧ W.cell? ⟨w.heap.size, 3, none⟩ = some (.int .u32 1013904242) ∧ W.cell? ⟨w.heap.size, 4, none⟩ = some (.int .u32 2773480762) ∧ W.cell? ⟨w.heap.size, 5, none⟩ = some (.int .u32 1359893119) ∧ W.cell? ⟨w.heap.size, 6, none⟩ = some (.int .u32 2600822924) ∧ W.cell? ⟨w.heap.size, 7, none⟩ = some (.int .u32 528734635) ∧ W.cell? ⟨w.heap.size, 8, none⟩ = some (.int .u32 1541459225))) (by kernel_rfl) HD7.out.drew.nine (fun hHeld => ?_)
  refine take_w (i := 0) (oi := ?oZ49) (v := ?vZ49) ?hiZ49 (by kernel_rfl) (by kernel_rfl) (by kernel_rfl) ?hQZ49 ?hwZ49 ?hyZ49 (by assumption) ?restZ49
  case hiZ49 => (simp only [List.getElem?_toArray, List.getElem?_cons_zero] <;> rfl)
  case hQZ49 => exact (fun _ _ _ h => h)
  case hwZ49 => rfl
  case hyZ49 => (intro w hSw; (try dsimp only at hSw); go_simp; try with_reducible rfl)
  (try simp only [Act.put, List.setIfInBounds_toArray, List.set_cons_zero, List.set_cons_succ])
  refine take_w (i := 1) (oi := ?oZ50) (v := ?vZ50) ?hiZ50 (by kernel_rfl) (by kernel_rfl) (by kernel_rfl) ?hQZ50 ?hwZ50 ?hyZ50 (by assumption) ?restZ50
  case hiZ50 => (simp only [List.getElem?_toArray, List.getElem?_cons_succ, List.getElem?_cons_zero] <;> rfl)
  case hQZ50 => exact (fun _ _ _ h => h)
  case hwZ50 => rfl
  case hyZ50 => (intro w hSw; (try dsimp only at hSw); go_simp; try with_reducible rfl)
  (try simp only [Act.put, List.setIfInBounds_toArray, List.set_cons_zero, List.set_cons_succ])
  refine take_w (i := 2) (oi := ?oZ51) (v := ?vZ51) ?hiZ51 (by kernel_rfl) (by kernel_rfl) (by kernel_rfl) ?hQZ51 ?hwZ51 ?hyZ51 (by assumption) ?restZ51
  case hiZ51 => (simp only [List.getElem?_toArray, List.getElem?_cons_succ, List.getElem?_cons_zero] <;> rfl)
  case hQZ51 => exact (fun _ _ _ h => h)
  case hwZ51 => rfl
  case hyZ51 => (intro w hSw; (try dsimp only at hSw); go_simp; try with_reducible rfl)
  (try simp only [Act.put, List.setIfInBounds_toArray, List.set_cons_zero, List.set_cons_succ])
  refine take_w (i := 3) (oi := ?oZ52) (v := ?vZ52) ?hiZ52 (by kernel_rfl) (by kernel_rfl) (by kernel_rfl) ?hQZ52 ?hwZ52 ?hyZ52 (by assumption) ?restZ52
  case hiZ52 => (simp only [List.getElem?_toArray, List.getElem?_cons_succ, List.getElem?_cons_zero] <;> rfl)
  case hQZ52 => exact (fun _ _ _ h => h)
  case hwZ52 => rfl
  case hyZ52 => (intro w hSw; (try dsimp only at hSw); go_simp; try with_reducible rfl)
  (try simp only [Act.put, List.setIfInBounds_toArray, List.set_cons_zero, List.set_cons_succ])
  refine take_w (i := 4) (oi := ?oZ53) (v := ?vZ53) ?hiZ53 (by kernel_rfl) (by kernel_rfl) (by kernel_rfl) ?hQZ53 ?hwZ53 ?hyZ53 (by assumption) ?restZ53
  case hiZ53 => (simp only [List.getElem?_toArray, List.getElem?_cons_succ, List.getElem?_cons_zero] <;> rfl)
  case hQZ53 => exact (fun _ _ _ h => h)
  case hwZ53 => rfl
  case hyZ53 => (intro w hSw; (try dsimp only at hSw); go_simp; try with_reducible rfl)
  (try simp only [Act.put, List.setIfInBounds_toArray, List.set_cons_zero, List.set_cons_succ])
  refine wpAnyH_ready (rs := [5]) (by kernel_rfl) (by simp) ?_
  refine AllReadyH.cons (o := ?oZ54) ?hiZ54 (fun K hK => ?stZ54) AllReadyH.nil
  case hiZ54 => (simp only [List.getElem?_toArray, List.getElem?_cons_succ, List.getElem?_cons_zero] <;> rfl)
  go_simp
  go_at_call 71
  (with_reducible refine (refNodeB_any a4 n4 cc4 zs4 _ nv 32 ((sumL (pairL t.key (valT nv t))).take nv) a5 n5 cc5 zs5 _ ?_ ?_ ?_ ?_ ?_ ?_).mono ?_)
  · exact HI7.out.1.below (Below.refl _ _).drew
  · omega
  · exact HR7.out.below (Below.refl _ _).drew
  · omega
  · exact HI7.out.2.below (Below.refl _ _).drew
  · omega
  rintro _ w8 ⟨g8, c8, rfl, ho8, hb8⟩
  have HD8 := Lib.hid (HD7.out.drew.below hb8)
  have HP8 := Lib.hid (InBytes.of_own ho8 (nodeL_bytes HI7.out.1.bytes HR7.out.bytes HI7.out.2.bytes))
  clear ho8 hb8
  go_simp
  refine hK.out _ _ ?_ (fun hHeld => ?_)
  · (first | exact HD9.out.nine | exact HD8.out.nine | exact HD7.out.drew.nine)
  clear hK K
  (try simp only [Act.put, List.setIfInBounds_toArray, List.set_cons_zero, List.set_cons_succ])
  refine wpAnyH_ready (rs := [6]) (by kernel_rfl) (by simp) ?_
  refine AllReadyH.cons (o := ?oZ55) ?hiZ55 (fun K hK => ?stZ55) AllReadyH.nil
  case hiZ55 => (simp only [List.getElem?_toArray, List.getElem?_cons_succ, List.getElem?_cons_zero] <;> rfl)
  go_simp
  go_at_call 26
  (with_reducible refine (HD8.out.of hk1 hk2 HP8.out ?_).mono ?_)
  · have hq := HI7.out.1.len
    have hq2 := HI7.out.2.len
    have hq3 := HR7.out.len
    rw [nodeL_len]
    omega
  rintro _ w9 ⟨g9, hg9, rfl, hr9, hb9⟩
  have HD9 := Lib.hid (HD8.out.below hb9)
  have HR9 := Lib.hid (of_in32 hr9 hk2)
  clear hg9 hr9 hb9
  go_simp
  refine hK.out _ _ ?_ (fun hHeld => ?_)
  · (first | exact HD9.out.nine | exact HD8.out.nine | exact HD7.out.drew.nine)
  clear hK K
  (try simp only [Act.put, List.setIfInBounds_toArray, List.set_cons_zero, List.set_cons_succ])
  refine take_w (i := 7) (oi := ?oZ56) (v := ?vZ56) ?hiZ56 (by kernel_rfl) (by kernel_rfl) (by kernel_rfl) ?hQZ56 ?hwZ56 ?hyZ56 (by assumption) ?restZ56
  case hiZ56 => (simp only [List.getElem?_toArray, List.getElem?_cons_succ, List.getElem?_cons_zero] <;> rfl)
  case hQZ56 => exact (fun _ _ _ h => h)
  case hwZ56 => rfl
  case hyZ56 => (intro w hSw; (try dsimp only at hSw); go_simp; try with_reducible rfl)
  (try simp only [Act.put, List.setIfInBounds_toArray, List.set_cons_zero, List.set_cons_succ])
  refine take_w (i := 8) (oi := ?oZ57) (v := ?vZ57) ?hiZ57 (by kernel_rfl) (by kernel_rfl) (by kernel_rfl) ?hQZ57 ?hwZ57 ?hyZ57 (by assumption) ?restZ57
  case hiZ57 => (simp only [List.getElem?_toArray, List.getElem?_cons_succ, List.getElem?_cons_zero] <;> rfl)
  case hQZ57 => exact (fun _ _ _ h => h)
  case hwZ57 => rfl
  case hyZ57 => (intro w hSw; (try dsimp only at hSw); go_simp; try with_reducible rfl)
  (try simp only [Act.put, List.setIfInBounds_toArray, List.set_cons_zero, List.set_cons_succ])
  refine wpAnyH_done (by kernel_rfl) ?_ _
  
  clear hHeld
  go_wp2_with fail
  go_ret2
  refine ⟨_, _, _, true, rfl, .inl ⟨rfl, _, ?_, HR9.out⟩, HD9.out.b⟩
  rw [digT_node HH.out.1 HH.out.2.1 HNV.out HH.out.2.2, HZ.out.1, HZ.out.2]
end Go.Proofs.YtkfjhegehhahcaaDoor

/- The contract of the document's In of spans. -/
namespace Go.Proofs.YtkfjhegehhahcaaDoor
open Go.RowKit
set_option linter.unusedVariables false

set_option maxRecDepth 100000 in
set_option maxHeartbeats 4000000 in
theorem refIn_any (h : DH) (f t key : List Int) (ka : Option Addr) (kn kc : Nat) (w : World) (hs : SpanIn w h f t) (hk : InBytes w ka kn kc key) : Calls Tryd.prog 25 #[h.v, .slice ka kn kc] w (Says w (.bool (inS f t h.out key))) := by
  unfold DH.v
  have q0 : Below w.heap.size w (w.alloc (.cells #[.slice h.ka h.kn h.kc, .slice h.va h.vn h.vc, .bool h.out] 27)) := (Below.refl _ _).alloc (Nat.le_refl _) _
  obtain ⟨x0, x1, x2⟩ := (DH.box w 27 h).three
  have cv0 := conv_key (hs.below q0).f
  have cv1 := conv_key (hs.below q0).t
  have cv2 := conv_key (hk.below q0)
  have hl0 : Op.bytesLess (strOfNums f).toList (strOfNums key).toList = ltL f key := str_lt hs.f.bytes hk.bytes
  have he0 : ((strOfNums f).toList == (strOfNums key).toList) = (f == key) := str_eq hs.f.bytes hk.bytes
  have hl1 : Op.bytesLess (strOfNums key).toList (strOfNums t).toList = ltL key t := str_lt hk.bytes hs.t.bytes
  have hle := le_not f key
  have HB := Lib.hid q0
  clear q0 hs hk
  have HE : Hid (inS f t h.out key = (!ltL key f && (h.out || ltL key t))) := Lib.hid rfl
  go_enter Tryd.func25, Tryd.ntmps25
  go_upto_region 1 with fail
  generalize (w.alloc (.cells #[.slice h.ka h.kn h.kc, .slice h.va h.vn h.vc, .bool h.out] 27)) = w0 at *
  generalize hio : inS f t h.out key = io at *
  clear hio
  generalize h.out = oo at *
  rw [← he0, ← hl0] at hle
  clear he0 hl0
  cases c0 : ltL key f with
  | true =>
    have HC0 := Lib.hid c0
    rw [c0, Bool.not_true] at hle
    clear c0
    go_wp2_with fail
    go_ret
    exact ⟨by rw [HE.out, HC0.out]; rfl, HB.out⟩
  | false =>
    have HC0 := Lib.hid c0
    rw [c0, Bool.not_false] at hle
    clear c0
    cases oo with
    | true =>
      go_wp2_with fail
      go_ret
      exact ⟨by rw [HE.out, HC0.out]; rfl, HB.out⟩
    | false =>
      go_wp2_with fail
      go_ret
      exact ⟨by rw [HE.out, HC0.out]; rfl, HB.out⟩
end Go.Proofs.YtkfjhegehhahcaaDoor

/- The contracts of the document's cut, and of its proofs of balanced trees for spans. -/
namespace Go.Proofs.YtkfjhegehhahcaaDoor
open Go.RowKit
set_option linter.unusedVariables false

/-- What it tells is a partial tree; what was there stays. -/
def ShowPost (w : World) (t : Tr) (e : Ending) (w' : World) : Prop := ∃ h', e = .returned h'.v ∧ InTree w' h' t ∧ Below w.heap.size w w'
/-- The boxes of cut. -/
structure CX (w W : World) (gk ck : Nat) (h : TH) : Prop where
  dw : DW w W gk ck h
  res : Box W 25 (w.heap.size + 2) hZ
theorem CX.below {w W W' : World} {gk ck : Nat} {h : TH} (d : CX w W gk ck h) (hb : Below W.heap.size W W') : CX w W' gk ck h := ⟨d.dw.below hb, d.res.below hb d.res.lt⟩
/-- The boxes of Prove. -/
structure QV (w W : World) (gk ck : Nat) (h : TH) (sp : DH) : Prop where
  dw : DW w W gk ck h
  sb : RBox recD W 27 (w.heap.size + 2) sp
  res : Box W 25 (w.heap.size + 3) hZ
theorem QV.below {w W W' : World} {gk ck : Nat} {h : TH} {sp : DH} (d : QV w W gk ck h sp) (hb : Below W.heap.size W W') : QV w W' gk ck h sp := ⟨d.dw.below hb, d.sb.below hb d.sb.lt, d.res.below hb d.res.lt⟩
theorem QV.drew {w W : World} {gk ck : Nat} {h : TH} {sp : DH} (d : QV w W gk ck h sp) : QV w W.drew gk ck h sp := d.below (Below.refl _ _).drew
theorem DW.enter (w : World) (gk ck : Nat) (h : TH) (hks : Seg .u32 w gk 0 kTab) (hgk : gk < w.heap.size) : DW w ((w.alloc (.cells (Value.slice (some ⟨gk, 0, none⟩) 64 ck :: hTab.map (Value.int .u32)).toArray 42)).alloc (.cells #[.int .i64 h.k, .slice h.ka h.kn h.kc, .slice h.va h.vn h.vc, .slice h.da h.dn h.dc, .slice h.ta h.tn h.tc] 25)) gk ck h := by
  have b1 : Below w.heap.size w (w.alloc (.cells (Value.slice (some ⟨gk, 0, none⟩) 64 ck :: hTab.map (Value.int .u32)).toArray 42)) := (Below.refl _ _).alloc (Nat.le_refl _) _
  have b2 := b1.alloc b1.size (.cells #[.int .i64 h.k, .slice h.ka h.kn h.kc, .slice h.va h.vn h.vc, .slice h.da h.dn h.dc, .slice h.ta h.tn h.tc] 25)
  refine ⟨?_, ?_, hks.below b2 hgk, b2, hgk⟩
  · exact TB.below (heap_alloc_new w _) ((Below.refl _ _).alloc (Nat.le_refl _) _) (by simp)
  · have := Box.new (w.alloc (.cells (Value.slice (some ⟨gk, 0, none⟩) 64 ck :: hTab.map (Value.int .u32)).toArray 42)) 25 h
    simpa using this
theorem CX.enter (w : World) (gk ck : Nat) (h : TH) (hks : Seg .u32 w gk 0 kTab) (hgk : gk < w.heap.size) : CX w (((w.alloc (.cells (Value.slice (some ⟨gk, 0, none⟩) 64 ck :: hTab.map (Value.int .u32)).toArray 42)).alloc (.cells #[.int .i64 h.k, .slice h.ka h.kn h.kc, .slice h.va h.vn h.vc, .slice h.da h.dn h.dc, .slice h.ta h.tn h.tc] 25)).alloc (.cells #[.int .i64 0, .slice none 0 0, .slice none 0 0, .slice none 0 0, .slice none 0 0] 25)) gk ck h := by
  have d := DW.enter w gk ck h hks hgk
  have hb : Below ((w.alloc (.cells (Value.slice (some ⟨gk, 0, none⟩) 64 ck :: hTab.map (Value.int .u32)).toArray 42)).alloc (.cells #[.int .i64 h.k, .slice h.ka h.kn h.kc, .slice h.va h.vn h.vc, .slice h.da h.dn h.dc, .slice h.ta h.tn h.tc] 25)).heap.size ((w.alloc (.cells (Value.slice (some ⟨gk, 0, none⟩) 64 ck :: hTab.map (Value.int .u32)).toArray 42)).alloc (.cells #[.int .i64 h.k, .slice h.ka h.kn h.kc, .slice h.va h.vn h.vc, .slice h.da h.dn h.dc, .slice h.ta h.tn h.tc] 25)) (((w.alloc (.cells (Value.slice (some ⟨gk, 0, none⟩) 64 ck :: hTab.map (Value.int .u32)).toArray 42)).alloc (.cells #[.int .i64 h.k, .slice h.ka h.kn h.kc, .slice h.va h.vn h.vc, .slice h.da h.dn h.dc, .slice h.ta h.tn h.tc] 25)).alloc (.cells #[.int .i64 0, .slice none 0 0, .slice none 0 0, .slice none 0 0, .slice none 0 0] 25)) := (Below.refl _ _).alloc (Nat.le_refl _) _
  refine ⟨d.below hb, ?_⟩
  have q := Box.new ((w.alloc (.cells (Value.slice (some ⟨gk, 0, none⟩) 64 ck :: hTab.map (Value.int .u32)).toArray 42)).alloc (.cells #[.int .i64 h.k, .slice h.ka h.kn h.kc, .slice h.va h.vn h.vc, .slice h.da h.dn h.dc, .slice h.ta h.tn h.tc] 25)) 25 hZ
  have e : ((w.alloc (.cells (Value.slice (some ⟨gk, 0, none⟩) 64 ck :: hTab.map (Value.int .u32)).toArray 42)).alloc (.cells #[.int .i64 h.k, .slice h.ka h.kn h.kc, .slice h.va h.vn h.vc, .slice h.da h.dn h.dc, .slice h.ta h.tn h.tc] 25)).heap.size = w.heap.size + 2 := by simp
  rw [e] at q
  exact q
theorem QV.enter (w : World) (gk ck : Nat) (h : TH) (sp : DH) (hks : Seg .u32 w gk 0 kTab) (hgk : gk < w.heap.size) : QV w ((((w.alloc (.cells (Value.slice (some ⟨gk, 0, none⟩) 64 ck :: hTab.map (Value.int .u32)).toArray 42)).alloc (.cells #[.int .i64 h.k, .slice h.ka h.kn h.kc, .slice h.va h.vn h.vc, .slice h.da h.dn h.dc, .slice h.ta h.tn h.tc] 25)).alloc (.cells #[.slice sp.ka sp.kn sp.kc, .slice sp.va sp.vn sp.vc, .bool sp.out] 27)).alloc (.cells #[.int .i64 0, .slice none 0 0, .slice none 0 0, .slice none 0 0, .slice none 0 0] 25)) gk ck h sp := by
  have d := DW.enter w gk ck h hks hgk
  have hb : Below ((w.alloc (.cells (Value.slice (some ⟨gk, 0, none⟩) 64 ck :: hTab.map (Value.int .u32)).toArray 42)).alloc (.cells #[.int .i64 h.k, .slice h.ka h.kn h.kc, .slice h.va h.vn h.vc, .slice h.da h.dn h.dc, .slice h.ta h.tn h.tc] 25)).heap.size ((w.alloc (.cells (Value.slice (some ⟨gk, 0, none⟩) 64 ck :: hTab.map (Value.int .u32)).toArray 42)).alloc (.cells #[.int .i64 h.k, .slice h.ka h.kn h.kc, .slice h.va h.vn h.vc, .slice h.da h.dn h.dc, .slice h.ta h.tn h.tc] 25)) (((w.alloc (.cells (Value.slice (some ⟨gk, 0, none⟩) 64 ck :: hTab.map (Value.int .u32)).toArray 42)).alloc (.cells #[.int .i64 h.k, .slice h.ka h.kn h.kc, .slice h.va h.vn h.vc, .slice h.da h.dn h.dc, .slice h.ta h.tn h.tc] 25)).alloc (.cells #[.slice sp.ka sp.kn sp.kc, .slice sp.va sp.vn sp.vc, .bool sp.out] 27)) := (Below.refl _ _).alloc (Nat.le_refl _) _
  have hb2 : Below (((w.alloc (.cells (Value.slice (some ⟨gk, 0, none⟩) 64 ck :: hTab.map (Value.int .u32)).toArray 42)).alloc (.cells #[.int .i64 h.k, .slice h.ka h.kn h.kc, .slice h.va h.vn h.vc, .slice h.da h.dn h.dc, .slice h.ta h.tn h.tc] 25)).alloc (.cells #[.slice sp.ka sp.kn sp.kc, .slice sp.va sp.vn sp.vc, .bool sp.out] 27)).heap.size (((w.alloc (.cells (Value.slice (some ⟨gk, 0, none⟩) 64 ck :: hTab.map (Value.int .u32)).toArray 42)).alloc (.cells #[.int .i64 h.k, .slice h.ka h.kn h.kc, .slice h.va h.vn h.vc, .slice h.da h.dn h.dc, .slice h.ta h.tn h.tc] 25)).alloc (.cells #[.slice sp.ka sp.kn sp.kc, .slice sp.va sp.vn sp.vc, .bool sp.out] 27)) ((((w.alloc (.cells (Value.slice (some ⟨gk, 0, none⟩) 64 ck :: hTab.map (Value.int .u32)).toArray 42)).alloc (.cells #[.int .i64 h.k, .slice h.ka h.kn h.kc, .slice h.va h.vn h.vc, .slice h.da h.dn h.dc, .slice h.ta h.tn h.tc] 25)).alloc (.cells #[.slice sp.ka sp.kn sp.kc, .slice sp.va sp.vn sp.vc, .bool sp.out] 27)).alloc (.cells #[.int .i64 0, .slice none 0 0, .slice none 0 0, .slice none 0 0, .slice none 0 0] 25)) := (Below.refl _ _).alloc (Nat.le_refl _) _
  have x1 := DH.box ((w.alloc (.cells (Value.slice (some ⟨gk, 0, none⟩) 64 ck :: hTab.map (Value.int .u32)).toArray 42)).alloc (.cells #[.int .i64 h.k, .slice h.ka h.kn h.kc, .slice h.va h.vn h.vc, .slice h.da h.dn h.dc, .slice h.ta h.tn h.tc] 25)) 27 sp
  have x1' := x1.below hb2 x1.lt
  have x2 := Box.new (((w.alloc (.cells (Value.slice (some ⟨gk, 0, none⟩) 64 ck :: hTab.map (Value.int .u32)).toArray 42)).alloc (.cells #[.int .i64 h.k, .slice h.ka h.kn h.kc, .slice h.va h.vn h.vc, .slice h.da h.dn h.dc, .slice h.ta h.tn h.tc] 25)).alloc (.cells #[.slice sp.ka sp.kn sp.kc, .slice sp.va sp.vn sp.vc, .bool sp.out] 27)) 25 hZ
  have e1 : ((w.alloc (.cells (Value.slice (some ⟨gk, 0, none⟩) 64 ck :: hTab.map (Value.int .u32)).toArray 42)).alloc (.cells #[.int .i64 h.k, .slice h.ka h.kn h.kc, .slice h.va h.vn h.vc, .slice h.da h.dn h.dc, .slice h.ta h.tn h.tc] 25)).heap.size = w.heap.size + 2 := by simp
  have e2 : (((w.alloc (.cells (Value.slice (some ⟨gk, 0, none⟩) 64 ck :: hTab.map (Value.int .u32)).toArray 42)).alloc (.cells #[.int .i64 h.k, .slice h.ka h.kn h.kc, .slice h.va h.vn h.vc, .slice h.da h.dn h.dc, .slice h.ta h.tn h.tc] 25)).alloc (.cells #[.slice sp.ka sp.kn sp.kc, .slice sp.va sp.vn sp.vc, .bool sp.out] 27)).heap.size = w.heap.size + 3 := by simp
  rw [e1] at x1'
  rw [e2] at x2
  exact ⟨(d.below hb).below hb2, x1', x2⟩

set_option maxRecDepth 100000 in
set_option maxHeartbeats 8000000 in
theorem refCut_any (k : Nat) (hk1 : 1 ≤ k) (hk2 : k ≤ 32) (gk ck : Nat) (a : AT) (h : TH) (w : World) (ht : InTree w h a.tr) (hl : Lim a.pairs) (hks : Seg .u32 w gk 0 kTab) (hgk : gk < w.heap.size) :
    Calls Tryd.prog 28 #[tabV gk ck, .int .i64 k, h.v] w (ShowPost w (hideA k a)) := by
  unfold TH.v tabV
  have HD := Lib.hid (CX.enter w gk ck h hks hgk)
  obtain ⟨H, hp⟩ := ht.parts
  have HKK := Lib.hid hp.hk
  have HT := Lib.hid ht
  have HF := Lib.hid ((AT.tr_formed a).2 hl)
  clear hp ht hl hks hgk
  go_enter Tryd.func28, Tryd.ntmps28
  go_upto_region 1 with fail
  generalize (((w.alloc (.cells (Value.slice (some ⟨gk, 0, none⟩) 64 ck :: hTab.map (Value.int .u32)).toArray 42)).alloc (.cells #[.int .i64 h.k, .slice h.ka h.kn h.kc, .slice h.va h.vn h.vc, .slice h.da h.dn h.dc, .slice h.ta h.tn h.tc] 25)).alloc (.cells #[.int .i64 0, .slice none 0 0, .slice none 0 0, .slice none 0 0, .slice none 0 0] 25)) = w0 at *
  obtain ⟨x0, x1, x2, x3, x4⟩ := HD.out.dw.box.cells
  have hnine := HD.out.dw.nine
  obtain ⟨t0, t1, t2, t3, t4, t5, t6, t7, t8⟩ := hnine
  cases a with
  | nil =>
    have e0 : (h.k == 0) = true := by rw [HKK.out]; rfl
    go_wp2_with (first
      | (refine wpList_store_box rfl 25 (.tmp 6) (.tmp 12) rfl (w.heap.size + 2) hZ hZ rfl rfl 25 HD.out.res infoTree5 ?_
         intro w9 hbx9 hg9
         have HX9 := Lib.hid hbx9
         have HB9 : Hid (Below w.heap.size w w9) := Lib.hid (HD.out.dw.b.grown hg9 HD.out.dw.b.size (fun j hj => by injection hj; omega))
         clear hbx9 hg9))
    exact bodyPost_ret (v := TH.v hZ) (result_tree Tryd.results28 _ HX9.out rfl Tryd.underlying25 infoTree5) rfl ⟨_, rfl, inTree_nil _, HB9.out⟩
  | node l key v r =>
    have e0 : (h.k == 0) = false := by rw [HKK.out]; rfl
    go_wp2_with (first
      | (go_at_call 55
         refine (refDigest_any k hk1 hk2 gk ck (AT.node l key v r).tr h _ (HT.out.lower HD.out.dw.b) HF.out HD.out.dw.ks (Nat.lt_of_lt_of_le HD.out.dw.gk HD.out.dw.b.size)).mono ?_
         rintro _ w4 ⟨a4, n4, c4, is4, rfl, hres4, hb4⟩
         have HD4 := Lib.hid (HD.out.below hb4)
         have HI4 : Hid (InBytes w4 a4 n4 c4 (digA k (AT.node l key v r))) := Lib.hid (by
           rcases hres4 with ⟨-, zs, q1, q2⟩ | ⟨-, q1⟩
           · rw [AT.digs hk2] at q1
             injection q1 with q1
             rw [q1]
             exact q2
           · rw [AT.digs hk2] at q1
             cases q1)
         clear hres4 hb4)
      | (refine wpList_store_box rfl 25 (.tmp 6) (.tmp 21) rfl (w.heap.size + 2) hZ ⟨3, none, 0, 0, none, 0, 0, a4, n4, c4, none, 0, 0⟩ rfl rfl 25 HD4.out.res infoTree5 ?_
         intro w9 hbx9 hg9
         have HX9 := Lib.hid hbx9
         have HI9 := Lib.hid (HI4.out.outBox HD4.out.res hg9)
         have HB9 : Hid (Below w.heap.size w w9) := Lib.hid (HD4.out.dw.b.grown hg9 HD4.out.dw.b.size (fun j hj => by injection hj; omega))
         clear hbx9 hg9))
    exact bodyPost_ret (v := TH.v ⟨3, none, 0, 0, none, 0, 0, a4, n4, c4, none, 0, 0⟩) (result_tree Tryd.results28 _ HX9.out rfl Tryd.underlying25 infoTree5) rfl ⟨_, rfl, inTree_leaf (by omega) (by omega) HI9.out, HB9.out⟩
theorem refCut_lit (k : Nat) (hk1 : 1 ≤ k) (hk2 : k ≤ 32) (gk ck : Nat) (a : AT) (h : TH) (w : World) (ht : InTree w h a.tr) (hl : Lim a.pairs) (hks : Seg .u32 w gk 0 kTab) (hgk : gk < w.heap.size) :
    Calls Tryd.prog 28 #[.agg #[.slice (some ⟨gk, 0, none⟩) 64 ck, .int .u32 1779033703, .int .u32 3144134277, .int .u32 1013904242, .int .u32 2773480762, .int .u32 1359893119, .int .u32 2600822924, .int .u32 528734635, .int .u32 1541459225], .int .i64 k, .agg #[.int .i64 h.k, .slice h.ka h.kn h.kc, .slice h.va h.vn h.vc, .slice h.da h.dn h.dc, .slice h.ta h.tn h.tc]] w (ShowPost w (hideA k a)) := refCut_any k hk1 hk2 gk ck a h w ht hl hks hgk

set_option maxRecDepth 100000 in
set_option maxHeartbeats 8000000 in
theorem refShow_any (k : Nat) (hk1 : 1 ≤ k) (hk2 : k ≤ 32) (gk ck : Nat) (sp : DH) (f tt : List Int) : ∀ (a : AT) (h : TH) (w : World), InTree w h a.tr → Lim a.pairs → SpanIn w sp f tt → Seg .u32 w gk 0 kTab → gk < w.heap.size →
    Calls Tryd.prog 11 #[tabV gk ck, .int .i64 k, h.v, sp.v] w (ShowPost w (showA k f tt sp.out a)) := by
  intro a
  induction a with
  | nil =>
    intro h w ht hl hs hks hgk
    unfold TH.v tabV DH.v
    have HD := Lib.hid (QV.enter w gk ck h sp hks hgk)
    obtain ⟨H, hp⟩ := ht.parts
    have e0 : (h.k == 0) = true := by rw [hp.hk]; rfl
    clear hp ht hl hks hgk hs
    go_enter Tryd.func11, Tryd.ntmps11
    go_upto_region 1 with fail
    generalize ((((w.alloc (.cells (Value.slice (some ⟨gk, 0, none⟩) 64 ck :: hTab.map (Value.int .u32)).toArray 42)).alloc (.cells #[.int .i64 h.k, .slice h.ka h.kn h.kc, .slice h.va h.vn h.vc, .slice h.da h.dn h.dc, .slice h.ta h.tn h.tc] 25)).alloc (.cells #[.slice sp.ka sp.kn sp.kc, .slice sp.va sp.vn sp.vc, .bool sp.out] 27)).alloc (.cells #[.int .i64 0, .slice none 0 0, .slice none 0 0, .slice none 0 0, .slice none 0 0] 25)) = w0 at *
    obtain ⟨x0, x1, x2, x3, x4⟩ := HD.out.dw.box.cells
    go_wp2_with (first
      | (refine wpList_store_box rfl 25 (.tmp 8) (.tmp 14) rfl (w.heap.size + 3) hZ hZ rfl rfl 25 HD.out.res infoTree5 ?_
         intro w9 hbx9 hg9
         have HX9 := Lib.hid hbx9
         have HB9 : Hid (Below w.heap.size w w9) := Lib.hid (HD.out.dw.b.grown hg9 HD.out.dw.b.size (fun j hj => by injection hj; omega))
         clear hbx9 hg9))
    exact bodyPost_ret (v := TH.v hZ) (result_tree Tryd.results11 _ HX9.out rfl Tryd.underlying25 infoTree5) rfl ⟨_, rfl, inTree_nil _, HB9.out⟩
  | node l key v r ihl ihr =>
    intro h w ht hlm hs hks hgk
    have HIHL : Hid (∀ (hh : TH) (W : World), InTree W hh l.tr → SpanIn W sp f tt → Seg .u32 W gk 0 kTab → gk < W.heap.size → Calls Tryd.prog 11 #[.agg #[.slice (some ⟨gk, 0, none⟩) 64 ck, .int .u32 1779033703, .int .u32 3144134277, .int .u32 1013904242, .int .u32 2773480762, .int .u32 1359893119, .int .u32 2600822924, .int .u32 528734635, .int .u32 1541459225], .int .i64 k, .agg #[.int .i64 hh.k, .slice hh.ka hh.kn hh.kc, .slice hh.va hh.vn hh.vc, .slice hh.da hh.dn hh.dc, .slice hh.ta hh.tn hh.tc], .agg #[.slice sp.ka sp.kn sp.kc, .slice sp.va sp.vn sp.vc, .bool sp.out]] W (ShowPost W (showA k f tt sp.out l))) := Lib.hid (fun hh W q1 q2 q3 q4 => ihl hh W q1 hlm.node.1 q2 q3 q4)
    have HIHR : Hid (∀ (hh : TH) (W : World), InTree W hh r.tr → SpanIn W sp f tt → Seg .u32 W gk 0 kTab → gk < W.heap.size → Calls Tryd.prog 11 #[.agg #[.slice (some ⟨gk, 0, none⟩) 64 ck, .int .u32 1779033703, .int .u32 3144134277, .int .u32 1013904242, .int .u32 2773480762, .int .u32 1359893119, .int .u32 2600822924, .int .u32 528734635, .int .u32 1541459225], .int .i64 k, .agg #[.int .i64 hh.k, .slice hh.ka hh.kn hh.kc, .slice hh.va hh.vn hh.vc, .slice hh.da hh.dn hh.dc, .slice hh.ta hh.tn hh.tc], .agg #[.slice sp.ka sp.kn sp.kc, .slice sp.va sp.vn sp.vc, .bool sp.out]] W (ShowPost W (showA k f tt sp.out r))) := Lib.hid (fun hh W q1 q2 q3 q4 => ihr hh W q1 hlm.node.2.2.2 q2 q3 q4)
    unfold TH.v tabV DH.v
    have HD := Lib.hid (QV.enter w gk ck h sp hks hgk)
    have HSP := Lib.hid hs
    obtain ⟨H, hp⟩ := ht.parts
    have e0 : (h.k == 0) = false := by rw [hp.hk]; rfl
    have htn : h.tn = 2 := hp.len.symm
    have hkn : h.kn ≤ 80 := by have := hp.key.len; have := hlm.node.2.1; show h.kn ≤ 80; rw [← hp.key.len]; exact hlm.node.2.1
    have hvn : h.vn ≤ 1024 := by rw [← hp.val.len]; exact hlm.node.2.2.1
    have HP := Lib.hid hp
    have HL := Lib.hid hlm.node
    have HFM := Lib.hid (show_formed (k := k) f tt sp.out (.node l key v r) hlm)
    have l0 : 0 < (AT.node l key v r).tr.kids.length := by rw [AT.tr_kids]; exact Nat.zero_lt_two
    have l1 : 1 < (AT.node l key v r).tr.kids.length := by rw [AT.tr_kids]; exact Nat.one_lt_two
    have ht0 : 0 < h.tn := by omega
    have ht1 : (1 : Int) < (h.tn : Int) := by omega
    obtain ⟨g, off, hta, -, -⟩ := hp.place ht0
    have HTA := Lib.hid hta
    have KEEP : Hid (∀ W, QV w W gk ck h sp → (fun W => (W.cell? ⟨w.heap.size, 0, none⟩ = some (.slice (some ⟨gk, 0, none⟩) 64 ck) ∧ W.cell? ⟨w.heap.size, 1, none⟩ = some (.int .u32 1779033703) ∧ W.cell? ⟨w.heap.size, 2, none⟩ = some (.int .u32 3144134277) ∧ W.cell? ⟨w.heap.size, 3, none⟩ = some (.int .u32 1013904242) ∧ W.cell? ⟨w.heap.size, 4, none⟩ = some (.int .u32 2773480762) ∧ W.cell? ⟨w.heap.size, 5, none⟩ = some (.int .u32 1359893119) ∧ W.cell? ⟨w.heap.size, 6, none⟩ = some (.int .u32 2600822924) ∧ W.cell? ⟨w.heap.size, 7, none⟩ = some (.int .u32 528734635) ∧ W.cell? ⟨w.heap.size, 8, none⟩ = some (.int .u32 1541459225)) ∧ (W.cell? ⟨w.heap.size + 2, 0, none⟩ = some (.slice sp.ka sp.kn sp.kc) ∧ W.cell? ⟨w.heap.size + 2, 1, none⟩ = some (.slice sp.va sp.vn sp.vc) ∧ W.cell? ⟨w.heap.size + 2, 2, none⟩ = some (.bool sp.out)) ∧ (W.cell? ⟨w.heap.size + 1, 1, none⟩ = some (.slice h.ka h.kn h.kc) ∧ W.cell? ⟨w.heap.size + 1, 2, none⟩ = some (.slice h.va h.vn h.vc) ∧ W.cell? ⟨w.heap.size + 1, 4, none⟩ = some (.slice (some ⟨g, off, none⟩) h.tn h.tc)) ∧ (W.cell? ⟨g, off, none⟩ = some (.int .i64 (H 0).k) ∧ W.cell? ⟨g, off + 1, none⟩ = some (.slice (H 0).ka (H 0).kn (H 0).kc) ∧ W.cell? ⟨g, off + 2, none⟩ = some (.slice (H 0).va (H 0).vn (H 0).vc) ∧ W.cell? ⟨g, off + 3, none⟩ = some (.slice (H 0).da (H 0).dn (H 0).dc) ∧ W.cell? ⟨g, off + 4, none⟩ = some (.slice (H 0).ta (H 0).tn (H 0).tc)) ∧ (W.cell? ⟨g, off + 5, none⟩ = some (.int .i64 (H 1).k) ∧ W.cell? ⟨g, off + 5 + 1, none⟩ = some (.slice (H 1).ka (H 1).kn (H 1).kc) ∧ W.cell? ⟨g, off + 5 + 2, none⟩ = some (.slice (H 1).va (H 1).vn (H 1).vc) ∧ W.cell? ⟨g, off + 5 + 3, none⟩ = some (.slice (H 1).da (H 1).dn (H 1).dc) ∧ W.cell? ⟨g, off + 5 + 4, none⟩ = some (.slice (H 1).ta (H 1).tn (H 1).tc))) W) := Lib.hid (fun W d => ⟨d.dw.nine, d.sb.three, ⟨d.dw.box.cells.2.1, d.dw.box.cells.2.2.1, (d.dw.box.cells.2.2.2.2).trans (by rw [HTA.out])⟩, (HP.out.below d.dw.b).kid0 HTA.out (by omega), (HP.out.below d.dw.b).kid1 HTA.out (by omega)⟩)
    clear hp ht hlm hks hgk hs ihl ihr htn hta
    go_enter Tryd.func11, Tryd.ntmps11
    go_upto_region 1 with fail
    generalize ((((w.alloc (.cells (Value.slice (some ⟨gk, 0, none⟩) 64 ck :: hTab.map (Value.int .u32)).toArray 42)).alloc (.cells #[.int .i64 h.k, .slice h.ka h.kn h.kc, .slice h.va h.vn h.vc, .slice h.da h.dn h.dc, .slice h.ta h.tn h.tc] 25)).alloc (.cells #[.slice sp.ka sp.kn sp.kc, .slice sp.va sp.vn sp.vc, .bool sp.out] 27)).alloc (.cells #[.int .i64 0, .slice none 0 0, .slice none 0 0, .slice none 0 0, .slice none 0 0] 25)) = w0 at *
    obtain ⟨x0, x1, x2, x3, x4⟩ := HD.out.dw.box.cells
    obtain ⟨y0, y1, y2⟩ := HD.out.sb.three
    cases hin : inS f tt sp.out key with
    | true =>
      have HIN := Lib.hid hin
      have HSH : Hid (showA k f tt sp.out (.node l key v r) = _) := Lib.hid (show_in hin)
      clear hin
      go_upto_region 5 with (first
        | (go_at_call 25
           refine (refIn_any sp f tt key h.ka h.kn h.kc _ (HSP.out.below HD.out.dw.b) ((HP.out.below HD.out.dw.b).key)).mono ?_
           rintro _ w3 ⟨rfl, hb3⟩
           have HD3 := Lib.hid (HD.out.below hb3)
           rw [HIN.out]
           clear hb3 x0 x1 x2 x3 x4 y0 y1 y2))
      have HD0 := Lib.hid HD3.out.drew
      refine region_l (S := (fun W => (W.cell? ⟨w.heap.size, 0, none⟩ = some (.slice (some ⟨gk, 0, none⟩) 64 ck) ∧ W.cell? ⟨w.heap.size, 1, none⟩ = some (.int .u32 1779033703) ∧ W.cell? ⟨w.heap.size, 2, none⟩ = some (.int .u32 3144134277) ∧ W.cell? ⟨w.heap.size, 3, none⟩ = some (.int .u32 1013904242) ∧ W.cell? ⟨w.heap.size, 4, none⟩ = some (.int .u32 2773480762) ∧ W.cell? ⟨w.heap.size, 5, none⟩ = some (.int .u32 1359893119) ∧ W.cell? ⟨w.heap.size, 6, none⟩ = some (.int .u32 2600822924) ∧ W.cell? ⟨w.heap.size, 7, none⟩ = some (.int .u32 528734635) ∧ W.cell? ⟨w.heap.size, 8, none⟩ = some (.int .u32 1541459225)) ∧ (W.cell? ⟨w.heap.size + 2, 0, none⟩ = some (.slice sp.ka sp.kn sp.kc) ∧ W.cell? ⟨w.heap.size + 2, 1, none⟩ = some (.slice sp.va sp.vn sp.vc) ∧ W.cell? ⟨w.heap.size + 2, 2, none⟩ = some (.bool sp.out)) ∧ (W.cell? ⟨w.heap.size + 1, 1, none⟩ = some (.slice h.ka h.kn h.kc) ∧ W.cell? ⟨w.heap.size + 1, 2, none⟩ = some (.slice h.va h.vn h.vc) ∧ W.cell? ⟨w.heap.size + 1, 4, none⟩ = some (.slice (some ⟨g, off, none⟩) h.tn h.tc)) ∧ (W.cell? ⟨g, off, none⟩ = some (.int .i64 (H 0).k) ∧ W.cell? ⟨g, off + 1, none⟩ = some (.slice (H 0).ka (H 0).kn (H 0).kc) ∧ W.cell? ⟨g, off + 2, none⟩ = some (.slice (H 0).va (H 0).vn (H 0).vc) ∧ W.cell? ⟨g, off + 3, none⟩ = some (.slice (H 0).da (H 0).dn (H 0).dc) ∧ W.cell? ⟨g, off + 4, none⟩ = some (.slice (H 0).ta (H 0).tn (H 0).tc)) ∧ (W.cell? ⟨g, off + 5, none⟩ = some (.int .i64 (H 1).k) ∧ W.cell? ⟨g, off + 5 + 1, none⟩ = some (.slice (H 1).ka (H 1).kn (H 1).kc) ∧ W.cell? ⟨g, off + 5 + 2, none⟩ = some (.slice (H 1).va (H 1).vn (H 1).vc) ∧ W.cell? ⟨g, off + 5 + 3, none⟩ = some (.slice (H 1).da (H 1).dn (H 1).dc) ∧ W.cell? ⟨g, off + 5 + 4, none⟩ = some (.slice (H 1).ta (H 1).tn (H 1).tc)))) 22 (by kernel_rfl) (KEEP.out _ HD0.out) (fun hHeld => ?_)
      refine take_l (i := 0) (oi := ?oZ1) (v := ?vZ1) ?hiZ1 (by kernel_rfl) (by kernel_rfl) (by kernel_rfl) (by kernel_rfl) ?hQZ1 ?hwZ1 ?hyZ1 (by assumption) ?restZ1
      case hiZ1 => (simp only [List.getElem?_toArray, List.getElem?_cons_zero] <;> rfl)
      case hQZ1 => exact (fun _ _ _ h => h)
      case hwZ1 => rfl
      case hyZ1 => (intro w hSw; (try dsimp only at hSw); go_simp; try with_reducible rfl)
      (try simp only [Act.put, List.setIfInBounds_toArray, List.set_cons_zero, List.set_cons_succ])
      refine take_l (i := 1) (oi := ?oZ2) (v := ?vZ2) ?hiZ2 (by kernel_rfl) (by kernel_rfl) (by kernel_rfl) (by kernel_rfl) ?hQZ2 ?hwZ2 ?hyZ2 (by assumption) ?restZ2
      case hiZ2 => (simp only [List.getElem?_toArray, List.getElem?_cons_succ, List.getElem?_cons_zero] <;> rfl)
      case hQZ2 => exact (fun _ _ _ h => h)
      case hwZ2 => rfl
      case hyZ2 => (intro w hSw; (try dsimp only at hSw); go_simp; try with_reducible rfl)
      (try simp only [Act.put, List.setIfInBounds_toArray, List.set_cons_zero, List.set_cons_succ])
      refine take_l (i := 2) (oi := ?oZ3) (v := ?vZ3) ?hiZ3 (by kernel_rfl) (by kernel_rfl) (by kernel_rfl) (by kernel_rfl) ?hQZ3 ?hwZ3 ?hyZ3 (by assumption) ?restZ3
      case hiZ3 => (simp only [List.getElem?_toArray, List.getElem?_cons_succ, List.getElem?_cons_zero] <;> rfl)
      case hQZ3 => exact (fun _ _ _ h => h)
      case hwZ3 => rfl
      case hyZ3 => (intro w hSw; (try dsimp only at hSw); go_simp; try with_reducible rfl)
      (try simp only [Act.put, List.setIfInBounds_toArray, List.set_cons_zero, List.set_cons_succ])
      refine take_l (i := 3) (oi := ?oZ4) (v := ?vZ4) ?hiZ4 (by kernel_rfl) (by kernel_rfl) (by kernel_rfl) (by kernel_rfl) ?hQZ4 ?hwZ4 ?hyZ4 (by assumption) ?restZ4
      case hiZ4 => (simp only [List.getElem?_toArray, List.getElem?_cons_succ, List.getElem?_cons_zero] <;> rfl)
      case hQZ4 => exact (fun _ _ _ h => h)
      case hwZ4 => rfl
      case hyZ4 => (intro w hSw; (try dsimp only at hSw); go_simp; try with_reducible rfl)
      (try simp only [Act.put, List.setIfInBounds_toArray, List.set_cons_zero, List.set_cons_succ])
      refine take_l (i := 4) (oi := ?oZ5) (v := ?vZ5) ?hiZ5 (by kernel_rfl) (by kernel_rfl) (by kernel_rfl) (by kernel_rfl) ?hQZ5 ?hwZ5 ?hyZ5 (by assumption) ?restZ5
      case hiZ5 => (simp only [List.getElem?_toArray, List.getElem?_cons_succ, List.getElem?_cons_zero] <;> rfl)
      case hQZ5 => exact (fun _ _ _ h => h)
      case hwZ5 => rfl
      case hyZ5 => (intro w hSw; (try dsimp only at hSw); go_simp; try with_reducible rfl)
      (try simp only [Act.put, List.setIfInBounds_toArray, List.set_cons_zero, List.set_cons_succ])
      refine take_l (i := 5) (oi := ?oZ6) (v := ?vZ6) ?hiZ6 (by kernel_rfl) (by kernel_rfl) (by kernel_rfl) (by kernel_rfl) ?hQZ6 ?hwZ6 ?hyZ6 (by assumption) ?restZ6
      case hiZ6 => (simp only [List.getElem?_toArray, List.getElem?_cons_succ, List.getElem?_cons_zero] <;> rfl)
      case hQZ6 => exact (fun _ _ _ h => h)
      case hwZ6 => rfl
      case hyZ6 => (intro w hSw; (try dsimp only at hSw); go_simp; try with_reducible rfl)
      (try simp only [Act.put, List.setIfInBounds_toArray, List.set_cons_zero, List.set_cons_succ])
      refine take_l (i := 6) (oi := ?oZ7) (v := ?vZ7) ?hiZ7 (by kernel_rfl) (by kernel_rfl) (by kernel_rfl) (by kernel_rfl) ?hQZ7 ?hwZ7 ?hyZ7 (by assumption) ?restZ7
      case hiZ7 => (simp only [List.getElem?_toArray, List.getElem?_cons_succ, List.getElem?_cons_zero] <;> rfl)
      case hQZ7 => exact (fun _ _ _ h => h)
      case hwZ7 => rfl
      case hyZ7 => (intro w hSw; (try dsimp only at hSw); go_simp; try with_reducible rfl)
      (try simp only [Act.put, List.setIfInBounds_toArray, List.set_cons_zero, List.set_cons_succ])
      refine take_l (i := 7) (oi := ?oZ8) (v := ?vZ8) ?hiZ8 (by kernel_rfl) (by kernel_rfl) (by kernel_rfl) (by kernel_rfl) ?hQZ8 ?hwZ8 ?hyZ8 (by assumption) ?restZ8
      case hiZ8 => (simp only [List.getElem?_toArray, List.getElem?_cons_succ, List.getElem?_cons_zero] <;> rfl)
      case hQZ8 => exact (fun _ _ _ h => h)
      case hwZ8 => rfl
      case hyZ8 => (intro w hSw; (try dsimp only at hSw); go_simp; try with_reducible rfl)
      (try simp only [Act.put, List.setIfInBounds_toArray, List.set_cons_zero, List.set_cons_succ])
      refine take_l (i := 8) (oi := ?oZ9) (v := ?vZ9) ?hiZ9 (by kernel_rfl) (by kernel_rfl) (by kernel_rfl) (by kernel_rfl) ?hQZ9 ?hwZ9 ?hyZ9 (by assumption) ?restZ9
      case hiZ9 => (simp only [List.getElem?_toArray, List.getElem?_cons_succ, List.getElem?_cons_zero] <;> rfl)
      case hQZ9 => exact (fun _ _ _ h => h)
      case hwZ9 => rfl
      case hyZ9 => (intro w hSw; (try dsimp only at hSw); go_simp; try with_reducible rfl)
      (try simp only [Act.put, List.setIfInBounds_toArray, List.set_cons_zero, List.set_cons_succ])
      refine take_l (i := 9) (oi := ?oZ10) (v := ?vZ10) ?hiZ10 (by kernel_rfl) (by kernel_rfl) (by kernel_rfl) (by kernel_rfl) ?hQZ10 ?hwZ10 ?hyZ10 (by assumption) ?restZ10
      case hiZ10 => (simp only [List.getElem?_toArray, List.getElem?_cons_succ, List.getElem?_cons_zero] <;> rfl)
      case hQZ10 => exact (fun _ _ _ h => h)
      case hwZ10 => rfl
      case hyZ10 => (intro w hSw; (try dsimp only at hSw); go_simp; try with_reducible rfl)
      (try simp only [Act.put, List.setIfInBounds_toArray, List.set_cons_zero, List.set_cons_succ])
      refine take_l (i := 10) (oi := ?oZ11) (v := ?vZ11) ?hiZ11 (by kernel_rfl) (by kernel_rfl) (by kernel_rfl) (by kernel_rfl) ?hQZ11 ?hwZ11 ?hyZ11 (by assumption) ?restZ11
      case hiZ11 => (simp only [List.getElem?_toArray, List.getElem?_cons_succ, List.getElem?_cons_zero] <;> rfl)
      case hQZ11 => exact (fun _ _ _ h => h)
      case hwZ11 => rfl
      case hyZ11 => (intro w hSw; (try dsimp only at hSw); go_simp; try with_reducible rfl)
      (try simp only [Act.put, List.setIfInBounds_toArray, List.set_cons_zero, List.set_cons_succ])
      refine take_l (i := 12) (oi := ?oZ12) (v := ?vZ12) ?hiZ12 (by kernel_rfl) (by kernel_rfl) (by kernel_rfl) (by kernel_rfl) ?hQZ12 ?hwZ12 ?hyZ12 (by assumption) ?restZ12
      case hiZ12 => (simp only [List.getElem?_toArray, List.getElem?_cons_succ, List.getElem?_cons_zero] <;> rfl)
      case hQZ12 => exact (fun _ _ _ h => h)
      case hwZ12 => rfl
      case hyZ12 => (intro w hSw; (try dsimp only at hSw); go_simp; try with_reducible rfl)
      (try simp only [Act.put, List.setIfInBounds_toArray, List.set_cons_zero, List.set_cons_succ])
      refine take_l (i := 13) (oi := ?oZ13) (v := ?vZ13) ?hiZ13 (by kernel_rfl) (by kernel_rfl) (by kernel_rfl) (by kernel_rfl) ?hQZ13 ?hwZ13 ?hyZ13 (by assumption) ?restZ13
      case hiZ13 => (simp only [List.getElem?_toArray, List.getElem?_cons_succ, List.getElem?_cons_zero] <;> rfl)
      case hQZ13 => exact (fun _ _ _ h => h)
      case hwZ13 => rfl
      case hyZ13 => (intro w hSw; (try dsimp only at hSw); go_simp; try with_reducible rfl)
      (try simp only [Act.put, List.setIfInBounds_toArray, List.set_cons_zero, List.set_cons_succ])
      refine take_l (i := 14) (oi := ?oZ14) (v := ?vZ14) ?hiZ14 (by kernel_rfl) (by kernel_rfl) (by kernel_rfl) (by kernel_rfl) ?hQZ14 ?hwZ14 ?hyZ14 (by assumption) ?restZ14
      case hiZ14 => (simp only [List.getElem?_toArray, List.getElem?_cons_succ, List.getElem?_cons_zero] <;> rfl)
      case hQZ14 => exact (fun _ _ _ h => h)
      case hwZ14 => rfl
      case hyZ14 => (intro w hSw; (try dsimp only at hSw); go_simp; try with_reducible rfl)
      (try simp only [Act.put, List.setIfInBounds_toArray, List.set_cons_zero, List.set_cons_succ])
      refine take_l (i := 15) (oi := ?oZ15) (v := ?vZ15) ?hiZ15 (by kernel_rfl) (by kernel_rfl) (by kernel_rfl) (by kernel_rfl) ?hQZ15 ?hwZ15 ?hyZ15 (by assumption) ?restZ15
      case hiZ15 => (simp only [List.getElem?_toArray, List.getElem?_cons_succ, List.getElem?_cons_zero] <;> rfl)
      case hQZ15 => exact (fun _ _ _ h => h)
      case hwZ15 => rfl
      case hyZ15 => (intro w hSw; (try dsimp only at hSw); go_simp; try with_reducible rfl)
      (try simp only [Act.put, List.setIfInBounds_toArray, List.set_cons_zero, List.set_cons_succ])
      refine take_l (i := 16) (oi := ?oZ16) (v := ?vZ16) ?hiZ16 (by kernel_rfl) (by kernel_rfl) (by kernel_rfl) (by kernel_rfl) ?hQZ16 ?hwZ16 ?hyZ16 (by assumption) ?restZ16
      case hiZ16 => (simp only [List.getElem?_toArray, List.getElem?_cons_succ, List.getElem?_cons_zero] <;> rfl)
      case hQZ16 => exact (fun _ _ _ h => h)
      case hwZ16 => rfl
      case hyZ16 => (intro w hSw; (try dsimp only at hSw); go_simp; try with_reducible rfl)
      (try simp only [Act.put, List.setIfInBounds_toArray, List.set_cons_zero, List.set_cons_succ])
      refine take_l (i := 17) (oi := ?oZ17) (v := ?vZ17) ?hiZ17 (by kernel_rfl) (by kernel_rfl) (by kernel_rfl) (by kernel_rfl) ?hQZ17 ?hwZ17 ?hyZ17 (by assumption) ?restZ17
      case hiZ17 => (simp only [List.getElem?_toArray, List.getElem?_cons_succ, List.getElem?_cons_zero] <;> rfl)
      case hQZ17 => exact (fun _ _ _ h => h)
      case hwZ17 => rfl
      case hyZ17 => (intro w hSw; (try dsimp only at hSw); go_simp; try with_reducible rfl)
      (try simp only [Act.put, List.setIfInBounds_toArray, List.set_cons_zero, List.set_cons_succ])
      refine take_l (i := 18) (oi := ?oZ18) (v := ?vZ18) ?hiZ18 (by kernel_rfl) (by kernel_rfl) (by kernel_rfl) (by kernel_rfl) ?hQZ18 ?hwZ18 ?hyZ18 (by assumption) ?restZ18
      case hiZ18 => (simp only [List.getElem?_toArray, List.getElem?_cons_succ, List.getElem?_cons_zero] <;> rfl)
      case hQZ18 => exact (fun _ _ _ h => h)
      case hwZ18 => rfl
      case hyZ18 => (intro w hSw; (try dsimp only at hSw); go_simp; try with_reducible rfl)
      (try simp only [Act.put, List.setIfInBounds_toArray, List.set_cons_zero, List.set_cons_succ])
      refine one_l (i := 11) (o := ?oZ19) (by kernel_rfl) ?hiZ19 (fun K hK => ?stZ19)
      case hiZ19 => (simp only [List.getElem?_toArray, List.getElem?_cons_succ, List.getElem?_cons_zero] <;> rfl)
      go_simp
      go_at_call 11
      refine (HIHL.out (H 0) _ ((HP.out.below HD0.out.dw.b).kids 0 l0) (HSP.out.below HD0.out.dw.b) HD0.out.dw.ks (Nat.lt_of_lt_of_le HD0.out.dw.gk HD0.out.dw.b.size)).mono ?_
      rintro _ w5 ⟨h5, rfl, hi5, hb5⟩
      unfold TH.v
      have HD5 := Lib.hid (HD0.out.below hb5)
      have HI5 := Lib.hid hi5
      clear hi5 hb5
      go_simp
      refine hK.out _ _ ?_ (fun hHeld => ?_)
      · (first | exact KEEP.out _ HD6.out | exact KEEP.out _ HD5.out | exact KEEP.out _ HD0.out | exact KEEP.out _ (HD6.out.below ((Below.refl _ _).alloc (Nat.le_refl _) _)))
      clear hK K
      (try simp only [Act.put, List.setIfInBounds_toArray, List.set_cons_zero, List.set_cons_succ])
      refine one_l (i := 19) (o := ?oZ20) (by kernel_rfl) ?hiZ20 (fun K hK => ?stZ20)
      case hiZ20 => (simp only [List.getElem?_toArray, List.getElem?_cons_succ, List.getElem?_cons_zero] <;> rfl)
      go_simp
      go_at_call 11
      refine (HIHR.out (H 1) _ ((HP.out.below HD5.out.dw.b).kids 1 l1) (HSP.out.below HD5.out.dw.b) HD5.out.dw.ks (Nat.lt_of_lt_of_le HD5.out.dw.gk HD5.out.dw.b.size)).mono ?_
      rintro _ w6 ⟨h6, rfl, hi6, hb6⟩
      unfold TH.v
      have HD6 := Lib.hid (HD5.out.below hb6)
      have HI6 := Lib.hid hi6
      have HJ5 := Lib.hid (HI5.out.lower hb6)
      clear hi6 hb6
      go_simp
      refine hK.out _ _ ?_ (fun hHeld => ?_)
      · (first | exact KEEP.out _ HD6.out | exact KEEP.out _ HD5.out | exact KEEP.out _ HD0.out | exact KEEP.out _ (HD6.out.below ((Below.refl _ _).alloc (Nat.le_refl _) _)))
      clear hK K
      (try simp only [Act.put, List.setIfInBounds_toArray, List.set_cons_zero, List.set_cons_succ])
      refine one_l (i := 20) (o := ?oZ21) (by kernel_rfl) ?hiZ21 (fun K hK => ?stZ21)
      case hiZ21 => (simp only [List.getElem?_toArray, List.getElem?_cons_succ, List.getElem?_cons_zero] <;> rfl)
      go_simp
      refine hK.out _ _ ?_ (fun hHeld => ?_)
      · (first | exact KEEP.out _ HD6.out | exact KEEP.out _ HD5.out | exact KEEP.out _ HD0.out | exact KEEP.out _ (HD6.out.below ((Below.refl _ _).alloc (Nat.le_refl _) _)))
      clear hK K
      (try simp only [Act.put, List.setIfInBounds_toArray, List.set_cons_zero, List.set_cons_succ])
      refine take_l (i := 21) (oi := ?oZ22) (v := ?vZ22) ?hiZ22 (by kernel_rfl) (by kernel_rfl) (by kernel_rfl) (by kernel_rfl) ?hQZ22 ?hwZ22 ?hyZ22 (by assumption) ?restZ22
      case hiZ22 => (simp only [List.getElem?_toArray, List.getElem?_cons_succ, List.getElem?_cons_zero] <;> rfl)
      case hQZ22 => exact (fun _ _ _ h => h)
      case hwZ22 => rfl
      case hyZ22 => (intro w hSw; (try dsimp only at hSw); go_simp; try with_reducible rfl)
      (try simp only [Act.put, List.setIfInBounds_toArray, List.set_cons_zero, List.set_cons_succ])
      refine last_l (o := ?oZ23) (by kernel_rfl) ?hiZ23 (by kernel_rfl) (fun K hK => ?stZ23)
      case hiZ23 => (simp only [List.getElem?_toArray, List.getElem?_cons_succ, List.getElem?_cons_zero] <;> rfl)
      have q7 : Below w6.heap.size w6 (w6.alloc (.cells #[.int .i64 h5.k, .slice h5.ka h5.kn h5.kc, .slice h5.va h5.vn h5.vc, .slice h5.da h5.dn h5.dc, .slice h5.ta h5.tn h5.tc, .int .i64 h6.k, .slice h6.ka h6.kn h6.kc, .slice h6.va h6.vn h6.vc, .slice h6.da h6.dn h6.dc, .slice h6.ta h6.tn h6.tc] 25)) := (Below.refl _ _).alloc (Nat.le_refl _) _
      have HD7 := Lib.hid (HD6.out.below q7)
      have HW7 : Hid (Two5 (w6.alloc (.cells #[.int .i64 h5.k, .slice h5.ka h5.kn h5.kc, .slice h5.va h5.vn h5.vc, .slice h5.da h5.dn h5.dc, .slice h5.ta h5.tn h5.tc, .int .i64 h6.k, .slice h6.ka h6.kn h6.kc, .slice h6.va h6.vn h6.vc, .slice h6.da h6.dn h6.dc, .slice h6.ta h6.tn h6.tc] 25)) 25 w6.heap.size h5 h6) := Lib.hid (Two5.new w6 25 h5 h6)
      have HI7 : Hid (InTree (w6.alloc (.cells #[.int .i64 h5.k, .slice h5.ka h5.kn h5.kc, .slice h5.va h5.vn h5.vc, .slice h5.da h5.dn h5.dc, .slice h5.ta h5.tn h5.tc, .int .i64 h6.k, .slice h6.ka h6.kn h6.kc, .slice h6.va h6.vn h6.vc, .slice h6.da h6.dn h6.dc, .slice h6.ta h6.tn h6.tc] 25)) ⟨1, h.ka, h.kn, h.kc, h.va, h.vn, h.vc, none, 0, 0, some ⟨w6.heap.size, 0, none⟩, 2, 2⟩ (showA k f tt sp.out (.node l key v r))) := Lib.hid (by
        rw [HSH.out]
        exact inTree_pair HW7.out (HJ5.out.lower q7) (HI6.out.lower q7) (by omega) (by omega) ((HP.out.below HD7.out.dw.b).key) ((HP.out.below HD7.out.dw.b).val) (none_in _))
      refine step_store_box rfl 25 (.tmp 8) (.tmp 41) rfl (w.heap.size + 3) hZ ⟨1, h.ka, h.kn, h.kc, h.va, h.vn, h.vc, none, 0, 0, some ⟨w6.heap.size, 0, none⟩, 2, 2⟩ rfl rfl 25 HD7.out.res infoTree5 ?_
      intro w9 hbx9 hg9
      have HX9 := Lib.hid hbx9
      have HI9 := Lib.hid (InTree.outBox HD7.out.res hg9 _ _ HFM.out HI7.out)
      have HB9 : Hid (Below w.heap.size w w9) := Lib.hid (HD7.out.dw.b.grown hg9 HD7.out.dw.b.size (fun j hj => by injection hj; omega))
      clear hbx9 hg9 q7
      refine hK.out _ _ ?_
      clear hK K
      (try simp only [Act.put])
      
      go_wp2_with fail
      exact bodyPost_ret (v := TH.v ⟨1, h.ka, h.kn, h.kc, h.va, h.vn, h.vc, none, 0, 0, some ⟨w6.heap.size, 0, none⟩, 2, 2⟩) (result_tree Tryd.results11 _ HX9.out rfl Tryd.underlying25 infoTree5) rfl ⟨_, rfl, HI9.out, HB9.out⟩
    | false =>
      have HIN := Lib.hid hin
      clear hin
      go_upto_region 6 with (first
        | (go_at_call 25
           refine (refIn_any sp f tt key h.ka h.kn h.kc _ (HSP.out.below HD.out.dw.b) ((HP.out.below HD.out.dw.b).key)).mono ?_
           rintro _ w3 ⟨rfl, hb3⟩
           have HD3 := Lib.hid (HD.out.below hb3)
           rw [HIN.out]
           clear hb3 x0 x1 x2 x3 x4 y0 y1 y2))
      have HDA := Lib.hid HD3.out.drew
      refine wp_region_held_drew (S := (fun W => (W.cell? ⟨w.heap.size, 0, none⟩ = some (.slice (some ⟨gk, 0, none⟩) 64 ck) ∧ W.cell? ⟨w.heap.size, 1, none⟩ = some (.int .u32 1779033703) ∧ W.cell? ⟨w.heap.size, 2, none⟩ = some (.int .u32 3144134277) ∧ W.cell? ⟨w.heap.size, 3, none⟩ = some (.int .u32 1013904242) ∧ W.cell? ⟨w.heap.size, 4, none⟩ = some (.int .u32 2773480762) ∧ W.cell? ⟨w.heap.size, 5, none⟩ = some (.int .u32 1359893119) ∧ W.cell? ⟨w.heap.size, 6, none⟩ = some (.int .u32 2600822924) ∧ W.cell? ⟨w.heap.size, 7, none⟩ = some (.int .u32 528734635) ∧ W.cell? ⟨w.heap.size, 8, none⟩ = some (.int .u32 1541459225)) ∧ W.cell? ⟨w.heap.size + 1, 2, none⟩ = some (.slice h.va h.vn h.vc))) (by kernel_rfl) ⟨HDA.out.dw.nine, HDA.out.dw.box.cells.2.2.1⟩ (fun hHeld => ?_)
      refine take_w (i := 0) (oi := ?oZ66) (v := ?vZ66) ?hiZ66 (by kernel_rfl) (by kernel_rfl) (by kernel_rfl) ?hQZ66 ?hwZ66 ?hyZ66 (by assumption) ?restZ66
      case hiZ66 => (simp only [List.getElem?_toArray, List.getElem?_cons_zero] <;> rfl)
      case hQZ66 => exact (fun _ _ _ h => h)
      case hwZ66 => rfl
      case hyZ66 => (intro w hSw; (try dsimp only at hSw); go_simp; try with_reducible rfl)
      (try simp only [Act.put, List.setIfInBounds_toArray, List.set_cons_zero, List.set_cons_succ])
      refine take_w (i := 1) (oi := ?oZ67) (v := ?vZ67) ?hiZ67 (by kernel_rfl) (by kernel_rfl) (by kernel_rfl) ?hQZ67 ?hwZ67 ?hyZ67 (by assumption) ?restZ67
      case hiZ67 => (simp only [List.getElem?_toArray, List.getElem?_cons_succ, List.getElem?_cons_zero] <;> rfl)
      case hQZ67 => exact (fun _ _ _ h => h)
      case hwZ67 => rfl
      case hyZ67 => (intro w hSw; (try dsimp only at hSw); go_simp; try with_reducible rfl)
      (try simp only [Act.put, List.setIfInBounds_toArray, List.set_cons_zero, List.set_cons_succ])
      refine take_w (i := 2) (oi := ?oZ68) (v := ?vZ68) ?hiZ68 (by kernel_rfl) (by kernel_rfl) (by kernel_rfl) ?hQZ68 ?hwZ68 ?hyZ68 (by assumption) ?restZ68
      case hiZ68 => (simp only [List.getElem?_toArray, List.getElem?_cons_succ, List.getElem?_cons_zero] <;> rfl)
      case hQZ68 => exact (fun _ _ _ h => h)
      case hwZ68 => rfl
      case hyZ68 => (intro w hSw; (try dsimp only at hSw); go_simp; try with_reducible rfl)
      (try simp only [Act.put, List.setIfInBounds_toArray, List.set_cons_zero, List.set_cons_succ])
      refine take_w (i := 3) (oi := ?oZ69) (v := ?vZ69) ?hiZ69 (by kernel_rfl) (by kernel_rfl) (by kernel_rfl) ?hQZ69 ?hwZ69 ?hyZ69 (by assumption) ?restZ69
      case hiZ69 => (simp only [List.getElem?_toArray, List.getElem?_cons_succ, List.getElem?_cons_zero] <;> rfl)
      case hQZ69 => exact (fun _ _ _ h => h)
      case hwZ69 => rfl
      case hyZ69 => (intro w hSw; (try dsimp only at hSw); go_simp; try with_reducible rfl)
      (try simp only [Act.put, List.setIfInBounds_toArray, List.set_cons_zero, List.set_cons_succ])
      refine wpAnyH_ready (rs := [4]) (by kernel_rfl) (by simp) ?_
      refine AllReadyH.cons (o := ?oZ70) ?hiZ70 (fun K hK => ?stZ70) AllReadyH.nil
      case hiZ70 => (simp only [List.getElem?_toArray, List.getElem?_cons_succ, List.getElem?_cons_zero] <;> rfl)
      go_simp
      go_at_call 27
      (with_reducible refine (refValue_any h.va h.vn h.vc v _ ?_ (by omega)).mono ?_)
      · exact HP.out.val.below HDA.out.dw.b
      rintro _ w1 ⟨g1, c1', rfl, ho1, hb1⟩
      have HD1 := Lib.hid (HDA.out.below hb1)
      have HV1 := Lib.hid (InBytes.of_own ho1 (valL_bytes HP.out.val.bytes))
      clear ho1 hb1
      go_simp
      refine hK.out _ _ ?_ (fun hHeld => ?_)
      · (first | exact ⟨HD2.out.dw.nine, HD2.out.dw.box.cells.2.2.1⟩ | exact ⟨HD1.out.dw.nine, HD1.out.dw.box.cells.2.2.1⟩ | exact ⟨HDA.out.dw.nine, HDA.out.dw.box.cells.2.2.1⟩)
      clear hK K
      (try simp only [Act.put, List.setIfInBounds_toArray, List.set_cons_zero, List.set_cons_succ])
      refine wpAnyH_ready (rs := [5]) (by kernel_rfl) (by simp) ?_
      refine AllReadyH.cons (o := ?oZ71) ?hiZ71 (fun K hK => ?stZ71) AllReadyH.nil
      case hiZ71 => (simp only [List.getElem?_toArray, List.getElem?_cons_succ, List.getElem?_cons_zero] <;> rfl)
      go_simp
      go_at_call 26
      (with_reducible refine (HD1.out.dw.of hk1 hk2 HV1.out ?_).mono ?_)
      · rw [valL_len]; have := HL.out.2.2.1; omega
      rintro _ w2 ⟨gd, hg2, rfl, hr2, hb2⟩
      have HD2 := Lib.hid (HD1.out.below hb2)
      have HR2 := Lib.hid (of_in32 hr2 hk2)
      clear hg2 hr2 hb2
      go_simp
      refine hK.out _ _ ?_ (fun hHeld => ?_)
      · (first | exact ⟨HD2.out.dw.nine, HD2.out.dw.box.cells.2.2.1⟩ | exact ⟨HD1.out.dw.nine, HD1.out.dw.box.cells.2.2.1⟩ | exact ⟨HDA.out.dw.nine, HDA.out.dw.box.cells.2.2.1⟩)
      clear hK K
      (try simp only [Act.put, List.setIfInBounds_toArray, List.set_cons_zero, List.set_cons_succ])
      refine take_w (i := 6) (oi := ?oZ72) (v := ?vZ72) ?hiZ72 (by kernel_rfl) (by kernel_rfl) (by kernel_rfl) ?hQZ72 ?hwZ72 ?hyZ72 (by assumption) ?restZ72
      case hiZ72 => (simp only [List.getElem?_toArray, List.getElem?_cons_succ, List.getElem?_cons_zero] <;> rfl)
      case hQZ72 => exact (fun _ _ _ h => h)
      case hwZ72 => rfl
      case hyZ72 => (intro w hSw; (try dsimp only at hSw); go_simp; try with_reducible rfl)
      (try simp only [Act.put, List.setIfInBounds_toArray, List.set_cons_zero, List.set_cons_succ])
      refine wpAnyH_done (by kernel_rfl) ?_ _
      clear hHeld
      obtain ⟨x0, x1, x2, x3, x4⟩ := HD2.out.dw.box.cells
      obtain ⟨y0, y1, y2⟩ := HD2.out.sb.three
      have hkin : InBytes w2 h.ka h.kn h.kc key := (HP.out.below HD2.out.dw.b).key
      have cvk := conv_key hkin
      clear hkin
      have cvf := conv_key ((HSP.out.below HD2.out.dw.b).f)
      have hle : Op.bytesLess (strOfNums key).toList (strOfNums f).toList = ltL key f := str_lt HP.out.key.bytes HSP.out.f.bytes
      cases hlt : ltL key f with
      | true =>
        have HSH : Hid (showA k f tt sp.out (.node l key v r) = _) := Lib.hid (show_lt HIN.out hlt)
        rw [hlt] at hle
        clear hlt
        go_upto_region 8 with fail
        clear x0 x1 x2 x3 x4 y0 y1 y2 cvk cvf hle
        have HD0 := Lib.hid HD2.out.drew
        have HR0 := Lib.hid (HR2.out.below (Below.refl _ _).drew)
        refine region_l (S := (fun W => (W.cell? ⟨w.heap.size, 0, none⟩ = some (.slice (some ⟨gk, 0, none⟩) 64 ck) ∧ W.cell? ⟨w.heap.size, 1, none⟩ = some (.int .u32 1779033703) ∧ W.cell? ⟨w.heap.size, 2, none⟩ = some (.int .u32 3144134277) ∧ W.cell? ⟨w.heap.size, 3, none⟩ = some (.int .u32 1013904242) ∧ W.cell? ⟨w.heap.size, 4, none⟩ = some (.int .u32 2773480762) ∧ W.cell? ⟨w.heap.size, 5, none⟩ = some (.int .u32 1359893119) ∧ W.cell? ⟨w.heap.size, 6, none⟩ = some (.int .u32 2600822924) ∧ W.cell? ⟨w.heap.size, 7, none⟩ = some (.int .u32 528734635) ∧ W.cell? ⟨w.heap.size, 8, none⟩ = some (.int .u32 1541459225)) ∧ (W.cell? ⟨w.heap.size + 2, 0, none⟩ = some (.slice sp.ka sp.kn sp.kc) ∧ W.cell? ⟨w.heap.size + 2, 1, none⟩ = some (.slice sp.va sp.vn sp.vc) ∧ W.cell? ⟨w.heap.size + 2, 2, none⟩ = some (.bool sp.out)) ∧ (W.cell? ⟨w.heap.size + 1, 1, none⟩ = some (.slice h.ka h.kn h.kc) ∧ W.cell? ⟨w.heap.size + 1, 2, none⟩ = some (.slice h.va h.vn h.vc) ∧ W.cell? ⟨w.heap.size + 1, 4, none⟩ = some (.slice (some ⟨g, off, none⟩) h.tn h.tc)) ∧ (W.cell? ⟨g, off, none⟩ = some (.int .i64 (H 0).k) ∧ W.cell? ⟨g, off + 1, none⟩ = some (.slice (H 0).ka (H 0).kn (H 0).kc) ∧ W.cell? ⟨g, off + 2, none⟩ = some (.slice (H 0).va (H 0).vn (H 0).vc) ∧ W.cell? ⟨g, off + 3, none⟩ = some (.slice (H 0).da (H 0).dn (H 0).dc) ∧ W.cell? ⟨g, off + 4, none⟩ = some (.slice (H 0).ta (H 0).tn (H 0).tc)) ∧ (W.cell? ⟨g, off + 5, none⟩ = some (.int .i64 (H 1).k) ∧ W.cell? ⟨g, off + 5 + 1, none⟩ = some (.slice (H 1).ka (H 1).kn (H 1).kc) ∧ W.cell? ⟨g, off + 5 + 2, none⟩ = some (.slice (H 1).va (H 1).vn (H 1).vc) ∧ W.cell? ⟨g, off + 5 + 3, none⟩ = some (.slice (H 1).da (H 1).dn (H 1).dc) ∧ W.cell? ⟨g, off + 5 + 4, none⟩ = some (.slice (H 1).ta (H 1).tn (H 1).tc)))) 20 (by kernel_rfl) (KEEP.out _ HD0.out) (fun hHeld => ?_)
        refine take_l (i := 0) (oi := ?oZ24) (v := ?vZ24) ?hiZ24 (by kernel_rfl) (by kernel_rfl) (by kernel_rfl) (by kernel_rfl) ?hQZ24 ?hwZ24 ?hyZ24 (by assumption) ?restZ24
        case hiZ24 => (simp only [List.getElem?_toArray, List.getElem?_cons_zero] <;> rfl)
        case hQZ24 => exact (fun _ _ _ h => h)
        case hwZ24 => rfl
        case hyZ24 => (intro w hSw; (try dsimp only at hSw); go_simp; try with_reducible rfl)
        (try simp only [Act.put, List.setIfInBounds_toArray, List.set_cons_zero, List.set_cons_succ])
        refine take_l (i := 1) (oi := ?oZ25) (v := ?vZ25) ?hiZ25 (by kernel_rfl) (by kernel_rfl) (by kernel_rfl) (by kernel_rfl) ?hQZ25 ?hwZ25 ?hyZ25 (by assumption) ?restZ25
        case hiZ25 => (simp only [List.getElem?_toArray, List.getElem?_cons_succ, List.getElem?_cons_zero] <;> rfl)
        case hQZ25 => exact (fun _ _ _ h => h)
        case hwZ25 => rfl
        case hyZ25 => (intro w hSw; (try dsimp only at hSw); go_simp; try with_reducible rfl)
        (try simp only [Act.put, List.setIfInBounds_toArray, List.set_cons_zero, List.set_cons_succ])
        refine take_l (i := 2) (oi := ?oZ26) (v := ?vZ26) ?hiZ26 (by kernel_rfl) (by kernel_rfl) (by kernel_rfl) (by kernel_rfl) ?hQZ26 ?hwZ26 ?hyZ26 (by assumption) ?restZ26
        case hiZ26 => (simp only [List.getElem?_toArray, List.getElem?_cons_succ, List.getElem?_cons_zero] <;> rfl)
        case hQZ26 => exact (fun _ _ _ h => h)
        case hwZ26 => rfl
        case hyZ26 => (intro w hSw; (try dsimp only at hSw); go_simp; try with_reducible rfl)
        (try simp only [Act.put, List.setIfInBounds_toArray, List.set_cons_zero, List.set_cons_succ])
        refine take_l (i := 3) (oi := ?oZ27) (v := ?vZ27) ?hiZ27 (by kernel_rfl) (by kernel_rfl) (by kernel_rfl) (by kernel_rfl) ?hQZ27 ?hwZ27 ?hyZ27 (by assumption) ?restZ27
        case hiZ27 => (simp only [List.getElem?_toArray, List.getElem?_cons_succ, List.getElem?_cons_zero] <;> rfl)
        case hQZ27 => exact (fun _ _ _ h => h)
        case hwZ27 => rfl
        case hyZ27 => (intro w hSw; (try dsimp only at hSw); go_simp; try with_reducible rfl)
        (try simp only [Act.put, List.setIfInBounds_toArray, List.set_cons_zero, List.set_cons_succ])
        refine take_l (i := 4) (oi := ?oZ28) (v := ?vZ28) ?hiZ28 (by kernel_rfl) (by kernel_rfl) (by kernel_rfl) (by kernel_rfl) ?hQZ28 ?hwZ28 ?hyZ28 (by assumption) ?restZ28
        case hiZ28 => (simp only [List.getElem?_toArray, List.getElem?_cons_succ, List.getElem?_cons_zero] <;> rfl)
        case hQZ28 => exact (fun _ _ _ h => h)
        case hwZ28 => rfl
        case hyZ28 => (intro w hSw; (try dsimp only at hSw); go_simp; try with_reducible rfl)
        (try simp only [Act.put, List.setIfInBounds_toArray, List.set_cons_zero, List.set_cons_succ])
        refine take_l (i := 5) (oi := ?oZ29) (v := ?vZ29) ?hiZ29 (by kernel_rfl) (by kernel_rfl) (by kernel_rfl) (by kernel_rfl) ?hQZ29 ?hwZ29 ?hyZ29 (by assumption) ?restZ29
        case hiZ29 => (simp only [List.getElem?_toArray, List.getElem?_cons_succ, List.getElem?_cons_zero] <;> rfl)
        case hQZ29 => exact (fun _ _ _ h => h)
        case hwZ29 => rfl
        case hyZ29 => (intro w hSw; (try dsimp only at hSw); go_simp; try with_reducible rfl)
        (try simp only [Act.put, List.setIfInBounds_toArray, List.set_cons_zero, List.set_cons_succ])
        refine take_l (i := 6) (oi := ?oZ30) (v := ?vZ30) ?hiZ30 (by kernel_rfl) (by kernel_rfl) (by kernel_rfl) (by kernel_rfl) ?hQZ30 ?hwZ30 ?hyZ30 (by assumption) ?restZ30
        case hiZ30 => (simp only [List.getElem?_toArray, List.getElem?_cons_succ, List.getElem?_cons_zero] <;> rfl)
        case hQZ30 => exact (fun _ _ _ h => h)
        case hwZ30 => rfl
        case hyZ30 => (intro w hSw; (try dsimp only at hSw); go_simp; try with_reducible rfl)
        (try simp only [Act.put, List.setIfInBounds_toArray, List.set_cons_zero, List.set_cons_succ])
        refine take_l (i := 7) (oi := ?oZ31) (v := ?vZ31) ?hiZ31 (by kernel_rfl) (by kernel_rfl) (by kernel_rfl) (by kernel_rfl) ?hQZ31 ?hwZ31 ?hyZ31 (by assumption) ?restZ31
        case hiZ31 => (simp only [List.getElem?_toArray, List.getElem?_cons_succ, List.getElem?_cons_zero] <;> rfl)
        case hQZ31 => exact (fun _ _ _ h => h)
        case hwZ31 => rfl
        case hyZ31 => (intro w hSw; (try dsimp only at hSw); go_simp; try with_reducible rfl)
        (try simp only [Act.put, List.setIfInBounds_toArray, List.set_cons_zero, List.set_cons_succ])
        refine take_l (i := 8) (oi := ?oZ32) (v := ?vZ32) ?hiZ32 (by kernel_rfl) (by kernel_rfl) (by kernel_rfl) (by kernel_rfl) ?hQZ32 ?hwZ32 ?hyZ32 (by assumption) ?restZ32
        case hiZ32 => (simp only [List.getElem?_toArray, List.getElem?_cons_succ, List.getElem?_cons_zero] <;> rfl)
        case hQZ32 => exact (fun _ _ _ h => h)
        case hwZ32 => rfl
        case hyZ32 => (intro w hSw; (try dsimp only at hSw); go_simp; try with_reducible rfl)
        (try simp only [Act.put, List.setIfInBounds_toArray, List.set_cons_zero, List.set_cons_succ])
        refine take_l (i := 10) (oi := ?oZ33) (v := ?vZ33) ?hiZ33 (by kernel_rfl) (by kernel_rfl) (by kernel_rfl) (by kernel_rfl) ?hQZ33 ?hwZ33 ?hyZ33 (by assumption) ?restZ33
        case hiZ33 => (simp only [List.getElem?_toArray, List.getElem?_cons_succ, List.getElem?_cons_zero] <;> rfl)
        case hQZ33 => exact (fun _ _ _ h => h)
        case hwZ33 => rfl
        case hyZ33 => (intro w hSw; (try dsimp only at hSw); go_simp; try with_reducible rfl)
        (try simp only [Act.put, List.setIfInBounds_toArray, List.set_cons_zero, List.set_cons_succ])
        refine take_l (i := 11) (oi := ?oZ34) (v := ?vZ34) ?hiZ34 (by kernel_rfl) (by kernel_rfl) (by kernel_rfl) (by kernel_rfl) ?hQZ34 ?hwZ34 ?hyZ34 (by assumption) ?restZ34
        case hiZ34 => (simp only [List.getElem?_toArray, List.getElem?_cons_succ, List.getElem?_cons_zero] <;> rfl)
        case hQZ34 => exact (fun _ _ _ h => h)
        case hwZ34 => rfl
        case hyZ34 => (intro w hSw; (try dsimp only at hSw); go_simp; try with_reducible rfl)
        (try simp only [Act.put, List.setIfInBounds_toArray, List.set_cons_zero, List.set_cons_succ])
        refine take_l (i := 12) (oi := ?oZ35) (v := ?vZ35) ?hiZ35 (by kernel_rfl) (by kernel_rfl) (by kernel_rfl) (by kernel_rfl) ?hQZ35 ?hwZ35 ?hyZ35 (by assumption) ?restZ35
        case hiZ35 => (simp only [List.getElem?_toArray, List.getElem?_cons_succ, List.getElem?_cons_zero] <;> rfl)
        case hQZ35 => exact (fun _ _ _ h => h)
        case hwZ35 => rfl
        case hyZ35 => (intro w hSw; (try dsimp only at hSw); go_simp; try with_reducible rfl)
        (try simp only [Act.put, List.setIfInBounds_toArray, List.set_cons_zero, List.set_cons_succ])
        refine take_l (i := 13) (oi := ?oZ36) (v := ?vZ36) ?hiZ36 (by kernel_rfl) (by kernel_rfl) (by kernel_rfl) (by kernel_rfl) ?hQZ36 ?hwZ36 ?hyZ36 (by assumption) ?restZ36
        case hiZ36 => (simp only [List.getElem?_toArray, List.getElem?_cons_succ, List.getElem?_cons_zero] <;> rfl)
        case hQZ36 => exact (fun _ _ _ h => h)
        case hwZ36 => rfl
        case hyZ36 => (intro w hSw; (try dsimp only at hSw); go_simp; try with_reducible rfl)
        (try simp only [Act.put, List.setIfInBounds_toArray, List.set_cons_zero, List.set_cons_succ])
        refine take_l (i := 14) (oi := ?oZ37) (v := ?vZ37) ?hiZ37 (by kernel_rfl) (by kernel_rfl) (by kernel_rfl) (by kernel_rfl) ?hQZ37 ?hwZ37 ?hyZ37 (by assumption) ?restZ37
        case hiZ37 => (simp only [List.getElem?_toArray, List.getElem?_cons_succ, List.getElem?_cons_zero] <;> rfl)
        case hQZ37 => exact (fun _ _ _ h => h)
        case hwZ37 => rfl
        case hyZ37 => (intro w hSw; (try dsimp only at hSw); go_simp; try with_reducible rfl)
        (try simp only [Act.put, List.setIfInBounds_toArray, List.set_cons_zero, List.set_cons_succ])
        refine take_l (i := 15) (oi := ?oZ38) (v := ?vZ38) ?hiZ38 (by kernel_rfl) (by kernel_rfl) (by kernel_rfl) (by kernel_rfl) ?hQZ38 ?hwZ38 ?hyZ38 (by assumption) ?restZ38
        case hiZ38 => (simp only [List.getElem?_toArray, List.getElem?_cons_succ, List.getElem?_cons_zero] <;> rfl)
        case hQZ38 => exact (fun _ _ _ h => h)
        case hwZ38 => rfl
        case hyZ38 => (intro w hSw; (try dsimp only at hSw); go_simp; try with_reducible rfl)
        (try simp only [Act.put, List.setIfInBounds_toArray, List.set_cons_zero, List.set_cons_succ])
        refine take_l (i := 16) (oi := ?oZ39) (v := ?vZ39) ?hiZ39 (by kernel_rfl) (by kernel_rfl) (by kernel_rfl) (by kernel_rfl) ?hQZ39 ?hwZ39 ?hyZ39 (by assumption) ?restZ39
        case hiZ39 => (simp only [List.getElem?_toArray, List.getElem?_cons_succ, List.getElem?_cons_zero] <;> rfl)
        case hQZ39 => exact (fun _ _ _ h => h)
        case hwZ39 => rfl
        case hyZ39 => (intro w hSw; (try dsimp only at hSw); go_simp; try with_reducible rfl)
        (try simp only [Act.put, List.setIfInBounds_toArray, List.set_cons_zero, List.set_cons_succ])
        refine one_l (i := 9) (o := ?oZ40) (by kernel_rfl) ?hiZ40 (fun K hK => ?stZ40)
        case hiZ40 => (simp only [List.getElem?_toArray, List.getElem?_cons_succ, List.getElem?_cons_zero] <;> rfl)
        go_simp
        go_at_call 28
        refine (refCut_lit k hk1 hk2 gk ck l (H 0) _ ((HP.out.below HD0.out.dw.b).kids 0 l0) HL.out.1 HD0.out.dw.ks (Nat.lt_of_lt_of_le HD0.out.dw.gk HD0.out.dw.b.size)).mono ?_
        rintro _ w5 ⟨h5, rfl, hi5, hb5⟩
        unfold TH.v
        have HD5 := Lib.hid (HD0.out.below hb5)
        have HI5 := Lib.hid hi5
        have HR5 := Lib.hid (HR0.out.below hb5)
        clear hi5 hb5
        go_simp
        refine hK.out _ _ ?_ (fun hHeld => ?_)
        · (first | exact KEEP.out _ HD6.out | exact KEEP.out _ HD5.out | exact KEEP.out _ HD0.out | exact KEEP.out _ (HD6.out.below ((Below.refl _ _).alloc (Nat.le_refl _) _)))
        clear hK K
        (try simp only [Act.put, List.setIfInBounds_toArray, List.set_cons_zero, List.set_cons_succ])
        refine one_l (i := 17) (o := ?oZ41) (by kernel_rfl) ?hiZ41 (fun K hK => ?stZ41)
        case hiZ41 => (simp only [List.getElem?_toArray, List.getElem?_cons_succ, List.getElem?_cons_zero] <;> rfl)
        go_simp
        go_at_call 11
        refine (HIHR.out (H 1) _ ((HP.out.below HD5.out.dw.b).kids 1 l1) (HSP.out.below HD5.out.dw.b) HD5.out.dw.ks (Nat.lt_of_lt_of_le HD5.out.dw.gk HD5.out.dw.b.size)).mono ?_
        rintro _ w6 ⟨h6, rfl, hi6, hb6⟩
        unfold TH.v
        have HD6 := Lib.hid (HD5.out.below hb6)
        have HI6 := Lib.hid hi6
        have HJ5 := Lib.hid (HI5.out.lower hb6)
        have HR6 := Lib.hid (HR5.out.below hb6)
        clear hi6 hb6
        go_simp
        refine hK.out _ _ ?_ (fun hHeld => ?_)
        · (first | exact KEEP.out _ HD6.out | exact KEEP.out _ HD5.out | exact KEEP.out _ HD0.out | exact KEEP.out _ (HD6.out.below ((Below.refl _ _).alloc (Nat.le_refl _) _)))
        clear hK K
        (try simp only [Act.put, List.setIfInBounds_toArray, List.set_cons_zero, List.set_cons_succ])
        refine one_l (i := 18) (o := ?oZ42) (by kernel_rfl) ?hiZ42 (fun K hK => ?stZ42)
        case hiZ42 => (simp only [List.getElem?_toArray, List.getElem?_cons_succ, List.getElem?_cons_zero] <;> rfl)
        go_simp
        refine hK.out _ _ ?_ (fun hHeld => ?_)
        · (first | exact KEEP.out _ HD6.out | exact KEEP.out _ HD5.out | exact KEEP.out _ HD0.out | exact KEEP.out _ (HD6.out.below ((Below.refl _ _).alloc (Nat.le_refl _) _)))
        clear hK K
        (try simp only [Act.put, List.setIfInBounds_toArray, List.set_cons_zero, List.set_cons_succ])
        refine take_l (i := 19) (oi := ?oZ43) (v := ?vZ43) ?hiZ43 (by kernel_rfl) (by kernel_rfl) (by kernel_rfl) (by kernel_rfl) ?hQZ43 ?hwZ43 ?hyZ43 (by assumption) ?restZ43
        case hiZ43 => (simp only [List.getElem?_toArray, List.getElem?_cons_succ, List.getElem?_cons_zero] <;> rfl)
        case hQZ43 => exact (fun _ _ _ h => h)
        case hwZ43 => rfl
        case hyZ43 => (intro w hSw; (try dsimp only at hSw); go_simp; try with_reducible rfl)
        (try simp only [Act.put, List.setIfInBounds_toArray, List.set_cons_zero, List.set_cons_succ])
        refine last_l (o := ?oZ44) (by kernel_rfl) ?hiZ44 (by kernel_rfl) (fun K hK => ?stZ44)
        case hiZ44 => (simp only [List.getElem?_toArray, List.getElem?_cons_succ, List.getElem?_cons_zero] <;> rfl)
        have q7 : Below w6.heap.size w6 (w6.alloc (.cells #[.int .i64 h5.k, .slice h5.ka h5.kn h5.kc, .slice h5.va h5.vn h5.vc, .slice h5.da h5.dn h5.dc, .slice h5.ta h5.tn h5.tc, .int .i64 h6.k, .slice h6.ka h6.kn h6.kc, .slice h6.va h6.vn h6.vc, .slice h6.da h6.dn h6.dc, .slice h6.ta h6.tn h6.tc] 25)) := (Below.refl _ _).alloc (Nat.le_refl _) _
        have HD7 := Lib.hid (HD6.out.below q7)
        have HW7 : Hid (Two5 (w6.alloc (.cells #[.int .i64 h5.k, .slice h5.ka h5.kn h5.kc, .slice h5.va h5.vn h5.vc, .slice h5.da h5.dn h5.dc, .slice h5.ta h5.tn h5.tc, .int .i64 h6.k, .slice h6.ka h6.kn h6.kc, .slice h6.va h6.vn h6.vc, .slice h6.da h6.dn h6.dc, .slice h6.ta h6.tn h6.tc] 25)) 25 w6.heap.size h5 h6) := Lib.hid (Two5.new w6 25 h5 h6)
        have HI7 : Hid (InTree (w6.alloc (.cells #[.int .i64 h5.k, .slice h5.ka h5.kn h5.kc, .slice h5.va h5.vn h5.vc, .slice h5.da h5.dn h5.dc, .slice h5.ta h5.tn h5.tc, .int .i64 h6.k, .slice h6.ka h6.kn h6.kc, .slice h6.va h6.vn h6.vc, .slice h6.da h6.dn h6.dc, .slice h6.ta h6.tn h6.tc] 25)) ⟨2, h.ka, h.kn, h.kc, none, 0, 0, some ⟨gd, 0, none⟩, k, 32, some ⟨w6.heap.size, 0, none⟩, 2, 2⟩ (showA k f tt sp.out (.node l key v r))) := Lib.hid (by
          rw [HSH.out]
          exact inTree_pair HW7.out (HJ5.out.lower q7) (HI6.out.lower q7) (by omega) (by omega) ((HP.out.below HD7.out.dw.b).key) (none_in _) (HR6.out.below q7))
        refine step_store_box rfl 25 (.tmp 8) (.tmp 74) rfl (w.heap.size + 3) hZ ⟨2, h.ka, h.kn, h.kc, none, 0, 0, some ⟨gd, 0, none⟩, k, 32, some ⟨w6.heap.size, 0, none⟩, 2, 2⟩ rfl rfl 25 HD7.out.res infoTree5 ?_
        intro w9 hbx9 hg9
        have HX9 := Lib.hid hbx9
        have HI9 := Lib.hid (InTree.outBox HD7.out.res hg9 _ _ HFM.out HI7.out)
        have HB9 : Hid (Below w.heap.size w w9) := Lib.hid (HD7.out.dw.b.grown hg9 HD7.out.dw.b.size (fun j hj => by injection hj; omega))
        clear hbx9 hg9 q7
        refine hK.out _ _ ?_
        clear hK K
        (try simp only [Act.put])
        
        go_wp2_with fail
        exact bodyPost_ret (v := TH.v ⟨2, h.ka, h.kn, h.kc, none, 0, 0, some ⟨gd, 0, none⟩, k, 32, some ⟨w6.heap.size, 0, none⟩, 2, 2⟩) (result_tree Tryd.results11 _ HX9.out rfl Tryd.underlying25 infoTree5) rfl ⟨_, rfl, HI9.out, HB9.out⟩
      | false =>
        have HSH : Hid (showA k f tt sp.out (.node l key v r) = _) := Lib.hid (show_ge HIN.out hlt)
        rw [hlt] at hle
        clear hlt
        go_upto_region 9 with fail
        clear x0 x1 x2 x3 x4 y0 y1 y2 cvk cvf hle
        have HD0 := Lib.hid HD2.out.drew
        have HR0 := Lib.hid (HR2.out.below (Below.refl _ _).drew)
        refine region_l (S := (fun W => (W.cell? ⟨w.heap.size, 0, none⟩ = some (.slice (some ⟨gk, 0, none⟩) 64 ck) ∧ W.cell? ⟨w.heap.size, 1, none⟩ = some (.int .u32 1779033703) ∧ W.cell? ⟨w.heap.size, 2, none⟩ = some (.int .u32 3144134277) ∧ W.cell? ⟨w.heap.size, 3, none⟩ = some (.int .u32 1013904242) ∧ W.cell? ⟨w.heap.size, 4, none⟩ = some (.int .u32 2773480762) ∧ W.cell? ⟨w.heap.size, 5, none⟩ = some (.int .u32 1359893119) ∧ W.cell? ⟨w.heap.size, 6, none⟩ = some (.int .u32 2600822924) ∧ W.cell? ⟨w.heap.size, 7, none⟩ = some (.int .u32 528734635) ∧ W.cell? ⟨w.heap.size, 8, none⟩ = some (.int .u32 1541459225)) ∧ (W.cell? ⟨w.heap.size + 2, 0, none⟩ = some (.slice sp.ka sp.kn sp.kc) ∧ W.cell? ⟨w.heap.size + 2, 1, none⟩ = some (.slice sp.va sp.vn sp.vc) ∧ W.cell? ⟨w.heap.size + 2, 2, none⟩ = some (.bool sp.out)) ∧ (W.cell? ⟨w.heap.size + 1, 1, none⟩ = some (.slice h.ka h.kn h.kc) ∧ W.cell? ⟨w.heap.size + 1, 2, none⟩ = some (.slice h.va h.vn h.vc) ∧ W.cell? ⟨w.heap.size + 1, 4, none⟩ = some (.slice (some ⟨g, off, none⟩) h.tn h.tc)) ∧ (W.cell? ⟨g, off, none⟩ = some (.int .i64 (H 0).k) ∧ W.cell? ⟨g, off + 1, none⟩ = some (.slice (H 0).ka (H 0).kn (H 0).kc) ∧ W.cell? ⟨g, off + 2, none⟩ = some (.slice (H 0).va (H 0).vn (H 0).vc) ∧ W.cell? ⟨g, off + 3, none⟩ = some (.slice (H 0).da (H 0).dn (H 0).dc) ∧ W.cell? ⟨g, off + 4, none⟩ = some (.slice (H 0).ta (H 0).tn (H 0).tc)) ∧ (W.cell? ⟨g, off + 5, none⟩ = some (.int .i64 (H 1).k) ∧ W.cell? ⟨g, off + 5 + 1, none⟩ = some (.slice (H 1).ka (H 1).kn (H 1).kc) ∧ W.cell? ⟨g, off + 5 + 2, none⟩ = some (.slice (H 1).va (H 1).vn (H 1).vc) ∧ W.cell? ⟨g, off + 5 + 3, none⟩ = some (.slice (H 1).da (H 1).dn (H 1).dc) ∧ W.cell? ⟨g, off + 5 + 4, none⟩ = some (.slice (H 1).ta (H 1).tn (H 1).tc)))) 20 (by kernel_rfl) (KEEP.out _ HD0.out) (fun hHeld => ?_)
        refine take_l (i := 0) (oi := ?oZ45) (v := ?vZ45) ?hiZ45 (by kernel_rfl) (by kernel_rfl) (by kernel_rfl) (by kernel_rfl) ?hQZ45 ?hwZ45 ?hyZ45 (by assumption) ?restZ45
        case hiZ45 => (simp only [List.getElem?_toArray, List.getElem?_cons_zero] <;> rfl)
        case hQZ45 => exact (fun _ _ _ h => h)
        case hwZ45 => rfl
        case hyZ45 => (intro w hSw; (try dsimp only at hSw); go_simp; try with_reducible rfl)
        (try simp only [Act.put, List.setIfInBounds_toArray, List.set_cons_zero, List.set_cons_succ])
        refine take_l (i := 1) (oi := ?oZ46) (v := ?vZ46) ?hiZ46 (by kernel_rfl) (by kernel_rfl) (by kernel_rfl) (by kernel_rfl) ?hQZ46 ?hwZ46 ?hyZ46 (by assumption) ?restZ46
        case hiZ46 => (simp only [List.getElem?_toArray, List.getElem?_cons_succ, List.getElem?_cons_zero] <;> rfl)
        case hQZ46 => exact (fun _ _ _ h => h)
        case hwZ46 => rfl
        case hyZ46 => (intro w hSw; (try dsimp only at hSw); go_simp; try with_reducible rfl)
        (try simp only [Act.put, List.setIfInBounds_toArray, List.set_cons_zero, List.set_cons_succ])
        refine take_l (i := 2) (oi := ?oZ47) (v := ?vZ47) ?hiZ47 (by kernel_rfl) (by kernel_rfl) (by kernel_rfl) (by kernel_rfl) ?hQZ47 ?hwZ47 ?hyZ47 (by assumption) ?restZ47
        case hiZ47 => (simp only [List.getElem?_toArray, List.getElem?_cons_succ, List.getElem?_cons_zero] <;> rfl)
        case hQZ47 => exact (fun _ _ _ h => h)
        case hwZ47 => rfl
        case hyZ47 => (intro w hSw; (try dsimp only at hSw); go_simp; try with_reducible rfl)
        (try simp only [Act.put, List.setIfInBounds_toArray, List.set_cons_zero, List.set_cons_succ])
        refine take_l (i := 3) (oi := ?oZ48) (v := ?vZ48) ?hiZ48 (by kernel_rfl) (by kernel_rfl) (by kernel_rfl) (by kernel_rfl) ?hQZ48 ?hwZ48 ?hyZ48 (by assumption) ?restZ48
        case hiZ48 => (simp only [List.getElem?_toArray, List.getElem?_cons_succ, List.getElem?_cons_zero] <;> rfl)
        case hQZ48 => exact (fun _ _ _ h => h)
        case hwZ48 => rfl
        case hyZ48 => (intro w hSw; (try dsimp only at hSw); go_simp; try with_reducible rfl)
        (try simp only [Act.put, List.setIfInBounds_toArray, List.set_cons_zero, List.set_cons_succ])
        refine take_l (i := 4) (oi := ?oZ49) (v := ?vZ49) ?hiZ49 (by kernel_rfl) (by kernel_rfl) (by kernel_rfl) (by kernel_rfl) ?hQZ49 ?hwZ49 ?hyZ49 (by assumption) ?restZ49
        case hiZ49 => (simp only [List.getElem?_toArray, List.getElem?_cons_succ, List.getElem?_cons_zero] <;> rfl)
        case hQZ49 => exact (fun _ _ _ h => h)
        case hwZ49 => rfl
        case hyZ49 => (intro w hSw; (try dsimp only at hSw); go_simp; try with_reducible rfl)
        (try simp only [Act.put, List.setIfInBounds_toArray, List.set_cons_zero, List.set_cons_succ])
        refine take_l (i := 5) (oi := ?oZ50) (v := ?vZ50) ?hiZ50 (by kernel_rfl) (by kernel_rfl) (by kernel_rfl) (by kernel_rfl) ?hQZ50 ?hwZ50 ?hyZ50 (by assumption) ?restZ50
        case hiZ50 => (simp only [List.getElem?_toArray, List.getElem?_cons_succ, List.getElem?_cons_zero] <;> rfl)
        case hQZ50 => exact (fun _ _ _ h => h)
        case hwZ50 => rfl
        case hyZ50 => (intro w hSw; (try dsimp only at hSw); go_simp; try with_reducible rfl)
        (try simp only [Act.put, List.setIfInBounds_toArray, List.set_cons_zero, List.set_cons_succ])
        refine take_l (i := 6) (oi := ?oZ51) (v := ?vZ51) ?hiZ51 (by kernel_rfl) (by kernel_rfl) (by kernel_rfl) (by kernel_rfl) ?hQZ51 ?hwZ51 ?hyZ51 (by assumption) ?restZ51
        case hiZ51 => (simp only [List.getElem?_toArray, List.getElem?_cons_succ, List.getElem?_cons_zero] <;> rfl)
        case hQZ51 => exact (fun _ _ _ h => h)
        case hwZ51 => rfl
        case hyZ51 => (intro w hSw; (try dsimp only at hSw); go_simp; try with_reducible rfl)
        (try simp only [Act.put, List.setIfInBounds_toArray, List.set_cons_zero, List.set_cons_succ])
        refine take_l (i := 7) (oi := ?oZ52) (v := ?vZ52) ?hiZ52 (by kernel_rfl) (by kernel_rfl) (by kernel_rfl) (by kernel_rfl) ?hQZ52 ?hwZ52 ?hyZ52 (by assumption) ?restZ52
        case hiZ52 => (simp only [List.getElem?_toArray, List.getElem?_cons_succ, List.getElem?_cons_zero] <;> rfl)
        case hQZ52 => exact (fun _ _ _ h => h)
        case hwZ52 => rfl
        case hyZ52 => (intro w hSw; (try dsimp only at hSw); go_simp; try with_reducible rfl)
        (try simp only [Act.put, List.setIfInBounds_toArray, List.set_cons_zero, List.set_cons_succ])
        refine take_l (i := 8) (oi := ?oZ53) (v := ?vZ53) ?hiZ53 (by kernel_rfl) (by kernel_rfl) (by kernel_rfl) (by kernel_rfl) ?hQZ53 ?hwZ53 ?hyZ53 (by assumption) ?restZ53
        case hiZ53 => (simp only [List.getElem?_toArray, List.getElem?_cons_succ, List.getElem?_cons_zero] <;> rfl)
        case hQZ53 => exact (fun _ _ _ h => h)
        case hwZ53 => rfl
        case hyZ53 => (intro w hSw; (try dsimp only at hSw); go_simp; try with_reducible rfl)
        (try simp only [Act.put, List.setIfInBounds_toArray, List.set_cons_zero, List.set_cons_succ])
        refine take_l (i := 9) (oi := ?oZ54) (v := ?vZ54) ?hiZ54 (by kernel_rfl) (by kernel_rfl) (by kernel_rfl) (by kernel_rfl) ?hQZ54 ?hwZ54 ?hyZ54 (by assumption) ?restZ54
        case hiZ54 => (simp only [List.getElem?_toArray, List.getElem?_cons_succ, List.getElem?_cons_zero] <;> rfl)
        case hQZ54 => exact (fun _ _ _ h => h)
        case hwZ54 => rfl
        case hyZ54 => (intro w hSw; (try dsimp only at hSw); go_simp; try with_reducible rfl)
        (try simp only [Act.put, List.setIfInBounds_toArray, List.set_cons_zero, List.set_cons_succ])
        refine take_l (i := 11) (oi := ?oZ55) (v := ?vZ55) ?hiZ55 (by kernel_rfl) (by kernel_rfl) (by kernel_rfl) (by kernel_rfl) ?hQZ55 ?hwZ55 ?hyZ55 (by assumption) ?restZ55
        case hiZ55 => (simp only [List.getElem?_toArray, List.getElem?_cons_succ, List.getElem?_cons_zero] <;> rfl)
        case hQZ55 => exact (fun _ _ _ h => h)
        case hwZ55 => rfl
        case hyZ55 => (intro w hSw; (try dsimp only at hSw); go_simp; try with_reducible rfl)
        (try simp only [Act.put, List.setIfInBounds_toArray, List.set_cons_zero, List.set_cons_succ])
        refine take_l (i := 12) (oi := ?oZ56) (v := ?vZ56) ?hiZ56 (by kernel_rfl) (by kernel_rfl) (by kernel_rfl) (by kernel_rfl) ?hQZ56 ?hwZ56 ?hyZ56 (by assumption) ?restZ56
        case hiZ56 => (simp only [List.getElem?_toArray, List.getElem?_cons_succ, List.getElem?_cons_zero] <;> rfl)
        case hQZ56 => exact (fun _ _ _ h => h)
        case hwZ56 => rfl
        case hyZ56 => (intro w hSw; (try dsimp only at hSw); go_simp; try with_reducible rfl)
        (try simp only [Act.put, List.setIfInBounds_toArray, List.set_cons_zero, List.set_cons_succ])
        refine take_l (i := 13) (oi := ?oZ57) (v := ?vZ57) ?hiZ57 (by kernel_rfl) (by kernel_rfl) (by kernel_rfl) (by kernel_rfl) ?hQZ57 ?hwZ57 ?hyZ57 (by assumption) ?restZ57
        case hiZ57 => (simp only [List.getElem?_toArray, List.getElem?_cons_succ, List.getElem?_cons_zero] <;> rfl)
        case hQZ57 => exact (fun _ _ _ h => h)
        case hwZ57 => rfl
        case hyZ57 => (intro w hSw; (try dsimp only at hSw); go_simp; try with_reducible rfl)
        (try simp only [Act.put, List.setIfInBounds_toArray, List.set_cons_zero, List.set_cons_succ])
        refine take_l (i := 14) (oi := ?oZ58) (v := ?vZ58) ?hiZ58 (by kernel_rfl) (by kernel_rfl) (by kernel_rfl) (by kernel_rfl) ?hQZ58 ?hwZ58 ?hyZ58 (by assumption) ?restZ58
        case hiZ58 => (simp only [List.getElem?_toArray, List.getElem?_cons_succ, List.getElem?_cons_zero] <;> rfl)
        case hQZ58 => exact (fun _ _ _ h => h)
        case hwZ58 => rfl
        case hyZ58 => (intro w hSw; (try dsimp only at hSw); go_simp; try with_reducible rfl)
        (try simp only [Act.put, List.setIfInBounds_toArray, List.set_cons_zero, List.set_cons_succ])
        refine take_l (i := 15) (oi := ?oZ59) (v := ?vZ59) ?hiZ59 (by kernel_rfl) (by kernel_rfl) (by kernel_rfl) (by kernel_rfl) ?hQZ59 ?hwZ59 ?hyZ59 (by assumption) ?restZ59
        case hiZ59 => (simp only [List.getElem?_toArray, List.getElem?_cons_succ, List.getElem?_cons_zero] <;> rfl)
        case hQZ59 => exact (fun _ _ _ h => h)
        case hwZ59 => rfl
        case hyZ59 => (intro w hSw; (try dsimp only at hSw); go_simp; try with_reducible rfl)
        (try simp only [Act.put, List.setIfInBounds_toArray, List.set_cons_zero, List.set_cons_succ])
        refine take_l (i := 16) (oi := ?oZ60) (v := ?vZ60) ?hiZ60 (by kernel_rfl) (by kernel_rfl) (by kernel_rfl) (by kernel_rfl) ?hQZ60 ?hwZ60 ?hyZ60 (by assumption) ?restZ60
        case hiZ60 => (simp only [List.getElem?_toArray, List.getElem?_cons_succ, List.getElem?_cons_zero] <;> rfl)
        case hQZ60 => exact (fun _ _ _ h => h)
        case hwZ60 => rfl
        case hyZ60 => (intro w hSw; (try dsimp only at hSw); go_simp; try with_reducible rfl)
        (try simp only [Act.put, List.setIfInBounds_toArray, List.set_cons_zero, List.set_cons_succ])
        refine one_l (i := 10) (o := ?oZ61) (by kernel_rfl) ?hiZ61 (fun K hK => ?stZ61)
        case hiZ61 => (simp only [List.getElem?_toArray, List.getElem?_cons_succ, List.getElem?_cons_zero] <;> rfl)
        go_simp
        go_at_call 11
        refine (HIHL.out (H 0) _ ((HP.out.below HD0.out.dw.b).kids 0 l0) (HSP.out.below HD0.out.dw.b) HD0.out.dw.ks (Nat.lt_of_lt_of_le HD0.out.dw.gk HD0.out.dw.b.size)).mono ?_
        rintro _ w5 ⟨h5, rfl, hi5, hb5⟩
        unfold TH.v
        have HD5 := Lib.hid (HD0.out.below hb5)
        have HI5 := Lib.hid hi5
        have HR5 := Lib.hid (HR0.out.below hb5)
        clear hi5 hb5
        go_simp
        refine hK.out _ _ ?_ (fun hHeld => ?_)
        · (first | exact KEEP.out _ HD6.out | exact KEEP.out _ HD5.out | exact KEEP.out _ HD0.out | exact KEEP.out _ (HD6.out.below ((Below.refl _ _).alloc (Nat.le_refl _) _)))
        clear hK K
        (try simp only [Act.put, List.setIfInBounds_toArray, List.set_cons_zero, List.set_cons_succ])
        refine one_l (i := 17) (o := ?oZ62) (by kernel_rfl) ?hiZ62 (fun K hK => ?stZ62)
        case hiZ62 => (simp only [List.getElem?_toArray, List.getElem?_cons_succ, List.getElem?_cons_zero] <;> rfl)
        go_simp
        go_at_call 28
        refine (refCut_lit k hk1 hk2 gk ck r (H 1) _ ((HP.out.below HD5.out.dw.b).kids 1 l1) HL.out.2.2.2 HD5.out.dw.ks (Nat.lt_of_lt_of_le HD5.out.dw.gk HD5.out.dw.b.size)).mono ?_
        rintro _ w6 ⟨h6, rfl, hi6, hb6⟩
        unfold TH.v
        have HD6 := Lib.hid (HD5.out.below hb6)
        have HI6 := Lib.hid hi6
        have HJ5 := Lib.hid (HI5.out.lower hb6)
        have HR6 := Lib.hid (HR5.out.below hb6)
        clear hi6 hb6
        go_simp
        refine hK.out _ _ ?_ (fun hHeld => ?_)
        · (first | exact KEEP.out _ HD6.out | exact KEEP.out _ HD5.out | exact KEEP.out _ HD0.out | exact KEEP.out _ (HD6.out.below ((Below.refl _ _).alloc (Nat.le_refl _) _)))
        clear hK K
        (try simp only [Act.put, List.setIfInBounds_toArray, List.set_cons_zero, List.set_cons_succ])
        refine one_l (i := 18) (o := ?oZ63) (by kernel_rfl) ?hiZ63 (fun K hK => ?stZ63)
        case hiZ63 => (simp only [List.getElem?_toArray, List.getElem?_cons_succ, List.getElem?_cons_zero] <;> rfl)
        go_simp
        refine hK.out _ _ ?_ (fun hHeld => ?_)
        · (first | exact KEEP.out _ HD6.out | exact KEEP.out _ HD5.out | exact KEEP.out _ HD0.out | exact KEEP.out _ (HD6.out.below ((Below.refl _ _).alloc (Nat.le_refl _) _)))
        clear hK K
        (try simp only [Act.put, List.setIfInBounds_toArray, List.set_cons_zero, List.set_cons_succ])
        refine take_l (i := 19) (oi := ?oZ64) (v := ?vZ64) ?hiZ64 (by kernel_rfl) (by kernel_rfl) (by kernel_rfl) (by kernel_rfl) ?hQZ64 ?hwZ64 ?hyZ64 (by assumption) ?restZ64
        case hiZ64 => (simp only [List.getElem?_toArray, List.getElem?_cons_succ, List.getElem?_cons_zero] <;> rfl)
        case hQZ64 => exact (fun _ _ _ h => h)
        case hwZ64 => rfl
        case hyZ64 => (intro w hSw; (try dsimp only at hSw); go_simp; try with_reducible rfl)
        (try simp only [Act.put, List.setIfInBounds_toArray, List.set_cons_zero, List.set_cons_succ])
        refine last_l (o := ?oZ65) (by kernel_rfl) ?hiZ65 (by kernel_rfl) (fun K hK => ?stZ65)
        case hiZ65 => (simp only [List.getElem?_toArray, List.getElem?_cons_succ, List.getElem?_cons_zero] <;> rfl)
        have q7 : Below w6.heap.size w6 (w6.alloc (.cells #[.int .i64 h5.k, .slice h5.ka h5.kn h5.kc, .slice h5.va h5.vn h5.vc, .slice h5.da h5.dn h5.dc, .slice h5.ta h5.tn h5.tc, .int .i64 h6.k, .slice h6.ka h6.kn h6.kc, .slice h6.va h6.vn h6.vc, .slice h6.da h6.dn h6.dc, .slice h6.ta h6.tn h6.tc] 25)) := (Below.refl _ _).alloc (Nat.le_refl _) _
        have HD7 := Lib.hid (HD6.out.below q7)
        have HW7 : Hid (Two5 (w6.alloc (.cells #[.int .i64 h5.k, .slice h5.ka h5.kn h5.kc, .slice h5.va h5.vn h5.vc, .slice h5.da h5.dn h5.dc, .slice h5.ta h5.tn h5.tc, .int .i64 h6.k, .slice h6.ka h6.kn h6.kc, .slice h6.va h6.vn h6.vc, .slice h6.da h6.dn h6.dc, .slice h6.ta h6.tn h6.tc] 25)) 25 w6.heap.size h5 h6) := Lib.hid (Two5.new w6 25 h5 h6)
        have HI7 : Hid (InTree (w6.alloc (.cells #[.int .i64 h5.k, .slice h5.ka h5.kn h5.kc, .slice h5.va h5.vn h5.vc, .slice h5.da h5.dn h5.dc, .slice h5.ta h5.tn h5.tc, .int .i64 h6.k, .slice h6.ka h6.kn h6.kc, .slice h6.va h6.vn h6.vc, .slice h6.da h6.dn h6.dc, .slice h6.ta h6.tn h6.tc] 25)) ⟨2, h.ka, h.kn, h.kc, none, 0, 0, some ⟨gd, 0, none⟩, k, 32, some ⟨w6.heap.size, 0, none⟩, 2, 2⟩ (showA k f tt sp.out (.node l key v r))) := Lib.hid (by
          rw [HSH.out]
          exact inTree_pair HW7.out (HJ5.out.lower q7) (HI6.out.lower q7) (by omega) (by omega) ((HP.out.below HD7.out.dw.b).key) (none_in _) (HR6.out.below q7))
        refine step_store_box rfl 25 (.tmp 8) (.tmp 94) rfl (w.heap.size + 3) hZ ⟨2, h.ka, h.kn, h.kc, none, 0, 0, some ⟨gd, 0, none⟩, k, 32, some ⟨w6.heap.size, 0, none⟩, 2, 2⟩ rfl rfl 25 HD7.out.res infoTree5 ?_
        intro w9 hbx9 hg9
        have HX9 := Lib.hid hbx9
        have HI9 := Lib.hid (InTree.outBox HD7.out.res hg9 _ _ HFM.out HI7.out)
        have HB9 : Hid (Below w.heap.size w w9) := Lib.hid (HD7.out.dw.b.grown hg9 HD7.out.dw.b.size (fun j hj => by injection hj; omega))
        clear hbx9 hg9 q7
        refine hK.out _ _ ?_
        clear hK K
        (try simp only [Act.put])
        
        go_wp2_with fail
        exact bodyPost_ret (v := TH.v ⟨2, h.ka, h.kn, h.kc, none, 0, 0, some ⟨gd, 0, none⟩, k, 32, some ⟨w6.heap.size, 0, none⟩, 2, 2⟩) (result_tree Tryd.results11 _ HX9.out rfl Tryd.underlying25 infoTree5) rfl ⟨_, rfl, HI9.out, HB9.out⟩
end Go.Proofs.YtkfjhegehhahcaaDoor
