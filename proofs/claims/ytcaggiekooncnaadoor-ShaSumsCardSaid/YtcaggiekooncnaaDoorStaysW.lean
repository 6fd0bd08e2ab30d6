/- The walk of the law ShaStays. -/
import Derived.Test.YtcaggiekooncnaaDoorSumC
import Derived.Test.YtcaggiekooncnaaDoorWordC
import Derived.Test.YtcaggiekooncnaaDoorMem4
import Derived.Maps.AppendAt
namespace Go.Proofs.YtcaggiekooncnaaDoor
open Go.RowKit
set_option linter.unusedVariables false

theorem own_drew2 {w : World} {base : Nat} {e : TypeId} {size : Nat} {v : Value} {n : Nat} {xs : List Value} (h : w.ownsRow base e size v n xs) : w.drew.ownsRow base e size v n xs := h

/-- The first n cells of block g are bytes; they may be written. -/
def Cells8 (w : World) (g n : Nat) : Prop := (∀ j, j < n → ∃ z, w.cell? ⟨g, j, none⟩ = some (.int .u8 z) ∧ 0 ≤ z ∧ z ≤ 255) ∧ ∀ j, w.frozen? ⟨g, j, none⟩ = false
theorem Cells8.set {w : World} {g n : Nat} (h : Cells8 w g n) (i : Nat) (hi : i < n) (z : Int) (h0 : 0 ≤ z) (h1 : z ≤ 255) : Cells8 (w.setCell ⟨g, i, none⟩ (.int .u8 z)) g n := by
  refine ⟨fun j hj => ?_, fun j => ?_⟩
  · by_cases hij : j = i
    · subst hij
      obtain ⟨z', hc, _⟩ := h.1 j hj
      exact ⟨z, by simp [World.cell?_setCell_same, hc], h0, h1⟩
    · obtain ⟨z', hc, hz⟩ := h.1 j hj
      exact ⟨z', by rw [World.cell?_setCell_other _ _ _ _ (by first | (simp; done) | (simp; omega))]; exact hc, hz⟩
  · have := h.2 j
    simpa using this
theorem InBytes.of_row {w : World} {g : Nat} {t : TypeId} {zs : List Int} (h : Row .u8 w t g zs) (hb : Bytes8 zs) (hl : zs.length ≤ 1000) : InBytes w (some ⟨g, 0, none⟩) zs.length zs.length zs :=
  ⟨rfl, hb, Nat.le_refl _, by simp only [maxLen]; omega, (fun h => by cases h), fun _ => ⟨g, 0, rfl, h.lt, h.seg⟩⟩
theorem sumL_length (bs : List Int) : (sumL bs).length = 32 := by
  unfold sumL
  rw [bytesL_length, stepsL_length rfl]
theorem sumL_bytes (bs : List Int) : Bytes8 (sumL bs) := bytesL_bytes _

set_option maxRecDepth 100000 in
set_option maxHeartbeats 8000000 in
theorem stays_walk (a : Option Addr) (n0 cap : Nat) (bs0 bl : List Int) (w : World) (hin0 : InBytes w a n0 cap bs0) (hbl : bl.length = 64) (hbb : Bytes8 bl) (hT : TabLies w) :
    Calls Tryd.prog 5 #[.slice a n0 cap, .agg (bl.map (Value.int .u8)).toArray] w fun e w' => e = .returned (.bool true) ∧ Below w.heap.size w w' := by
  obtain ⟨i0, hi0, hz0, hz1, hz2⟩ := info_parts infoU8
  have hle0 := hin0.le
  have hmax := hin0.max
  simp only [maxLen] at hmax
  have HIN0 := Lib.hid hin0
  have HT := Lib.hid hT
  have HBL := Lib.hid hbl
  have HBB := Lib.hid hbb
  clear hin0 hT hbl hbb
  go_enter Tryd.func5, Tryd.ntmps5
  go_upto_if 16 with fail
  go_cut [0] (fun s0 wx => ∃ (n : Nat) (bs : List Int), s0 = .slice a n cap ∧ n ≤ 20000 ∧ InBytes w a n cap bs ∧ Row .u8 wx 39 w.heap.size bl ∧ Below w.heap.size w wx)
  case first =>
    by_cases hb : n0 ≤ 20000
    · have hb2 : ¬ (20000 : Int) < (n0 : Int) := by omega
      go_wp2_with fail
      go_meet
      exact ⟨n0, bs0, rfl, hb, HIN0.out, Row.new w 39 bl, (Below.refl _ _).alloc (Nat.le_refl _) _⟩
    · have hb2 : (20000 : Int) < (n0 : Int) := by omega
      have hb3 : (20000 : Int) ≤ (cap : Int) := by omega
      go_wp2_with fail
      go_meet
      exact ⟨20000, bs0.take 20000, rfl, by omega, HIN0.out.upto 20000 (by omega), Row.new w 39 bl, (Below.refl _ _).alloc (Nat.le_refl _) _⟩
  case rest =>
    obtain ⟨n, bs, rfl, hn, hin, hrl, hbc⟩ := hcut
    have hcode : (n : Int) ≤ 1125899906842624 := by omega
    have hbn := hin.len
    have HBN := Lib.hid hbn
    have HIN := Lib.hid hin
    have HRL := Lib.hid hrl
    have HBC := Lib.hid hbc
    clear hin hrl hbc HIN0 hbn
    go_wp2_with (first
      | (at_builtin
         refine wpList_append_bytes' _ rfl (.tmp 19) (.tmp 20) 24 rfl w.heap.size 5 i0 _ 1 Tryd.underlying24 hi0 hz0 hz1 hz2 rfl wc.heap.size 0 0 [] rfl ⟨by simp, .inr ⟨wc.heap.size, 0, #[], rfl, HBC.out.size, heap_alloc_new wc _, Nat.le_refl _, by simp [maxLen], by simp, by simp⟩⟩ a n cap bs rfl (HIN.out.below (HBC.out.alloc HBC.out.size _)) (by simp only [maxLen]; omega) (by omega) (by have := HBC.out.size; simp; omega) ?_
         intro g1 c1 w1 hown1 hg1
         rw [List.nil_append, Nat.zero_add] at hown1
         rw [Nat.zero_add]
         have HO1 := Lib.hid hown1
         have HB1 : Hid (Below w.heap.size w w1) := Lib.hid ((HBC.out.alloc HBC.out.size _).grown hg1 (by have := HBC.out.size; simp; omega) (fun j hj => by have := HBC.out.size; injection hj; omega))
         have HRL1 : Hid (Row .u8 w1 39 w.heap.size bl) := Lib.hid ((HRL.out.alloc _).grown hg1 (by have := HRL.out.lt; simp; omega))
         have HI1 : Hid (InBytes w1 (some ⟨g1, 0, none⟩) n c1 bs) := Lib.hid (InBytes.of_own hown1 HIN.out.bytes)
         have HN1 : Hid (g1 ≠ w.heap.size) := Lib.hid (by
           rintro rfl
           have h1 := HRL1.out
           rcases hown1.2 with ⟨hv, _⟩ | ⟨g', c', cur, hv, _, hh, _⟩
           · cases hv
           · injection hv with e1
             injection e1 with e1
             injection e1 with e1
             subst e1
             unfold Row at h1
             rw [hh] at h1
             injection h1 with h1
             injection h1 with _ h1
             exact absurd h1 (by decide))
         clear hown1 hg1)
      | (go_at_call 11
         (with_reducible refine (Sum_any (some ⟨g1, 0, none⟩) n c1 bs _ ?_ hcode ?_).mono ?_)
         · exact HI1.out
         · exact HT.out.below HB1.out (Nat.le_refl _)
         rintro _ w2 ⟨gs, hgs, rfl, hr2, hb2⟩
         have HR2 := Lib.hid hr2
         have HRL2 : Hid (Row .u8 w2 39 w.heap.size bl) := Lib.hid (HRL1.out.below hb2 HRL1.out.lt)
         have HO2 : Hid (w2.ownsRow w.heap.size 5 1 (.slice (some ⟨g1, 0, none⟩) n c1) n (bs.map (Value.int .u8))) := Lib.hid (HO1.out.kept (only_below hb2 none) (.inr (by simp [Value.ownBlock])))
         have HB2 : Hid (Below w.heap.size w w2) := Lib.hid (HB1.out.trans (hb2.mono HB1.out.size))
         have hc1 := conv_in (P := Tryd.prog) (InBytes.of_own HO2.out HIN.out.bytes) 24 5 9 Tryd.underlying24 Tryd.underlying5 Tryd.underlying9
         have hc2 := conv_in (P := Tryd.prog) (HIN.out.below HB2.out) 24 5 9 Tryd.underlying24 Tryd.underlying5 Tryd.underlying9
         have HGS : Hid (g1 < gs) := Lib.hid (Nat.lt_of_lt_of_le (HO1.out.lt g1 rfl).2 hgs)
         clear hr2 hb2))
    have hc8 : Cells8 w2 g1 n := by
      have hg1 : Seg .u8 w2 g1 0 bs ∨ n = 0 := by
        by_cases h0 : 0 < n
        · obtain ⟨g', off', e', _, hs'⟩ := (InBytes.of_own HO2.out HIN.out.bytes).place h0
          injection e' with e'
          injection e' with e1 e2
          subst e1
          subst e2
          exact .inl hs'
        · exact .inr (by omega)
      refine ⟨fun j hj => ?_, fun j => ?_⟩
      · rcases hg1 with hs' | h0
        · have h1 := hs' j (by rw [HBN.out]; exact hj)
          rw [Nat.zero_add] at h1
          exact ⟨_, h1, HIN.out.bytes _ (List.getElem_mem _)⟩
        · omega
      · rcases HO2.out.2 with ⟨hv, _⟩ | ⟨g', c', cur, hv, _, hh, _⟩
        · cases hv
        · injection hv with e1
          injection e1 with e1
          injection e1 with e1
          subst e1
          simp [World.frozen?, hh]
    have HC8 := Lib.hid hc8
    clear hc8 hc1 hc2
    go_loopw [7] (fun i wx => ∃ k : Nat, k ≤ n ∧ i = .int .i64 k ∧ Cells8 wx g1 n ∧ w2.grownBy wx (some g1)) (fun i _ => n - (intOf i).toNat)
    case atStart => exact ⟨0, by omega, rfl, HC8.out, only_refl _ _⟩
    case round =>
      obtain ⟨k, hk, rfl, hc, hg⟩ := hrel
      have HC := Lib.hid hc
      have HG := Lib.hid hg
      clear hc hg
      by_cases hlt : k < n
      · obtain ⟨z, hcz, hz0', hz1'⟩ := HC.out.1 k hlt
        have hfz := HC.out.2 k
        have hki : (k : Int) < (n : Int) := by omega
        go_wp2_with fail
        go_roundw
        case rel =>
          refine ⟨k + 1, by omega, by go_num, ?_, only_set HG.out _ _⟩
          exact HC.out.set k hlt _ (by omega) (by omega)
        case measure => simp [intOf]; omega
      · obtain rfl : k = n := by omega
        have HB3 : Hid (Below w.heap.size w wr) := Lib.hid (HB2.out.grown HG.out HB2.out.size (fun j hj => by have := (HO2.out.lt g1 rfl).1; injection hj; omega))
        have HRL3 : Hid (Row .u8 wr 39 w.heap.size bl) := Lib.hid (HRL2.out.grown HG.out (by have := HN1.out; simp; omega))
        have HR3 : Hid (Row .u8 wr 5 gs (sumL bs)) := Lib.hid (HR2.out.grown HG.out (by have := HGS.out; simp; omega))
        clear HC8 HC HG HO2 HO1 HI1
        go_wp2_with (first
          | (go_at_call 11
             (with_reducible refine (Sum_any a k cap bs _ ?_ hcode ?_).mono ?_)
             · exact HIN.out.below HB3.out
             · exact HT.out.below HB3.out (Nat.le_refl _)
             rintro _ w4 ⟨gs2, hgs2, rfl, hr4, hb4⟩
             have HR4 := Lib.hid hr4
             have HS4 : Hid (Row .u8 w4 5 gs (sumL bs)) := Lib.hid (HR3.out.below hb4 HR3.out.lt)
             have HRL4 : Hid (Row .u8 w4 39 w.heap.size bl) := Lib.hid (HRL3.out.below hb4 HRL3.out.lt)
             have HB4 : Hid (Below w.heap.size w w4) := Lib.hid (HB3.out.trans (hb4.mono HB3.out.size))
             clear hr4 hb4))
        go_loopw [9, 10] (fun v i wx => ∃ j : Nat, j ≤ 64 ∧ i = .int .i64 j ∧ wx.ownsRow w4.heap.size 5 1 v j ((bl.take j).map (Value.int .u8)) ∧ Below w4.heap.size w4 wx) (fun _ i _ => 64 - (intOf i).toNat)
        case atStart => exact ⟨0, by omega, rfl, World.ownsRow_nil _ _ _ _, Below.refl _ _⟩
        case round =>
          obtain ⟨j, hj, rfl, ho, hb⟩ := hrel
          have HO := Lib.hid ho
          have HB := Lib.hid hb
          clear ho hb
          by_cases hlt2 : j < 64
          · have hcj := (HRL4.out.below HB.out HRL4.out.lt).cellD j (by rw [HBL.out]; exact hlt2)
            have htk : bl.take (j + 1) = bl.take j ++ [bl.getD j 0] := by
              rw [List.take_succ_eq_append_getElem (by rw [HBL.out]; exact hlt2)]
              simp [List.getD, HBL.out, hlt2]
            have hby := byte_at HBB.out j
            generalize bl.getD j 0 = y at *
            have HTK := Lib.hid htk
            have hji : (j : Int) < 64 := by omega
            have hbk : w.heap.size < wr.heap.size := Nat.lt_of_lt_of_le HRL4.out.lt HB.out.size
            clear htk
            go_wp2_with (first
              | (at_builtin
                 refine wpList_append_own _ rfl (.tmp 54) (.tmp 58) 24 rfl w4.heap.size 5 i0 _ 1 1 Tryd.underlying24 hi0 hz0 hz1 hz2 rfl (by omega) u9 j ((bl.take j).map (Value.int .u8)) rfl (HO.out.alloc _) ⟨wr.heap.size, 0, none⟩ 1 1 [.int .u8 y] rfl rfl (cell_one_new _ _ _) (by simp [Value.oneCell']) (by simp only [maxLen]; omega) (by omega) (by have := HB.out.size; simp; omega) ?_
                 intro v1 w7 hown7 hg7 hat7
                 have HO7 := Lib.hid hown7
                 have HG7 := Lib.hid hg7
                 clear hown7 hat7 hg7))
            go_roundw
            case rel =>
              refine ⟨j + 1, by omega, by go_num, ?_, ?_⟩
              · have h := HO7.out
                rw [HTK.out, List.map_append]
                exact h
              · exact (HB.out.alloc HB.out.size _).grown HG7.out (by have := HB.out.size; simp; omega) (fun q hq => (HO.out.lt q hq).1)
            case measure => simp [intOf]; omega
          · obtain rfl : j = 64 := by omega
            have ho := HO.out
            rw [List.take_of_length_le (by rw [HBL.out]; omega)] at ho
            obtain ⟨gl, cl, hv, hgl, hgl2⟩ := ho.form (by omega)
            rw [hv] at ho
            rw [hv]
            have HO' := Lib.hid ho
            have hinl := InBytes.of_own ho HBB.out
            obtain ⟨g', off', e', _, hsl⟩ := hinl.place (by omega)
            injection e' with e'
            injection e' with e1 e2
            subst e1
            subst e2
            have HW := Lib.hid (Words_yes gl 0 cl bl wr HBL.out HBB.out hsl hinl.le hgl2)
            clear hv ho hinl hsl
            rw [show ((64 : Nat) : Int) = 64 from rfl]
            go_wp2_with (first
              | (go_at_call 13
                 (with_reducible refine HW.out.mono ?_)
                 rintro _ w8 ⟨rfl, _, hb8, _⟩
                 have HB8 := Lib.hid hb8
                 clear hb8))
            have cA : ∀ q, q < 64 → w8.cell? ⟨gl, q, none⟩ = some (.int .u8 (bl.getD q 0)) := fun q hq => by
              have ho8 := InBytes.of_own (HO'.out.kept (only_below HB8.out none) (.inr (by simp [Value.ownBlock]))) HBB.out
              obtain ⟨g', off', e', _, hs'⟩ := ho8.place (by omega)
              injection e' with e'
              injection e' with e1 e2
              subst e1
              subst e2
              have h := hs'.cellD q (by rw [HBL.out]; exact hq)
              rw [Nat.zero_add] at h
              exact h
            have hbw8 : Below w4.heap.size w4 w8 := HB.out.trans (HB8.out.mono HB.out.size)
            have cB : ∀ q, q < 64 → w8.cell? ⟨w.heap.size, q, none⟩ = some (.int .u8 (bl.getD q 0)) := fun q hq => (HRL4.out.below hbw8 HRL4.out.lt).cellD q (by rw [HBL.out]; exact hq)
            have hS : Row .u8 w8 5 gs (sumL bs) := HS4.out.below hbw8 HS4.out.lt
            have hA : Row .u8 w8 5 gs2 (sumL bs) := HR4.out.below hbw8 HR4.out.lt
            have hsl32 := sumL_length bs
            have cv : ∀ g, Row .u8 w8 5 g (sumL bs) → ∀ m, (convert 24 9 (.slice (some ⟨g, 0, none⟩) 32 32)).run Tryd.prog (w8.drewN m) = .ok (.string (strOfNums (sumL bs))) (w8.drewN m) := fun g hg m => by
              have h := conv_in (P := Tryd.prog) (InBytes.of_row (hg.drewN m) (sumL_bytes bs) (by rw [hsl32]; omega)) 24 5 9 Tryd.underlying24 Tryd.underlying5 Tryd.underlying9
              rw [hsl32] at h
              exact h
            have HCA := Lib.hid cA
            have HCB := Lib.hid cB
            have HV1 := Lib.hid (cv gs hS)
            have HV2 := Lib.hid (cv gs2 hA)
            have HBF : Hid (Below w.heap.size w w8) := Lib.hid (HB4.out.trans (hbw8.mono HB4.out.size))
            clear cA cB hbw8 hS hA hsl32 cv HO HB HW HO'
            go_loopw [13] (fun i wx => ∃ q m : Nat, q ≤ 64 ∧ i = .int .i64 q ∧ wx = w8.drewN m) (fun i _ => 64 - (intOf i).toNat)
            case atStart => exact ⟨0, 0, by omega, rfl, rfl⟩
            case round =>
              obtain ⟨q, m, hq, rfl, rfl⟩ := hrel
              by_cases hlt3 : q < 64
              · have e1 := HCA.out q hlt3
                have e2 := HCB.out q hlt3
                generalize bl.getD q 0 = x at *
                have qb : (q : Int) < 64 := by omega
                go_wp2_with fail
                go_quiet (fail)
                go_wp2_with fail
                exact ⟨⟨q + 1, m + nq, by omega, by go_num, rfl⟩, by simp [intOf]; omega⟩
              · obtain rfl : q = 64 := by omega
                have v1 := HV1.out m
                have v2 := HV2.out m
                go_wp2_with fail
                go_ret
                exact ⟨rfl, below_drewN HBF.out m⟩
end Go.Proofs.YtcaggiekooncnaaDoor
