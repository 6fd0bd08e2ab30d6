/- The walk of the law CoderStays. -/
import Derived.Test.YtnjjihikjcfliaaCodApartW
namespace Go.Proofs.Ytnjjihikjcfliaa
open Go.RowKit
set_option linter.unusedVariables false

theorem own_bump {w : World} {base g n c i : Nat} {zs : List Int} {e : TypeId} (h : w.ownsRow base e 1 (.slice (some ⟨g, 0, none⟩) n c) n (zs.map (Value.int .u8))) (z : Int) :
    (w.setCell ⟨g, i, none⟩ (.int .u8 z)).ownsRow base e 1 (.slice (some ⟨g, 0, none⟩) n c) n ((zs.set i z).map (Value.int .u8)) := by
  rw [List.map_set]
  exact (h.stored i _).1

set_option maxRecDepth 100000 in
set_option maxHeartbeats 4000000 in
theorem stays_law (a : Option Addr) (n cap : Nat) (bs : List Int) (w : World) (hin : InBytes w a n cap bs) (hn : n ≤ 140737488351232) :
    Calls Try.prog 8 #[.slice a n cap] w fun e w' => e = .returned (.bool true) ∧ Below w.heap.size w w' := by
  obtain ⟨i0, hi0, hz0, hz1, hz2⟩ := info_parts infoU8
  have hbl := hin.len
  have h8 := bytL_bytes hin.bytes (by omega)
  have hxl : (bytL bs).length = (numL n).length + n := by unfold bytL; rw [List.length_append, hbl]
  have hp := numL_pos n
  have h9 := numL_le (v := n) (by omega)
  have hrd := rdBytes_bytL (bs := bs) (by omega) [] n (by omega)
  rw [List.append_nil] at hrd
  obtain ⟨xl, hxe⟩ : ∃ xl, xl = (bytL bs).length := ⟨_, rfl⟩
  have HX := Lib.hid hxe
  have HIN := Lib.hid hin
  have H8 := Lib.hid h8
  have HRD := Lib.hid hrd
  rw [← hxe] at hxl
  have hx1 : n < xl := by omega
  have hx2 : xl ≤ n + 9 := by omega
  clear hin h8 hrd hxe hxl hp h9
  go_enter Try.func8, Try.ntmps8
  go_wp2_with (first
    | (at_builtin
       refine wpList_append_bytes' _ rfl (.tmp 8) (.tmp 9) 23 rfl w.heap.size 5 i0 _ 1 Try.underlying23 hi0 hz0 hz1 hz2 rfl w.heap.size 0 0 [] rfl (own_new w 5 .u8 [] w.heap.size (Nat.le_refl _) (by simp [maxLen])) a n cap bs rfl (HIN.out.below ((Below.refl _ _).alloc (Nat.le_refl _) _)) (by simp only [maxLen]; omega) (by omega) (by simp) ?_
       intro g1 c1 w1 hown1 hg1
       rw [List.nil_append, Nat.zero_add] at hown1
       have HO1 := Lib.hid hown1
       have HB1 : Hid (Below w.heap.size w w1) := Lib.hid (below_only ((Below.refl _ _).alloc (Nat.le_refl _) _) hg1 (by simp) (Nat.le_refl _))
       clear hown1 hg1)
    | (go_at_call 11
       (with_reducible refine (bytes_any _ _ _ _ _ (InBytes.of_own HO1.out HIN.out.bytes) hn).mono ?_)
       rintro _ w2 ⟨g2, c2, rfl, ho2, hb2⟩
       rw [← HX.out] at ho2 ⊢
       have HO1b := Lib.hid (own_below HO1.out hb2 (HO1.out.lt g1 rfl).2)
       have hg12 := Nat.lt_of_lt_of_le (HO1.out.lt g1 rfl).2 (ho2.lt g2 rfl).1
       have HO2 := Lib.hid ho2
       have HB2 : Hid (Below w.heap.size w w2) := Lib.hid (HB1.out.trans (hb2.mono HB1.out.size))
       clear ho2 hb2)
    | (go_at_call 13
       (with_reducible refine (newReader_any _ _ _ _ _ (InBytes.of_own HO2.out H8.out) ?_).mono ?_)
       · omega
       rintro _ w3 ⟨g3, gb3, rfl, hg3, hgb3, hpr3, hb3⟩
       have hg23 := Nat.lt_of_lt_of_le (HO2.out.lt g2 rfl).2 hg3
       have HGB := Lib.hid (fun b h => Nat.lt_of_lt_of_le (HO2.out.lt g2 rfl).2 (hgb3 b h))
       have hgw := Nat.le_trans HB2.out.size hg3
       have hgw1 := (HO1.out.lt g1 rfl).1
       have HO1c := Lib.hid (own_below HO1b.out hb3 (HO1b.out.lt g1 rfl).2)
       have HO2c := Lib.hid (own_below HO2.out hb3 (HO2.out.lt g2 rfl).2)
       have HP3 := Lib.hid hpr3
       have HB3 : Hid (Below w.heap.size w w3) := Lib.hid (HB2.out.trans (hb3.mono HB2.out.size))
       have hcv1 := conv_own (by rw [hbl]; exact HO1c.out) HIN.out.bytes
       have hcvb := conv_in (P := Try.prog) (HIN.out.below HB3.out) 23 5 9 Try.underlying23 Try.underlying5 Try.underlying9
       rw [hbl] at hcv1
       have hlt3 : ¬ (xl : Int) ≤ (n : Int) := by omega
       have hlt4 : decide ((xl : Int) ≤ (n : Int)) = false := by simpa using hlt3
       clear hpr3 hb3 hgb3 hg3 HO1 HO1b HO2))
  clear hcv1 hcvb HB1 HB2 hlt3 hlt4
  go_loopw [6] (fun s6 wx => ∃ (i : Nat) (zs : List Int), i ≤ n ∧ zs.length = n ∧ s6 = .int .i64 i ∧ wx.ownsRow w.heap.size 5 1 (.slice (some ⟨g1, 0, none⟩) n c1) n (zs.map (Value.int .u8)) ∧ w3.grownBy wx (some g1)) (fun s6 _ => n - (intOf s6).toNat)
  case atStart => exact ⟨0, bs, by omega, hbl, rfl, HO1c.out, only_refl _ _⟩
  case round =>
    obtain ⟨i, zs, hi, hzl, rfl, hown, hgr⟩ := hrel
    by_cases hlt : i < n
    · have q1 : (i : Int) < (n : Int) := by omega
      have hc := hown.cellAt i (by omega)
      rw [show (zs.map (Value.int .u8))[i]? = some (.int .u8 (zs.getD i 0)) by simp [List.getD, show i < zs.length by omega]] at hc
      have hf := hown.frozenAt i
      generalize zs.getD i 0 = z at hc
      have HO := Lib.hid hown
      have HG := Lib.hid hgr
      clear hown hgr
      go_wp2_with fail
      exact ⟨⟨i + 1, zs.set i _, by omega, by simpa using hzl, by go_num, own_bump HO.out _, only_set HG.out _ _⟩, by simp [intOf]; omega⟩
    · obtain rfl : i = n := by omega
      have q1 : ¬ (i : Int) < (i : Int) := by omega
      have hgr : w3.grownBy wr.drew (some g1) := only_drawn hgr 1
      have HB4 : Hid (Below w.heap.size w wr.drew) := Lib.hid (below_only HB3.out hgr HB3.out.size hgw1)
      have HO2d := Lib.hid (HO2c.out.kept hgr (.inr (by simp [Value.ownBlock]; omega)))
      have HP4 := Lib.hid (HP3.out.grown hgr (by simp; omega) (fun b h => by have := HGB.out b h; simp; omega))
      clear hown hgr HP3 HO2c HO1c
      have hcx := conv_own (by rw [← HX.out]; exact HO2d.out) H8.out
      rw [← HX.out] at hcx
      have HBY := Lib.hid (fun W hW => bytes_any a i cap bs W (HIN.out.below hW) hn)
      go_wp2_with fail
      go_region_with (first
        | (go_at_call 11
           (with_reducible refine (HBY.out _ ?_).mono ?_)
           · exact HB4.out
           rintro _ w5 ⟨g5, c5, rfl, ho5, hb5⟩
           have hc5 := conv_own ho5 H8.out
           rw [← HX.out] at hc5 ⊢
           have HO2e := Lib.hid (own_below HO2d.out hb5 (HO2d.out.lt g2 rfl).2)
           have hcx5 := conv_own (by rw [← HX.out]; exact HO2e.out) H8.out
           rw [← HX.out] at hcx5
           have HB5 : Hid (Below w.heap.size w w5) := Lib.hid (HB4.out.trans (hb5.mono HB4.out.size))
           have HP5 := Lib.hid (HP4.out.grown (only_below hb5 none) (by simp) (by simp))
           clear ho5 hb5))
      all_goals
        clear hc5 hcx5 hcx HP4 HO2d HB4 HBY
        go_wp2_with fail
        go_loopw [7] (fun s7 wx => ∃ (j : Nat) (zs : List Int), j ≤ xl ∧ zs.length = xl ∧ s7 = .int .i64 j ∧ wx.ownsRow w1.heap.size 5 1 (.slice (some ⟨g2, 0, none⟩) xl c2) xl (zs.map (Value.int .u8)) ∧ w5.grownBy wx (some g2)) (fun s7 _ => xl - (intOf s7).toNat)
        case atStart => exact ⟨0, bytL bs, by omega, HX.out.symm, rfl, HO2e.out, only_refl _ _⟩
        case round =>
          obtain ⟨j, zs, hj, hzl, rfl, hown, hgr⟩ := hrel
          by_cases hlt : j < xl
          · have q1 : (j : Int) < (xl : Int) := by omega
            have hc := hown.cellAt j (by omega)
            rw [show (zs.map (Value.int .u8))[j]? = some (.int .u8 (zs.getD j 0)) by simp [List.getD, show j < zs.length by omega]] at hc
            have hf := hown.frozenAt j
            generalize zs.getD j 0 = z at hc
            have HO := Lib.hid hown
            have HG := Lib.hid hgr
            clear hown hgr
            go_wp2_with fail
            exact ⟨⟨j + 1, zs.set j _, by omega, by simpa using hzl, by go_num, own_bump HO.out _, only_set HG.out _ _⟩, by simp [intOf]; omega⟩
          · obtain rfl : j = xl := by omega
            have q1 : ¬ (j : Int) < (j : Int) := by omega
            have hgr : w5.grownBy wr.drew (some g2) := only_drawn hgr 1
            have HB6 : Hid (Below w.heap.size w wr.drew) := Lib.hid (below_only HB5.out hgr HB5.out.size (by omega))
            have HP6 := Lib.hid (HP5.out.grown hgr (by simp; omega) (fun b h => by have := HGB.out b h; simp; omega))
            clear hown hgr HP5 HO2e
            have hcb := conv_in (P := Try.prog) (HIN.out.below HB6.out) 23 5 9 Try.underlying23 Try.underlying5 Try.underlying9
            go_wp2_with fail
            go_region_with (first
              | (go_at_call 19
                 (with_reducible refine (rdBytes_any _ _ _ _ _ HP6.out ?_ ?_).mono ?_)
                 · omega
                 · omega
                 rintro _ w7 ⟨a7, c7, rfl, hin7, hpr7, hg7⟩
                 have hrd := HRD.out
                 rw [hrd] at hin7 ⊢
                 replace hin7 : InBytes w7 a7 bs.length c7 bs := hin7
                 rw [hbl] at hin7
                 have hc7 := conv_in (P := Try.prog) hin7 23 5 9 Try.underlying23 Try.underlying5 Try.underlying9
                 have HB7 : Hid (Below w.heap.size w w7) := Lib.hid (below_only HB6.out hg7 HB6.out.size hgw)
                 have hcb7 := conv_in (P := Try.prog) (HIN.out.below HB7.out) 23 5 9 Try.underlying23 Try.underlying5 Try.underlying9
                 clear hin7 hpr7 hg7))
            all_goals
              go_wp2_with fail
              go_ret
              exact ⟨rfl, HB7.out⟩
end Go.Proofs.Ytnjjihikjcfliaa
