/- The walk of the law DigestPreimages. -/
import Derived.Test.YtdmfjnohkpiaiaaDigUp
import Derived.Test.YtdmfjnohkpiaiaaRefDig
namespace Go.Proofs.Ytdmfjnohkpiaiaa
open Go.RowKit
set_option linter.unusedVariables false

theorem conv_any {w : World} {a : Option Addr} {n cap : Nat} {bs : List Int} (h : InBytes w a n cap bs) :
    (convert 22 9 (.slice a n cap)).run Try.prog w = .ok (.string (strOfNums bs)) w :=
  conv_in (P := Try.prog) h 22 5 9 Try.underlying22 Try.underlying5 Try.underlying9

set_option maxRecDepth 100000 in
set_option maxHeartbeats 8000000 in
theorem pre_law (x : Int) (a : Option Addr) (na ca : Nat) (la : List Int) (b : Option Addr) (nb cb : Nat) (lb : List Int) (c : Option Addr) (nc cc : Nat) (lc : List Int) (w : World) (hx1 : -9223372036854775808 ≤ x) (hx2 : x ≤ 9223372036854775807)
    (hina : InBytes w a na ca la) (hna : na ≤ 140737488351232) (hinb : InBytes w b nb cb lb) (hnb : nb ≤ 140737488351232) (hinc : InBytes w c nc cc lc) (hnc : nc ≤ 140737488351232) :
    Calls Try.prog 3 #[.int .i64 x, .slice a na ca, .slice b nb cb, .slice c nc cc] w fun e w' => e = .returned (.bool true) ∧ Below w.heap.size w w' := by
  have hla := hina.len
  have hlb := hinb.len
  have hlc := hinc.len
  have HU := Lib.hid (upD_any w)
  have HI := Lib.hid (And.intro hina (And.intro hinb hinc))
  have HV8 := Lib.hid (valL_bytes hina.bytes)
  clear hina hinb hinc
  go_enter Try.func3, Try.ntmps3
  go_wp2_with (first
    | (go_at_call 5
       (with_reducible refine HU.out.mono ?_)
       rintro _ w1 ⟨rfl, hb1⟩
       have HB1 := Lib.hid hb1
       clear hb1))
  go_cut [10] (fun s10 wx => s10 = .bool true ∧ Below w.heap.size w wx)
  case first =>
    go_region_with (first
      | (go_at_call 6
         (with_reducible refine (value_any a na ca la _ ?_ hna).mono ?_)
         · exact HI.out.1.below HB1.out.drew
         rintro _ w2 ⟨g2, c2, rfl, ho2, hb2⟩
         have hc2 := conv_own ho2 HV8.out
         have HO2 := Lib.hid ho2
         have HB2 : Hid (Below w.heap.size w w2) := Lib.hid (HB1.out.drew.trans (hb2.mono HB1.out.size))
         clear ho2 hb2)
      | (go_at_call 7
         (with_reducible refine (refValue_any a na ca la _ ?_ hna).mono ?_)
         · exact HI.out.1.below HB2.out
         rintro _ w3 ⟨g3, c3, rfl, ho3, hb3⟩
         have hc3 := conv_own ho3 HV8.out
         have hc23 := conv_own (own_below HO2.out hb3 (HO2.out.lt g2 rfl).2) HV8.out
         have HB3 : Hid (Below w.heap.size w w3) := Lib.hid (HB2.out.trans (hb3.mono HB2.out.size))
         clear ho3 hb3))
    all_goals
      go_wp2_with fail
      go_meet
      exact ⟨rfl, HB3.out⟩
  case rest =>
    obtain ⟨rfl, hb3⟩ := hcut
    have HB3 := Lib.hid hb3
    clear hb3
    have hneq : ∀ (W : World) (p q : Int), (binOp .neq 26 (.iface 31 (.int .i64 p)) (.iface 31 (.int .i64 q))).run Try.prog W = .ok (.bool (p != q)) W := fun W p q => neq_code p q W
    clear HB1 HU HV8
    by_cases hone : 1 ≤ x ∧ x ≤ 32 ∧ (nb : Int) = x
    · obtain ⟨h1, h2, rfl⟩ := hone
      have hmay : decide (1 ≤ (nb : Int) ∧ (nb : Int) ≤ 32) = true := by simp; omega
      by_cases htwo : (na : Int) = (nb : Int) ∧ (nc : Int) = (nb : Int)
      · obtain ⟨h3, h4⟩ := htwo
        have hbb : ((nb : Int) == (nb : Int)) = true := by simp
        have hba : ((na : Int) == (nb : Int)) = true := by simp; omega
        have hbc : ((nc : Int) == (nb : Int)) = true := by simp; omega
        go_wp2_with (first
          | (go_at_call 8
             (with_reducible refine (pair_ok _ a na ca la b nb cb lb _ ?_ hna ?_ ?_ ?_ ?_).mono ?_)
             · exact HI.out.1.below HB3.out
             · exact HI.out.2.1.below HB3.out
             · omega
             · omega
             · omega
             rintro _ w4 ⟨g4, c4, rfl, ho4, hb4⟩
             have HO4 := Lib.hid ho4
             have HB4 : Hid (Below w.heap.size w w4) := Lib.hid (HB3.out.trans (hb4.mono HB3.out.size))
             clear ho4 hb4)
          | (go_at_call 9
             (with_reducible refine (node_ok _ a na ca la b nb cb lb c nc cc lc _ ?_ ?_ ?_ ?_ ?_ ?_ ?_ ?_).mono ?_)
             · exact HI.out.1.below HB4.out
             · exact HI.out.2.1.below HB4.out
             · exact HI.out.2.2.below HB4.out
             · omega
             · omega
             · omega
             · omega
             · omega
             rintro _ w5 ⟨g5, c5, rfl, ho5, hb5⟩
             have HO5 := Lib.hid ho5
             have HO4b := Lib.hid (own_below HO4.out hb5 (HO4.out.lt g4 rfl).2)
             have HB5 : Hid (Below w.heap.size w w5) := Lib.hid (HB4.out.trans (hb5.mono HB4.out.size))
             clear ho5 hb5)
          | (go_at_call 10
             (with_reducible refine (may_any _ _).mono ?_)
             rintro _ w9 ⟨rfl, hw9⟩
             rw [hmay, hw9]
             clear hw9))
        have hcp : (convert 22 9 (.slice (some ⟨g4, 0, none⟩) (pairL la lb).length c4)).run Try.prog w5.drew = .ok (.string (strOfNums (pairL la lb))) w5.drew := conv_own (w := w5.drew) HO4b.out (pairL_bytes HI.out.1.bytes (by omega) HI.out.2.1.bytes)
        have hcn : (convert 22 9 (.slice (some ⟨g5, 0, none⟩) (nodeL la lb lc).length c5)).run Try.prog w5.drew = .ok (.string (strOfNums (nodeL la lb lc))) w5.drew := conv_own (w := w5.drew) HO5.out (nodeL_bytes HI.out.1.bytes HI.out.2.1.bytes HI.out.2.2.bytes)
        refine wp_region_held_drew (S := (fun W => (convert 22 9 (.slice (some ⟨g4, 0, none⟩) (pairL la lb).length c4)).run Try.prog W = .ok (.string (strOfNums (pairL la lb))) W ∧ (convert 22 9 (.slice (some ⟨g5, 0, none⟩) (nodeL la lb lc).length c5)).run Try.prog W = .ok (.string (strOfNums (nodeL la lb lc))) W)) (by kernel_rfl) ⟨hcp, hcn⟩ (fun hHeld => ?_)
        refine take_w (i := 0) (oi := ?oR0) (v := ?vR0) ?hiR0 (by kernel_rfl) (by kernel_rfl) (by kernel_rfl) ?hQR0 ?hwR0 ?hyR0 (by assumption) ?restR0
        case hiR0 => (simp only [List.getElem?_toArray, List.getElem?_cons_zero] <;> rfl)
        case hQR0 => exact (fun _ _ _ h => h)
        case hwR0 => rfl
        case hyR0 => (intro w hSw; (try dsimp only at hSw); go_simp; try with_reducible rfl)
        (try simp only [Act.put, List.setIfInBounds_toArray, List.set_cons_zero, List.set_cons_succ])
        refine take_w (i := 1) (oi := ?oR1) (v := ?vR1) ?hiR1 (by kernel_rfl) (by kernel_rfl) (by kernel_rfl) ?hQR1 ?hwR1 ?hyR1 (by assumption) ?restR1
        case hiR1 => (simp only [List.getElem?_toArray, List.getElem?_cons_succ, List.getElem?_cons_zero] <;> rfl)
        case hQR1 => exact (fun _ _ _ h => h)
        case hwR1 => rfl
        case hyR1 => (intro w hSw; (try dsimp only at hSw); go_simp; try with_reducible rfl)
        (try simp only [Act.put, List.setIfInBounds_toArray, List.set_cons_zero, List.set_cons_succ])
        refine take_w (i := 2) (oi := ?oR2) (v := ?vR2) ?hiR2 (by kernel_rfl) (by kernel_rfl) (by kernel_rfl) ?hQR2 ?hwR2 ?hyR2 (by assumption) ?restR2
        case hiR2 => (simp only [List.getElem?_toArray, List.getElem?_cons_succ, List.getElem?_cons_zero] <;> rfl)
        case hQR2 => exact (fun _ _ _ h => h)
        case hwR2 => rfl
        case hyR2 => (intro w hSw; (try dsimp only at hSw); go_simp; try with_reducible rfl)
        (try simp only [Act.put, List.setIfInBounds_toArray, List.set_cons_zero, List.set_cons_succ])
        refine take_w (i := 3) (oi := ?oR3) (v := ?vR3) ?hiR3 (by kernel_rfl) (by kernel_rfl) (by kernel_rfl) ?hQR3 ?hwR3 ?hyR3 (by assumption) ?restR3
        case hiR3 => (simp only [List.getElem?_toArray, List.getElem?_cons_succ, List.getElem?_cons_zero] <;> rfl)
        case hQR3 => exact (fun _ _ _ h => h)
        case hwR3 => rfl
        case hyR3 => (intro w hSw; (try dsimp only at hSw); go_simp; try with_reducible rfl)
        (try simp only [Act.put, List.setIfInBounds_toArray, List.set_cons_zero, List.set_cons_succ])
        refine take_w (i := 4) (oi := ?oR4) (v := ?vR4) ?hiR4 (by kernel_rfl) (by kernel_rfl) (by kernel_rfl) ?hQR4 ?hwR4 ?hyR4 (by assumption) ?restR4
        case hiR4 => (simp only [List.getElem?_toArray, List.getElem?_cons_succ, List.getElem?_cons_zero] <;> rfl)
        case hQR4 => exact (fun _ _ _ h => h)
        case hwR4 => rfl
        case hyR4 => (intro w hSw; (try dsimp only at hSw); go_simp; try with_reducible rfl)
        (try simp only [Act.put, List.setIfInBounds_toArray, List.set_cons_zero, List.set_cons_succ])
        refine take_w (i := 5) (oi := ?oR5) (v := ?vR5) ?hiR5 (by kernel_rfl) (by kernel_rfl) (by kernel_rfl) ?hQR5 ?hwR5 ?hyR5 (by assumption) ?restR5
        case hiR5 => (simp only [List.getElem?_toArray, List.getElem?_cons_succ, List.getElem?_cons_zero] <;> rfl)
        case hQR5 => exact (fun _ _ _ h => h)
        case hwR5 => rfl
        case hyR5 => (intro w hSw; (try dsimp only at hSw); go_simp; try with_reducible rfl)
        (try simp only [Act.put, List.setIfInBounds_toArray, List.set_cons_zero, List.set_cons_succ])
        refine wpAnyH_ready (rs := [6]) (by kernel_rfl) (by simp) ?_
        refine AllReadyH.cons (o := ?oR6) ?hiR6 (fun K hK => ?stR6) AllReadyH.nil
        case hiR6 => (simp only [List.getElem?_toArray, List.getElem?_cons_succ, List.getElem?_cons_zero] <;> rfl)
        go_simp
        go_at_call 11
        (with_reducible refine (refPair_any a na ca la b nb cb lb _ ?_ hna ?_ ?_).mono ?_)
        · exact HI.out.1.below HB5.out.drew
        · exact HI.out.2.1.below HB5.out.drew
        · omega
        rintro _ w6 ⟨g6, c6, rfl, ho6, hb6⟩
        have hc6 := conv_own ho6 (pairL_bytes HI.out.1.bytes (by omega) HI.out.2.1.bytes)
        have hcp6 := conv_own (own_below (w := w5.drew) HO4b.out hb6 (HO4b.out.lt g4 rfl).2) (pairL_bytes HI.out.1.bytes (by omega) HI.out.2.1.bytes)
        have hcn6 := conv_own (own_below (w := w5.drew) HO5.out hb6 (HO5.out.lt g5 rfl).2) (nodeL_bytes HI.out.1.bytes HI.out.2.1.bytes HI.out.2.2.bytes)
        have HO4c := Lib.hid (own_below (w := w5.drew) HO4b.out hb6 (HO4b.out.lt g4 rfl).2)
        have HO5c := Lib.hid (own_below (w := w5.drew) HO5.out hb6 (HO5.out.lt g5 rfl).2)
        have HB6 : Hid (Below w.heap.size w w6) := Lib.hid (HB5.out.drew.trans (hb6.mono HB5.out.size))
        clear ho6 hb6
        go_simp
        refine hK.out _ _ ?_ (fun hHeld => ?_)
        · (first | exact ⟨hcp7, hcn7⟩ | exact ⟨hcp6, hcn6⟩ | exact ⟨hcp, hcn⟩)
        clear hK K
        (try simp only [Act.put, List.setIfInBounds_toArray, List.set_cons_zero, List.set_cons_succ])
        refine wpAnyH_ready (rs := [7]) (by kernel_rfl) (by simp) ?_
        refine AllReadyH.cons (o := ?oR7) ?hiR7 (fun K hK => ?stR7) AllReadyH.nil
        case hiR7 => (simp only [List.getElem?_toArray, List.getElem?_cons_succ, List.getElem?_cons_zero] <;> rfl)
        go_simp
        refine hK.out _ _ ?_ (fun hHeld => ?_)
        · (first | exact ⟨hcp7, hcn7⟩ | exact ⟨hcp6, hcn6⟩ | exact ⟨hcp, hcn⟩)
        clear hK K
        (try simp only [Act.put, List.setIfInBounds_toArray, List.set_cons_zero, List.set_cons_succ])
        refine take_w (i := 8) (oi := ?oR8) (v := ?vR8) ?hiR8 (by kernel_rfl) (by kernel_rfl) (by kernel_rfl) ?hQR8 ?hwR8 ?hyR8 (by assumption) ?restR8
        case hiR8 => (simp only [List.getElem?_toArray, List.getElem?_cons_succ, List.getElem?_cons_zero] <;> rfl)
        case hQR8 => exact (fun _ _ _ h => h)
        case hwR8 => rfl
        case hyR8 => (intro w hSw; (try dsimp only at hSw); go_simp; try with_reducible rfl)
        (try simp only [Act.put, List.setIfInBounds_toArray, List.set_cons_zero, List.set_cons_succ])
        refine take_w (i := 9) (oi := ?oR9) (v := ?vR9) ?hiR9 (by kernel_rfl) (by kernel_rfl) (by kernel_rfl) ?hQR9 ?hwR9 ?hyR9 (by assumption) ?restR9
        case hiR9 => (simp only [List.getElem?_toArray, List.getElem?_cons_succ, List.getElem?_cons_zero] <;> rfl)
        case hQR9 => exact (fun _ _ _ h => h)
        case hwR9 => rfl
        case hyR9 => (intro w hSw; (try dsimp only at hSw); go_simp; try with_reducible rfl)
        (try simp only [Act.put, List.setIfInBounds_toArray, List.set_cons_zero, List.set_cons_succ])
        refine take_w (i := 10) (oi := ?oR10) (v := ?vR10) ?hiR10 (by kernel_rfl) (by kernel_rfl) (by kernel_rfl) ?hQR10 ?hwR10 ?hyR10 (by assumption) ?restR10
        case hiR10 => (simp only [List.getElem?_toArray, List.getElem?_cons_succ, List.getElem?_cons_zero] <;> rfl)
        case hQR10 => exact (fun _ _ _ h => h)
        case hwR10 => rfl
        case hyR10 => (intro w hSw; (try dsimp only at hSw); go_simp; try with_reducible rfl)
        (try simp only [Act.put, List.setIfInBounds_toArray, List.set_cons_zero, List.set_cons_succ])
        refine take_w (i := 11) (oi := ?oR11) (v := ?vR11) ?hiR11 (by kernel_rfl) (by kernel_rfl) (by kernel_rfl) ?hQR11 ?hwR11 ?hyR11 (by assumption) ?restR11
        case hiR11 => (simp only [List.getElem?_toArray, List.getElem?_cons_succ, List.getElem?_cons_zero] <;> rfl)
        case hQR11 => exact (fun _ _ _ h => h)
        case hwR11 => rfl
        case hyR11 => (intro w hSw; (try dsimp only at hSw); go_simp; try with_reducible rfl)
        (try simp only [Act.put, List.setIfInBounds_toArray, List.set_cons_zero, List.set_cons_succ])
        refine take_w (i := 12) (oi := ?oR12) (v := ?vR12) ?hiR12 (by kernel_rfl) (by kernel_rfl) (by kernel_rfl) ?hQR12 ?hwR12 ?hyR12 (by assumption) ?restR12
        case hiR12 => (simp only [List.getElem?_toArray, List.getElem?_cons_succ, List.getElem?_cons_zero] <;> rfl)
        case hQR12 => exact (fun _ _ _ h => h)
        case hwR12 => rfl
        case hyR12 => (intro w hSw; (try dsimp only at hSw); go_simp; try with_reducible rfl)
        (try simp only [Act.put, List.setIfInBounds_toArray, List.set_cons_zero, List.set_cons_succ])
        refine take_w (i := 13) (oi := ?oR13) (v := ?vR13) ?hiR13 (by kernel_rfl) (by kernel_rfl) (by kernel_rfl) ?hQR13 ?hwR13 ?hyR13 (by assumption) ?restR13
        case hiR13 => (simp only [List.getElem?_toArray, List.getElem?_cons_succ, List.getElem?_cons_zero] <;> rfl)
        case hQR13 => exact (fun _ _ _ h => h)
        case hwR13 => rfl
        case hyR13 => (intro w hSw; (try dsimp only at hSw); go_simp; try with_reducible rfl)
        (try simp only [Act.put, List.setIfInBounds_toArray, List.set_cons_zero, List.set_cons_succ])
        refine take_w (i := 14) (oi := ?oR14) (v := ?vR14) ?hiR14 (by kernel_rfl) (by kernel_rfl) (by kernel_rfl) ?hQR14 ?hwR14 ?hyR14 (by assumption) ?restR14
        case hiR14 => (simp only [List.getElem?_toArray, List.getElem?_cons_succ, List.getElem?_cons_zero] <;> rfl)
        case hQR14 => exact (fun _ _ _ h => h)
        case hwR14 => rfl
        case hyR14 => (intro w hSw; (try dsimp only at hSw); go_simp; try with_reducible rfl)
        (try simp only [Act.put, List.setIfInBounds_toArray, List.set_cons_zero, List.set_cons_succ])
        refine take_w (i := 15) (oi := ?oR15) (v := ?vR15) ?hiR15 (by kernel_rfl) (by kernel_rfl) (by kernel_rfl) ?hQR15 ?hwR15 ?hyR15 (by assumption) ?restR15
        case hiR15 => (simp only [List.getElem?_toArray, List.getElem?_cons_succ, List.getElem?_cons_zero] <;> rfl)
        case hQR15 => exact (fun _ _ _ h => h)
        case hwR15 => rfl
        case hyR15 => (intro w hSw; (try dsimp only at hSw); go_simp; try with_reducible rfl)
        (try simp only [Act.put, List.setIfInBounds_toArray, List.set_cons_zero, List.set_cons_succ])
        refine take_w (i := 16) (oi := ?oR16) (v := ?vR16) ?hiR16 (by kernel_rfl) (by kernel_rfl) (by kernel_rfl) ?hQR16 ?hwR16 ?hyR16 (by assumption) ?restR16
        case hiR16 => (simp only [List.getElem?_toArray, List.getElem?_cons_succ, List.getElem?_cons_zero] <;> rfl)
        case hQR16 => exact (fun _ _ _ h => h)
        case hwR16 => rfl
        case hyR16 => (intro w hSw; (try dsimp only at hSw); go_simp; try with_reducible rfl)
        (try simp only [Act.put, List.setIfInBounds_toArray, List.set_cons_zero, List.set_cons_succ])
        refine take_w (i := 17) (oi := ?oR17) (v := ?vR17) ?hiR17 (by kernel_rfl) (by kernel_rfl) (by kernel_rfl) ?hQR17 ?hwR17 ?hyR17 (by assumption) ?restR17
        case hiR17 => (simp only [List.getElem?_toArray, List.getElem?_cons_succ, List.getElem?_cons_zero] <;> rfl)
        case hQR17 => exact (fun _ _ _ h => h)
        case hwR17 => rfl
        case hyR17 => (intro w hSw; (try dsimp only at hSw); go_simp; try with_reducible rfl)
        (try simp only [Act.put, List.setIfInBounds_toArray, List.set_cons_zero, List.set_cons_succ])
        refine wpAnyH_ready (rs := [18]) (by kernel_rfl) (by simp) ?_
        refine AllReadyH.cons (o := ?oR18) ?hiR18 (fun K hK => ?stR18) AllReadyH.nil
        case hiR18 => (simp only [List.getElem?_toArray, List.getElem?_cons_succ, List.getElem?_cons_zero] <;> rfl)
        go_simp
        go_at_call 12
        (with_reducible refine (refNode_any a na ca la b nb cb lb c nc cc lc _ ?_ ?_ ?_ ?_ ?_ ?_).mono ?_)
        · exact HI.out.1.below HB6.out
        · omega
        · exact HI.out.2.1.below HB6.out
        · omega
        · exact HI.out.2.2.below HB6.out
        · omega
        rintro _ w7 ⟨g7, c7, rfl, ho7, hb7⟩
        have hc7 := conv_own ho7 (nodeL_bytes HI.out.1.bytes HI.out.2.1.bytes HI.out.2.2.bytes)
        have hcp7 := conv_own (own_below HO4c.out hb7 (HO4c.out.lt g4 rfl).2) (pairL_bytes HI.out.1.bytes (by omega) HI.out.2.1.bytes)
        have hcn7 := conv_own (own_below HO5c.out hb7 (HO5c.out.lt g5 rfl).2) (nodeL_bytes HI.out.1.bytes HI.out.2.1.bytes HI.out.2.2.bytes)
        have HB7 : Hid (Below w.heap.size w w7) := Lib.hid (HB6.out.trans (hb7.mono HB6.out.size))
        clear ho7 hb7
        go_simp
        refine hK.out _ _ ?_ (fun hHeld => ?_)
        · (first | exact ⟨hcp7, hcn7⟩ | exact ⟨hcp6, hcn6⟩ | exact ⟨hcp, hcn⟩)
        clear hK K
        (try simp only [Act.put, List.setIfInBounds_toArray, List.set_cons_zero, List.set_cons_succ])
        refine wpAnyH_ready (rs := [19]) (by kernel_rfl) (by simp) ?_
        refine AllReadyH.cons (o := ?oR19) ?hiR19 (fun K hK => ?stR19) AllReadyH.nil
        case hiR19 => (simp only [List.getElem?_toArray, List.getElem?_cons_succ, List.getElem?_cons_zero] <;> rfl)
        go_simp
        refine hK.out _ _ ?_ (fun hHeld => ?_)
        · (first | exact ⟨hcp7, hcn7⟩ | exact ⟨hcp6, hcn6⟩ | exact ⟨hcp, hcn⟩)
        clear hK K
        (try simp only [Act.put, List.setIfInBounds_toArray, List.set_cons_zero, List.set_cons_succ])
        refine take_w (i := 20) (oi := ?oR20) (v := ?vR20) ?hiR20 (by kernel_rfl) (by kernel_rfl) (by kernel_rfl) ?hQR20 ?hwR20 ?hyR20 (by assumption) ?restR20
        case hiR20 => (simp only [List.getElem?_toArray, List.getElem?_cons_succ, List.getElem?_cons_zero] <;> rfl)
        case hQR20 => exact (fun _ _ _ h => h)
        case hwR20 => rfl
        case hyR20 => (intro w hSw; (try dsimp only at hSw); go_simp; try with_reducible rfl)
        (try simp only [Act.put, List.setIfInBounds_toArray, List.set_cons_zero, List.set_cons_succ])
        refine take_w (i := 21) (oi := ?oR21) (v := ?vR21) ?hiR21 (by kernel_rfl) (by kernel_rfl) (by kernel_rfl) ?hQR21 ?hwR21 ?hyR21 (by assumption) ?restR21
        case hiR21 => (simp only [List.getElem?_toArray, List.getElem?_cons_succ, List.getElem?_cons_zero] <;> rfl)
        case hQR21 => exact (fun _ _ _ h => h)
        case hwR21 => rfl
        case hyR21 => (intro w hSw; (try dsimp only at hSw); go_simp; try with_reducible rfl)
        (try simp only [Act.put, List.setIfInBounds_toArray, List.set_cons_zero, List.set_cons_succ])
        refine take_w (i := 22) (oi := ?oR22) (v := ?vR22) ?hiR22 (by kernel_rfl) (by kernel_rfl) (by kernel_rfl) ?hQR22 ?hwR22 ?hyR22 (by assumption) ?restR22
        case hiR22 => (simp only [List.getElem?_toArray, List.getElem?_cons_succ, List.getElem?_cons_zero] <;> rfl)
        case hQR22 => exact (fun _ _ _ h => h)
        case hwR22 => rfl
        case hyR22 => (intro w hSw; (try dsimp only at hSw); go_simp; try with_reducible rfl)
        (try simp only [Act.put, List.setIfInBounds_toArray, List.set_cons_zero, List.set_cons_succ])
        refine wpAnyH_done (by kernel_rfl) ?_ _
        all_goals
          go_wp2_with fail
          go_ret
          exact ⟨rfl, HB7.out⟩
      · by_cases h3 : na = nb
        · have hbb : ((nb : Int) == (nb : Int)) = true := by simp
          have hba : ((na : Int) == (nb : Int)) = true := by simp; omega
          have hbc : ((nc : Int) == (nb : Int)) = false := by rw [beq_eq_false_iff_ne]; omega
          have hncb : (nc : Int) ≠ (nb : Int) := by omega
          clear h3 htwo
          go_wp2_with (first
            | (go_at_call 8
               (with_reducible refine (pair_ok _ a na ca la b nb cb lb _ ?_ hna ?_ ?_ ?_ ?_).mono ?_)
               · exact HI.out.1.below HB3.out
               · exact HI.out.2.1.below HB3.out
               · omega
               · omega
               · omega
               rintro _ w4 ⟨g4, c4, rfl, ho4, hb4⟩
               have HO4 := Lib.hid ho4
               have HB4 : Hid (Below w.heap.size w w4) := Lib.hid (HB3.out.trans (hb4.mono HB3.out.size))
               clear ho4 hb4)
            | (go_at_call 9
               (with_reducible refine (node_bad _ a na ca la b nb cb lb c nc cc lc _ ?_ hna ?_ hnb ?_ hnc hx1 hx2 ?_).mono ?_)
               · exact HI.out.1.below HB4.out
               · exact HI.out.2.1.below HB4.out
               · exact HI.out.2.2.below HB4.out
               · omega
               rintro _ w5 ⟨rfl, hb5⟩
               have HO4b := Lib.hid (own_below HO4.out hb5 (HO4.out.lt g4 rfl).2)
               have HB5 : Hid (Below w.heap.size w w5) := Lib.hid (HB4.out.trans (hb5.mono HB4.out.size))
               clear hb5)
            | (go_at_call 10
               (with_reducible refine (may_any _ _).mono ?_)
               rintro _ w9 ⟨rfl, hw9⟩
               rw [hmay, hw9]
               clear hw9))
          have hcp : (convert 22 9 (.slice (some ⟨g4, 0, none⟩) (pairL la lb).length c4)).run Try.prog w5.drew = .ok (.string (strOfNums (pairL la lb))) w5.drew := conv_own (w := w5.drew) HO4b.out (pairL_bytes HI.out.1.bytes (by omega) HI.out.2.1.bytes)
          refine wp_region_held_drew (S := (fun W => (convert 22 9 (.slice (some ⟨g4, 0, none⟩) (pairL la lb).length c4)).run Try.prog W = .ok (.string (strOfNums (pairL la lb))) W)) (by kernel_rfl) hcp (fun hHeld => ?_)
          refine take_w (i := 0) (oi := ?o0) (v := ?v0) ?hi0 (by kernel_rfl) (by kernel_rfl) (by kernel_rfl) ?hQ0 ?hw0 ?hy0 (by assumption) ?rest0
          case hi0 => (simp only [List.getElem?_toArray, List.getElem?_cons_zero] <;> rfl)
          case hQ0 => exact (fun _ _ _ h => h)
          case hw0 => rfl
          case hy0 => (intro w hSw; (try dsimp only at hSw); go_simp; try with_reducible rfl)
          (try simp only [Act.put, List.setIfInBounds_toArray, List.set_cons_zero, List.set_cons_succ])
          refine take_w (i := 1) (oi := ?o1) (v := ?v1) ?hi1 (by kernel_rfl) (by kernel_rfl) (by kernel_rfl) ?hQ1 ?hw1 ?hy1 (by assumption) ?rest1
          case hi1 => (simp only [List.getElem?_toArray, List.getElem?_cons_succ, List.getElem?_cons_zero] <;> rfl)
          case hQ1 => exact (fun _ _ _ h => h)
          case hw1 => rfl
          case hy1 => (intro w hSw; (try dsimp only at hSw); go_simp; try with_reducible rfl)
          (try simp only [Act.put, List.setIfInBounds_toArray, List.set_cons_zero, List.set_cons_succ])
          refine take_w (i := 2) (oi := ?o2) (v := ?v2) ?hi2 (by kernel_rfl) (by kernel_rfl) (by kernel_rfl) ?hQ2 ?hw2 ?hy2 (by assumption) ?rest2
          case hi2 => (simp only [List.getElem?_toArray, List.getElem?_cons_succ, List.getElem?_cons_zero] <;> rfl)
          case hQ2 => exact (fun _ _ _ h => h)
          case hw2 => rfl
          case hy2 => (intro w hSw; (try dsimp only at hSw); go_simp; try with_reducible rfl)
          (try simp only [Act.put, List.setIfInBounds_toArray, List.set_cons_zero, List.set_cons_succ])
          refine take_w (i := 3) (oi := ?o3) (v := ?v3) ?hi3 (by kernel_rfl) (by kernel_rfl) (by kernel_rfl) ?hQ3 ?hw3 ?hy3 (by assumption) ?rest3
          case hi3 => (simp only [List.getElem?_toArray, List.getElem?_cons_succ, List.getElem?_cons_zero] <;> rfl)
          case hQ3 => exact (fun _ _ _ h => h)
          case hw3 => rfl
          case hy3 => (intro w hSw; (try dsimp only at hSw); go_simp; try with_reducible rfl)
          (try simp only [Act.put, List.setIfInBounds_toArray, List.set_cons_zero, List.set_cons_succ])
          refine take_w (i := 4) (oi := ?o4) (v := ?v4) ?hi4 (by kernel_rfl) (by kernel_rfl) (by kernel_rfl) ?hQ4 ?hw4 ?hy4 (by assumption) ?rest4
          case hi4 => (simp only [List.getElem?_toArray, List.getElem?_cons_succ, List.getElem?_cons_zero] <;> rfl)
          case hQ4 => exact (fun _ _ _ h => h)
          case hw4 => rfl
          case hy4 => (intro w hSw; (try dsimp only at hSw); go_simp; try with_reducible rfl)
          (try simp only [Act.put, List.setIfInBounds_toArray, List.set_cons_zero, List.set_cons_succ])
          refine take_w (i := 5) (oi := ?o5) (v := ?v5) ?hi5 (by kernel_rfl) (by kernel_rfl) (by kernel_rfl) ?hQ5 ?hw5 ?hy5 (by assumption) ?rest5
          case hi5 => (simp only [List.getElem?_toArray, List.getElem?_cons_succ, List.getElem?_cons_zero] <;> rfl)
          case hQ5 => exact (fun _ _ _ h => h)
          case hw5 => rfl
          case hy5 => (intro w hSw; (try dsimp only at hSw); go_simp; try with_reducible rfl)
          (try simp only [Act.put, List.setIfInBounds_toArray, List.set_cons_zero, List.set_cons_succ])
          refine wpAnyH_ready (rs := [6]) (by kernel_rfl) (by simp) ?_
          refine AllReadyH.cons (o := ?o6) ?hi6 (fun K hK => ?st6) AllReadyH.nil
          case hi6 => (simp only [List.getElem?_toArray, List.getElem?_cons_succ, List.getElem?_cons_zero] <;> rfl)
          go_simp
          go_at_call 11
          (with_reducible refine (refPair_any a na ca la b nb cb lb _ ?_ hna ?_ ?_).mono ?_)
          · exact HI.out.1.below HB5.out.drew
          · exact HI.out.2.1.below HB5.out.drew
          · omega
          rintro _ w6 ⟨g6, c6, rfl, ho6, hb6⟩
          have hc6 := conv_own ho6 (pairL_bytes HI.out.1.bytes (by omega) HI.out.2.1.bytes)
          have hcp6 := conv_own (own_below (w := w5.drew) HO4b.out hb6 (HO4b.out.lt g4 rfl).2) (pairL_bytes HI.out.1.bytes (by omega) HI.out.2.1.bytes)
          have HB6 : Hid (Below w.heap.size w w6) := Lib.hid (HB5.out.drew.trans (hb6.mono HB5.out.size))
          clear ho6 hb6
          go_simp
          refine hK.out _ _ ?_ (fun hHeld => ?_)
          · (first | exact hcp6 | exact hcp)
          clear hK K
          (try simp only [Act.put, List.setIfInBounds_toArray, List.set_cons_zero, List.set_cons_succ])
          refine wpAnyH_ready (rs := [7]) (by kernel_rfl) (by simp) ?_
          refine AllReadyH.cons (o := ?o7) ?hi7 (fun K hK => ?st7) AllReadyH.nil
          case hi7 => (simp only [List.getElem?_toArray, List.getElem?_cons_succ, List.getElem?_cons_zero] <;> rfl)
          go_simp
          refine hK.out _ _ ?_ (fun hHeld => ?_)
          · (first | exact hcp6 | exact hcp)
          clear hK K
          (try simp only [Act.put, List.setIfInBounds_toArray, List.set_cons_zero, List.set_cons_succ])
          refine take_w (i := 8) (oi := ?o8) (v := ?v8) ?hi8 (by kernel_rfl) (by kernel_rfl) (by kernel_rfl) ?hQ8 ?hw8 ?hy8 (by assumption) ?rest8
          case hi8 => (simp only [List.getElem?_toArray, List.getElem?_cons_succ, List.getElem?_cons_zero] <;> rfl)
          case hQ8 => exact (fun _ _ _ h => h)
          case hw8 => rfl
          case hy8 => (intro w hSw; (try dsimp only at hSw); go_simp; try with_reducible rfl)
          (try simp only [Act.put, List.setIfInBounds_toArray, List.set_cons_zero, List.set_cons_succ])
          refine take_w (i := 9) (oi := ?o9) (v := ?v9) ?hi9 (by kernel_rfl) (by kernel_rfl) (by kernel_rfl) ?hQ9 ?hw9 ?hy9 (by assumption) ?rest9
          case hi9 => (simp only [List.getElem?_toArray, List.getElem?_cons_succ, List.getElem?_cons_zero] <;> rfl)
          case hQ9 => exact (fun _ _ _ h => h)
          case hw9 => rfl
          case hy9 => (intro w hSw; (try dsimp only at hSw); go_simp; try with_reducible rfl)
          (try simp only [Act.put, List.setIfInBounds_toArray, List.set_cons_zero, List.set_cons_succ])
          refine take_w (i := 10) (oi := ?o10) (v := ?v10) ?hi10 (by kernel_rfl) (by kernel_rfl) (by kernel_rfl) ?hQ10 ?hw10 ?hy10 (by assumption) ?rest10
          case hi10 => (simp only [List.getElem?_toArray, List.getElem?_cons_succ, List.getElem?_cons_zero] <;> rfl)
          case hQ10 => exact (fun _ _ _ h => h)
          case hw10 => rfl
          case hy10 => (intro w hSw; (try dsimp only at hSw); go_simp; try with_reducible rfl)
          (try simp only [Act.put, List.setIfInBounds_toArray, List.set_cons_zero, List.set_cons_succ])
          refine take_w (i := 11) (oi := ?o11) (v := ?v11) ?hi11 (by kernel_rfl) (by kernel_rfl) (by kernel_rfl) ?hQ11 ?hw11 ?hy11 (by assumption) ?rest11
          case hi11 => (simp only [List.getElem?_toArray, List.getElem?_cons_succ, List.getElem?_cons_zero] <;> rfl)
          case hQ11 => exact (fun _ _ _ h => h)
          case hw11 => rfl
          case hy11 => (intro w hSw; (try dsimp only at hSw); go_simp; try with_reducible rfl)
          (try simp only [Act.put, List.setIfInBounds_toArray, List.set_cons_zero, List.set_cons_succ])
          refine take_w (i := 12) (oi := ?o12) (v := ?v12) ?hi12 (by kernel_rfl) (by kernel_rfl) (by kernel_rfl) ?hQ12 ?hw12 ?hy12 (by assumption) ?rest12
          case hi12 => (simp only [List.getElem?_toArray, List.getElem?_cons_succ, List.getElem?_cons_zero] <;> rfl)
          case hQ12 => exact (fun _ _ _ h => h)
          case hw12 => rfl
          case hy12 => (intro w hSw; (try dsimp only at hSw); go_simp; try with_reducible rfl)
          (try simp only [Act.put, List.setIfInBounds_toArray, List.set_cons_zero, List.set_cons_succ])
          refine take_u (i := 13) (oi := ?o13) ?hi13 (by kernel_rfl) (by kernel_rfl) (by kernel_rfl) ?hQ13 ?hw13 (by assumption) ?rest13
          case hi13 => (simp only [List.getElem?_toArray, List.getElem?_cons_succ, List.getElem?_cons_zero] <;> rfl)
          case hQ13 => exact (fun _ _ _ h => h)
          case hw13 => rfl
          (try simp only [Act.put, List.setIfInBounds_toArray, List.set_cons_zero, List.set_cons_succ])
          refine take_u (i := 14) (oi := ?o14) ?hi14 (by kernel_rfl) (by kernel_rfl) (by kernel_rfl) ?hQ14 ?hw14 (by assumption) ?rest14
          case hi14 => (simp only [List.getElem?_toArray, List.getElem?_cons_succ, List.getElem?_cons_zero] <;> rfl)
          case hQ14 => exact (fun _ _ _ h => h)
          case hw14 => rfl
          (try simp only [Act.put, List.setIfInBounds_toArray, List.set_cons_zero, List.set_cons_succ])
          refine take_u (i := 15) (oi := ?o15) ?hi15 (by kernel_rfl) (by kernel_rfl) (by kernel_rfl) ?hQ15 ?hw15 (by assumption) ?rest15
          case hi15 => (simp only [List.getElem?_toArray, List.getElem?_cons_succ, List.getElem?_cons_zero] <;> rfl)
          case hQ15 => exact (fun _ _ _ h => h)
          case hw15 => rfl
          (try simp only [Act.put, List.setIfInBounds_toArray, List.set_cons_zero, List.set_cons_succ])
          refine take_u (i := 16) (oi := ?o16) ?hi16 (by kernel_rfl) (by kernel_rfl) (by kernel_rfl) ?hQ16 ?hw16 (by assumption) ?rest16
          case hi16 => (simp only [List.getElem?_toArray, List.getElem?_cons_succ, List.getElem?_cons_zero] <;> rfl)
          case hQ16 => exact (fun _ _ _ h => h)
          case hw16 => rfl
          (try simp only [Act.put, List.setIfInBounds_toArray, List.set_cons_zero, List.set_cons_succ])
          refine take_u (i := 17) (oi := ?o17) ?hi17 (by kernel_rfl) (by kernel_rfl) (by kernel_rfl) ?hQ17 ?hw17 (by assumption) ?rest17
          case hi17 => (simp only [List.getElem?_toArray, List.getElem?_cons_succ, List.getElem?_cons_zero] <;> rfl)
          case hQ17 => exact (fun _ _ _ h => h)
          case hw17 => rfl
          (try simp only [Act.put, List.setIfInBounds_toArray, List.set_cons_zero, List.set_cons_succ])
          refine take_u (i := 18) (oi := ?o18) ?hi18 (by kernel_rfl) (by kernel_rfl) (by kernel_rfl) ?hQ18 ?hw18 (by assumption) ?rest18
          case hi18 => (simp only [List.getElem?_toArray, List.getElem?_cons_succ, List.getElem?_cons_zero] <;> rfl)
          case hQ18 => exact (fun _ _ _ h => h)
          case hw18 => rfl
          (try simp only [Act.put, List.setIfInBounds_toArray, List.set_cons_zero, List.set_cons_succ])
          refine take_u (i := 19) (oi := ?o19) ?hi19 (by kernel_rfl) (by kernel_rfl) (by kernel_rfl) ?hQ19 ?hw19 (by assumption) ?rest19
          case hi19 => (simp only [List.getElem?_toArray, List.getElem?_cons_succ, List.getElem?_cons_zero] <;> rfl)
          case hQ19 => exact (fun _ _ _ h => h)
          case hw19 => rfl
          (try simp only [Act.put, List.setIfInBounds_toArray, List.set_cons_zero, List.set_cons_succ])
          refine take_u (i := 20) (oi := ?o20) ?hi20 (by kernel_rfl) (by kernel_rfl) (by kernel_rfl) ?hQ20 ?hw20 (by assumption) ?rest20
          case hi20 => (simp only [List.getElem?_toArray, List.getElem?_cons_succ, List.getElem?_cons_zero] <;> rfl)
          case hQ20 => exact (fun _ _ _ h => h)
          case hw20 => rfl
          (try simp only [Act.put, List.setIfInBounds_toArray, List.set_cons_zero, List.set_cons_succ])
          refine take_w (i := 21) (oi := ?o21) (v := ?v21) ?hi21 (by kernel_rfl) (by kernel_rfl) (by kernel_rfl) ?hQ21 ?hw21 ?hy21 (by assumption) ?rest21
          case hi21 => (simp only [List.getElem?_toArray, List.getElem?_cons_succ, List.getElem?_cons_zero] <;> rfl)
          case hQ21 => exact (fun _ _ _ h => h)
          case hw21 => rfl
          case hy21 => (intro w hSw; (try dsimp only at hSw); go_simp; try with_reducible rfl)
          (try simp only [Act.put, List.setIfInBounds_toArray, List.set_cons_zero, List.set_cons_succ])
          refine take_w (i := 22) (oi := ?o22) (v := ?v22) ?hi22 (by kernel_rfl) (by kernel_rfl) (by kernel_rfl) ?hQ22 ?hw22 ?hy22 (by assumption) ?rest22
          case hi22 => (simp only [List.getElem?_toArray, List.getElem?_cons_succ, List.getElem?_cons_zero] <;> rfl)
          case hQ22 => exact (fun _ _ _ h => h)
          case hw22 => rfl
          case hy22 => (intro w hSw; (try dsimp only at hSw); go_simp; try with_reducible rfl)
          (try simp only [Act.put, List.setIfInBounds_toArray, List.set_cons_zero, List.set_cons_succ])
          refine wpAnyH_done (by kernel_rfl) ?_ _
          all_goals
            go_wp2_with fail
            go_ret
            exact ⟨rfl, HB6.out⟩
        · have hbb : ((nb : Int) == (nb : Int)) = true := by simp
          have hbc : ((na : Int) == (nb : Int)) = false := by rw [beq_eq_false_iff_ne]; omega
          go_wp2_with (first
            | (go_at_call 8
               (with_reducible refine (pair_ok _ a na ca la b nb cb lb _ ?_ hna ?_ ?_ ?_ ?_).mono ?_)
               · exact HI.out.1.below HB3.out
               · exact HI.out.2.1.below HB3.out
               · omega
               · omega
               · omega
               rintro _ w4 ⟨g4, c4, rfl, ho4, hb4⟩
               have HO4 := Lib.hid ho4
               have HB4 : Hid (Below w.heap.size w w4) := Lib.hid (HB3.out.trans (hb4.mono HB3.out.size))
               clear ho4 hb4)
            | (go_at_call 9
               (with_reducible refine (node_bad _ a na ca la b nb cb lb c nc cc lc _ ?_ hna ?_ hnb ?_ hnc hx1 hx2 ?_).mono ?_)
               · exact HI.out.1.below HB4.out
               · exact HI.out.2.1.below HB4.out
               · exact HI.out.2.2.below HB4.out
               · omega
               rintro _ w5 ⟨rfl, hb5⟩
               have HO4b := Lib.hid (own_below HO4.out hb5 (HO4.out.lt g4 rfl).2)
               have HB5 : Hid (Below w.heap.size w w5) := Lib.hid (HB4.out.trans (hb5.mono HB4.out.size))
               clear hb5)
            | (go_at_call 10
               (with_reducible refine (may_any _ _).mono ?_)
               rintro _ w9 ⟨rfl, hw9⟩
               rw [hmay, hw9]
               clear hw9))
          have hcp : (convert 22 9 (.slice (some ⟨g4, 0, none⟩) (pairL la lb).length c4)).run Try.prog w5.drew = .ok (.string (strOfNums (pairL la lb))) w5.drew := conv_own (w := w5.drew) HO4b.out (pairL_bytes HI.out.1.bytes (by omega) HI.out.2.1.bytes)
          refine wp_region_held_drew (S := (fun W => (convert 22 9 (.slice (some ⟨g4, 0, none⟩) (pairL la lb).length c4)).run Try.prog W = .ok (.string (strOfNums (pairL la lb))) W)) (by kernel_rfl) hcp (fun hHeld => ?_)
          refine take_w (i := 0) (oi := ?ob0) (v := ?vb0) ?hib0 (by kernel_rfl) (by kernel_rfl) (by kernel_rfl) ?hQb0 ?hwb0 ?hyb0 (by assumption) ?restb0
          case hib0 => (simp only [List.getElem?_toArray, List.getElem?_cons_zero] <;> rfl)
          case hQb0 => exact (fun _ _ _ h => h)
          case hwb0 => rfl
          case hyb0 => (intro w hSw; (try dsimp only at hSw); go_simp; try with_reducible rfl)
          (try simp only [Act.put, List.setIfInBounds_toArray, List.set_cons_zero, List.set_cons_succ])
          refine take_w (i := 1) (oi := ?ob1) (v := ?vb1) ?hib1 (by kernel_rfl) (by kernel_rfl) (by kernel_rfl) ?hQb1 ?hwb1 ?hyb1 (by assumption) ?restb1
          case hib1 => (simp only [List.getElem?_toArray, List.getElem?_cons_succ, List.getElem?_cons_zero] <;> rfl)
          case hQb1 => exact (fun _ _ _ h => h)
          case hwb1 => rfl
          case hyb1 => (intro w hSw; (try dsimp only at hSw); go_simp; try with_reducible rfl)
          (try simp only [Act.put, List.setIfInBounds_toArray, List.set_cons_zero, List.set_cons_succ])
          refine take_w (i := 2) (oi := ?ob2) (v := ?vb2) ?hib2 (by kernel_rfl) (by kernel_rfl) (by kernel_rfl) ?hQb2 ?hwb2 ?hyb2 (by assumption) ?restb2
          case hib2 => (simp only [List.getElem?_toArray, List.getElem?_cons_succ, List.getElem?_cons_zero] <;> rfl)
          case hQb2 => exact (fun _ _ _ h => h)
          case hwb2 => rfl
          case hyb2 => (intro w hSw; (try dsimp only at hSw); go_simp; try with_reducible rfl)
          (try simp only [Act.put, List.setIfInBounds_toArray, List.set_cons_zero, List.set_cons_succ])
          refine take_w (i := 3) (oi := ?ob3) (v := ?vb3) ?hib3 (by kernel_rfl) (by kernel_rfl) (by kernel_rfl) ?hQb3 ?hwb3 ?hyb3 (by assumption) ?restb3
          case hib3 => (simp only [List.getElem?_toArray, List.getElem?_cons_succ, List.getElem?_cons_zero] <;> rfl)
          case hQb3 => exact (fun _ _ _ h => h)
          case hwb3 => rfl
          case hyb3 => (intro w hSw; (try dsimp only at hSw); go_simp; try with_reducible rfl)
          (try simp only [Act.put, List.setIfInBounds_toArray, List.set_cons_zero, List.set_cons_succ])
          refine take_w (i := 4) (oi := ?ob4) (v := ?vb4) ?hib4 (by kernel_rfl) (by kernel_rfl) (by kernel_rfl) ?hQb4 ?hwb4 ?hyb4 (by assumption) ?restb4
          case hib4 => (simp only [List.getElem?_toArray, List.getElem?_cons_succ, List.getElem?_cons_zero] <;> rfl)
          case hQb4 => exact (fun _ _ _ h => h)
          case hwb4 => rfl
          case hyb4 => (intro w hSw; (try dsimp only at hSw); go_simp; try with_reducible rfl)
          (try simp only [Act.put, List.setIfInBounds_toArray, List.set_cons_zero, List.set_cons_succ])
          refine take_w (i := 5) (oi := ?ob5) (v := ?vb5) ?hib5 (by kernel_rfl) (by kernel_rfl) (by kernel_rfl) ?hQb5 ?hwb5 ?hyb5 (by assumption) ?restb5
          case hib5 => (simp only [List.getElem?_toArray, List.getElem?_cons_succ, List.getElem?_cons_zero] <;> rfl)
          case hQb5 => exact (fun _ _ _ h => h)
          case hwb5 => rfl
          case hyb5 => (intro w hSw; (try dsimp only at hSw); go_simp; try with_reducible rfl)
          (try simp only [Act.put, List.setIfInBounds_toArray, List.set_cons_zero, List.set_cons_succ])
          refine wpAnyH_ready (rs := [6]) (by kernel_rfl) (by simp) ?_
          refine AllReadyH.cons (o := ?ob6) ?hib6 (fun K hK => ?stb6) AllReadyH.nil
          case hib6 => (simp only [List.getElem?_toArray, List.getElem?_cons_succ, List.getElem?_cons_zero] <;> rfl)
          go_simp
          go_at_call 11
          (with_reducible refine (refPair_any a na ca la b nb cb lb _ ?_ hna ?_ ?_).mono ?_)
          · exact HI.out.1.below HB5.out.drew
          · exact HI.out.2.1.below HB5.out.drew
          · omega
          rintro _ w6 ⟨g6, c6, rfl, ho6, hb6⟩
          have hc6 := conv_own ho6 (pairL_bytes HI.out.1.bytes (by omega) HI.out.2.1.bytes)
          have hcp6 := conv_own (own_below (w := w5.drew) HO4b.out hb6 (HO4b.out.lt g4 rfl).2) (pairL_bytes HI.out.1.bytes (by omega) HI.out.2.1.bytes)
          have HB6 : Hid (Below w.heap.size w w6) := Lib.hid (HB5.out.drew.trans (hb6.mono HB5.out.size))
          clear ho6 hb6
          go_simp
          refine hK.out _ _ ?_ (fun hHeld => ?_)
          · (first | exact hcp6 | exact hcp)
          clear hK K
          (try simp only [Act.put, List.setIfInBounds_toArray, List.set_cons_zero, List.set_cons_succ])
          refine wpAnyH_ready (rs := [7]) (by kernel_rfl) (by simp) ?_
          refine AllReadyH.cons (o := ?ob7) ?hib7 (fun K hK => ?stb7) AllReadyH.nil
          case hib7 => (simp only [List.getElem?_toArray, List.getElem?_cons_succ, List.getElem?_cons_zero] <;> rfl)
          go_simp
          refine hK.out _ _ ?_ (fun hHeld => ?_)
          · (first | exact hcp6 | exact hcp)
          clear hK K
          (try simp only [Act.put, List.setIfInBounds_toArray, List.set_cons_zero, List.set_cons_succ])
          refine take_w (i := 8) (oi := ?ob8) (v := ?vb8) ?hib8 (by kernel_rfl) (by kernel_rfl) (by kernel_rfl) ?hQb8 ?hwb8 ?hyb8 (by assumption) ?restb8
          case hib8 => (simp only [List.getElem?_toArray, List.getElem?_cons_succ, List.getElem?_cons_zero] <;> rfl)
          case hQb8 => exact (fun _ _ _ h => h)
          case hwb8 => rfl
          case hyb8 => (intro w hSw; (try dsimp only at hSw); go_simp; try with_reducible rfl)
          (try simp only [Act.put, List.setIfInBounds_toArray, List.set_cons_zero, List.set_cons_succ])
          refine take_w (i := 9) (oi := ?ob9) (v := ?vb9) ?hib9 (by kernel_rfl) (by kernel_rfl) (by kernel_rfl) ?hQb9 ?hwb9 ?hyb9 (by assumption) ?restb9
          case hib9 => (simp only [List.getElem?_toArray, List.getElem?_cons_succ, List.getElem?_cons_zero] <;> rfl)
          case hQb9 => exact (fun _ _ _ h => h)
          case hwb9 => rfl
          case hyb9 => (intro w hSw; (try dsimp only at hSw); go_simp; try with_reducible rfl)
          (try simp only [Act.put, List.setIfInBounds_toArray, List.set_cons_zero, List.set_cons_succ])
          refine take_w (i := 10) (oi := ?ob10) (v := ?vb10) ?hib10 (by kernel_rfl) (by kernel_rfl) (by kernel_rfl) ?hQb10 ?hwb10 ?hyb10 (by assumption) ?restb10
          case hib10 => (simp only [List.getElem?_toArray, List.getElem?_cons_succ, List.getElem?_cons_zero] <;> rfl)
          case hQb10 => exact (fun _ _ _ h => h)
          case hwb10 => rfl
          case hyb10 => (intro w hSw; (try dsimp only at hSw); go_simp; try with_reducible rfl)
          (try simp only [Act.put, List.setIfInBounds_toArray, List.set_cons_zero, List.set_cons_succ])
          refine take_w (i := 11) (oi := ?ob11) (v := ?vb11) ?hib11 (by kernel_rfl) (by kernel_rfl) (by kernel_rfl) ?hQb11 ?hwb11 ?hyb11 (by assumption) ?restb11
          case hib11 => (simp only [List.getElem?_toArray, List.getElem?_cons_succ, List.getElem?_cons_zero] <;> rfl)
          case hQb11 => exact (fun _ _ _ h => h)
          case hwb11 => rfl
          case hyb11 => (intro w hSw; (try dsimp only at hSw); go_simp; try with_reducible rfl)
          (try simp only [Act.put, List.setIfInBounds_toArray, List.set_cons_zero, List.set_cons_succ])
          refine take_w (i := 12) (oi := ?ob12) (v := ?vb12) ?hib12 (by kernel_rfl) (by kernel_rfl) (by kernel_rfl) ?hQb12 ?hwb12 ?hyb12 (by assumption) ?restb12
          case hib12 => (simp only [List.getElem?_toArray, List.getElem?_cons_succ, List.getElem?_cons_zero] <;> rfl)
          case hQb12 => exact (fun _ _ _ h => h)
          case hwb12 => rfl
          case hyb12 => (intro w hSw; (try dsimp only at hSw); go_simp; try with_reducible rfl)
          (try simp only [Act.put, List.setIfInBounds_toArray, List.set_cons_zero, List.set_cons_succ])
          refine take_u (i := 13) (oi := ?ob13) ?hib13 (by kernel_rfl) (by kernel_rfl) (by kernel_rfl) ?hQb13 ?hwb13 (by assumption) ?restb13
          case hib13 => (simp only [List.getElem?_toArray, List.getElem?_cons_succ, List.getElem?_cons_zero] <;> rfl)
          case hQb13 => exact (fun _ _ _ h => h)
          case hwb13 => rfl
          (try simp only [Act.put, List.setIfInBounds_toArray, List.set_cons_zero, List.set_cons_succ])
          refine take_u (i := 14) (oi := ?ob14) ?hib14 (by kernel_rfl) (by kernel_rfl) (by kernel_rfl) ?hQb14 ?hwb14 (by assumption) ?restb14
          case hib14 => (simp only [List.getElem?_toArray, List.getElem?_cons_succ, List.getElem?_cons_zero] <;> rfl)
          case hQb14 => exact (fun _ _ _ h => h)
          case hwb14 => rfl
          (try simp only [Act.put, List.setIfInBounds_toArray, List.set_cons_zero, List.set_cons_succ])
          refine take_u (i := 15) (oi := ?ob15) ?hib15 (by kernel_rfl) (by kernel_rfl) (by kernel_rfl) ?hQb15 ?hwb15 (by assumption) ?restb15
          case hib15 => (simp only [List.getElem?_toArray, List.getElem?_cons_succ, List.getElem?_cons_zero] <;> rfl)
          case hQb15 => exact (fun _ _ _ h => h)
          case hwb15 => rfl
          (try simp only [Act.put, List.setIfInBounds_toArray, List.set_cons_zero, List.set_cons_succ])
          refine take_u (i := 16) (oi := ?ob16) ?hib16 (by kernel_rfl) (by kernel_rfl) (by kernel_rfl) ?hQb16 ?hwb16 (by assumption) ?restb16
          case hib16 => (simp only [List.getElem?_toArray, List.getElem?_cons_succ, List.getElem?_cons_zero] <;> rfl)
          case hQb16 => exact (fun _ _ _ h => h)
          case hwb16 => rfl
          (try simp only [Act.put, List.setIfInBounds_toArray, List.set_cons_zero, List.set_cons_succ])
          refine take_u (i := 17) (oi := ?ob17) ?hib17 (by kernel_rfl) (by kernel_rfl) (by kernel_rfl) ?hQb17 ?hwb17 (by assumption) ?restb17
          case hib17 => (simp only [List.getElem?_toArray, List.getElem?_cons_succ, List.getElem?_cons_zero] <;> rfl)
          case hQb17 => exact (fun _ _ _ h => h)
          case hwb17 => rfl
          (try simp only [Act.put, List.setIfInBounds_toArray, List.set_cons_zero, List.set_cons_succ])
          refine take_u (i := 18) (oi := ?ob18) ?hib18 (by kernel_rfl) (by kernel_rfl) (by kernel_rfl) ?hQb18 ?hwb18 (by assumption) ?restb18
          case hib18 => (simp only [List.getElem?_toArray, List.getElem?_cons_succ, List.getElem?_cons_zero] <;> rfl)
          case hQb18 => exact (fun _ _ _ h => h)
          case hwb18 => rfl
          (try simp only [Act.put, List.setIfInBounds_toArray, List.set_cons_zero, List.set_cons_succ])
          refine take_u (i := 19) (oi := ?ob19) ?hib19 (by kernel_rfl) (by kernel_rfl) (by kernel_rfl) ?hQb19 ?hwb19 (by assumption) ?restb19
          case hib19 => (simp only [List.getElem?_toArray, List.getElem?_cons_succ, List.getElem?_cons_zero] <;> rfl)
          case hQb19 => exact (fun _ _ _ h => h)
          case hwb19 => rfl
          (try simp only [Act.put, List.setIfInBounds_toArray, List.set_cons_zero, List.set_cons_succ])
          refine take_u (i := 20) (oi := ?ob20) ?hib20 (by kernel_rfl) (by kernel_rfl) (by kernel_rfl) ?hQb20 ?hwb20 (by assumption) ?restb20
          case hib20 => (simp only [List.getElem?_toArray, List.getElem?_cons_succ, List.getElem?_cons_zero] <;> rfl)
          case hQb20 => exact (fun _ _ _ h => h)
          case hwb20 => rfl
          (try simp only [Act.put, List.setIfInBounds_toArray, List.set_cons_zero, List.set_cons_succ])
          refine take_w (i := 21) (oi := ?ob21) (v := ?vb21) ?hib21 (by kernel_rfl) (by kernel_rfl) (by kernel_rfl) ?hQb21 ?hwb21 ?hyb21 (by assumption) ?restb21
          case hib21 => (simp only [List.getElem?_toArray, List.getElem?_cons_succ, List.getElem?_cons_zero] <;> rfl)
          case hQb21 => exact (fun _ _ _ h => h)
          case hwb21 => rfl
          case hyb21 => (intro w hSw; (try dsimp only at hSw); go_simp; try with_reducible rfl)
          (try simp only [Act.put, List.setIfInBounds_toArray, List.set_cons_zero, List.set_cons_succ])
          refine take_w (i := 22) (oi := ?ob22) (v := ?vb22) ?hib22 (by kernel_rfl) (by kernel_rfl) (by kernel_rfl) ?hQb22 ?hwb22 ?hyb22 (by assumption) ?restb22
          case hib22 => (simp only [List.getElem?_toArray, List.getElem?_cons_succ, List.getElem?_cons_zero] <;> rfl)
          case hQb22 => exact (fun _ _ _ h => h)
          case hwb22 => rfl
          case hyb22 => (intro w hSw; (try dsimp only at hSw); go_simp; try with_reducible rfl)
          (try simp only [Act.put, List.setIfInBounds_toArray, List.set_cons_zero, List.set_cons_succ])
          refine wpAnyH_done (by kernel_rfl) ?_ _
          all_goals
            go_wp2_with fail
            go_ret
            exact ⟨rfl, HB6.out⟩
    · by_cases hw : 1 ≤ x ∧ x ≤ 32
      · have hmay : decide (1 ≤ x ∧ x ≤ 32) = true := by simp; omega
        have hbb : ((nb : Int) == x) = false := by rw [beq_eq_false_iff_ne]; omega
        go_wp2_with (first
          | (go_at_call 8
             (with_reducible refine (pair_bad _ a na ca la b nb cb lb _ ?_ hna ?_ hnb hx1 hx2 ?_).mono ?_)
             · exact HI.out.1.below HB3.out
             · exact HI.out.2.1.below HB3.out
             · omega
             rintro _ w4 ⟨rfl, hb4⟩
             have HB4 : Hid (Below w.heap.size w w4) := Lib.hid (HB3.out.trans (hb4.mono HB3.out.size))
             clear hb4)
          | (go_at_call 9
             (with_reducible refine (node_bad _ a na ca la b nb cb lb c nc cc lc _ ?_ hna ?_ hnb ?_ hnc hx1 hx2 ?_).mono ?_)
             · exact HI.out.1.below HB4.out
             · exact HI.out.2.1.below HB4.out
             · exact HI.out.2.2.below HB4.out
             · omega
             rintro _ w5 ⟨rfl, hb5⟩
             have HB5 : Hid (Below w.heap.size w w5) := Lib.hid (HB4.out.trans (hb5.mono HB4.out.size))
             clear hb5)
          | (go_at_call 10
             (with_reducible refine (may_any _ _).mono ?_)
             rintro _ w9 ⟨rfl, hw9⟩
             rw [hmay, hw9]
             clear hw9))
        go_quiet (fail)
        go_wp2_with fail
        go_ret
        exact ⟨rfl, below_drawn HB5.out _⟩
      · have hmay : decide (1 ≤ x ∧ x ≤ 32) = false := by simp; omega
        go_wp2_with (first
          | (go_at_call 8
             (with_reducible refine (pair_bad _ a na ca la b nb cb lb _ ?_ hna ?_ hnb hx1 hx2 ?_).mono ?_)
             · exact HI.out.1.below HB3.out
             · exact HI.out.2.1.below HB3.out
             · omega
             rintro _ w4 ⟨rfl, hb4⟩
             have HB4 : Hid (Below w.heap.size w w4) := Lib.hid (HB3.out.trans (hb4.mono HB3.out.size))
             clear hb4)
          | (go_at_call 9
             (with_reducible refine (node_bad _ a na ca la b nb cb lb c nc cc lc _ ?_ hna ?_ hnb ?_ hnc hx1 hx2 ?_).mono ?_)
             · exact HI.out.1.below HB4.out
             · exact HI.out.2.1.below HB4.out
             · exact HI.out.2.2.below HB4.out
             · omega
             rintro _ w5 ⟨rfl, hb5⟩
             have HB5 : Hid (Below w.heap.size w w5) := Lib.hid (HB4.out.trans (hb5.mono HB4.out.size))
             clear hb5)
          | (go_at_call 10
             (with_reducible refine (may_any _ _).mono ?_)
             rintro _ w9 ⟨rfl, hw9⟩
             rw [hmay, hw9]
             clear hw9))
        go_quiet (fail)
        go_wp2_with fail
        go_ret
        exact ⟨rfl, below_drawn HB5.out _⟩
end Go.Proofs.Ytdmfjnohkpiaiaa
