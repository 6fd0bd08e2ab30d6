/- The walk of the law DigestOf. -/
import Derived.Test.YtdmfjnohkpiaiaaDoorRefOf
import Derived.Test.YtdmfjnohkpiaiaaDoorPrOf
import Derived.Test.YtdmfjnohkpiaiaaDoorDigUp
namespace Go.Proofs.YtdmfjnohkpiaiaaDoor
open Go.RowKit
set_option linter.unusedVariables false

theorem cvOf {w : World} {g k : Nat} {bs : List Int} (h : Row .u8 w 5 g (sumL bs)) (hk : k ≤ 32) : (convert 22 9 (.slice (some ⟨g, 0, none⟩) k 32)).run Tryd.prog w = .ok (.string (strOfNums ((sumL bs).take k))) w :=
  conv_in (P := Tryd.prog) (of_in32 h hk) 22 5 9 Tryd.underlying22 Tryd.underlying5 Tryd.underlying9
theorem tb_all {w : World} {g : Nat} {v : Value} (h : TB w g v hTab) : w.cell? ⟨g, 0, none⟩ = some v ∧ w.cell? ⟨g, 1, none⟩ = some (.int .u32 1779033703) ∧ w.cell? ⟨g, 2, none⟩ = some (.int .u32 3144134277) ∧ w.cell? ⟨g, 3, none⟩ = some (.int .u32 1013904242) ∧ w.cell? ⟨g, 4, none⟩ = some (.int .u32 2773480762) ∧ w.cell? ⟨g, 5, none⟩ = some (.int .u32 1359893119) ∧ w.cell? ⟨g, 6, none⟩ = some (.int .u32 2600822924) ∧ w.cell? ⟨g, 7, none⟩ = some (.int .u32 528734635) ∧ w.cell? ⟨g, 8, none⟩ = some (.int .u32 1541459225) := ⟨h.cell0, tb_cells h⟩

set_option maxRecDepth 100000 in
set_option maxHeartbeats 4000000 in
theorem of_law (x : Int) (a : Option Addr) (n0 cap : Nat) (bs0 : List Int) (w : World) (hx1 : -9223372036854775808 ≤ x) (hx2 : x ≤ 9223372036854775807) (hin0 : InBytes w a n0 cap bs0) (hT : TabLies w) :
    Calls Tryd.prog 3 #[.int .i64 x, .slice a n0 cap] w fun e w' => e = .returned (.bool true) ∧ Below w.heap.size w w' := by
  have hle0 := hin0.le
  have hmax := hin0.max
  simp only [maxLen] at hmax
  have heq : ∀ (W : World) (p q : Int), (binOp .eql 25 (.iface 29 (.int .i64 p)) (.iface 29 (.int .i64 q))).run Tryd.prog W = .ok (.bool (p == q)) W := fun W p q => eql_code p q W
  have HU := Lib.hid (upD_any w)
  have HIN0 := Lib.hid hin0
  have HT := Lib.hid hT
  clear hin0 hT
  go_enter Tryd.func3, Tryd.ntmps3
  go_upto_if 13 with (first
    | (go_at_call 5
       (with_reducible refine HU.out.mono ?_)
       rintro _ w0 ⟨rfl, hb0⟩
       have HB0 := Lib.hid hb0
       clear hb0))
  go_cut [1] (fun s1 wx => ∃ (n : Nat) (bs : List Int), s1 = .slice a n cap ∧ n ≤ 5000 ∧ InBytes w a n cap bs ∧ wx = w0)
  case first =>
    by_cases hb : n0 ≤ 5000
    · have hb2 : ¬ (5000 : Int) < (n0 : Int) := by omega
      go_wp2_with fail
      go_meet
      exact ⟨n0, bs0, rfl, hb, HIN0.out, rfl⟩
    · have hb2 : (5000 : Int) < (n0 : Int) := by omega
      have hb3 : (5000 : Int) ≤ (cap : Int) := by omega
      go_wp2_with fail
      go_meet
      exact ⟨5000, bs0.take 5000, rfl, by omega, HIN0.out.upto 5000 (by omega), rfl⟩
  case rest =>
    obtain ⟨n, bs, rfl, hn, hin, hwc⟩ := hcut
    rw [hwc]
    have HIN := Lib.hid hin
    clear hin HIN0 hwc
    by_cases hw : 1 ≤ x ∧ x ≤ 32
    · obtain ⟨k, rfl⟩ : ∃ k : Nat, x = (k : Int) := ⟨x.toNat, by omega⟩
      have hmay : decide (1 ≤ (k : Int) ∧ (k : Int) ≤ 32) = true := by simp; omega
      have hk1 : 1 ≤ k := by omega
      have hk2 : k ≤ 32 := by omega
      have hcode : (n : Int) ≤ 1125899906842624 := by omega
      clear hw
      go_wp2_with (first
        | (go_at_call 6
           (with_reducible refine (of_ok k a n cap bs _ ?_ hcode ?_ hk1 hk2).mono ?_)
           · exact HIN.out.below HB0.out
           · exact HT.out.below HB0.out (Nat.le_refl _)
           rintro _ wd ⟨gd, hgd, rfl, hrd, hbd⟩
           have HRD := Lib.hid hrd
           have HBD : Hid (Below w.heap.size w wd) := Lib.hid (HB0.out.trans (hbd.mono HB0.out.size))
           clear hrd hbd hgd)
        | (go_at_call 7
           (with_reducible refine (may_any _ _).mono ?_)
           rintro _ w9 ⟨rfl, hw9⟩
           rw [hmay, hw9]
           clear hw9)
        | (go_at_call 8
           refine (made_any _).mono ?_
           rintro _ w1 ⟨gk, ck, rfl, ho1, hb1⟩
           have HO1 := Lib.hid ho1
           have HBd1 := Lib.hid hb1
           have HB1 : Hid (Below w.heap.size w w1) := Lib.hid (HBD.out.trans (hb1.mono HBD.out.size))
           have hgk := (ho1.lt gk rfl).2
           clear ho1 hb1)
        | (refine wpList_store_row rfl 34 (.tmp 9) (.tmp 37) rfl w1.heap.size (Value.slice (some ⟨gk, 0, none⟩) 64 ck :: hTab.map (Value.int .u32)).toArray rfl rfl 34 _ (tabZero w1) sizeTab rfl (by simp [Value.oneCell']) ?_
           obtain ⟨w2, hw2⟩ : ∃ w2, w2 = (w1.alloc (.cells #[.slice none 0 0, .int .u32 0, .int .u32 0, .int .u32 0, .int .u32 0, .int .u32 0, .int .u32 0, .int .u32 0, .int .u32 0] 34)).setRow w1.heap.size (Value.slice (some ⟨gk, 0, none⟩) 64 ck :: hTab.map (Value.int .u32)).toArray := ⟨_, rfl⟩
           rw [← hw2]
           have hg2 : (w1.alloc (.cells #[.slice none 0 0, .int .u32 0, .int .u32 0, .int .u32 0, .int .u32 0, .int .u32 0, .int .u32 0, .int .u32 0, .int .u32 0] 34)).grownBy w2 (some w1.heap.size) := by rw [hw2]; exact ⟨rfl, rfl, rfl, by simp, fun q hq hne => setRow_other _ w1.heap.size q _ (fun e => hne (by rw [e]))⟩
           have HT2 : Hid (TB w2 w1.heap.size (.slice (some ⟨gk, 0, none⟩) 64 ck) hTab) := Lib.hid (by rw [hw2]; exact setRow_heap _ w1.heap.size _ _ _ _ (tabZero w1))
           have HO2 : Hid (Seg .u32 w2 gk 0 kTab) := Lib.hid (own_seg ((HO1.out.alloc _).kept hg2 (.inr (by simp [Value.ownBlock]; omega))))
           have HB2 : Hid (Below w.heap.size w w2) := Lib.hid (below_only (HB1.out.alloc HB1.out.size _) hg2 (by have := HB1.out.size; simp; omega) HB1.out.size)
           have HRD2 := Lib.hid (HRD.out.below (w' := w2) (below_only (HBd1.out.alloc HBd1.out.size _) hg2 (by have := HBd1.out.size; simp; omega) HBd1.out.size) HRD.out.lt)
           have hsz2 : w1.heap.size < w2.heap.size := HT2.out.lt
           clear hw2 hg2))
      have hc : ∀ W, Below w2.heap.size w2 W → Calls Tryd.prog 9 #[.agg #[.slice (some ⟨gk, 0, none⟩) 64 ck, .int .u32 1779033703, .int .u32 3144134277, .int .u32 1013904242, .int .u32 2773480762, .int .u32 1359893119, .int .u32 2600822924, .int .u32 528734635, .int .u32 1541459225], .int .i64 k, .slice a n cap] W (OfPost W k bs) := fun W hW =>
        refOf_any k hk1 hk2 a n cap gk ck bs W (HIN.out.below (HB2.out.trans (hW.mono HB2.out.size))) (by omega) (HO2.out.below hW (by omega)) (by have := hW.size; omega)
      have HC := Lib.hid hc
      have hS2 := tb_all HT2.out
      have v2 := cvOf2 HRD2.out hk2
      clear hc
      refine wp_region_held_drew (S := (fun W => (convert 22 9 (.slice (some ⟨gd, 0, none⟩) k k)).run Tryd.prog W = .ok (.string (strOfNums ((sumL bs).take k))) W ∧ W.cell? ⟨w1.heap.size, 0, none⟩ = some (.slice (some ⟨gk, 0, none⟩) 64 ck) ∧ W.cell? ⟨w1.heap.size, 1, none⟩ = some (.int .u32 1779033703) ∧ W.cell? ⟨w1.heap.size, 2, none⟩ = some (.int .u32 3144134277) ∧ W.cell? ⟨w1.heap.size, 3, none⟩ = some (.int .u32 1013904242) ∧ W.cell? ⟨w1.heap.size, 4, none⟩ = some (.int .u32 2773480762) ∧ W.cell? ⟨w1.heap.size, 5, none⟩ = some (.int .u32 1359893119) ∧ W.cell? ⟨w1.heap.size, 6, none⟩ = some (.int .u32 2600822924) ∧ W.cell? ⟨w1.heap.size, 7, none⟩ = some (.int .u32 528734635) ∧ W.cell? ⟨w1.heap.size, 8, none⟩ = some (.int .u32 1541459225))) (by kernel_rfl) ⟨cvOf2 (w := w2.drew) HRD2.out hk2, hS2⟩ (fun hHeld => ?_)
      refine take_w (i := 0) (oi := ?o0) (v := ?v0) ?hi0 (by kernel_rfl) (by kernel_rfl) (by kernel_rfl) ?hQ0 ?hw0 ?hy0 (by assumption) ?rest0
      case hi0 => (simp only [List.getElem?_toArray, List.getElem?_cons_zero] <;> rfl)
      case hQ0 => exact (fun _ _ _ h => h)
      case hw0 => rfl
      case hy0 => (intro w hSw; (try dsimp only at hSw); go_simp; try with_reducible rfl)
      (try simp only [Act.put, List.setIfInBounds_toArray, List.set_cons_zero, List.set_cons_succ])
      refine take_w (i := 1) (oi := ?o1) (v := ?v1) ?hi1 (by kernel_rfl) (by kernel_rfl) (by kernel_rfl) ?hQ1 ?hw1 ?hy1 (by assumption) ?rest1
      case hi1 => (simp only [List.getElem?_toArray, List.getElem?_cons_succ, List.getElem?_cons_zero] <;> rfl)
      case hQ1 => exact (fun _ _ _ h => h)
      case hw1 => rfl
      case hy1 => (intro w hSw; (try dsimp only at hSw); go_simp; try with_reducible rfl)
      (try simp only [Act.put, List.setIfInBounds_toArray, List.set_cons_zero, List.set_cons_succ])
      refine take_w (i := 2) (oi := ?o2) (v := ?v2) ?hi2 (by kernel_rfl) (by kernel_rfl) (by kernel_rfl) ?hQ2 ?hw2 ?hy2 (by assumption) ?rest2
      case hi2 => (simp only [List.getElem?_toArray, List.getElem?_cons_succ, List.getElem?_cons_zero] <;> rfl)
      case hQ2 => exact (fun _ _ _ h => h)
      case hw2 => rfl
      case hy2 => (intro w hSw; (try dsimp only at hSw); go_simp; try with_reducible rfl)
      (try simp only [Act.put, List.setIfInBounds_toArray, List.set_cons_zero, List.set_cons_succ])
      refine take_w (i := 3) (oi := ?o3) (v := ?v3) ?hi3 (by kernel_rfl) (by kernel_rfl) (by kernel_rfl) ?hQ3 ?hw3 ?hy3 (by assumption) ?rest3
      case hi3 => (simp only [List.getElem?_toArray, List.getElem?_cons_succ, List.getElem?_cons_zero] <;> rfl)
      case hQ3 => exact (fun _ _ _ h => h)
      case hw3 => rfl
      case hy3 => (intro w hSw; (try dsimp only at hSw); go_simp; try with_reducible rfl)
      (try simp only [Act.put, List.setIfInBounds_toArray, List.set_cons_zero, List.set_cons_succ])
      refine take_w (i := 4) (oi := ?o4) (v := ?v4) ?hi4 (by kernel_rfl) (by kernel_rfl) (by kernel_rfl) ?hQ4 ?hw4 ?hy4 (by assumption) ?rest4
      case hi4 => (simp only [List.getElem?_toArray, List.getElem?_cons_succ, List.getElem?_cons_zero] <;> rfl)
      case hQ4 => exact (fun _ _ _ h => h)
      case hw4 => rfl
      case hy4 => (intro w hSw; (try dsimp only at hSw); go_simp; try with_reducible rfl)
      (try simp only [Act.put, List.setIfInBounds_toArray, List.set_cons_zero, List.set_cons_succ])
      refine take_w (i := 5) (oi := ?o5) (v := ?v5) ?hi5 (by kernel_rfl) (by kernel_rfl) (by kernel_rfl) ?hQ5 ?hw5 ?hy5 (by assumption) ?rest5
      case hi5 => (simp only [List.getElem?_toArray, List.getElem?_cons_succ, List.getElem?_cons_zero] <;> rfl)
      case hQ5 => exact (fun _ _ _ h => h)
      case hw5 => rfl
      case hy5 => (intro w hSw; (try dsimp only at hSw); go_simp; try with_reducible rfl)
      (try simp only [Act.put, List.setIfInBounds_toArray, List.set_cons_zero, List.set_cons_succ])
      refine take_w (i := 6) (oi := ?o6) (v := ?v6) ?hi6 (by kernel_rfl) (by kernel_rfl) (by kernel_rfl) ?hQ6 ?hw6 ?hy6 (by assumption) ?rest6
      case hi6 => (simp only [List.getElem?_toArray, List.getElem?_cons_succ, List.getElem?_cons_zero] <;> rfl)
      case hQ6 => exact (fun _ _ _ h => h)
      case hw6 => rfl
      case hy6 => (intro w hSw; (try dsimp only at hSw); go_simp; try with_reducible rfl)
      (try simp only [Act.put, List.setIfInBounds_toArray, List.set_cons_zero, List.set_cons_succ])
      refine take_w (i := 7) (oi := ?o7) (v := ?v7) ?hi7 (by kernel_rfl) (by kernel_rfl) (by kernel_rfl) ?hQ7 ?hw7 ?hy7 (by assumption) ?rest7
      case hi7 => (simp only [List.getElem?_toArray, List.getElem?_cons_succ, List.getElem?_cons_zero] <;> rfl)
      case hQ7 => exact (fun _ _ _ h => h)
      case hw7 => rfl
      case hy7 => (intro w hSw; (try dsimp only at hSw); go_simp; try with_reducible rfl)
      (try simp only [Act.put, List.setIfInBounds_toArray, List.set_cons_zero, List.set_cons_succ])
      refine take_w (i := 8) (oi := ?o8) (v := ?v8) ?hi8 (by kernel_rfl) (by kernel_rfl) (by kernel_rfl) ?hQ8 ?hw8 ?hy8 (by assumption) ?rest8
      case hi8 => (simp only [List.getElem?_toArray, List.getElem?_cons_succ, List.getElem?_cons_zero] <;> rfl)
      case hQ8 => exact (fun _ _ _ h => h)
      case hw8 => rfl
      case hy8 => (intro w hSw; (try dsimp only at hSw); go_simp; try with_reducible rfl)
      (try simp only [Act.put, List.setIfInBounds_toArray, List.set_cons_zero, List.set_cons_succ])
      refine take_w (i := 9) (oi := ?o9) (v := ?v9) ?hi9 (by kernel_rfl) (by kernel_rfl) (by kernel_rfl) ?hQ9 ?hw9 ?hy9 (by assumption) ?rest9
      case hi9 => (simp only [List.getElem?_toArray, List.getElem?_cons_succ, List.getElem?_cons_zero] <;> rfl)
      case hQ9 => exact (fun _ _ _ h => h)
      case hw9 => rfl
      case hy9 => (intro w hSw; (try dsimp only at hSw); go_simp; try with_reducible rfl)
      (try simp only [Act.put, List.setIfInBounds_toArray, List.set_cons_zero, List.set_cons_succ])
      refine take_w (i := 10) (oi := ?o10) (v := ?v10) ?hi10 (by kernel_rfl) (by kernel_rfl) (by kernel_rfl) ?hQ10 ?hw10 ?hy10 (by assumption) ?rest10
      case hi10 => (simp only [List.getElem?_toArray, List.getElem?_cons_succ, List.getElem?_cons_zero] <;> rfl)
      case hQ10 => exact (fun _ _ _ h => h)
      case hw10 => rfl
      case hy10 => (intro w hSw; (try dsimp only at hSw); go_simp; try with_reducible rfl)
      (try simp only [Act.put, List.setIfInBounds_toArray, List.set_cons_zero, List.set_cons_succ])
      refine wpAnyH_ready (rs := [11]) (by kernel_rfl) (by simp) ?_
      refine AllReadyH.cons (o := ?o11) ?hi11 (fun K hK => ?st11) AllReadyH.nil
      case hi11 => (simp only [List.getElem?_toArray, List.getElem?_cons_succ, List.getElem?_cons_zero] <;> rfl)
      go_simp
      go_at_call 9
      (with_reducible refine (HC.out _ ?_).mono ?_)
      · exact (Below.refl _ _).drew
      rintro _ w7 ⟨g7, hg7, rfl, hr7, hb7⟩
      have HB7 := Lib.hid hb7
      have v3 := cvOf hr7 hk2
      have v4 := cvOf2 (Row.below (w := w2.drew) (w' := w7) HRD2.out hb7 HRD2.out.lt) hk2
      have hS7 := tb_all (TB.below (w := w2.drew) (w' := w7) HT2.out hb7 HT2.out.lt)
      clear hr7 hb7
      go_simp
      refine hK.out _ _ ?_ (fun hHeld => ?_)
      · (first | exact ⟨v4, hS7⟩ | exact ⟨v2, hS2⟩)
      clear hK K
      (try simp only [Act.put, List.setIfInBounds_toArray, List.set_cons_zero, List.set_cons_succ])
      refine wpAnyH_ready (rs := [12]) (by kernel_rfl) (by simp) ?_
      refine AllReadyH.cons (o := ?o12) ?hi12 (fun K hK => ?st12) AllReadyH.nil
      case hi12 => (simp only [List.getElem?_toArray, List.getElem?_cons_succ, List.getElem?_cons_zero] <;> rfl)
      go_simp
      refine hK.out _ _ ?_ (fun hHeld => ?_)
      · (first | exact ⟨v4, hS7⟩ | exact ⟨v2, hS2⟩)
      clear hK K
      (try simp only [Act.put, List.setIfInBounds_toArray, List.set_cons_zero, List.set_cons_succ])
      refine take_w (i := 13) (oi := ?o13) (v := ?v13) ?hi13 (by kernel_rfl) (by kernel_rfl) (by kernel_rfl) ?hQ13 ?hw13 ?hy13 (by assumption) ?rest13
      case hi13 => (simp only [List.getElem?_toArray, List.getElem?_cons_succ, List.getElem?_cons_zero] <;> rfl)
      case hQ13 => exact (fun _ _ _ h => h)
      case hw13 => rfl
      case hy13 => (intro w hSw; (try dsimp only at hSw); go_simp; try with_reducible rfl)
      (try simp only [Act.put, List.setIfInBounds_toArray, List.set_cons_zero, List.set_cons_succ])
      refine take_w (i := 14) (oi := ?o14) (v := ?v14) ?hi14 (by kernel_rfl) (by kernel_rfl) (by kernel_rfl) ?hQ14 ?hw14 ?hy14 (by assumption) ?rest14
      case hi14 => (simp only [List.getElem?_toArray, List.getElem?_cons_succ, List.getElem?_cons_zero] <;> rfl)
      case hQ14 => exact (fun _ _ _ h => h)
      case hw14 => rfl
      case hy14 => (intro w hSw; (try dsimp only at hSw); go_simp; try with_reducible rfl)
      (try simp only [Act.put, List.setIfInBounds_toArray, List.set_cons_zero, List.set_cons_succ])
      refine take_w (i := 15) (oi := ?o15) (v := ?v15) ?hi15 (by kernel_rfl) (by kernel_rfl) (by kernel_rfl) ?hQ15 ?hw15 ?hy15 (by assumption) ?rest15
      case hi15 => (simp only [List.getElem?_toArray, List.getElem?_cons_succ, List.getElem?_cons_zero] <;> rfl)
      case hQ15 => exact (fun _ _ _ h => h)
      case hw15 => rfl
      case hy15 => (intro w hSw; (try dsimp only at hSw); go_simp; try with_reducible rfl)
      (try simp only [Act.put, List.setIfInBounds_toArray, List.set_cons_zero, List.set_cons_succ])
      refine wpAnyH_done (by kernel_rfl) ?_ _
      go_wp2_with fail
      go_ret
      exact ⟨rfl, HB2.out.drew.trans (HB7.out.mono HB2.out.size)⟩
    · have hmay : decide (1 ≤ x ∧ x ≤ 32) = false := by simp; omega
      go_wp2_with (first
        | (go_at_call 6
           (with_reducible refine (of_bad x a n cap _ hx1 hx2 hw).mono ?_)
           rintro _ w1 ⟨rfl, hb1⟩
           have HB1 : Hid (Below w.heap.size w w1) := Lib.hid (HB0.out.trans (hb1.mono HB0.out.size))
           clear hb1)
        | (go_at_call 7
           (with_reducible refine (may_any _ _).mono ?_)
           rintro _ w9 ⟨rfl, hw9⟩
           rw [hmay, hw9]
           clear hw9))
      go_ret
      exact ⟨rfl, HB1.out⟩
end Go.Proofs.YtdmfjnohkpiaiaaDoor
