/- The walk of the law AvlDeletes. -/
import Derived.Test.YtolpdidjabbipaaAvlTwo
import Derived.Test.YtolpdidjabbipaaTake
namespace Go.Proofs.Ytolpdidjabbipaa
open Go.RowKit
set_option linter.unusedVariables false

set_option maxRecDepth 100000 in
set_option maxHeartbeats 4000000 in
theorem avlDeletes_law (t : Tr) (h : TH) (key : List Int) (ka : Option Addr) (kn kc : Nat) (w : World) (ht : InTree w h t) (hk : InBytes w ka kn kc key) :
    Calls Try.prog 6 #[h.v, .slice ka kn kc] w (Says w (.bool true)) := by
  unfold TH.v
  have hd0 := TW.new w ht
  have HD0 := Lib.hid hd0
  have HK := Lib.hid hk
  clear ht hd0 hk
  go_enter Try.func6, Try.ntmps6
  go_upto_region 3 with (first
    | (go_at_call 8
       refine (up5_any _).mono ?_
       rintro _ w1 ⟨rfl, hb1⟩
       have hd1 := HD0.out.below hb1
       have HD1 := Lib.hid hd1
       obtain ⟨x0, x1, x2, x3, x4⟩ := hd1.box.cells
       clear hb1 hd1)
    | (go_at_call 9
       refine (small5_any t h _ HD1.out.t).mono ?_
       rintro _ w2 ⟨ok, rfl, hok, hb2⟩
       have hd2 := HD1.out.below hb2
       have HD2 := Lib.hid hd2
       have HOK := Lib.hid hok
       clear x0 x1 x2 x3 x4
       obtain ⟨x0, x1, x2, x3, x4⟩ := hd2.box.cells
       clear hb2 hd2 hok))
  cases ok with
  | false =>
    go_wp2_with fail
    go_ret
    exact ⟨rfl, HD2.out.b⟩
  | true =>
    have hcn := HOK.out rfl
    clear HOK
    by_cases c : 5000 < kn
    · have q1 : (5000 : Int) < (kn : Int) := by omega
      go_wp2_with fail
      go_ret
      exact ⟨rfl, HD2.out.b⟩
    · have q1 : ¬ (5000 : Int) < (kn : Int) := by omega
      by_cases hbad : badA t kn 0 = 0
      · obtain ⟨⟨a, e, hbal, -, hlim, -⟩, hkn, hvn⟩ := badA_zero hbad
        subst e
        have hsh := AT.shallow hbal (Nat.le_trans (small_pairs hlim hcn) (by omega))
        have HLIM := Lib.hid hlim
        have HBAD := Lib.hid hbad
        have HBAL := Lib.hid hbal
        clear hbad hlim hbal
        generalize hgo : a.get key = o
        have HGO := Lib.hid hgo
        clear hgo
        have hbe : (o.isSome == o.isSome) = true := by cases o <;> rfl
        go_upto_region 10 with (first
          | (go_at_call 19
             refine (del_ok a h key ka kn kc _ HD2.out.t (HK.out.below HD2.out.b) HBAD.out).mono ?_
             rw [HGO.out]
             rintro _ w3 ⟨h3, rfl, hi3, hb3⟩
             have HD3 := Lib.hid (HD2.out.below hb3)
             have HI3 := Lib.hid hi3
             clear hi3 hb3 x0 x1 x2 x3 x4)
          | (refine wpList_store_box rfl 25 (.tmp 7) (.tmp 28) rfl w3.heap.size hZ h3 rfl rfl 25 (Box.new w3 25 hZ) infoTree5 ?_
             intro v3 hbx3 hg3
             have HU3 := Lib.hid (UX.new HD3.out HI3.out hbx3 hg3)
             obtain ⟨x0, x1, x2, x3, x4⟩ := HU3.out.d.box.cells
             clear hbx3 hg3)
          | (go_at_call 13
             refine (asked_any a.tr h ka none kn kc 0 0 _ HU3.out.d.t (by omega)).mono ?_
             rw [HBAD.out]
             rintro _ w4 ⟨rfl, hb4⟩
             have HU4 := Lib.hid (HU3.out.below hb4)
             clear x0 x1 x2 x3 x4
             obtain ⟨x0, x1, x2, x3, x4⟩ := HU4.out.d.box.cells
             clear hb4)
          | (go_at_call 15
             refine (refGet_any a h key ka kn kc _ HU4.out.d.t HLIM.out (by omega) (HK.out.below HU4.out.d.b)).mono ?_
             rw [HGO.out]
             rintro _ w5 ⟨a5, n5, c5, rfl, -, hb5⟩
             have HU5 := Lib.hid (HU4.out.below hb5)
             clear hb5 x0 x1 x2 x3 x4))
        refine wp_region_held_drew (S := (fun W => (W.cell? ⟨w.heap.size, 0, none⟩ = some (.int .i64 h.k) ∧ W.cell? ⟨w.heap.size, 1, none⟩ = some (.slice h.ka h.kn h.kc) ∧ W.cell? ⟨w.heap.size, 2, none⟩ = some (.slice h.va h.vn h.vc) ∧ W.cell? ⟨w.heap.size, 3, none⟩ = some (.slice h.da h.dn h.dc) ∧ W.cell? ⟨w.heap.size, 4, none⟩ = some (.slice h.ta h.tn h.tc)) ∧ W.cell? ⟨w3.heap.size, 0, none⟩ = some (.int .i64 h3.k) ∧ W.cell? ⟨w3.heap.size, 1, none⟩ = some (.slice h3.ka h3.kn h3.kc) ∧ W.cell? ⟨w3.heap.size, 2, none⟩ = some (.slice h3.va h3.vn h3.vc) ∧ W.cell? ⟨w3.heap.size, 3, none⟩ = some (.slice h3.da h3.dn h3.dc) ∧ W.cell? ⟨w3.heap.size, 4, none⟩ = some (.slice h3.ta h3.tn h3.tc))) (by kernel_rfl) ⟨HU5.out.drew.d.box.cells, HU5.out.drew.box.cells⟩ (fun hHeld => ?_)
        refine take_w (i := 0) (oi := ?oZ41) (v := ?vZ41) ?hiZ41 (by kernel_rfl) (by kernel_rfl) (by kernel_rfl) ?hQZ41 ?hwZ41 ?hyZ41 (by assumption) ?restZ41
        case hiZ41 => (simp only [List.getElem?_toArray, List.getElem?_cons_zero] <;> rfl)
        case hQZ41 => exact (fun _ _ _ h => h)
        case hwZ41 => rfl
        case hyZ41 => (intro w hSw; (try dsimp only at hSw); go_simp; try with_reducible rfl)
        (try simp only [Act.put, List.setIfInBounds_toArray, List.set_cons_zero, List.set_cons_succ])
        refine take_w (i := 1) (oi := ?oZ42) (v := ?vZ42) ?hiZ42 (by kernel_rfl) (by kernel_rfl) (by kernel_rfl) ?hQZ42 ?hwZ42 ?hyZ42 (by assumption) ?restZ42
        case hiZ42 => (simp only [List.getElem?_toArray, List.getElem?_cons_succ, List.getElem?_cons_zero] <;> rfl)
        case hQZ42 => exact (fun _ _ _ h => h)
        case hwZ42 => rfl
        case hyZ42 => (intro w hSw; (try dsimp only at hSw); go_simp; try with_reducible rfl)
        (try simp only [Act.put, List.setIfInBounds_toArray, List.set_cons_zero, List.set_cons_succ])
        refine take_w (i := 2) (oi := ?oZ43) (v := ?vZ43) ?hiZ43 (by kernel_rfl) (by kernel_rfl) (by kernel_rfl) ?hQZ43 ?hwZ43 ?hyZ43 (by assumption) ?restZ43
        case hiZ43 => (simp only [List.getElem?_toArray, List.getElem?_cons_succ, List.getElem?_cons_zero] <;> rfl)
        case hQZ43 => exact (fun _ _ _ h => h)
        case hwZ43 => rfl
        case hyZ43 => (intro w hSw; (try dsimp only at hSw); go_simp; try with_reducible rfl)
        (try simp only [Act.put, List.setIfInBounds_toArray, List.set_cons_zero, List.set_cons_succ])
        refine take_w (i := 3) (oi := ?oZ44) (v := ?vZ44) ?hiZ44 (by kernel_rfl) (by kernel_rfl) (by kernel_rfl) ?hQZ44 ?hwZ44 ?hyZ44 (by assumption) ?restZ44
        case hiZ44 => (simp only [List.getElem?_toArray, List.getElem?_cons_succ, List.getElem?_cons_zero] <;> rfl)
        case hQZ44 => exact (fun _ _ _ h => h)
        case hwZ44 => rfl
        case hyZ44 => (intro w hSw; (try dsimp only at hSw); go_simp; try with_reducible rfl)
        (try simp only [Act.put, List.setIfInBounds_toArray, List.set_cons_zero, List.set_cons_succ])
        refine take_w (i := 4) (oi := ?oZ45) (v := ?vZ45) ?hiZ45 (by kernel_rfl) (by kernel_rfl) (by kernel_rfl) ?hQZ45 ?hwZ45 ?hyZ45 (by assumption) ?restZ45
        case hiZ45 => (simp only [List.getElem?_toArray, List.getElem?_cons_succ, List.getElem?_cons_zero] <;> rfl)
        case hQZ45 => exact (fun _ _ _ h => h)
        case hwZ45 => rfl
        case hyZ45 => (intro w hSw; (try dsimp only at hSw); go_simp; try with_reducible rfl)
        (try simp only [Act.put, List.setIfInBounds_toArray, List.set_cons_zero, List.set_cons_succ])
        refine take_w (i := 5) (oi := ?oZ46) (v := ?vZ46) ?hiZ46 (by kernel_rfl) (by kernel_rfl) (by kernel_rfl) ?hQZ46 ?hwZ46 ?hyZ46 (by assumption) ?restZ46
        case hiZ46 => (simp only [List.getElem?_toArray, List.getElem?_cons_succ, List.getElem?_cons_zero] <;> rfl)
        case hQZ46 => exact (fun _ _ _ h => h)
        case hwZ46 => rfl
        case hyZ46 => (intro w hSw; (try dsimp only at hSw); go_simp; try with_reducible rfl)
        (try simp only [Act.put, List.setIfInBounds_toArray, List.set_cons_zero, List.set_cons_succ])
        refine take_w (i := 6) (oi := ?oZ47) (v := ?vZ47) ?hiZ47 (by kernel_rfl) (by kernel_rfl) (by kernel_rfl) ?hQZ47 ?hwZ47 ?hyZ47 (by assumption) ?restZ47
        case hiZ47 => (simp only [List.getElem?_toArray, List.getElem?_cons_succ, List.getElem?_cons_zero] <;> rfl)
        case hQZ47 => exact (fun _ _ _ h => h)
        case hwZ47 => rfl
        case hyZ47 => (intro w hSw; (try dsimp only at hSw); go_simp; try with_reducible rfl)
        (try simp only [Act.put, List.setIfInBounds_toArray, List.set_cons_zero, List.set_cons_succ])
        refine take_w (i := 7) (oi := ?oZ48) (v := ?vZ48) ?hiZ48 (by kernel_rfl) (by kernel_rfl) (by kernel_rfl) ?hQZ48 ?hwZ48 ?hyZ48 (by assumption) ?restZ48
        case hiZ48 => (simp only [List.getElem?_toArray, List.getElem?_cons_succ, List.getElem?_cons_zero] <;> rfl)
        case hQZ48 => exact (fun _ _ _ h => h)
        case hwZ48 => rfl
        case hyZ48 => (intro w hSw; (try dsimp only at hSw); go_simp; try with_reducible rfl)
        (try simp only [Act.put, List.setIfInBounds_toArray, List.set_cons_zero, List.set_cons_succ])
        refine take_w (i := 8) (oi := ?oZ49) (v := ?vZ49) ?hiZ49 (by kernel_rfl) (by kernel_rfl) (by kernel_rfl) ?hQZ49 ?hwZ49 ?hyZ49 (by assumption) ?restZ49
        case hiZ49 => (simp only [List.getElem?_toArray, List.getElem?_cons_succ, List.getElem?_cons_zero] <;> rfl)
        case hQZ49 => exact (fun _ _ _ h => h)
        case hwZ49 => rfl
        case hyZ49 => (intro w hSw; (try dsimp only at hSw); go_simp; try with_reducible rfl)
        (try simp only [Act.put, List.setIfInBounds_toArray, List.set_cons_zero, List.set_cons_succ])
        refine take_w (i := 9) (oi := ?oZ50) (v := ?vZ50) ?hiZ50 (by kernel_rfl) (by kernel_rfl) (by kernel_rfl) ?hQZ50 ?hwZ50 ?hyZ50 (by assumption) ?restZ50
        case hiZ50 => (simp only [List.getElem?_toArray, List.getElem?_cons_succ, List.getElem?_cons_zero] <;> rfl)
        case hQZ50 => exact (fun _ _ _ h => h)
        case hwZ50 => rfl
        case hyZ50 => (intro w hSw; (try dsimp only at hSw); go_simp; try with_reducible rfl)
        (try simp only [Act.put, List.setIfInBounds_toArray, List.set_cons_zero, List.set_cons_succ])
        refine take_w (i := 10) (oi := ?oZ51) (v := ?vZ51) ?hiZ51 (by kernel_rfl) (by kernel_rfl) (by kernel_rfl) ?hQZ51 ?hwZ51 ?hyZ51 (by assumption) ?restZ51
        case hiZ51 => (simp only [List.getElem?_toArray, List.getElem?_cons_succ, List.getElem?_cons_zero] <;> rfl)
        case hQZ51 => exact (fun _ _ _ h => h)
        case hwZ51 => rfl
        case hyZ51 => (intro w hSw; (try dsimp only at hSw); go_simp; try with_reducible rfl)
        (try simp only [Act.put, List.setIfInBounds_toArray, List.set_cons_zero, List.set_cons_succ])
        refine take_w (i := 11) (oi := ?oZ52) (v := ?vZ52) ?hiZ52 (by kernel_rfl) (by kernel_rfl) (by kernel_rfl) ?hQZ52 ?hwZ52 ?hyZ52 (by assumption) ?restZ52
        case hiZ52 => (simp only [List.getElem?_toArray, List.getElem?_cons_succ, List.getElem?_cons_zero] <;> rfl)
        case hQZ52 => exact (fun _ _ _ h => h)
        case hwZ52 => rfl
        case hyZ52 => (intro w hSw; (try dsimp only at hSw); go_simp; try with_reducible rfl)
        (try simp only [Act.put, List.setIfInBounds_toArray, List.set_cons_zero, List.set_cons_succ])
        refine take_w (i := 12) (oi := ?oZ53) (v := ?vZ53) ?hiZ53 (by kernel_rfl) (by kernel_rfl) (by kernel_rfl) ?hQZ53 ?hwZ53 ?hyZ53 (by assumption) ?restZ53
        case hiZ53 => (simp only [List.getElem?_toArray, List.getElem?_cons_succ, List.getElem?_cons_zero] <;> rfl)
        case hQZ53 => exact (fun _ _ _ h => h)
        case hwZ53 => rfl
        case hyZ53 => (intro w hSw; (try dsimp only at hSw); go_simp; try with_reducible rfl)
        (try simp only [Act.put, List.setIfInBounds_toArray, List.set_cons_zero, List.set_cons_succ])
        refine take_w (i := 13) (oi := ?oZ54) (v := ?vZ54) ?hiZ54 (by kernel_rfl) (by kernel_rfl) (by kernel_rfl) ?hQZ54 ?hwZ54 ?hyZ54 (by assumption) ?restZ54
        case hiZ54 => (simp only [List.getElem?_toArray, List.getElem?_cons_succ, List.getElem?_cons_zero] <;> rfl)
        case hQZ54 => exact (fun _ _ _ h => h)
        case hwZ54 => rfl
        case hyZ54 => (intro w hSw; (try dsimp only at hSw); go_simp; try with_reducible rfl)
        (try simp only [Act.put, List.setIfInBounds_toArray, List.set_cons_zero, List.set_cons_succ])
        refine wpAnyH_ready (rs := [14]) (by kernel_rfl) (by simp) ?_
        refine AllReadyH.cons (o := ?oZ55) ?hiZ55 (fun K hK => ?stZ55) AllReadyH.nil
        case hiZ55 => (simp only [List.getElem?_toArray, List.getElem?_cons_succ, List.getElem?_cons_zero] <;> rfl)
        go_simp
        go_at_call 20
        refine (refDelete_any a key ka kn kc h _ HU5.out.drew.d.t HLIM.out HBAL.out hsh (by omega) (HK.out.below HU5.out.drew.d.b)).mono ?_
        rintro _ w6 ⟨h6, rfl, hi6, hb6⟩
        unfold TH.v
        have HU6 := Lib.hid (HU5.out.drew.below hb6)
        have HI6 := Lib.hid hi6
        clear hi6 hb6
        go_simp
        refine hK.out _ _ ?_ (fun hHeld => ?_)
        · (first | exact ⟨HU7.out.d.box.cells, HU7.out.box.cells⟩ | exact ⟨HU6.out.d.box.cells, HU6.out.box.cells⟩ | exact ⟨HU5.out.drew.d.box.cells, HU5.out.drew.box.cells⟩)
        clear hK K
        (try simp only [Act.put, List.setIfInBounds_toArray, List.set_cons_zero, List.set_cons_succ])
        refine wpAnyH_ready (rs := [15]) (by kernel_rfl) (by simp) ?_
        refine AllReadyH.cons (o := ?oZ56) ?hiZ56 (fun K hK => ?stZ56) AllReadyH.nil
        case hiZ56 => (simp only [List.getElem?_toArray, List.getElem?_cons_succ, List.getElem?_cons_zero] <;> rfl)
        go_simp
        go_at_call 17
        refine (refSame_any (a.del key).tr h3 h6 _ HU6.out.ti HI6.out).mono ?_
        rintro _ w7 ⟨rfl, hb7⟩
        have HU7 := Lib.hid (HU6.out.below hb7)
        clear hb7
        go_simp
        refine hK.out _ _ ?_ (fun hHeld => ?_)
        · (first | exact ⟨HU7.out.d.box.cells, HU7.out.box.cells⟩ | exact ⟨HU6.out.d.box.cells, HU6.out.box.cells⟩ | exact ⟨HU5.out.drew.d.box.cells, HU5.out.drew.box.cells⟩)
        clear hK K
        (try simp only [Act.put, List.setIfInBounds_toArray, List.set_cons_zero, List.set_cons_succ])
        refine take_w (i := 16) (oi := ?oZ57) (v := ?vZ57) ?hiZ57 (by kernel_rfl) (by kernel_rfl) (by kernel_rfl) ?hQZ57 ?hwZ57 ?hyZ57 (by assumption) ?restZ57
        case hiZ57 => (simp only [List.getElem?_toArray, List.getElem?_cons_succ, List.getElem?_cons_zero] <;> rfl)
        case hQZ57 => exact (fun _ _ _ h => h)
        case hwZ57 => rfl
        case hyZ57 => (intro w hSw; (try dsimp only at hSw); go_simp; try with_reducible rfl)
        (try simp only [Act.put, List.setIfInBounds_toArray, List.set_cons_zero, List.set_cons_succ])
        refine take_w (i := 17) (oi := ?oZ58) (v := ?vZ58) ?hiZ58 (by kernel_rfl) (by kernel_rfl) (by kernel_rfl) ?hQZ58 ?hwZ58 ?hyZ58 (by assumption) ?restZ58
        case hiZ58 => (simp only [List.getElem?_toArray, List.getElem?_cons_succ, List.getElem?_cons_zero] <;> rfl)
        case hQZ58 => exact (fun _ _ _ h => h)
        case hwZ58 => rfl
        case hyZ58 => (intro w hSw; (try dsimp only at hSw); go_simp; try with_reducible rfl)
        (try simp only [Act.put, List.setIfInBounds_toArray, List.set_cons_zero, List.set_cons_succ])
        refine wpAnyH_done (by kernel_rfl) ?_ _
        clear hHeld
        go_wp2_with fail
        go_ret
        exact ⟨rfl, HU7.out.d.b⟩
      · have HBAD := Lib.hid hbad
        have hle := badA_le t kn 0
        generalize hkk : badA t kn 0 = k at *
        have HKK := Lib.hid hkk
        have HKL := Lib.hid hle
        have hk0 : (k : Int) ≠ 0 := by omega
        clear hkk hle hbad
        go_wp2_with (first
          | (go_at_call 19
             refine (del_bad t h ka kn kc _ HD2.out.t (by rw [HKK.out]; exact HBAD.out)).mono ?_
             rw [HKK.out]
             rintro _ w3 ⟨rfl, hb3⟩
             have HD3 := Lib.hid (HD2.out.below hb3)
             clear hb3 x0 x1 x2 x3 x4)
          | (refine wpList_store_box rfl 25 (.tmp 7) (.tmp 28) rfl w3.heap.size hZ hZ rfl rfl 25 (Box.new w3 25 hZ) infoTree5 ?_
             intro v3 hbx3 hg3
             have HU3 := Lib.hid (UX.new HD3.out (inTree_nil w3) hbx3 hg3)
             obtain ⟨x0, x1, x2, x3, x4⟩ := HU3.out.d.box.cells
             clear hbx3 hg3)
          | (go_at_call 13
             refine (asked_any t h ka none kn kc 0 0 _ HU3.out.d.t (by omega)).mono ?_
             rw [HKK.out]
             rintro _ w4 ⟨rfl, hb4⟩
             have HU4 := Lib.hid (HU3.out.below hb4)
             clear x0 x1 x2 x3 x4
             clear hb4)
          | (go_at_call 14
             refine (code_any k HKL.out _).mono ?_
             rintro _ w5 ⟨rfl, m5, rfl⟩
             have HU5 := Lib.hid (HU4.out.drewN m5)
             obtain ⟨x0, x1, x2, x3, x4⟩ := HU5.out.box.cells)
          | (go_at_call 17
             refine (refSame_any tNil hZ hNil _ HU5.out.ti (inTree_nil _)).mono ?_
             rintro _ w6 ⟨rfl, hb6⟩
             have HU6 := Lib.hid (HU5.out.below hb6)
             clear hb6 x0 x1 x2 x3 x4))
        go_ret
        exact ⟨rfl, HU6.out.d.b⟩
end Go.Proofs.Ytolpdidjabbipaa
