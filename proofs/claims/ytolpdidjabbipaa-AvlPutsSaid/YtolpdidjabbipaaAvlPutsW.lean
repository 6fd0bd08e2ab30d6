/- The walk of the law AvlPuts. -/
import Derived.Test.YtolpdidjabbipaaAvlTwo
import Derived.Test.YtolpdidjabbipaaTake
namespace Go.Proofs.Ytolpdidjabbipaa
open Go.RowKit
set_option linter.unusedVariables false

set_option maxRecDepth 100000 in
set_option maxHeartbeats 4000000 in
theorem avlPuts_law (t : Tr) (h : TH) (key val : List Int) (ka va : Option Addr) (kn kc vn vc : Nat) (w : World) (ht : InTree w h t) (hk : InBytes w ka kn kc key) (hv : InBytes w va vn vc val) :
    Calls Try.prog 5 #[h.v, .slice ka kn kc, .slice va vn vc] w (Says w (.bool true)) := by
  unfold TH.v
  have hd0 := TW.new w ht
  have HD0 := Lib.hid hd0
  have HK := Lib.hid (And.intro hk hv)
  clear ht hd0 hk hv
  go_enter Try.func5, Try.ntmps5
  go_upto_region 3 with (first
    | (go_at_call 8
       refine (up5_any _).mono ?_
       rintro _ w1 ⟨rfl, hb1⟩
       have hd1 := HD0.out.below hb1
       have HD1 := Lib.hid hd1
       obtain ⟨x0, x1, x2, x3, x4⟩ := hd1.box.cells
       clear hb1 hd1)
    | (go_at_call 9
       refine (small5_any t h _ HD1.out.t).mono ?_
       rintro _ w2 ⟨ok, rfl, hok, hb2⟩
       have hd2 := HD1.out.below hb2
       have HD2 := Lib.hid hd2
       have HOK := Lib.hid hok
       clear x0 x1 x2 x3 x4
       obtain ⟨x0, x1, x2, x3, x4⟩ := hd2.box.cells
       clear hb2 hd2 hok))
  cases ok with
  | false =>
    go_wp2_with fail
    go_ret
    exact ⟨rfl, HD2.out.b⟩
  | true =>
    have hcn := HOK.out rfl
    clear HOK
    by_cases c : 5000 < kn
    · have q1 : (5000 : Int) < (kn : Int) := by omega
      go_wp2_with fail
      go_ret
      exact ⟨rfl, HD2.out.b⟩
    · have q1 : ¬ (5000 : Int) < (kn : Int) := by omega
      by_cases c' : 5000 < vn
      · have q2 : (5000 : Int) < (vn : Int) := by omega
        go_wp2_with fail
        go_ret
        exact ⟨rfl, HD2.out.b⟩
      have q2 : ¬ (5000 : Int) < (vn : Int) := by omega
      by_cases hbad : badA t kn vn = 0
      · obtain ⟨⟨a, e, hbal, -, hlim, -⟩, hkn, hvn⟩ := badA_zero hbad
        subst e
        have hsh := AT.shallow hbal (Nat.le_trans (small_pairs hlim hcn) (by omega))
        have HLIM := Lib.hid hlim
        have HBAD := Lib.hid hbad
        have HBAL := Lib.hid hbal
        clear hbad hlim hbal
        go_upto_region 9 with (first
          | (go_at_call 16
             refine (put_ok a h key val ka va kn kc vn vc _ HD2.out.t (HK.out.1.below HD2.out.b) (HK.out.2.below HD2.out.b) HBAD.out).mono ?_
             rintro _ w3 ⟨h3, rfl, hi3, hb3⟩
             have HD3 := Lib.hid (HD2.out.below hb3)
             have HI3 := Lib.hid hi3
             clear hi3 hb3 x0 x1 x2 x3 x4)
          | (refine wpList_store_box rfl 25 (.tmp 9) (.tmp 33) rfl w3.heap.size hZ h3 rfl rfl 25 (Box.new w3 25 hZ) infoTree5 ?_
             intro v3 hbx3 hg3
             have HU3 := Lib.hid (UX.new HD3.out HI3.out hbx3 hg3)
             obtain ⟨x0, x1, x2, x3, x4⟩ := HU3.out.d.box.cells
             clear hbx3 hg3)
          | (go_at_call 13
             refine (asked_any a.tr h ka va kn kc vn vc _ HU3.out.d.t (by omega)).mono ?_
             rw [HBAD.out]
             rintro _ w4 ⟨rfl, hb4⟩
             have HU4 := Lib.hid (HU3.out.below hb4)
             clear x0 x1 x2 x3 x4
             skip
             clear hb4))
        refine wp_region_held_drew (S := (fun W => (W.cell? ⟨w.heap.size, 0, none⟩ = some (.int .i64 h.k) ∧ W.cell? ⟨w.heap.size, 1, none⟩ = some (.slice h.ka h.kn h.kc) ∧ W.cell? ⟨w.heap.size, 2, none⟩ = some (.slice h.va h.vn h.vc) ∧ W.cell? ⟨w.heap.size, 3, none⟩ = some (.slice h.da h.dn h.dc) ∧ W.cell? ⟨w.heap.size, 4, none⟩ = some (.slice h.ta h.tn h.tc)) ∧ W.cell? ⟨w3.heap.size, 0, none⟩ = some (.int .i64 h3.k) ∧ W.cell? ⟨w3.heap.size, 1, none⟩ = some (.slice h3.ka h3.kn h3.kc) ∧ W.cell? ⟨w3.heap.size, 2, none⟩ = some (.slice h3.va h3.vn h3.vc) ∧ W.cell? ⟨w3.heap.size, 3, none⟩ = some (.slice h3.da h3.dn h3.dc) ∧ W.cell? ⟨w3.heap.size, 4, none⟩ = some (.slice h3.ta h3.tn h3.tc))) (by kernel_rfl) ⟨HU4.out.drew.d.box.cells, HU4.out.drew.box.cells⟩ (fun hHeld => ?_)
        refine take_w (i := 0) (oi := ?oZ27) (v := ?vZ27) ?hiZ27 (by kernel_rfl) (by kernel_rfl) (by kernel_rfl) ?hQZ27 ?hwZ27 ?hyZ27 (by assumption) ?restZ27
        case hiZ27 => (simp only [List.getElem?_toArray, List.getElem?_cons_zero] <;> rfl)
        case hQZ27 => exact (fun _ _ _ h => h)
        case hwZ27 => rfl
        case hyZ27 => (intro w hSw; (try dsimp only at hSw); go_simp; try with_reducible rfl)
        (try simp only [Act.put, List.setIfInBounds_toArray, List.set_cons_zero, List.set_cons_succ])
        refine take_w (i := 1) (oi := ?oZ28) (v := ?vZ28) ?hiZ28 (by kernel_rfl) (by kernel_rfl) (by kernel_rfl) ?hQZ28 ?hwZ28 ?hyZ28 (by assumption) ?restZ28
        case hiZ28 => (simp only [List.getElem?_toArray, List.getElem?_cons_succ, List.getElem?_cons_zero] <;> rfl)
        case hQZ28 => exact (fun _ _ _ h => h)
        case hwZ28 => rfl
        case hyZ28 => (intro w hSw; (try dsimp only at hSw); go_simp; try with_reducible rfl)
        (try simp only [Act.put, List.setIfInBounds_toArray, List.set_cons_zero, List.set_cons_succ])
        refine take_w (i := 2) (oi := ?oZ29) (v := ?vZ29) ?hiZ29 (by kernel_rfl) (by kernel_rfl) (by kernel_rfl) ?hQZ29 ?hwZ29 ?hyZ29 (by assumption) ?restZ29
        case hiZ29 => (simp only [List.getElem?_toArray, List.getElem?_cons_succ, List.getElem?_cons_zero] <;> rfl)
        case hQZ29 => exact (fun _ _ _ h => h)
        case hwZ29 => rfl
        case hyZ29 => (intro w hSw; (try dsimp only at hSw); go_simp; try with_reducible rfl)
        (try simp only [Act.put, List.setIfInBounds_toArray, List.set_cons_zero, List.set_cons_succ])
        refine take_w (i := 3) (oi := ?oZ30) (v := ?vZ30) ?hiZ30 (by kernel_rfl) (by kernel_rfl) (by kernel_rfl) ?hQZ30 ?hwZ30 ?hyZ30 (by assumption) ?restZ30
        case hiZ30 => (simp only [List.getElem?_toArray, List.getElem?_cons_succ, List.getElem?_cons_zero] <;> rfl)
        case hQZ30 => exact (fun _ _ _ h => h)
        case hwZ30 => rfl
        case hyZ30 => (intro w hSw; (try dsimp only at hSw); go_simp; try with_reducible rfl)
        (try simp only [Act.put, List.setIfInBounds_toArray, List.set_cons_zero, List.set_cons_succ])
        refine take_w (i := 4) (oi := ?oZ31) (v := ?vZ31) ?hiZ31 (by kernel_rfl) (by kernel_rfl) (by kernel_rfl) ?hQZ31 ?hwZ31 ?hyZ31 (by assumption) ?restZ31
        case hiZ31 => (simp only [List.getElem?_toArray, List.getElem?_cons_succ, List.getElem?_cons_zero] <;> rfl)
        case hQZ31 => exact (fun _ _ _ h => h)
        case hwZ31 => rfl
        case hyZ31 => (intro w hSw; (try dsimp only at hSw); go_simp; try with_reducible rfl)
        (try simp only [Act.put, List.setIfInBounds_toArray, List.set_cons_zero, List.set_cons_succ])
        refine take_w (i := 5) (oi := ?oZ32) (v := ?vZ32) ?hiZ32 (by kernel_rfl) (by kernel_rfl) (by kernel_rfl) ?hQZ32 ?hwZ32 ?hyZ32 (by assumption) ?restZ32
        case hiZ32 => (simp only [List.getElem?_toArray, List.getElem?_cons_succ, List.getElem?_cons_zero] <;> rfl)
        case hQZ32 => exact (fun _ _ _ h => h)
        case hwZ32 => rfl
        case hyZ32 => (intro w hSw; (try dsimp only at hSw); go_simp; try with_reducible rfl)
        (try simp only [Act.put, List.setIfInBounds_toArray, List.set_cons_zero, List.set_cons_succ])
        refine take_w (i := 6) (oi := ?oZ33) (v := ?vZ33) ?hiZ33 (by kernel_rfl) (by kernel_rfl) (by kernel_rfl) ?hQZ33 ?hwZ33 ?hyZ33 (by assumption) ?restZ33
        case hiZ33 => (simp only [List.getElem?_toArray, List.getElem?_cons_succ, List.getElem?_cons_zero] <;> rfl)
        case hQZ33 => exact (fun _ _ _ h => h)
        case hwZ33 => rfl
        case hyZ33 => (intro w hSw; (try dsimp only at hSw); go_simp; try with_reducible rfl)
        (try simp only [Act.put, List.setIfInBounds_toArray, List.set_cons_zero, List.set_cons_succ])
        refine take_w (i := 7) (oi := ?oZ34) (v := ?vZ34) ?hiZ34 (by kernel_rfl) (by kernel_rfl) (by kernel_rfl) ?hQZ34 ?hwZ34 ?hyZ34 (by assumption) ?restZ34
        case hiZ34 => (simp only [List.getElem?_toArray, List.getElem?_cons_succ, List.getElem?_cons_zero] <;> rfl)
        case hQZ34 => exact (fun _ _ _ h => h)
        case hwZ34 => rfl
        case hyZ34 => (intro w hSw; (try dsimp only at hSw); go_simp; try with_reducible rfl)
        (try simp only [Act.put, List.setIfInBounds_toArray, List.set_cons_zero, List.set_cons_succ])
        refine take_w (i := 8) (oi := ?oZ35) (v := ?vZ35) ?hiZ35 (by kernel_rfl) (by kernel_rfl) (by kernel_rfl) ?hQZ35 ?hwZ35 ?hyZ35 (by assumption) ?restZ35
        case hiZ35 => (simp only [List.getElem?_toArray, List.getElem?_cons_succ, List.getElem?_cons_zero] <;> rfl)
        case hQZ35 => exact (fun _ _ _ h => h)
        case hwZ35 => rfl
        case hyZ35 => (intro w hSw; (try dsimp only at hSw); go_simp; try with_reducible rfl)
        (try simp only [Act.put, List.setIfInBounds_toArray, List.set_cons_zero, List.set_cons_succ])
        refine take_w (i := 9) (oi := ?oZ36) (v := ?vZ36) ?hiZ36 (by kernel_rfl) (by kernel_rfl) (by kernel_rfl) ?hQZ36 ?hwZ36 ?hyZ36 (by assumption) ?restZ36
        case hiZ36 => (simp only [List.getElem?_toArray, List.getElem?_cons_succ, List.getElem?_cons_zero] <;> rfl)
        case hQZ36 => exact (fun _ _ _ h => h)
        case hwZ36 => rfl
        case hyZ36 => (intro w hSw; (try dsimp only at hSw); go_simp; try with_reducible rfl)
        (try simp only [Act.put, List.setIfInBounds_toArray, List.set_cons_zero, List.set_cons_succ])
        refine wpAnyH_ready (rs := [10]) (by kernel_rfl) (by simp) ?_
        refine AllReadyH.cons (o := ?oZ37) ?hiZ37 (fun K hK => ?stZ37) AllReadyH.nil
        case hiZ37 => (simp only [List.getElem?_toArray, List.getElem?_cons_succ, List.getElem?_cons_zero] <;> rfl)
        go_simp
        go_at_call 18
        refine (refPut_any key val ka va kn kc vn vc (by have := HK.out.1.len; omega) (by have := HK.out.2.len; omega) a h _ HU4.out.drew.d.t HLIM.out HBAL.out hsh (HK.out.1.below HU4.out.drew.d.b) (HK.out.2.below HU4.out.drew.d.b)).mono ?_
        rintro _ w6 ⟨h6, rfl, hi6, hb6⟩
        unfold TH.v
        have HU6 := Lib.hid (HU4.out.drew.below hb6)
        have HI6 := Lib.hid hi6
        clear hi6 hb6
        go_simp
        refine hK.out _ _ ?_ (fun hHeld => ?_)
        · (first | exact ⟨HU7.out.d.box.cells, HU7.out.box.cells⟩ | exact ⟨HU6.out.d.box.cells, HU6.out.box.cells⟩ | exact ⟨HU4.out.drew.d.box.cells, HU4.out.drew.box.cells⟩)
        clear hK K
        (try simp only [Act.put, List.setIfInBounds_toArray, List.set_cons_zero, List.set_cons_succ])
        refine wpAnyH_ready (rs := [11]) (by kernel_rfl) (by simp) ?_
        refine AllReadyH.cons (o := ?oZ38) ?hiZ38 (fun K hK => ?stZ38) AllReadyH.nil
        case hiZ38 => (simp only [List.getElem?_toArray, List.getElem?_cons_succ, List.getElem?_cons_zero] <;> rfl)
        go_simp
        go_at_call 17
        refine (refSame_any (a.put key val).tr h3 h6 _ HU6.out.ti HI6.out).mono ?_
        rintro _ w7 ⟨rfl, hb7⟩
        have HU7 := Lib.hid (HU6.out.below hb7)
        clear hb7
        go_simp
        refine hK.out _ _ ?_ (fun hHeld => ?_)
        · (first | exact ⟨HU7.out.d.box.cells, HU7.out.box.cells⟩ | exact ⟨HU6.out.d.box.cells, HU6.out.box.cells⟩ | exact ⟨HU4.out.drew.d.box.cells, HU4.out.drew.box.cells⟩)
        clear hK K
        (try simp only [Act.put, List.setIfInBounds_toArray, List.set_cons_zero, List.set_cons_succ])
        refine take_w (i := 12) (oi := ?oZ39) (v := ?vZ39) ?hiZ39 (by kernel_rfl) (by kernel_rfl) (by kernel_rfl) ?hQZ39 ?hwZ39 ?hyZ39 (by assumption) ?restZ39
        case hiZ39 => (simp only [List.getElem?_toArray, List.getElem?_cons_succ, List.getElem?_cons_zero] <;> rfl)
        case hQZ39 => exact (fun _ _ _ h => h)
        case hwZ39 => rfl
        case hyZ39 => (intro w hSw; (try dsimp only at hSw); go_simp; try with_reducible rfl)
        (try simp only [Act.put, List.setIfInBounds_toArray, List.set_cons_zero, List.set_cons_succ])
        refine take_w (i := 13) (oi := ?oZ40) (v := ?vZ40) ?hiZ40 (by kernel_rfl) (by kernel_rfl) (by kernel_rfl) ?hQZ40 ?hwZ40 ?hyZ40 (by assumption) ?restZ40
        case hiZ40 => (simp only [List.getElem?_toArray, List.getElem?_cons_succ, List.getElem?_cons_zero] <;> rfl)
        case hQZ40 => exact (fun _ _ _ h => h)
        case hwZ40 => rfl
        case hyZ40 => (intro w hSw; (try dsimp only at hSw); go_simp; try with_reducible rfl)
        (try simp only [Act.put, List.setIfInBounds_toArray, List.set_cons_zero, List.set_cons_succ])
        refine wpAnyH_done (by kernel_rfl) ?_ _
        clear hHeld
        go_wp2_with fail
        go_ret
        exact ⟨rfl, HU7.out.d.b⟩
      · have HBAD := Lib.hid hbad
        have hle := badA_le t kn vn
        generalize hkk : badA t kn vn = k at *
        have HKK := Lib.hid hkk
        have HKL := Lib.hid hle
        have hk0 : (k : Int) ≠ 0 := by omega
        clear hkk hle hbad
        go_wp2_with (first
          | (go_at_call 16
             refine (put_bad t h ka va kn kc vn vc _ HD2.out.t (by rw [HKK.out]; exact HBAD.out)).mono ?_
             rw [HKK.out]
             rintro _ w3 ⟨rfl, hb3⟩
             have HD3 := Lib.hid (HD2.out.below hb3)
             clear hb3 x0 x1 x2 x3 x4)
          | (refine wpList_store_box rfl 25 (.tmp 9) (.tmp 33) rfl w3.heap.size hZ hZ rfl rfl 25 (Box.new w3 25 hZ) infoTree5 ?_
             intro v3 hbx3 hg3
             have HU3 := Lib.hid (UX.new HD3.out (inTree_nil w3) hbx3 hg3)
             obtain ⟨x0, x1, x2, x3, x4⟩ := HU3.out.d.box.cells
             clear hbx3 hg3)
          | (go_at_call 13
             refine (asked_any t h ka va kn kc vn vc _ HU3.out.d.t (by omega)).mono ?_
             rw [HKK.out]
             rintro _ w4 ⟨rfl, hb4⟩
             have HU4 := Lib.hid (HU3.out.below hb4)
             clear x0 x1 x2 x3 x4
             clear hb4)
          | (go_at_call 14
             refine (code_any k HKL.out _).mono ?_
             rintro _ w5 ⟨rfl, m5, rfl⟩
             have HU5 := Lib.hid (HU4.out.drewN m5)
             obtain ⟨x0, x1, x2, x3, x4⟩ := HU5.out.box.cells)
          | (go_at_call 17
             refine (refSame_any tNil hZ hNil _ HU5.out.ti (inTree_nil _)).mono ?_
             rintro _ w6 ⟨rfl, hb6⟩
             have HU6 := Lib.hid (HU5.out.below hb6)
             clear hb6 x0 x1 x2 x3 x4))
        go_ret
        exact ⟨rfl, HU6.out.d.b⟩
end Go.Proofs.Ytolpdidjabbipaa
