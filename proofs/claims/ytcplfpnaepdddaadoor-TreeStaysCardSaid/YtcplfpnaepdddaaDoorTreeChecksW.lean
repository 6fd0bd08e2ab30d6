/- The walk of the law TreeChecks. -/
import Derived.Test.YtcplfpnaepdddaaDoorTreeUp
import Derived.Test.YtcplfpnaepdddaaDoorRefTree2
import Derived.Test.YtcplfpnaepdddaaDoorCode
import Derived.Test.YtcplfpnaepdddaaDoorTake
namespace Go.Proofs.YtcplfpnaepdddaaDoor
open Go.RowKit
set_option linter.unusedVariables false

/-- A law's own box of its tree, in world W. -/
structure TW (w W : World) (h : TH) (t : Tr) : Prop where
  box : Box W 25 w.heap.size h
  t : InTree W h t
  b : Below w.heap.size w W
theorem TW.below {w W W' : World} {h : TH} {t : Tr} (d : TW w W h t) (hb : Below W.heap.size W W') : TW w W' h t := ⟨d.box.below hb d.box.lt, d.t.lower hb, d.b.trans (hb.mono d.b.size)⟩
theorem TW.drew {w W : World} {h : TH} {t : Tr} (d : TW w W h t) : TW w W.drew h t := d.below (Below.refl _ _).drew
theorem TW.drewN {w W : World} {h : TH} {t : Tr} (d : TW w W h t) (m : Nat) : TW w (W.drewN m) h t := by
  have hb : Below W.heap.size W (W.drewN m) := ⟨rfl, rfl, rfl, Nat.le_refl _, fun _ _ => rfl⟩
  exact d.below hb
theorem TW.new (w : World) {h : TH} {t : Tr} (ht : InTree w h t) : TW w (w.alloc (.cells #[.int .i64 h.k, .slice h.ka h.kn h.kc, .slice h.va h.vn h.vc, .slice h.da h.dn h.dc, .slice h.ta h.tn h.tc] 25)) h t :=
  ⟨Box.new w _ h, ht.lower ((Below.refl _ _).alloc (Nat.le_refl _) _), (Below.refl _ _).alloc (Nat.le_refl _) _⟩

set_option maxRecDepth 100000 in
set_option maxHeartbeats 4000000 in
theorem checks_law (t : Tr) (h : TH) (w : World) (ht : InTree w h t) (hT : TabLies w) :
    Calls Tryd.prog 3 #[h.v] w (Says w (.bool true)) := by
  unfold TH.v
  have hd0 := TW.new w ht
  have HD0 := Lib.hid hd0
  have HT := Lib.hid hT
  clear ht hT hd0
  go_enter Tryd.func3, Tryd.ntmps3
  go_upto_region 3 with (first
    | (go_at_call 8
       refine (upT_any _ (HT.out.below HD0.out.b (Nat.le_refl _))).mono ?_
       rintro _ w1 ⟨rfl, hb1⟩
       have hd1 := HD0.out.below hb1
       have HD1 := Lib.hid hd1
       obtain ⟨x0, x1, x2, x3, x4⟩ := hd1.box.cells
       clear hb1 hd1)
    | (go_at_call 9
       refine (small_any t h _ HD1.out.t).mono ?_
       rintro _ w2 ⟨ok, rfl, hok, hb2⟩
       have hd2 := HD1.out.below hb2
       have HD2 := Lib.hid hd2
       have HOK := Lib.hid hok
       clear x0 x1 x2 x3 x4
       obtain ⟨x0, x1, x2, x3, x4⟩ := hd2.box.cells
       clear hb2 hd2 hok))
  cases ok
  · go_wp2_with fail
    go_ret
    exact ⟨rfl, HD2.out.b⟩
  go_upto_region 7 with (first
    | (go_at_call 10
       refine (check_any t h _ HD2.out.t).mono ?_
       rintro _ w3 ⟨rfl, hb3⟩
       have hd3 := HD2.out.below hb3
       have HD3 := Lib.hid hd3
       clear x0 x1 x2 x3 x4
       obtain ⟨x0, x1, x2, x3, x4⟩ := hd3.box.cells
       clear hb3 hd3)
    | (go_at_call 11
       refine (refCheck_any t h _ HD3.out.t).mono ?_
       rintro _ w4 ⟨rfl, hb4⟩
       have hd4 := HD3.out.below hb4
       have HD4 := Lib.hid hd4
       clear x0 x1 x2 x3 x4
       obtain ⟨x0, x1, x2, x3, x4⟩ := hd4.box.cells
       clear hb4 hd4))
  by_cases hchk : checkT t = 0
  · have hfd : formedT t = true ∧ deepT t 64 = false := by
      unfold checkT at hchk
      split at hchk
      · cases hchk
      · split at hchk
        · exact ⟨by assumption, by rename_i q _; simpa using q⟩
        · cases hchk
    have HFD := Lib.hid hfd
    clear hfd
    have hcv : codeV (checkT t) = .nilIface := by rw [hchk]; rfl
    have hc0 : ((checkT t : Nat) : Int) = 0 := by rw [hchk]; rfl
    rw [hcv, hc0]
    clear hcv hc0
    go_upto_region 9 with fail
    refine wp_region_held_drew (S := (fun W => W.cell? ⟨w.heap.size, 0, none⟩ = some (.int .i64 h.k) ∧ W.cell? ⟨w.heap.size, 1, none⟩ = some (.slice h.ka h.kn h.kc) ∧ W.cell? ⟨w.heap.size, 2, none⟩ = some (.slice h.va h.vn h.vc) ∧ W.cell? ⟨w.heap.size, 3, none⟩ = some (.slice h.da h.dn h.dc) ∧ W.cell? ⟨w.heap.size, 4, none⟩ = some (.slice h.ta h.tn h.tc))) (by kernel_rfl) HD4.out.drew.box.cells (fun hHeld => ?_)
    refine take_w (i := 0) (oi := ?oZ1) (v := ?vZ1) ?hiZ1 (by kernel_rfl) (by kernel_rfl) (by kernel_rfl) ?hQZ1 ?hwZ1 ?hyZ1 (by assumption) ?restZ1
    case hiZ1 => (simp only [List.getElem?_toArray, List.getElem?_cons_zero] <;> rfl)
    case hQZ1 => exact (fun _ _ _ h => h)
    case hwZ1 => rfl
    case hyZ1 => (intro w hSw; (try dsimp only at hSw); go_simp; try with_reducible rfl)
    (try simp only [Act.put, List.setIfInBounds_toArray, List.set_cons_zero, List.set_cons_succ])
    refine take_w (i := 1) (oi := ?oZ2) (v := ?vZ2) ?hiZ2 (by kernel_rfl) (by kernel_rfl) (by kernel_rfl) ?hQZ2 ?hwZ2 ?hyZ2 (by assumption) ?restZ2
    case hiZ2 => (simp only [List.getElem?_toArray, List.getElem?_cons_succ, List.getElem?_cons_zero] <;> rfl)
    case hQZ2 => exact (fun _ _ _ h => h)
    case hwZ2 => rfl
    case hyZ2 => (intro w hSw; (try dsimp only at hSw); go_simp; try with_reducible rfl)
    (try simp only [Act.put, List.setIfInBounds_toArray, List.set_cons_zero, List.set_cons_succ])
    refine take_w (i := 2) (oi := ?oZ3) (v := ?vZ3) ?hiZ3 (by kernel_rfl) (by kernel_rfl) (by kernel_rfl) ?hQZ3 ?hwZ3 ?hyZ3 (by assumption) ?restZ3
    case hiZ3 => (simp only [List.getElem?_toArray, List.getElem?_cons_succ, List.getElem?_cons_zero] <;> rfl)
    case hQZ3 => exact (fun _ _ _ h => h)
    case hwZ3 => rfl
    case hyZ3 => (intro w hSw; (try dsimp only at hSw); go_simp; try with_reducible rfl)
    (try simp only [Act.put, List.setIfInBounds_toArray, List.set_cons_zero, List.set_cons_succ])
    refine take_w (i := 3) (oi := ?oZ4) (v := ?vZ4) ?hiZ4 (by kernel_rfl) (by kernel_rfl) (by kernel_rfl) ?hQZ4 ?hwZ4 ?hyZ4 (by assumption) ?restZ4
    case hiZ4 => (simp only [List.getElem?_toArray, List.getElem?_cons_succ, List.getElem?_cons_zero] <;> rfl)
    case hQZ4 => exact (fun _ _ _ h => h)
    case hwZ4 => rfl
    case hyZ4 => (intro w hSw; (try dsimp only at hSw); go_simp; try with_reducible rfl)
    (try simp only [Act.put, List.setIfInBounds_toArray, List.set_cons_zero, List.set_cons_succ])
    refine take_w (i := 4) (oi := ?oZ5) (v := ?vZ5) ?hiZ5 (by kernel_rfl) (by kernel_rfl) (by kernel_rfl) ?hQZ5 ?hwZ5 ?hyZ5 (by assumption) ?restZ5
    case hiZ5 => (simp only [List.getElem?_toArray, List.getElem?_cons_succ, List.getElem?_cons_zero] <;> rfl)
    case hQZ5 => exact (fun _ _ _ h => h)
    case hwZ5 => rfl
    case hyZ5 => (intro w hSw; (try dsimp only at hSw); go_simp; try with_reducible rfl)
    (try simp only [Act.put, List.setIfInBounds_toArray, List.set_cons_zero, List.set_cons_succ])
    refine take_w (i := 5) (oi := ?oZ6) (v := ?vZ6) ?hiZ6 (by kernel_rfl) (by kernel_rfl) (by kernel_rfl) ?hQZ6 ?hwZ6 ?hyZ6 (by assumption) ?restZ6
    case hiZ6 => (simp only [List.getElem?_toArray, List.getElem?_cons_succ, List.getElem?_cons_zero] <;> rfl)
    case hQZ6 => exact (fun _ _ _ h => h)
    case hwZ6 => rfl
    case hyZ6 => (intro w hSw; (try dsimp only at hSw); go_simp; try with_reducible rfl)
    (try simp only [Act.put, List.setIfInBounds_toArray, List.set_cons_zero, List.set_cons_succ])
    refine take_w (i := 6) (oi := ?oZ7) (v := ?vZ7) ?hiZ7 (by kernel_rfl) (by kernel_rfl) (by kernel_rfl) ?hQZ7 ?hwZ7 ?hyZ7 (by assumption) ?restZ7
    case hiZ7 => (simp only [List.getElem?_toArray, List.getElem?_cons_succ, List.getElem?_cons_zero] <;> rfl)
    case hQZ7 => exact (fun _ _ _ h => h)
    case hwZ7 => rfl
    case hyZ7 => (intro w hSw; (try dsimp only at hSw); go_simp; try with_reducible rfl)
    (try simp only [Act.put, List.setIfInBounds_toArray, List.set_cons_zero, List.set_cons_succ])
    refine take_w (i := 8) (oi := ?oZ8) (v := ?vZ8) ?hiZ8 (by kernel_rfl) (by kernel_rfl) (by kernel_rfl) ?hQZ8 ?hwZ8 ?hyZ8 (by assumption) ?restZ8
    case hiZ8 => (simp only [List.getElem?_toArray, List.getElem?_cons_succ, List.getElem?_cons_zero] <;> rfl)
    case hQZ8 => exact (fun _ _ _ h => h)
    case hwZ8 => rfl
    case hyZ8 => (intro w hSw; (try dsimp only at hSw); go_simp; try with_reducible rfl)
    (try simp only [Act.put, List.setIfInBounds_toArray, List.set_cons_zero, List.set_cons_succ])
    refine wpAnyH_ready (rs := [7]) (by kernel_rfl) (by simp) ?_
    refine AllReadyH.cons (o := ?oZ9) ?hiZ9 (fun K hK => ?stZ9) AllReadyH.nil
    case hiZ9 => (simp only [List.getElem?_toArray, List.getElem?_cons_succ, List.getElem?_cons_zero] <;> rfl)
    go_simp
    go_at_call 13
    refine (full_any t h _ HD4.out.drew.t).mono ?_
    rintro _ w5 ⟨rfl, hb5⟩
    have HD5 := Lib.hid (HD4.out.drew.below hb5)
    rw [hchk]
    clear hb5
    go_simp
    refine hK.out _ _ ?_ (fun hHeld => ?_)
    · (first | exact HD8.out.box.cells | exact HD7.out.box.cells | exact HD6.out.box.cells | exact HD5.out.box.cells | exact HD4.out.drew.box.cells)
    clear hK K
    (try simp only [Act.put, List.setIfInBounds_toArray, List.set_cons_zero, List.set_cons_succ])
    refine wpAnyH_ready (rs := [9]) (by kernel_rfl) (by simp) ?_
    refine AllReadyH.cons (o := ?oZ10) ?hiZ10 (fun K hK => ?stZ10) AllReadyH.nil
    case hiZ10 => (simp only [List.getElem?_toArray, List.getElem?_cons_succ, List.getElem?_cons_zero] <;> rfl)
    go_simp
    go_at_call 15
    refine (refFull_any t h _ HD5.out.t).mono ?_
    rintro _ w6 ⟨rfl, hb6⟩
    have HD6 := Lib.hid (HD5.out.below hb6)
    clear hb6
    go_simp
    refine hK.out _ _ ?_ (fun hHeld => ?_)
    · (first | exact HD8.out.box.cells | exact HD7.out.box.cells | exact HD6.out.box.cells | exact HD5.out.box.cells | exact HD4.out.drew.box.cells)
    clear hK K
    (try simp only [Act.put, List.setIfInBounds_toArray, List.set_cons_zero, List.set_cons_succ])
    refine take_w (i := 10) (oi := ?oZ11) (v := ?vZ11) ?hiZ11 (by kernel_rfl) (by kernel_rfl) (by kernel_rfl) ?hQZ11 ?hwZ11 ?hyZ11 (by assumption) ?restZ11
    case hiZ11 => (simp only [List.getElem?_toArray, List.getElem?_cons_succ, List.getElem?_cons_zero] <;> rfl)
    case hQZ11 => exact (fun _ _ _ h => h)
    case hwZ11 => rfl
    case hyZ11 => (intro w hSw; (try dsimp only at hSw); go_simp; try with_reducible rfl)
    (try simp only [Act.put, List.setIfInBounds_toArray, List.set_cons_zero, List.set_cons_succ])
    refine take_w (i := 11) (oi := ?oZ12) (v := ?vZ12) ?hiZ12 (by kernel_rfl) (by kernel_rfl) (by kernel_rfl) ?hQZ12 ?hwZ12 ?hyZ12 (by assumption) ?restZ12
    case hiZ12 => (simp only [List.getElem?_toArray, List.getElem?_cons_succ, List.getElem?_cons_zero] <;> rfl)
    case hQZ12 => exact (fun _ _ _ h => h)
    case hwZ12 => rfl
    case hyZ12 => (intro w hSw; (try dsimp only at hSw); go_simp; try with_reducible rfl)
    (try simp only [Act.put, List.setIfInBounds_toArray, List.set_cons_zero, List.set_cons_succ])
    refine take_w (i := 12) (oi := ?oZ13) (v := ?vZ13) ?hiZ13 (by kernel_rfl) (by kernel_rfl) (by kernel_rfl) ?hQZ13 ?hwZ13 ?hyZ13 (by assumption) ?restZ13
    case hiZ13 => (simp only [List.getElem?_toArray, List.getElem?_cons_succ, List.getElem?_cons_zero] <;> rfl)
    case hQZ13 => exact (fun _ _ _ h => h)
    case hwZ13 => rfl
    case hyZ13 => (intro w hSw; (try dsimp only at hSw); go_simp; try with_reducible rfl)
    (try simp only [Act.put, List.setIfInBounds_toArray, List.set_cons_zero, List.set_cons_succ])
    refine take_w (i := 13) (oi := ?oZ14) (v := ?vZ14) ?hiZ14 (by kernel_rfl) (by kernel_rfl) (by kernel_rfl) ?hQZ14 ?hwZ14 ?hyZ14 (by assumption) ?restZ14
    case hiZ14 => (simp only [List.getElem?_toArray, List.getElem?_cons_succ, List.getElem?_cons_zero] <;> rfl)
    case hQZ14 => exact (fun _ _ _ h => h)
    case hwZ14 => rfl
    case hyZ14 => (intro w hSw; (try dsimp only at hSw); go_simp; try with_reducible rfl)
    (try simp only [Act.put, List.setIfInBounds_toArray, List.set_cons_zero, List.set_cons_succ])
    refine take_w (i := 15) (oi := ?oZ15) (v := ?vZ15) ?hiZ15 (by kernel_rfl) (by kernel_rfl) (by kernel_rfl) ?hQZ15 ?hwZ15 ?hyZ15 (by assumption) ?restZ15
    case hiZ15 => (simp only [List.getElem?_toArray, List.getElem?_cons_succ, List.getElem?_cons_zero] <;> rfl)
    case hQZ15 => exact (fun _ _ _ h => h)
    case hwZ15 => rfl
    case hyZ15 => (intro w hSw; (try dsimp only at hSw); go_simp; try with_reducible rfl)
    (try simp only [Act.put, List.setIfInBounds_toArray, List.set_cons_zero, List.set_cons_succ])
    refine wpAnyH_ready (rs := [14]) (by kernel_rfl) (by simp) ?_
    refine AllReadyH.cons (o := ?oZ16) ?hiZ16 (fun K hK => ?stZ16) AllReadyH.nil
    case hiZ16 => (simp only [List.getElem?_toArray, List.getElem?_cons_succ, List.getElem?_cons_zero] <;> rfl)
    go_simp
    go_at_call 14
    refine (depth_any t h _ HD6.out.t).mono ?_
    rintro _ w7 ⟨rfl, hb7⟩
    have HD7 := Lib.hid (HD6.out.below hb7)
    rw [if_pos hchk]
    clear hb7
    go_simp
    refine hK.out _ _ ?_ (fun hHeld => ?_)
    · (first | exact HD8.out.box.cells | exact HD7.out.box.cells | exact HD6.out.box.cells | exact HD5.out.box.cells | exact HD4.out.drew.box.cells)
    clear hK K
    (try simp only [Act.put, List.setIfInBounds_toArray, List.set_cons_zero, List.set_cons_succ])
    refine wpAnyH_ready (rs := [16]) (by kernel_rfl) (by simp) ?_
    refine AllReadyH.cons (o := ?oZ17) ?hiZ17 (fun K hK => ?stZ17) AllReadyH.nil
    case hiZ17 => (simp only [List.getElem?_toArray, List.getElem?_cons_succ, List.getElem?_cons_zero] <;> rfl)
    go_simp
    go_at_call 16
    refine (refDepth_any t h 64 _ HD7.out.t HFD.out.1 HFD.out.2 (by omega) (by omega)).mono ?_
    rintro _ w8 ⟨rfl, hb8⟩
    have HD8 := Lib.hid (HD7.out.below hb8)
    clear hb8
    go_simp
    refine hK.out _ _ ?_ (fun hHeld => ?_)
    · (first | exact HD8.out.box.cells | exact HD7.out.box.cells | exact HD6.out.box.cells | exact HD5.out.box.cells | exact HD4.out.drew.box.cells)
    clear hK K
    (try simp only [Act.put, List.setIfInBounds_toArray, List.set_cons_zero, List.set_cons_succ])
    refine take_w (i := 17) (oi := ?oZ18) (v := ?vZ18) ?hiZ18 (by kernel_rfl) (by kernel_rfl) (by kernel_rfl) ?hQZ18 ?hwZ18 ?hyZ18 (by assumption) ?restZ18
    case hiZ18 => (simp only [List.getElem?_toArray, List.getElem?_cons_succ, List.getElem?_cons_zero] <;> rfl)
    case hQZ18 => exact (fun _ _ _ h => h)
    case hwZ18 => rfl
    case hyZ18 => (intro w hSw; (try dsimp only at hSw); go_simp; try with_reducible rfl)
    (try simp only [Act.put, List.setIfInBounds_toArray, List.set_cons_zero, List.set_cons_succ])
    refine take_w (i := 18) (oi := ?oZ19) (v := ?vZ19) ?hiZ19 (by kernel_rfl) (by kernel_rfl) (by kernel_rfl) ?hQZ19 ?hwZ19 ?hyZ19 (by assumption) ?restZ19
    case hiZ19 => (simp only [List.getElem?_toArray, List.getElem?_cons_succ, List.getElem?_cons_zero] <;> rfl)
    case hQZ19 => exact (fun _ _ _ h => h)
    case hwZ19 => rfl
    case hyZ19 => (intro w hSw; (try dsimp only at hSw); go_simp; try with_reducible rfl)
    (try simp only [Act.put, List.setIfInBounds_toArray, List.set_cons_zero, List.set_cons_succ])
    refine take_w (i := 19) (oi := ?oZ20) (v := ?vZ20) ?hiZ20 (by kernel_rfl) (by kernel_rfl) (by kernel_rfl) ?hQZ20 ?hwZ20 ?hyZ20 (by assumption) ?restZ20
    case hiZ20 => (simp only [List.getElem?_toArray, List.getElem?_cons_succ, List.getElem?_cons_zero] <;> rfl)
    case hQZ20 => exact (fun _ _ _ h => h)
    case hwZ20 => rfl
    case hyZ20 => (intro w hSw; (try dsimp only at hSw); go_simp; try with_reducible rfl)
    (try simp only [Act.put, List.setIfInBounds_toArray, List.set_cons_zero, List.set_cons_succ])
    refine wpAnyH_done (by kernel_rfl) ?_ _
    
    go_wp2_with fail
    go_ret
    exact ⟨by simp, HD8.out.b⟩
  · have hne : (((checkT t : Nat) : Int) != 0) = true := by simp; omega
    have hk13 : checkT t ≤ 13 := by unfold checkT; split; omega; split <;> omega
    go_wp2_with (first
      | (go_at_call 12
         refine (code_any (checkT t) hk13 _).mono ?_
         rintro _ w5 ⟨rfl, m, hw5⟩
         have hd5 : TW w w5 h t := by rw [hw5]; exact HD4.out.drewN m
         have HD5 := Lib.hid hd5
         clear x0 x1 x2 x3 x4
         obtain ⟨x0, x1, x2, x3, x4⟩ := hd5.box.cells
         clear hd5 hw5)
      | (go_at_call 13
         refine (full_any t h _ HD5.out.t).mono ?_
         rintro _ w6 ⟨rfl, hb6⟩
         have hd6 := HD5.out.below hb6
         have HD6 := Lib.hid hd6
         rw [decide_eq_false hchk, Bool.false_and]
         clear x0 x1 x2 x3 x4
         obtain ⟨x0, x1, x2, x3, x4⟩ := hd6.box.cells
         clear hb6 hd6)
      | (go_at_call 14
         refine (depth_any t h _ HD6.out.t).mono ?_
         rintro _ w7 ⟨rfl, hb7⟩
         rw [if_neg hchk]
         have HD7 := Lib.hid (HD6.out.below hb7)
         clear hb7))
    go_ret
    exact ⟨by simp, HD7.out.b⟩
end Go.Proofs.YtcplfpnaepdddaaDoor
