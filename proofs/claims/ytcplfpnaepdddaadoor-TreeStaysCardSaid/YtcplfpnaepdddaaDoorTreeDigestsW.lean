/- The walk of the law TreeDigests. -/
import Derived.Test.YtcplfpnaepdddaaDoorTreeChecksW
import Derived.Test.YtcplfpnaepdddaaDoorRefDigest
namespace Go.Proofs.YtcplfpnaepdddaaDoor
open Go.RowKit
set_option linter.unusedVariables false

theorem conv_tree {w : World} {a : Option Addr} {n cap : Nat} {bs : List Int} (h : InBytes w a n cap bs) :
    (convert 22 9 (.slice a n cap)).run Tryd.prog w = .ok (.string (strOfNums bs)) w :=
  conv_in (P := Tryd.prog) h 22 5 9 Tryd.underlying22 Tryd.underlying5 Tryd.underlying9
theorem check_13 (t : Tr) : checkT t ≤ 13 := by unfold checkT; split; omega; split <;> omega

set_option maxRecDepth 100000 in
set_option maxHeartbeats 4000000 in
theorem digests_law (x : Int) (t : Tr) (h : TH) (w : World) (ht : InTree w h t) (hT : TabLies w) (hx1 : -9223372036854775808 ≤ x) (hx2 : x ≤ 9223372036854775807) :
    Calls Tryd.prog 4 #[.int .i64 x, h.v] w (Says w (.bool true)) := by
  have heq : ∀ (W : World) (p q : Int), (binOp .eql 29 (.iface 35 (.int .i64 p)) (.iface 35 (.int .i64 q))).run Tryd.prog W = .ok (.bool (p == q)) W := fun W p q => eql_code p q W
  have hcd1 : codeV 1 = .iface 35 (.int .i64 1) := rfl
  have hcd3 : codeV 3 = .iface 35 (.int .i64 3) := rfl
  unfold TH.v
  have hd0 := TW.new w ht
  have HD0 := Lib.hid hd0
  have HT := Lib.hid hT
  clear ht hT hd0
  go_enter Tryd.func4, Tryd.ntmps4
  go_upto_region 3 with (first
    | (go_at_call 8
       refine (upT_any _ (HT.out.below HD0.out.b (Nat.le_refl _))).mono ?_
       rintro _ w1 ⟨rfl, hb1⟩
       have hd1 := HD0.out.below hb1
       have HD1 := Lib.hid hd1
       obtain ⟨x0, x1, x2, x3, x4⟩ := hd1.box.cells
       clear hb1 hd1)
    | (go_at_call 9
       refine (small_any t h _ HD1.out.t).mono ?_
       rintro _ w2 ⟨ok, rfl, hok, hb2⟩
       have hd2 := HD1.out.below hb2
       have HD2 := Lib.hid hd2
       clear x0 x1 x2 x3 x4
       obtain ⟨x0, x1, x2, x3, x4⟩ := hd2.box.cells
       clear hb2 hd2 hok))
  cases ok
  · go_wp2_with fail
    go_ret
    exact ⟨rfl, HD2.out.b⟩
  have HTT := Lib.hid (HT.out.below HD2.out.b (Nat.le_refl _))
  by_cases hw : 1 ≤ x ∧ x ≤ 32
  rotate_left
  · go_upto_region 6 with (first
      | (go_at_call 17
         refine (digest_arg x t h _ HD2.out.t hx1 hx2 hw).mono ?_
         rintro _ w3 ⟨a3, c3, rfl, hb3⟩
         have hd3 := HD2.out.below hb3
         have HD3 := Lib.hid hd3
         skip
         clear x0 x1 x2 x3 x4
         obtain ⟨x0, x1, x2, x3, x4⟩ := hd3.box.cells
         clear hb3 hd3))
    by_cases hx : x < 1
    · go_wp2_with fail
      go_ret
      exact ⟨by simp, HD3.out.b⟩
    · have hx' : (32 : Int) < x := by omega
      go_wp2_with fail
      go_ret
      exact ⟨by simp, HD3.out.b⟩
  obtain ⟨k, rfl⟩ : ∃ k : Nat, x = (k : Int) := ⟨x.toNat, by omega⟩
  have hk1 : 1 ≤ k := by omega
  have hk2 : k ≤ 32 := by omega
  have hk3 : ¬ (k : Int) < 1 := by omega
  have hk4 : ¬ (32 : Int) < (k : Int) := by omega
  clear hw
  by_cases hchk : checkT t = 0
  rotate_left
  · have hne : (((checkT t : Nat) : Int) != 0) = true := by simp; omega
    go_wp2_with (first
    | (go_at_call 17
       refine (digest_err k hk1 hk2 t h _ HD2.out.t hchk).mono ?_
       rintro _ w3 ⟨a3, c3, rfl, hb3⟩
       have hd3 := HD2.out.below hb3
       have HD3 := Lib.hid hd3
       skip
       clear x0 x1 x2 x3 x4
       obtain ⟨x0, x1, x2, x3, x4⟩ := hd3.box.cells
       clear hb3 hd3)
    | (go_at_call 11
       refine (refCheck_any t h _ HD3.out.t).mono ?_
       rintro _ w4 ⟨rfl, hb4⟩
       have hd4 := HD3.out.below hb4
       have HD4 := Lib.hid hd4
       skip
       clear x0 x1 x2 x3 x4
       obtain ⟨x0, x1, x2, x3, x4⟩ := hd4.box.cells
       clear hb4 hd4)
    | (go_at_call 12
       refine (code_any (checkT t) (check_13 t) _).mono ?_
       rintro _ w5 ⟨rfl, m, hw5⟩
       have HD5 : Hid (TW w w5 h t) := Lib.hid (by rw [hw5]; exact HD4.out.drewN m)
       clear hw5))
    go_ret
    exact ⟨by simp, HD5.out.b⟩
  have hc0 : ((checkT t : Nat) : Int) = 0 := by rw [hchk]; rfl
  cases hdg : digT k t with
  | none =>
    have HDG := Lib.hid hdg
    go_upto_region 11 with (first
    | (go_at_call 17
       refine (digest_none k hk1 hk2 t h _ HD2.out.t HTT.out hchk HDG.out).mono ?_
       rintro _ w3 ⟨a3, c3, rfl, hb3⟩
       have hd3 := HD2.out.below hb3
       have HD3 := Lib.hid hd3
       skip
       clear x0 x1 x2 x3 x4
       obtain ⟨x0, x1, x2, x3, x4⟩ := hd3.box.cells
       clear hb3 hd3)
    | (go_at_call 11
       refine (refCheck_any t h _ HD3.out.t).mono ?_
       rintro _ w4 ⟨rfl, hb4⟩
       have hd4 := HD3.out.below hb4
       have HD4 := Lib.hid hd4
       skip
       clear x0 x1 x2 x3 x4
       obtain ⟨x0, x1, x2, x3, x4⟩ := hd4.box.cells
       clear hb4 hd4))
    refine wp_region_held_drew (S := (fun W => W.cell? ⟨w.heap.size, 0, none⟩ = some (.int .i64 h.k) ∧ W.cell? ⟨w.heap.size, 1, none⟩ = some (.slice h.ka h.kn h.kc) ∧ W.cell? ⟨w.heap.size, 2, none⟩ = some (.slice h.va h.vn h.vc) ∧ W.cell? ⟨w.heap.size, 3, none⟩ = some (.slice h.da h.dn h.dc) ∧ W.cell? ⟨w.heap.size, 4, none⟩ = some (.slice h.ta h.tn h.tc))) (by kernel_rfl) HD4.out.drew.box.cells (fun hHeld => ?_)
    refine take_w (i := 1) (oi := ?oZ1) (v := ?vZ1) ?hiZ1 (by kernel_rfl) (by kernel_rfl) (by kernel_rfl) ?hQZ1 ?hwZ1 ?hyZ1 (by assumption) ?restZ1
    case hiZ1 => (simp only [List.getElem?_toArray, List.getElem?_cons_succ, List.getElem?_cons_zero] <;> rfl)
    case hQZ1 => exact (fun _ _ _ h => h)
    case hwZ1 => rfl
    case hyZ1 => (intro w hSw; (try dsimp only at hSw); go_simp; try with_reducible rfl)
    (try simp only [Act.put, List.setIfInBounds_toArray, List.set_cons_zero, List.set_cons_succ])
    refine take_w (i := 2) (oi := ?oZ2) (v := ?vZ2) ?hiZ2 (by kernel_rfl) (by kernel_rfl) (by kernel_rfl) ?hQZ2 ?hwZ2 ?hyZ2 (by assumption) ?restZ2
    case hiZ2 => (simp only [List.getElem?_toArray, List.getElem?_cons_succ, List.getElem?_cons_zero] <;> rfl)
    case hQZ2 => exact (fun _ _ _ h => h)
    case hwZ2 => rfl
    case hyZ2 => (intro w hSw; (try dsimp only at hSw); go_simp; try with_reducible rfl)
    (try simp only [Act.put, List.setIfInBounds_toArray, List.set_cons_zero, List.set_cons_succ])
    refine wpAnyH_ready (rs := [0]) (by kernel_rfl) (by simp) ?_
    refine AllReadyH.cons (o := ?oZ3) ?hiZ3 (fun K hK => ?stZ3) AllReadyH.nil
    case hiZ3 => (simp only [List.getElem?_toArray, List.getElem?_cons_zero] <;> rfl)
    go_simp
    go_at_call 19
    refine (made_any _).mono ?_
    rintro _ w7 ⟨gk, ck, rfl, ho7, hb7⟩
    have HO7 := Lib.hid (own_seg ho7)
    have hgk := (ho7.lt gk rfl).2
    have HD7 := Lib.hid (HD4.out.drew.below hb7)
    clear ho7 hb7
    go_simp
    refine hK.out _ _ ?_ (fun hHeld => ?_)
    · (first | exact HD8.out.box.cells | exact HD7.out.box.cells | exact HD4.out.drew.box.cells)
    clear hK K
    (try simp only [Act.put, List.setIfInBounds_toArray, List.set_cons_zero, List.set_cons_succ])
    refine wpAnyH_ready (rs := [3]) (by kernel_rfl) (by simp) ?_
    refine AllReadyH.cons (o := ?oZ4) ?hiZ4 (fun K hK => ?stZ4) AllReadyH.nil
    case hiZ4 => (simp only [List.getElem?_toArray, List.getElem?_cons_succ, List.getElem?_cons_zero] <;> rfl)
    go_simp
    go_at_call 18
    refine (refDigest_any k hk1 hk2 gk ck t h _ HD7.out.t (check_zero hchk).1 HO7.out hgk).mono ?_
    rintro _ w8 ⟨a8, n8, c8, is8, rfl, hres8, hb8⟩
    have HD8 := Lib.hid (HD7.out.below hb8)
    have HRES := Lib.hid hres8
    clear hres8 hb8
    go_simp
    refine hK.out _ _ ?_ (fun hHeld => ?_)
    · (first | exact HD8.out.box.cells | exact HD7.out.box.cells | exact HD4.out.drew.box.cells)
    clear hK K
    (try simp only [Act.put, List.setIfInBounds_toArray, List.set_cons_zero, List.set_cons_succ])
    refine take_w (i := 4) (oi := ?oZ5) (v := ?vZ5) ?hiZ5 (by kernel_rfl) (by kernel_rfl) (by kernel_rfl) ?hQZ5 ?hwZ5 ?hyZ5 (by assumption) ?restZ5
    case hiZ5 => (simp only [List.getElem?_toArray, List.getElem?_cons_succ, List.getElem?_cons_zero] <;> rfl)
    case hQZ5 => exact (fun _ _ _ h => h)
    case hwZ5 => rfl
    case hyZ5 => (intro w hSw; (try dsimp only at hSw); go_simp; try with_reducible rfl)
    (try simp only [Act.put, List.setIfInBounds_toArray, List.set_cons_zero, List.set_cons_succ])
    refine take_w (i := 5) (oi := ?oZ6) (v := ?vZ6) ?hiZ6 (by kernel_rfl) (by kernel_rfl) (by kernel_rfl) ?hQZ6 ?hwZ6 ?hyZ6 (by assumption) ?restZ6
    case hiZ6 => (simp only [List.getElem?_toArray, List.getElem?_cons_succ, List.getElem?_cons_zero] <;> rfl)
    case hQZ6 => exact (fun _ _ _ h => h)
    case hwZ6 => rfl
    case hyZ6 => (intro w hSw; (try dsimp only at hSw); go_simp; try with_reducible rfl)
    (try simp only [Act.put, List.setIfInBounds_toArray, List.set_cons_zero, List.set_cons_succ])
    refine take_w (i := 6) (oi := ?oZ7) (v := ?vZ7) ?hiZ7 (by kernel_rfl) (by kernel_rfl) (by kernel_rfl) ?hQZ7 ?hwZ7 ?hyZ7 (by assumption) ?restZ7
    case hiZ7 => (simp only [List.getElem?_toArray, List.getElem?_cons_succ, List.getElem?_cons_zero] <;> rfl)
    case hQZ7 => exact (fun _ _ _ h => h)
    case hwZ7 => rfl
    case hyZ7 => (intro w hSw; (try dsimp only at hSw); go_simp; try with_reducible rfl)
    (try simp only [Act.put, List.setIfInBounds_toArray, List.set_cons_zero, List.set_cons_succ])
    refine take_w (i := 7) (oi := ?oZ8) (v := ?vZ8) ?hiZ8 (by kernel_rfl) (by kernel_rfl) (by kernel_rfl) ?hQZ8 ?hwZ8 ?hyZ8 (by assumption) ?restZ8
    case hiZ8 => (simp only [List.getElem?_toArray, List.getElem?_cons_succ, List.getElem?_cons_zero] <;> rfl)
    case hQZ8 => exact (fun _ _ _ h => h)
    case hwZ8 => rfl
    case hyZ8 => (intro w hSw; (try dsimp only at hSw); go_simp; try with_reducible rfl)
    (try simp only [Act.put, List.setIfInBounds_toArray, List.set_cons_zero, List.set_cons_succ])
    refine take_w (i := 8) (oi := ?oZ9) (v := ?vZ9) ?hiZ9 (by kernel_rfl) (by kernel_rfl) (by kernel_rfl) ?hQZ9 ?hwZ9 ?hyZ9 (by assumption) ?restZ9
    case hiZ9 => (simp only [List.getElem?_toArray, List.getElem?_cons_succ, List.getElem?_cons_zero] <;> rfl)
    case hQZ9 => exact (fun _ _ _ h => h)
    case hwZ9 => rfl
    case hyZ9 => (intro w hSw; (try dsimp only at hSw); go_simp; try with_reducible rfl)
    (try simp only [Act.put, List.setIfInBounds_toArray, List.set_cons_zero, List.set_cons_succ])
    refine wpAnyH_done (by kernel_rfl) ?_ _
    
    clear hHeld
    have hres := HRES.out
    rw [hdg] at hres
    rcases hres with ⟨_, zs, h1, _⟩ | ⟨rfl, _⟩
    · cases h1
    go_wp2_with fail
    go_ret
    exact ⟨by simp, HD8.out.b⟩
  | some zs =>
    have HDG := Lib.hid hdg
    go_upto_region 11 with (first
    | (go_at_call 17
       refine (digest_ok k hk1 hk2 t h _ HD2.out.t HTT.out hchk HDG.out).mono ?_
       rintro _ w3 ⟨a3, c3, rfl, hn3, hb3⟩
       have hd3 := HD2.out.below hb3
       have HD3 := Lib.hid hd3
       have HI3 := Lib.hid hn3.inb
       clear hn3
       clear x0 x1 x2 x3 x4
       obtain ⟨x0, x1, x2, x3, x4⟩ := hd3.box.cells
       clear hb3 hd3)
    | (go_at_call 11
       refine (refCheck_any t h _ HD3.out.t).mono ?_
       rintro _ w4 ⟨rfl, hb4⟩
       have hd4 := HD3.out.below hb4
       have HD4 := Lib.hid hd4
       have HI4 := Lib.hid (HI3.out.below hb4)
       clear x0 x1 x2 x3 x4
       obtain ⟨x0, x1, x2, x3, x4⟩ := hd4.box.cells
       clear hb4 hd4))
    refine wp_region_held_drew (S := (fun W => W.cell? ⟨w.heap.size, 0, none⟩ = some (.int .i64 h.k) ∧ W.cell? ⟨w.heap.size, 1, none⟩ = some (.slice h.ka h.kn h.kc) ∧ W.cell? ⟨w.heap.size, 2, none⟩ = some (.slice h.va h.vn h.vc) ∧ W.cell? ⟨w.heap.size, 3, none⟩ = some (.slice h.da h.dn h.dc) ∧ W.cell? ⟨w.heap.size, 4, none⟩ = some (.slice h.ta h.tn h.tc))) (by kernel_rfl) HD4.out.drew.box.cells (fun hHeld => ?_)
    refine take_w (i := 1) (oi := ?oZ10) (v := ?vZ10) ?hiZ10 (by kernel_rfl) (by kernel_rfl) (by kernel_rfl) ?hQZ10 ?hwZ10 ?hyZ10 (by assumption) ?restZ10
    case hiZ10 => (simp only [List.getElem?_toArray, List.getElem?_cons_succ, List.getElem?_cons_zero] <;> rfl)
    case hQZ10 => exact (fun _ _ _ h => h)
    case hwZ10 => rfl
    case hyZ10 => (intro w hSw; (try dsimp only at hSw); go_simp; try with_reducible rfl)
    (try simp only [Act.put, List.setIfInBounds_toArray, List.set_cons_zero, List.set_cons_succ])
    refine take_w (i := 2) (oi := ?oZ11) (v := ?vZ11) ?hiZ11 (by kernel_rfl) (by kernel_rfl) (by kernel_rfl) ?hQZ11 ?hwZ11 ?hyZ11 (by assumption) ?restZ11
    case hiZ11 => (simp only [List.getElem?_toArray, List.getElem?_cons_succ, List.getElem?_cons_zero] <;> rfl)
    case hQZ11 => exact (fun _ _ _ h => h)
    case hwZ11 => rfl
    case hyZ11 => (intro w hSw; (try dsimp only at hSw); go_simp; try with_reducible rfl)
    (try simp only [Act.put, List.setIfInBounds_toArray, List.set_cons_zero, List.set_cons_succ])
    refine wpAnyH_ready (rs := [0]) (by kernel_rfl) (by simp) ?_
    refine AllReadyH.cons (o := ?oZ12) ?hiZ12 (fun K hK => ?stZ12) AllReadyH.nil
    case hiZ12 => (simp only [List.getElem?_toArray, List.getElem?_cons_zero] <;> rfl)
    go_simp
    go_at_call 19
    refine (made_any _).mono ?_
    rintro _ w7 ⟨gk, ck, rfl, ho7, hb7⟩
    have HO7 := Lib.hid (own_seg ho7)
    have hgk := (ho7.lt gk rfl).2
    have HD7 := Lib.hid (HD4.out.drew.below hb7)
    have HI7 := Lib.hid ((HI4.out.below (Below.refl _ _).drew).below hb7)
    clear ho7 hb7
    go_simp
    refine hK.out _ _ ?_ (fun hHeld => ?_)
    · (first | exact HD8.out.box.cells | exact HD7.out.box.cells | exact HD4.out.drew.box.cells)
    clear hK K
    (try simp only [Act.put, List.setIfInBounds_toArray, List.set_cons_zero, List.set_cons_succ])
    refine wpAnyH_ready (rs := [3]) (by kernel_rfl) (by simp) ?_
    refine AllReadyH.cons (o := ?oZ13) ?hiZ13 (fun K hK => ?stZ13) AllReadyH.nil
    case hiZ13 => (simp only [List.getElem?_toArray, List.getElem?_cons_succ, List.getElem?_cons_zero] <;> rfl)
    go_simp
    go_at_call 18
    refine (refDigest_any k hk1 hk2 gk ck t h _ HD7.out.t (check_zero hchk).1 HO7.out hgk).mono ?_
    rintro _ w8 ⟨a8, n8, c8, is8, rfl, hres8, hb8⟩
    have HD8 := Lib.hid (HD7.out.below hb8)
    have HRES := Lib.hid hres8
    have HI8 := Lib.hid (HI7.out.below hb8)
    clear hres8 hb8
    go_simp
    refine hK.out _ _ ?_ (fun hHeld => ?_)
    · (first | exact HD8.out.box.cells | exact HD7.out.box.cells | exact HD4.out.drew.box.cells)
    clear hK K
    (try simp only [Act.put, List.setIfInBounds_toArray, List.set_cons_zero, List.set_cons_succ])
    refine take_w (i := 4) (oi := ?oZ14) (v := ?vZ14) ?hiZ14 (by kernel_rfl) (by kernel_rfl) (by kernel_rfl) ?hQZ14 ?hwZ14 ?hyZ14 (by assumption) ?restZ14
    case hiZ14 => (simp only [List.getElem?_toArray, List.getElem?_cons_succ, List.getElem?_cons_zero] <;> rfl)
    case hQZ14 => exact (fun _ _ _ h => h)
    case hwZ14 => rfl
    case hyZ14 => (intro w hSw; (try dsimp only at hSw); go_simp; try with_reducible rfl)
    (try simp only [Act.put, List.setIfInBounds_toArray, List.set_cons_zero, List.set_cons_succ])
    refine take_w (i := 5) (oi := ?oZ15) (v := ?vZ15) ?hiZ15 (by kernel_rfl) (by kernel_rfl) (by kernel_rfl) ?hQZ15 ?hwZ15 ?hyZ15 (by assumption) ?restZ15
    case hiZ15 => (simp only [List.getElem?_toArray, List.getElem?_cons_succ, List.getElem?_cons_zero] <;> rfl)
    case hQZ15 => exact (fun _ _ _ h => h)
    case hwZ15 => rfl
    case hyZ15 => (intro w hSw; (try dsimp only at hSw); go_simp; try with_reducible rfl)
    (try simp only [Act.put, List.setIfInBounds_toArray, List.set_cons_zero, List.set_cons_succ])
    refine take_w (i := 6) (oi := ?oZ16) (v := ?vZ16) ?hiZ16 (by kernel_rfl) (by kernel_rfl) (by kernel_rfl) ?hQZ16 ?hwZ16 ?hyZ16 (by assumption) ?restZ16
    case hiZ16 => (simp only [List.getElem?_toArray, List.getElem?_cons_succ, List.getElem?_cons_zero] <;> rfl)
    case hQZ16 => exact (fun _ _ _ h => h)
    case hwZ16 => rfl
    case hyZ16 => (intro w hSw; (try dsimp only at hSw); go_simp; try with_reducible rfl)
    (try simp only [Act.put, List.setIfInBounds_toArray, List.set_cons_zero, List.set_cons_succ])
    refine take_w (i := 7) (oi := ?oZ17) (v := ?vZ17) ?hiZ17 (by kernel_rfl) (by kernel_rfl) (by kernel_rfl) ?hQZ17 ?hwZ17 ?hyZ17 (by assumption) ?restZ17
    case hiZ17 => (simp only [List.getElem?_toArray, List.getElem?_cons_succ, List.getElem?_cons_zero] <;> rfl)
    case hQZ17 => exact (fun _ _ _ h => h)
    case hwZ17 => rfl
    case hyZ17 => (intro w hSw; (try dsimp only at hSw); go_simp; try with_reducible rfl)
    (try simp only [Act.put, List.setIfInBounds_toArray, List.set_cons_zero, List.set_cons_succ])
    refine take_w (i := 8) (oi := ?oZ18) (v := ?vZ18) ?hiZ18 (by kernel_rfl) (by kernel_rfl) (by kernel_rfl) ?hQZ18 ?hwZ18 ?hyZ18 (by assumption) ?restZ18
    case hiZ18 => (simp only [List.getElem?_toArray, List.getElem?_cons_succ, List.getElem?_cons_zero] <;> rfl)
    case hQZ18 => exact (fun _ _ _ h => h)
    case hwZ18 => rfl
    case hyZ18 => (intro w hSw; (try dsimp only at hSw); go_simp; try with_reducible rfl)
    (try simp only [Act.put, List.setIfInBounds_toArray, List.set_cons_zero, List.set_cons_succ])
    refine wpAnyH_done (by kernel_rfl) ?_ _
    
    clear hHeld
    have hres := HRES.out
    rw [hdg] at hres
    rcases hres with ⟨rfl, ys, h1, hin8⟩ | ⟨_, h1⟩
    · injection h1 with h1
      subst h1
      have cv1 := conv_tree HI8.out
      have cv2 := conv_tree hin8
      clear hin8
      go_wp2_with fail
      go_ret
      exact ⟨by simp, HD8.out.b⟩
    · cases h1
end Go.Proofs.YtcplfpnaepdddaaDoor
