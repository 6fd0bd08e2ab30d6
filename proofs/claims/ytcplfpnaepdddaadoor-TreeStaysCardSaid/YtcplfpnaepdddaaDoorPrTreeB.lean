/- The contracts of the program's Check, Full and Depth. -/
import Derived.Test.YtcplfpnaepdddaaDoorPrTreeA
import Derived.Test.YtcplfpnaepdddaaDoorTake
namespace Go.Proofs.YtcplfpnaepdddaaDoor
open Go.RowKit
set_option linter.unusedVariables false
theorem check_cases (t : Tr) : checkT t = if deepT t 64 then 5 else if formedT t then 0 else 3 := rfl

set_option maxRecDepth 100000 in
set_option maxHeartbeats 4000000 in
theorem check_any (t : Tr) (h : TH) (w : World) (ht : InTree w h t) : Calls Tryd.prog 10 #[h.v] w (Says w (codeV (checkT t))) := by
  unfold TH.v
  have hbox := Box.new w 25 h
  have HX := Lib.hid hbox
  have HT := Lib.hid ht
  obtain ⟨x0, x1, x2, x3, x4⟩ := hbox.cells
  clear hbox ht
  go_enter Tryd.func10, Tryd.ntmps10
  go_upto_if 4 with (first
    | (go_at_call 26
       refine (tooDeep_any t h _ ?_).mono ?_
       · exact HT.out.lower ((Below.refl _ _).alloc (Nat.le_refl _) _)
       rintro _ w1 ⟨rfl, hb1⟩
       have HB1 : Hid (Below w.heap.size w w1) := Lib.hid (((Below.refl w.heap.size w).alloc (Nat.le_refl _) _).trans (hb1.mono (by simp)))
       obtain ⟨y0, y1, y2, y3, y4⟩ := (HX.out.below hb1 HX.out.lt).cells
       generalize hr : deepT t 64 = r
       have HR := Lib.hid hr
       clear hb1 hr x0 x1 x2 x3 x4))
  cases r
  · go_upto_if 8 with (first
      | (go_at_call 27
         refine (everyPart t h _ ?_).mono ?_
         · exact HT.out.lower HB1.out
         rintro _ w2 ⟨rfl, hb2⟩
         have HB2 : Hid (Below w.heap.size w w2) := Lib.hid (HB1.out.trans (hb2.mono HB1.out.size))
         rw [allT_part]
         generalize hq : formedT t = q
         have HQ := Lib.hid hq
         clear hb2 hq y0 y1 y2 y3 y4))
    cases q
    · go_wp2_with fail
      go_ret
      have e : checkT t = 3 := by unfold checkT; rw [HR.out, HQ.out]; rfl
      exact ⟨by rw [e]; rfl, HB2.out⟩
    · simp only [Bool.not_true]
      go_wp2_with fail
      go_ret
      have e : checkT t = 0 := by unfold checkT; rw [HR.out, HQ.out]; rfl
      exact ⟨by rw [e]; rfl, HB2.out⟩
  · go_wp2_with fail
    go_ret
    have e : checkT t = 5 := by unfold checkT; rw [HR.out]; rfl
    exact ⟨by rw [e]; rfl, HB1.out⟩
theorem check_zero {t : Tr} (h : checkT t = 0) : formedT t = true ∧ deepT t 64 = false := by
  unfold checkT at h
  split at h
  · cases h
  · split at h
    · exact ⟨by assumption, by rename_i q _; simpa using q⟩
    · cases h
theorem codeV_pos {k : Nat} (h : k ≠ 0) : codeV k = .iface 35 (.int .i64 k) := by
  unfold codeV
  rw [if_neg h]

set_option maxRecDepth 100000 in
set_option maxHeartbeats 4000000 in
theorem full_any (t : Tr) (h : TH) (w : World) (ht : InTree w h t) : Calls Tryd.prog 13 #[h.v] w (Says w (.bool (decide (checkT t = 0) && fullT t))) := by
  unfold TH.v
  have hbox := Box.new w 25 h
  have HX := Lib.hid hbox
  have HT := Lib.hid ht
  obtain ⟨x0, x1, x2, x3, x4⟩ := hbox.cells
  clear hbox ht
  go_enter Tryd.func13, Tryd.ntmps13
  by_cases hc : checkT t = 0
  · have HCZ := Lib.hid hc
    clear hc
    go_wp2_with (first
      | (go_at_call 10
         refine (check_any t h _ ?_).mono ?_
         · exact HT.out.lower ((Below.refl _ _).alloc (Nat.le_refl _) _)
         rintro _ w1 ⟨rfl, hb1⟩
         have HB1 : Hid (Below w.heap.size w w1) := Lib.hid (((Below.refl w.heap.size w).alloc (Nat.le_refl _) _).trans (hb1.mono (by simp)))
         obtain ⟨y0, y1, y2, y3, y4⟩ := (HX.out.below hb1 HX.out.lt).cells
         have hcv : codeV (checkT t) = .nilIface := by rw [HCZ.out]; rfl
         rw [hcv]
         clear hcv
         clear hb1 x0 x1 x2 x3 x4)
      | (go_at_call 27
         refine (everyTold t h _ ?_).mono ?_
         · exact HT.out.lower HB1.out
         rintro _ w2 ⟨rfl, hb2⟩
         have HB2 : Hid (Below w.heap.size w w2) := Lib.hid (HB1.out.trans (hb2.mono HB1.out.size))
         rw [allT_told t (check_zero HCZ.out).1]
         clear hb2 y0 y1 y2 y3 y4))
    go_ret
    refine ⟨?_, HB2.out⟩
    rw [HCZ.out]
    rfl
  · have HCZ := Lib.hid hc
    clear hc
    go_wp2_with (first
      | (go_at_call 10
         refine (check_any t h _ ?_).mono ?_
         · exact HT.out.lower ((Below.refl _ _).alloc (Nat.le_refl _) _)
         rintro _ w1 ⟨rfl, hb1⟩
         have HB1 : Hid (Below w.heap.size w w1) := Lib.hid (((Below.refl w.heap.size w).alloc (Nat.le_refl _) _).trans (hb1.mono (by simp)))
         rw [codeV_pos HCZ.out]
         clear hb1 x0 x1 x2 x3 x4))
    go_ret
    refine ⟨?_, HB1.out⟩
    rw [decide_eq_false HCZ.out]
    rfl

/-- What the world is like inside a closure: its own box of a tree, the closure's variable. -/
structure KW (ty : TypeId) (v : Value) (gc : Nat) (w W : World) (h : TH) : Prop where
  box : Box W 25 w.heap.size h
  clo : Var1 W ty gc v
  b : Below w.heap.size w W
theorem KW.below {ty : TypeId} {v : Value} {gc : Nat} {w W W' : World} {h : TH} (d : KW ty v gc w W h) (hb : Below W.heap.size W W') : KW ty v gc w W' h := ⟨d.box.below hb d.box.lt, d.clo.below hb d.clo.lt, d.b.trans (hb.mono d.b.size)⟩
theorem KW.drew {ty : TypeId} {v : Value} {gc : Nat} {w W : World} {h : TH} (d : KW ty v gc w W h) : KW ty v gc w W.drew h := d.below (Below.refl _ _).drew
theorem KW.new {ty : TypeId} {v : Value} {gc : Nat} (w : World) (h : TH) (hv : Var1 w ty gc v) : KW ty v gc w (w.alloc (.cells #[.int .i64 h.k, .slice h.ka h.kn h.kc, .slice h.va h.vn h.vc, .slice h.da h.dn h.dc, .slice h.ta h.tn h.tc] 25)) h :=
  ⟨Box.new w _ h, hv.below ((Below.refl _ _).alloc (Nat.le_refl _) _) hv.lt, (Below.refl _ _).alloc (Nat.le_refl _) _⟩

set_option maxRecDepth 100000 in
set_option maxHeartbeats 4000000 in
theorem depthC_any : ∀ (t : Tr) (h : TH) (b : Int) (w : World) (gc : Nat), InTree w h t → formedT t = true → deepT t b = false → 0 ≤ b → b ≤ 64 → Var1 w 31 gc (.func (.func 32) #[] #[.pointer (some ⟨gc, 0, none⟩)]) →
    Calls Tryd.prog 32 #[h.v, .pointer (some ⟨gc, 0, none⟩)] w (Says w (.int .i64 (depthT t))) := by
  intro t
  induction t using Tr.ind with
  | h t ih =>
  intro h b w gc ht hf hd hb0 hb1 hcl
  obtain ⟨hpb, hfk⟩ := formed_kids hf
  unfold TH.v
  obtain ⟨H, hp⟩ := ht.parts
  have htl := hp.len
  have htm := Nat.le_trans hp.sl.le hp.sl.max
  have htc := hp.sl.le
  simp only [maxLen] at htm
  have HP := Lib.hid hp
  have HTT := Lib.hid ht
  have IH := Lib.hid ih
  clear hp ht ih
  have hd0 := KW.new w h hcl
  have HD0 := Lib.hid hd0
  obtain ⟨x0, x1, x2, x3, x4⟩ := hd0.box.cells
  clear hd0 hcl
  go_enter Tryd.func32, Tryd.ntmps32
  go_upto_if 6 with (first
    | (go_at_call 33
       refine (isNode_any t h _ (HTT.out.lower HD0.out.b)).mono ?_
       rintro _ w1 ⟨rfl, hb1⟩
       have HD1 := Lib.hid (HD0.out.below hb1)
       clear hb1))
  clear x0 x1 x2 x3 x4 HD0
  rcases part_kids hpb with ⟨h0, hk⟩ | ⟨h2, hk⟩
  · have e1 : nodeK t = false := by unfold nodeK; rcases hk with hk | hk <;> rw [hk] <;> rfl
    rw [e1]
    clear e1 hk
    go_wp2_with fail
    go_ret
    have e : depthT t = 0 := by rw [depthT_eq, if_pos h0]
    exact ⟨by rw [e]; rfl, HD1.out.b⟩
  · have e1 : nodeK t = true := by unfold nodeK; rcases hk with hk | hk <;> rw [hk] <;> rfl
    rw [e1]
    clear e1 hk
    simp only [Bool.not_true]
    obtain ⟨hbn, hdk⟩ := deep_kids hd (by omega)
    have l0 : 0 < t.kids.length := by omega
    have l1 : 1 < t.kids.length := by omega
    have e := depth_two h2
    have b0 := depth_le _ (b - 1) (hfk 0 l0) (hdk 0 l0) (by omega)
    have b1 := depth_le _ (b - 1) (hfk 1 l1) (hdk 1 l1) (by omega)
    have HE := Lib.hid (And.intro e (And.intro hfk hdk))
    clear e hfk hdk hf hd
    go_upto_region 3 with fail
    obtain ⟨g, off, hta, hg, -⟩ := (HP.out.below HD1.out.b).place (by omega)
    have HTA := Lib.hid hta
    rw [hta]
    clear hta
    have ht1 : (1 : Int) < (h.tn : Int) := by omega
    have ht0 : 0 < h.tn := by omega
    refine wp_region_held_drew (S := (fun W => W.cell? ⟨gc, 0, none⟩ = some (.func (.func 32) #[] #[.pointer (some ⟨gc, 0, none⟩)]) ∧ W.cell? ⟨w.heap.size, 4, none⟩ = some (.slice (some ⟨g, off, none⟩) h.tn h.tc) ∧ W.cell? ⟨g, off, none⟩ = some (.int .i64 (H 0).k) ∧ W.cell? ⟨g, off + 1, none⟩ = some (.slice (H 0).ka (H 0).kn (H 0).kc) ∧ W.cell? ⟨g, off + 2, none⟩ = some (.slice (H 0).va (H 0).vn (H 0).vc) ∧ W.cell? ⟨g, off + 3, none⟩ = some (.slice (H 0).da (H 0).dn (H 0).dc) ∧ W.cell? ⟨g, off + 4, none⟩ = some (.slice (H 0).ta (H 0).tn (H 0).tc) ∧ (W.cell? ⟨g, off + 5, none⟩ = some (.int .i64 (H 1).k) ∧ W.cell? ⟨g, off + 5 + 1, none⟩ = some (.slice (H 1).ka (H 1).kn (H 1).kc) ∧ W.cell? ⟨g, off + 5 + 2, none⟩ = some (.slice (H 1).va (H 1).vn (H 1).vc) ∧ W.cell? ⟨g, off + 5 + 3, none⟩ = some (.slice (H 1).da (H 1).dn (H 1).dc) ∧ W.cell? ⟨g, off + 5 + 4, none⟩ = some (.slice (H 1).ta (H 1).tn (H 1).tc)))) (by kernel_rfl) ⟨HD1.out.drew.clo.cell, (HD1.out.drew.box.cells.2.2.2.2).trans (by rw [HTA.out]), ((HP.out.below HD1.out.drew.b).kid0 HTA.out (by omega)).1, ((HP.out.below HD1.out.drew.b).kid0 HTA.out (by omega)).2.1, ((HP.out.below HD1.out.drew.b).kid0 HTA.out (by omega)).2.2.1, ((HP.out.below HD1.out.drew.b).kid0 HTA.out (by omega)).2.2.2.1, ((HP.out.below HD1.out.drew.b).kid0 HTA.out (by omega)).2.2.2.2, (HP.out.below HD1.out.drew.b).kid1 HTA.out (by omega)⟩ (fun hHeld => ?_)
    refine take_w (i := 0) (oi := ?oZ1) (v := ?vZ1) ?hiZ1 (by kernel_rfl) (by kernel_rfl) (by kernel_rfl) ?hQZ1 ?hwZ1 ?hyZ1 (by assumption) ?restZ1
    case hiZ1 => (simp only [List.getElem?_toArray, List.getElem?_cons_zero] <;> rfl)
    case hQZ1 => exact (fun _ _ _ h => h)
    case hwZ1 => rfl
    case hyZ1 => (intro w hSw; (try dsimp only at hSw); go_simp; try with_reducible rfl)
    (try simp only [Act.put, List.setIfInBounds_toArray, List.set_cons_zero, List.set_cons_succ])
    refine take_w (i := 1) (oi := ?oZ2) (v := ?vZ2) ?hiZ2 (by kernel_rfl) (by kernel_rfl) (by kernel_rfl) ?hQZ2 ?hwZ2 ?hyZ2 (by assumption) ?restZ2
    case hiZ2 => (simp only [List.getElem?_toArray, List.getElem?_cons_succ, List.getElem?_cons_zero] <;> rfl)
    case hQZ2 => exact (fun _ _ _ h => h)
    case hwZ2 => rfl
    case hyZ2 => (intro w hSw; (try dsimp only at hSw); go_simp; try with_reducible rfl)
    (try simp only [Act.put, List.setIfInBounds_toArray, List.set_cons_zero, List.set_cons_succ])
    refine take_w (i := 2) (oi := ?oZ3) (v := ?vZ3) ?hiZ3 (by kernel_rfl) (by kernel_rfl) (by kernel_rfl) ?hQZ3 ?hwZ3 ?hyZ3 (by assumption) ?restZ3
    case hiZ3 => (simp only [List.getElem?_toArray, List.getElem?_cons_succ, List.getElem?_cons_zero] <;> rfl)
    case hQZ3 => exact (fun _ _ _ h => h)
    case hwZ3 => rfl
    case hyZ3 => (intro w hSw; (try dsimp only at hSw); go_simp; try with_reducible rfl)
    (try simp only [Act.put, List.setIfInBounds_toArray, List.set_cons_zero, List.set_cons_succ])
    refine take_w (i := 3) (oi := ?oZ4) (v := ?vZ4) ?hiZ4 (by kernel_rfl) (by kernel_rfl) (by kernel_rfl) ?hQZ4 ?hwZ4 ?hyZ4 (by assumption) ?restZ4
    case hiZ4 => (simp only [List.getElem?_toArray, List.getElem?_cons_succ, List.getElem?_cons_zero] <;> rfl)
    case hQZ4 => exact (fun _ _ _ h => h)
    case hwZ4 => rfl
    case hyZ4 => (intro w hSw; (try dsimp only at hSw); go_simp; try with_reducible rfl)
    (try simp only [Act.put, List.setIfInBounds_toArray, List.set_cons_zero, List.set_cons_succ])
    refine take_w (i := 4) (oi := ?oZ5) (v := ?vZ5) ?hiZ5 (by kernel_rfl) (by kernel_rfl) (by kernel_rfl) ?hQZ5 ?hwZ5 ?hyZ5 (by assumption) ?restZ5
    case hiZ5 => (simp only [List.getElem?_toArray, List.getElem?_cons_succ, List.getElem?_cons_zero] <;> rfl)
    case hQZ5 => exact (fun _ _ _ h => h)
    case hwZ5 => rfl
    case hyZ5 => (intro w hSw; (try dsimp only at hSw); go_simp; try with_reducible rfl)
    (try simp only [Act.put, List.setIfInBounds_toArray, List.set_cons_zero, List.set_cons_succ])
    refine take_w (i := 6) (oi := ?oZ6) (v := ?vZ6) ?hiZ6 (by kernel_rfl) (by kernel_rfl) (by kernel_rfl) ?hQZ6 ?hwZ6 ?hyZ6 (by assumption) ?restZ6
    case hiZ6 => (simp only [List.getElem?_toArray, List.getElem?_cons_succ, List.getElem?_cons_zero] <;> rfl)
    case hQZ6 => exact (fun _ _ _ h => h)
    case hwZ6 => rfl
    case hyZ6 => (intro w hSw; (try dsimp only at hSw); go_simp; try with_reducible rfl)
    (try simp only [Act.put, List.setIfInBounds_toArray, List.set_cons_zero, List.set_cons_succ])
    refine take_w (i := 7) (oi := ?oZ7) (v := ?vZ7) ?hiZ7 (by kernel_rfl) (by kernel_rfl) (by kernel_rfl) ?hQZ7 ?hwZ7 ?hyZ7 (by assumption) ?restZ7
    case hiZ7 => (simp only [List.getElem?_toArray, List.getElem?_cons_succ, List.getElem?_cons_zero] <;> rfl)
    case hQZ7 => exact (fun _ _ _ h => h)
    case hwZ7 => rfl
    case hyZ7 => (intro w hSw; (try dsimp only at hSw); go_simp; try with_reducible rfl)
    (try simp only [Act.put, List.setIfInBounds_toArray, List.set_cons_zero, List.set_cons_succ])
    refine take_w (i := 8) (oi := ?oZ8) (v := ?vZ8) ?hiZ8 (by kernel_rfl) (by kernel_rfl) (by kernel_rfl) ?hQZ8 ?hwZ8 ?hyZ8 (by assumption) ?restZ8
    case hiZ8 => (simp only [List.getElem?_toArray, List.getElem?_cons_succ, List.getElem?_cons_zero] <;> rfl)
    case hQZ8 => exact (fun _ _ _ h => h)
    case hwZ8 => rfl
    case hyZ8 => (intro w hSw; (try dsimp only at hSw); go_simp; try with_reducible rfl)
    (try simp only [Act.put, List.setIfInBounds_toArray, List.set_cons_zero, List.set_cons_succ])
    refine take_w (i := 9) (oi := ?oZ9) (v := ?vZ9) ?hiZ9 (by kernel_rfl) (by kernel_rfl) (by kernel_rfl) ?hQZ9 ?hwZ9 ?hyZ9 (by assumption) ?restZ9
    case hiZ9 => (simp only [List.getElem?_toArray, List.getElem?_cons_succ, List.getElem?_cons_zero] <;> rfl)
    case hQZ9 => exact (fun _ _ _ h => h)
    case hwZ9 => rfl
    case hyZ9 => (intro w hSw; (try dsimp only at hSw); go_simp; try with_reducible rfl)
    (try simp only [Act.put, List.setIfInBounds_toArray, List.set_cons_zero, List.set_cons_succ])
    refine take_w (i := 10) (oi := ?oZ10) (v := ?vZ10) ?hiZ10 (by kernel_rfl) (by kernel_rfl) (by kernel_rfl) ?hQZ10 ?hwZ10 ?hyZ10 (by assumption) ?restZ10
    case hiZ10 => (simp only [List.getElem?_toArray, List.getElem?_cons_succ, List.getElem?_cons_zero] <;> rfl)
    case hQZ10 => exact (fun _ _ _ h => h)
    case hwZ10 => rfl
    case hyZ10 => (intro w hSw; (try dsimp only at hSw); go_simp; try with_reducible rfl)
    (try simp only [Act.put, List.setIfInBounds_toArray, List.set_cons_zero, List.set_cons_succ])
    refine wpAnyH_ready (rs := [5]) (by kernel_rfl) (by simp) ?_
    refine AllReadyH.cons (o := ?oZ11) ?hiZ11 (fun K hK => ?stZ11) AllReadyH.nil
    case hiZ11 => (simp only [List.getElem?_toArray, List.getElem?_cons_succ, List.getElem?_cons_zero] <;> rfl)
    go_simp
    go_at_call 32
    refine (IH.out _ (List.getElem_mem l0) (H 0) (b - 1) _ gc ((HP.out.below HD1.out.drew.b).kids 0 l0) (HE.out.2.1 0 l0) (HE.out.2.2 0 l0) (by omega) (by omega) HD1.out.drew.clo).mono ?_
    rintro _ w2 ⟨rfl, hb2⟩
    have HD2 := Lib.hid (HD1.out.drew.below hb2)
    clear hb2
    go_simp
    refine hK.out _ _ ?_ (fun hHeld => ?_)
    · (first | exact ⟨HD3.out.clo.cell, (HD3.out.box.cells.2.2.2.2).trans (by rw [HTA.out]), ((HP.out.below HD3.out.b).kid0 HTA.out (by omega)).1, ((HP.out.below HD3.out.b).kid0 HTA.out (by omega)).2.1, ((HP.out.below HD3.out.b).kid0 HTA.out (by omega)).2.2.1, ((HP.out.below HD3.out.b).kid0 HTA.out (by omega)).2.2.2.1, ((HP.out.below HD3.out.b).kid0 HTA.out (by omega)).2.2.2.2, (HP.out.below HD3.out.b).kid1 HTA.out (by omega)⟩ | exact ⟨HD2.out.clo.cell, (HD2.out.box.cells.2.2.2.2).trans (by rw [HTA.out]), ((HP.out.below HD2.out.b).kid0 HTA.out (by omega)).1, ((HP.out.below HD2.out.b).kid0 HTA.out (by omega)).2.1, ((HP.out.below HD2.out.b).kid0 HTA.out (by omega)).2.2.1, ((HP.out.below HD2.out.b).kid0 HTA.out (by omega)).2.2.2.1, ((HP.out.below HD2.out.b).kid0 HTA.out (by omega)).2.2.2.2, (HP.out.below HD2.out.b).kid1 HTA.out (by omega)⟩ | exact ⟨HD1.out.drew.clo.cell, (HD1.out.drew.box.cells.2.2.2.2).trans (by rw [HTA.out]), ((HP.out.below HD1.out.drew.b).kid0 HTA.out (by omega)).1, ((HP.out.below HD1.out.drew.b).kid0 HTA.out (by omega)).2.1, ((HP.out.below HD1.out.drew.b).kid0 HTA.out (by omega)).2.2.1, ((HP.out.below HD1.out.drew.b).kid0 HTA.out (by omega)).2.2.2.1, ((HP.out.below HD1.out.drew.b).kid0 HTA.out (by omega)).2.2.2.2, (HP.out.below HD1.out.drew.b).kid1 HTA.out (by omega)⟩)
    clear hK K
    (try simp only [Act.put, List.setIfInBounds_toArray, List.set_cons_zero, List.set_cons_succ])
    refine wpAnyH_ready (rs := [11]) (by kernel_rfl) (by simp) ?_
    refine AllReadyH.cons (o := ?oZ12) ?hiZ12 (fun K hK => ?stZ12) AllReadyH.nil
    case hiZ12 => (simp only [List.getElem?_toArray, List.getElem?_cons_succ, List.getElem?_cons_zero] <;> rfl)
    go_simp
    go_at_call 32
    refine (IH.out _ (List.getElem_mem l1) (H 1) (b - 1) _ gc ((HP.out.below HD2.out.b).kids 1 l1) (HE.out.2.1 1 l1) (HE.out.2.2 1 l1) (by omega) (by omega) HD2.out.clo).mono ?_
    rintro _ w3 ⟨rfl, hb3⟩
    have HD3 := Lib.hid (HD2.out.below hb3)
    clear hb3
    go_simp
    refine hK.out _ _ ?_ (fun hHeld => ?_)
    · (first | exact ⟨HD3.out.clo.cell, (HD3.out.box.cells.2.2.2.2).trans (by rw [HTA.out]), ((HP.out.below HD3.out.b).kid0 HTA.out (by omega)).1, ((HP.out.below HD3.out.b).kid0 HTA.out (by omega)).2.1, ((HP.out.below HD3.out.b).kid0 HTA.out (by omega)).2.2.1, ((HP.out.below HD3.out.b).kid0 HTA.out (by omega)).2.2.2.1, ((HP.out.below HD3.out.b).kid0 HTA.out (by omega)).2.2.2.2, (HP.out.below HD3.out.b).kid1 HTA.out (by omega)⟩ | exact ⟨HD2.out.clo.cell, (HD2.out.box.cells.2.2.2.2).trans (by rw [HTA.out]), ((HP.out.below HD2.out.b).kid0 HTA.out (by omega)).1, ((HP.out.below HD2.out.b).kid0 HTA.out (by omega)).2.1, ((HP.out.below HD2.out.b).kid0 HTA.out (by omega)).2.2.1, ((HP.out.below HD2.out.b).kid0 HTA.out (by omega)).2.2.2.1, ((HP.out.below HD2.out.b).kid0 HTA.out (by omega)).2.2.2.2, (HP.out.below HD2.out.b).kid1 HTA.out (by omega)⟩ | exact ⟨HD1.out.drew.clo.cell, (HD1.out.drew.box.cells.2.2.2.2).trans (by rw [HTA.out]), ((HP.out.below HD1.out.drew.b).kid0 HTA.out (by omega)).1, ((HP.out.below HD1.out.drew.b).kid0 HTA.out (by omega)).2.1, ((HP.out.below HD1.out.drew.b).kid0 HTA.out (by omega)).2.2.1, ((HP.out.below HD1.out.drew.b).kid0 HTA.out (by omega)).2.2.2.1, ((HP.out.below HD1.out.drew.b).kid0 HTA.out (by omega)).2.2.2.2, (HP.out.below HD1.out.drew.b).kid1 HTA.out (by omega)⟩)
    clear hK K
    (try simp only [Act.put, List.setIfInBounds_toArray, List.set_cons_zero, List.set_cons_succ])
    refine take_w (i := 12) (oi := ?oZ13) (v := ?vZ13) ?hiZ13 (by kernel_rfl) (by kernel_rfl) (by kernel_rfl) ?hQZ13 ?hwZ13 ?hyZ13 (by assumption) ?restZ13
    case hiZ13 => (simp only [List.getElem?_toArray, List.getElem?_cons_succ, List.getElem?_cons_zero] <;> rfl)
    case hQZ13 => exact (fun _ _ _ h => h)
    case hwZ13 => rfl
    case hyZ13 => (intro w hSw; (try dsimp only at hSw); go_simp; try with_reducible rfl)
    (try simp only [Act.put, List.setIfInBounds_toArray, List.set_cons_zero, List.set_cons_succ])
    refine take_w (i := 13) (oi := ?oZ14) (v := ?vZ14) ?hiZ14 (by kernel_rfl) (by kernel_rfl) (by kernel_rfl) ?hQZ14 ?hwZ14 ?hyZ14 (by assumption) ?restZ14
    case hiZ14 => (simp only [List.getElem?_toArray, List.getElem?_cons_succ, List.getElem?_cons_zero] <;> rfl)
    case hQZ14 => exact (fun _ _ _ h => h)
    case hwZ14 => rfl
    case hyZ14 => (intro w hSw; (try dsimp only at hSw); go_simp; try with_reducible rfl)
    (try simp only [Act.put, List.setIfInBounds_toArray, List.set_cons_zero, List.set_cons_succ])
    refine take_w (i := 14) (oi := ?oZ15) (v := ?vZ15) ?hiZ15 (by kernel_rfl) (by kernel_rfl) (by kernel_rfl) ?hQZ15 ?hwZ15 ?hyZ15 (by assumption) ?restZ15
    case hiZ15 => (simp only [List.getElem?_toArray, List.getElem?_cons_succ, List.getElem?_cons_zero] <;> rfl)
    case hQZ15 => exact (fun _ _ _ h => h)
    case hwZ15 => rfl
    case hyZ15 => (intro w hSw; (try dsimp only at hSw); go_simp; try with_reducible rfl)
    (try simp only [Act.put, List.setIfInBounds_toArray, List.set_cons_zero, List.set_cons_succ])
    refine wpAnyH_done (by kernel_rfl) ?_ _
    
    go_wp2_with fail
    · go_ret
      refine ⟨?_, HD3.out.b⟩
      have e : (depthT t : Int) = IntKind.i64.wrap (1 + (depthT t.kids[1] : Int)) := by rw [IntWalk.i64_in _ (by omega), HE.out.1]; omega
      rw [e]
      rfl
    · go_ret
      refine ⟨?_, HD3.out.b⟩
      have e : (depthT t : Int) = IntKind.i64.wrap (1 + (depthT t.kids[0] : Int)) := by rw [IntWalk.i64_in _ (by omega), HE.out.1]; omega
      rw [e]
      rfl

set_option maxRecDepth 100000 in
set_option maxHeartbeats 4000000 in
theorem depth_any (t : Tr) (h : TH) (w : World) (ht : InTree w h t) : Calls Tryd.prog 14 #[h.v] w (Says w (.int .i64 (if checkT t = 0 then depthT t else 0 : Nat))) := by
  have hmf : ∀ (fn : Fn) (first cap : Array Value) (w : World), (Instr.makeFunc fn first cap).run Tryd.prog w = .ok (.func fn first cap) w := fun _ _ _ _ => rfl
  unfold TH.v
  have hbox := Box.new w 25 h
  have HX := Lib.hid hbox
  have HT := Lib.hid ht
  obtain ⟨x0, x1, x2, x3, x4⟩ := hbox.cells
  clear hbox ht
  generalize hN : (if checkT t = 0 then depthT t else 0) = N
  have HNN := Lib.hid hN
  clear hN
  go_enter Tryd.func14, Tryd.ntmps14
  go_upto_region 1 with fail
  by_cases hc : checkT t = 0
  · have HCZ := Lib.hid hc
    clear hc
    go_upto_region 3 with (first
      | (go_at_call 10
         refine (check_any t h _ ?_).mono ?_
         · exact HT.out.lower ((Below.refl _ _).alloc (Nat.le_refl _) _)
         rintro _ w1 ⟨rfl, hb1⟩
         have HB1 : Hid (Below w.heap.size w w1) := Lib.hid (((Below.refl w.heap.size w).alloc (Nat.le_refl _) _).trans (hb1.mono (by simp)))
         have HX1 := Lib.hid (HX.out.below hb1 HX.out.lt)
         have hcv : codeV (checkT t) = .nilIface := by rw [HCZ.out]; rfl
         rw [hcv]
         clear hcv
         clear hb1 x0 x1 x2 x3 x4))
    go_upto_region 4 with fail
    have hb2 : Below w1.heap.size w1 (w1.alloc (.cells #[.nilFunc] 31)) := (Below.refl _ _).alloc (Nat.le_refl _) _
    have hnf := Var1.new w1 31 .nilFunc
    have hbx := HX1.out.below hb2 HX1.out.lt
    have hsz := HB1.out.size
    generalize w1.alloc (.cells #[.nilFunc] 31) = w2 at *
    have c0 := hnf.cell
    have c1 := hnf.frozen 0
    have hne : w.heap.size ≠ w1.heap.size := Nat.ne_of_lt HX1.out.lt
    have hn3 := hnf.set (.func (.func 32) #[] #[.pointer (some ⟨w1.heap.size, 0, none⟩)])
    have hbx3 : Box (w2.setCell ⟨w1.heap.size, 0, none⟩ (.func (.func 32) #[] #[.pointer (some ⟨w1.heap.size, 0, none⟩)])) 25 w.heap.size h := (Below.heap_setCell w2 ⟨w1.heap.size, 0, none⟩ _ w.heap.size hne).trans hbx
    have hb3 : Below w1.heap.size w1 (w2.setCell ⟨w1.heap.size, 0, none⟩ (.func (.func 32) #[] #[.pointer (some ⟨w1.heap.size, 0, none⟩)])) := hb2.setCell (Nat.le_refl _) _
    clear hnf hbx hb2 hne
    generalize w1.heap.size = gc at *
    go_upto_region 5 with fail
    generalize (w2.setCell ⟨gc, 0, none⟩ (.func (.func 32) #[] #[.pointer (some ⟨gc, 0, none⟩)])) = w3 at *
    obtain ⟨x0, x1, x2, x3, x4⟩ := hbx3.cells
    have c2 := hn3.cell
    have HN := Lib.hid hn3
    have HB3 : Hid (Below w.heap.size w w3) := Lib.hid (HB1.out.trans (hb3.mono hsz))
    clear c0 c1 hbx3 hb3 hn3 hsz
    go_wp2_with (first
      | (go_at_call 32
         refine (depthC_any t h 64 _ gc (HT.out.lower HB3.out) (check_zero HCZ.out).1 (check_zero HCZ.out).2 (by omega) (by omega) HN.out).mono ?_
         rintro _ w4 ⟨rfl, hb4⟩
         have HB4 : Hid (Below w.heap.size w w4) := Lib.hid (HB3.out.trans (hb4.mono HB3.out.size))
         clear hb4))
    go_ret
    exact ⟨by rw [← HNN.out, if_pos HCZ.out]; rfl, HB4.out⟩
  · have HCZ := Lib.hid hc
    clear hc
    go_wp2_with (first
      | (go_at_call 10
         refine (check_any t h _ ?_).mono ?_
         · exact HT.out.lower ((Below.refl _ _).alloc (Nat.le_refl _) _)
         rintro _ w1 ⟨rfl, hb1⟩
         have HB1 : Hid (Below w.heap.size w w1) := Lib.hid (((Below.refl w.heap.size w).alloc (Nat.le_refl _) _).trans (hb1.mono (by simp)))
         rw [codeV_pos HCZ.out]
         clear hb1 x0 x1 x2 x3 x4))
    go_ret
    exact ⟨by rw [← HNN.out, if_neg HCZ.out]; rfl, HB1.out⟩
end Go.Proofs.YtcplfpnaepdddaaDoor
