/- The contract of the document's leveling of AVL trees. -/
import Derived.Test.YtpjojhmdgeejmaaRefAvl
import Derived.Test.YtpjojhmdgeejmaaLast
namespace Go.Proofs.Ytpjojhmdgeejmaa
open Go.RowKit
set_option linter.unusedVariables false

set_option maxRecDepth 100000 in
set_option maxHeartbeats 4000000 in
theorem refLevel_any (l : AT) (k v : List Int) (r : AT) (h : TH) (w : World) (ht : InTree w h (AT.node l k v r).tr) (hlim : Lim (AT.node l k v r).pairs) (hdl : l.depth ≤ 64) (hdr : r.depth ≤ 64) :
    Calls Try.prog 44 #[h.v] w (Tells w (AT.node l k v r).level) := by
  unfold TH.v
  obtain ⟨H, hp⟩ := ht.parts
  have l0 : 0 < (AT.node l k v r).tr.kids.length := by rw [AT.tr_kids]; simp
  have l1 : 1 < (AT.node l k v r).tr.kids.length := by rw [AT.tr_kids]; simp
  have ht1 : (1 : Int) < (h.tn : Int) := by have h2 : h.tn = 2 := hp.len.symm; omega
  have ht0 : 0 < h.tn := by omega
  have HP := Lib.hid hp
  have HL := Lib.hid hlim
  obtain ⟨g, off, hta, -, -⟩ := hp.place (by omega)
  have HTA := Lib.hid hta
  obtain ⟨e1, e2, e3, e4⟩ := enter2 w h
  clear hp hta hlim
  go_enter Try.func44, Try.ntmps44
  go_upto_region 1 with fail
  generalize ((w.alloc (.cells #[.int .i64 h.k, .slice h.ka h.kn h.kc, .slice h.va h.vn h.vc, .slice h.da h.dn h.dc, .slice h.ta h.tn h.tc] 33)).alloc (.cells #[.int .i64 0, .slice none 0 0, .slice none 0 0, .slice none 0 0, .slice none 0 0] 33)) = w0 at *
  have HX0 : Hid (LX w w0 h (AT.node l k v r).tr) := Lib.hid ⟨e1, e2, ht.lower e3, e3⟩
  obtain ⟨x0, x1, x2, x3, x4⟩ := e1.cells
  clear e1 e2 e3 e4 ht
  have hlv := AT.level_node l k v r
  have HLV0 := Lib.hid hlv
  clear hlv
  go_upto_if 7 with (first
    | (go_at_call 50
       refine (refTilt_any l k v r h _ HX0.out.ti HL.out hdl hdr).mono ?_
       rintro _ w1 ⟨rfl, hb1⟩
       have HX1 := Lib.hid (HX0.out.below hb1)
       clear hb1))
  clear x0 x1 x2 x3 x4
  generalize hx : (l.depth : Int) - (r.depth : Int) = x
  have HXX := Lib.hid hx
  clear hx
  obtain ⟨x0, x1, x2, x3, x4⟩ := HX1.out.box.cells
  by_cases c1 : x = 2
  · subst c1
    cases l with
    | nil => exact absurd HXX.out (by simp [AT.depth]; omega)
    | node ll lk lv lr =>
      have x4' := x4.trans (by rw [HTA.out])
      obtain ⟨k0, k1, k2, k3, k4⟩ := (HP.out.below HX1.out.b).kid0 HTA.out (by omega)
      clear x4
      rw [HTA.out]
      go_upto_if 13 with (first
    | (go_at_call 50
       refine (refTilt_any ll lk lv lr (H 0) _ ((HP.out.below HX1.out.b).kids 0 l0) HL.out.node.1 (by simp only [AT.depth] at *; omega) (by simp only [AT.depth] at *; omega)).mono ?_
       rintro _ w2 ⟨rfl, hb2⟩
       have HX2 := Lib.hid (HX1.out.below hb2)
       clear hb2))
      clear x0 x1 x2 x3 x4' k0 k1 k2 k3 k4
      generalize hy : (ll.depth : Int) - (lr.depth : Int) = y
      have HYY := Lib.hid hy
      clear hy
      by_cases c2 : y < 0
      · cases lr with
        | nil => exact absurd HYY.out (by simp only [AT.depth]; omega)
        | node a b c d =>
        have HLV : Hid ((AT.node (AT.node ll lk lv (AT.node a b c d)) k v r).level = AT.node (AT.node ll lk lv a) b c (AT.node d k v r)) := Lib.hid (by
          rw [HLV0.out, if_pos HXX.out, if_pos (show (AT.node ll lk lv (AT.node a b c d)).tilt < 0 by simp only [AT.tilt]; rw [HYY.out]; exact c2)]
          rfl)
        clear HLV0
        go_upto_region 4 with fail
        refine region_l (S := (fun W => W.cell? ⟨w.heap.size, 1, none⟩ = some (.slice h.ka h.kn h.kc) ∧ W.cell? ⟨w.heap.size, 2, none⟩ = some (.slice h.va h.vn h.vc) ∧ W.cell? ⟨w.heap.size, 4, none⟩ = some (.slice (some ⟨g, off, none⟩) h.tn h.tc) ∧ (W.cell? ⟨g, off, none⟩ = some (.int .i64 (H 0).k) ∧ W.cell? ⟨g, off + 1, none⟩ = some (.slice (H 0).ka (H 0).kn (H 0).kc) ∧ W.cell? ⟨g, off + 2, none⟩ = some (.slice (H 0).va (H 0).vn (H 0).vc) ∧ W.cell? ⟨g, off + 3, none⟩ = some (.slice (H 0).da (H 0).dn (H 0).dc) ∧ W.cell? ⟨g, off + 4, none⟩ = some (.slice (H 0).ta (H 0).tn (H 0).tc)) ∧ W.cell? ⟨g, off + 5, none⟩ = some (.int .i64 (H 1).k) ∧ W.cell? ⟨g, off + 5 + 1, none⟩ = some (.slice (H 1).ka (H 1).kn (H 1).kc) ∧ W.cell? ⟨g, off + 5 + 2, none⟩ = some (.slice (H 1).va (H 1).vn (H 1).vc) ∧ W.cell? ⟨g, off + 5 + 3, none⟩ = some (.slice (H 1).da (H 1).dn (H 1).dc) ∧ W.cell? ⟨g, off + 5 + 4, none⟩ = some (.slice (H 1).ta (H 1).tn (H 1).tc))) 14 (by kernel_rfl) ⟨HX2.out.drew.box.cells.2.1, HX2.out.drew.box.cells.2.2.1, (HX2.out.drew.box.cells.2.2.2.2).trans (by rw [HTA.out]), (HP.out.below HX2.out.drew.b).kid0 HTA.out (by omega), (HP.out.below HX2.out.drew.b).kid1 HTA.out (by omega)⟩ (fun hHeld => ?_)
        refine take_l (i := 0) (oi := ?oZ59) (v := ?vZ59) ?hiZ59 (by kernel_rfl) (by kernel_rfl) (by kernel_rfl) (by kernel_rfl) ?hQZ59 ?hwZ59 ?hyZ59 (by assumption) ?restZ59
        case hiZ59 => (simp only [List.getElem?_toArray, List.getElem?_cons_zero] <;> rfl)
        case hQZ59 => exact (fun _ _ _ h => h)
        case hwZ59 => rfl
        case hyZ59 => (intro w hSw; (try dsimp only at hSw); go_simp; try with_reducible rfl)
        (try simp only [Act.put, List.setIfInBounds_toArray, List.set_cons_zero, List.set_cons_succ])
        refine take_l (i := 1) (oi := ?oZ60) (v := ?vZ60) ?hiZ60 (by kernel_rfl) (by kernel_rfl) (by kernel_rfl) (by kernel_rfl) ?hQZ60 ?hwZ60 ?hyZ60 (by assumption) ?restZ60
        case hiZ60 => (simp only [List.getElem?_toArray, List.getElem?_cons_succ, List.getElem?_cons_zero] <;> rfl)
        case hQZ60 => exact (fun _ _ _ h => h)
        case hwZ60 => rfl
        case hyZ60 => (intro w hSw; (try dsimp only at hSw); go_simp; try with_reducible rfl)
        (try simp only [Act.put, List.setIfInBounds_toArray, List.set_cons_zero, List.set_cons_succ])
        refine take_l (i := 2) (oi := ?oZ61) (v := ?vZ61) ?hiZ61 (by kernel_rfl) (by kernel_rfl) (by kernel_rfl) (by kernel_rfl) ?hQZ61 ?hwZ61 ?hyZ61 (by assumption) ?restZ61
        case hiZ61 => (simp only [List.getElem?_toArray, List.getElem?_cons_succ, List.getElem?_cons_zero] <;> rfl)
        case hQZ61 => exact (fun _ _ _ h => h)
        case hwZ61 => rfl
        case hyZ61 => (intro w hSw; (try dsimp only at hSw); go_simp; try with_reducible rfl)
        (try simp only [Act.put, List.setIfInBounds_toArray, List.set_cons_zero, List.set_cons_succ])
        refine take_l (i := 3) (oi := ?oZ62) (v := ?vZ62) ?hiZ62 (by kernel_rfl) (by kernel_rfl) (by kernel_rfl) (by kernel_rfl) ?hQZ62 ?hwZ62 ?hyZ62 (by assumption) ?restZ62
        case hiZ62 => (simp only [List.getElem?_toArray, List.getElem?_cons_succ, List.getElem?_cons_zero] <;> rfl)
        case hQZ62 => exact (fun _ _ _ h => h)
        case hwZ62 => rfl
        case hyZ62 => (intro w hSw; (try dsimp only at hSw); go_simp; try with_reducible rfl)
        (try simp only [Act.put, List.setIfInBounds_toArray, List.set_cons_zero, List.set_cons_succ])
        refine take_l (i := 5) (oi := ?oZ63) (v := ?vZ63) ?hiZ63 (by kernel_rfl) (by kernel_rfl) (by kernel_rfl) (by kernel_rfl) ?hQZ63 ?hwZ63 ?hyZ63 (by assumption) ?restZ63
        case hiZ63 => (simp only [List.getElem?_toArray, List.getElem?_cons_succ, List.getElem?_cons_zero] <;> rfl)
        case hQZ63 => exact (fun _ _ _ h => h)
        case hwZ63 => rfl
        case hyZ63 => (intro w hSw; (try dsimp only at hSw); go_simp; try with_reducible rfl)
        (try simp only [Act.put, List.setIfInBounds_toArray, List.set_cons_zero, List.set_cons_succ])
        refine take_l (i := 6) (oi := ?oZ64) (v := ?vZ64) ?hiZ64 (by kernel_rfl) (by kernel_rfl) (by kernel_rfl) (by kernel_rfl) ?hQZ64 ?hwZ64 ?hyZ64 (by assumption) ?restZ64
        case hiZ64 => (simp only [List.getElem?_toArray, List.getElem?_cons_succ, List.getElem?_cons_zero] <;> rfl)
        case hQZ64 => exact (fun _ _ _ h => h)
        case hwZ64 => rfl
        case hyZ64 => (intro w hSw; (try dsimp only at hSw); go_simp; try with_reducible rfl)
        (try simp only [Act.put, List.setIfInBounds_toArray, List.set_cons_zero, List.set_cons_succ])
        refine take_l (i := 7) (oi := ?oZ65) (v := ?vZ65) ?hiZ65 (by kernel_rfl) (by kernel_rfl) (by kernel_rfl) (by kernel_rfl) ?hQZ65 ?hwZ65 ?hyZ65 (by assumption) ?restZ65
        case hiZ65 => (simp only [List.getElem?_toArray, List.getElem?_cons_succ, List.getElem?_cons_zero] <;> rfl)
        case hQZ65 => exact (fun _ _ _ h => h)
        case hwZ65 => rfl
        case hyZ65 => (intro w hSw; (try dsimp only at hSw); go_simp; try with_reducible rfl)
        (try simp only [Act.put, List.setIfInBounds_toArray, List.set_cons_zero, List.set_cons_succ])
        refine take_l (i := 8) (oi := ?oZ66) (v := ?vZ66) ?hiZ66 (by kernel_rfl) (by kernel_rfl) (by kernel_rfl) (by kernel_rfl) ?hQZ66 ?hwZ66 ?hyZ66 (by assumption) ?restZ66
        case hiZ66 => (simp only [List.getElem?_toArray, List.getElem?_cons_succ, List.getElem?_cons_zero] <;> rfl)
        case hQZ66 => exact (fun _ _ _ h => h)
        case hwZ66 => rfl
        case hyZ66 => (intro w hSw; (try dsimp only at hSw); go_simp; try with_reducible rfl)
        (try simp only [Act.put, List.setIfInBounds_toArray, List.set_cons_zero, List.set_cons_succ])
        refine take_l (i := 9) (oi := ?oZ67) (v := ?vZ67) ?hiZ67 (by kernel_rfl) (by kernel_rfl) (by kernel_rfl) (by kernel_rfl) ?hQZ67 ?hwZ67 ?hyZ67 (by assumption) ?restZ67
        case hiZ67 => (simp only [List.getElem?_toArray, List.getElem?_cons_succ, List.getElem?_cons_zero] <;> rfl)
        case hQZ67 => exact (fun _ _ _ h => h)
        case hwZ67 => rfl
        case hyZ67 => (intro w hSw; (try dsimp only at hSw); go_simp; try with_reducible rfl)
        (try simp only [Act.put, List.setIfInBounds_toArray, List.set_cons_zero, List.set_cons_succ])
        refine take_l (i := 10) (oi := ?oZ68) (v := ?vZ68) ?hiZ68 (by kernel_rfl) (by kernel_rfl) (by kernel_rfl) (by kernel_rfl) ?hQZ68 ?hwZ68 ?hyZ68 (by assumption) ?restZ68
        case hiZ68 => (simp only [List.getElem?_toArray, List.getElem?_cons_succ, List.getElem?_cons_zero] <;> rfl)
        case hQZ68 => exact (fun _ _ _ h => h)
        case hwZ68 => rfl
        case hyZ68 => (intro w hSw; (try dsimp only at hSw); go_simp; try with_reducible rfl)
        (try simp only [Act.put, List.setIfInBounds_toArray, List.set_cons_zero, List.set_cons_succ])
        refine take_l (i := 11) (oi := ?oZ69) (v := ?vZ69) ?hiZ69 (by kernel_rfl) (by kernel_rfl) (by kernel_rfl) (by kernel_rfl) ?hQZ69 ?hwZ69 ?hyZ69 (by assumption) ?restZ69
        case hiZ69 => (simp only [List.getElem?_toArray, List.getElem?_cons_succ, List.getElem?_cons_zero] <;> rfl)
        case hQZ69 => exact (fun _ _ _ h => h)
        case hwZ69 => rfl
        case hyZ69 => (intro w hSw; (try dsimp only at hSw); go_simp; try with_reducible rfl)
        (try simp only [Act.put, List.setIfInBounds_toArray, List.set_cons_zero, List.set_cons_succ])
        refine take_l (i := 12) (oi := ?oZ70) (v := ?vZ70) ?hiZ70 (by kernel_rfl) (by kernel_rfl) (by kernel_rfl) (by kernel_rfl) ?hQZ70 ?hwZ70 ?hyZ70 (by assumption) ?restZ70
        case hiZ70 => (simp only [List.getElem?_toArray, List.getElem?_cons_succ, List.getElem?_cons_zero] <;> rfl)
        case hQZ70 => exact (fun _ _ _ h => h)
        case hwZ70 => rfl
        case hyZ70 => (intro w hSw; (try dsimp only at hSw); go_simp; try with_reducible rfl)
        (try simp only [Act.put, List.setIfInBounds_toArray, List.set_cons_zero, List.set_cons_succ])
        refine one_l (i := 4) (o := ?oZ71) (by kernel_rfl) ?hiZ71 (fun K hK => ?stZ71)
        case hiZ71 => (simp only [List.getElem?_toArray, List.getElem?_cons_succ, List.getElem?_cons_zero] <;> rfl)
        go_simp
        go_at_call 51
        refine (refLeft_any ll lk lv a b c d (H 0) _ ((HP.out.below HX2.out.drew.b).kids 0 l0)).mono ?_
        rintro _ w3 ⟨h3, rfl, hi3, hb3⟩
        unfold TH.v
        have HX3 := Lib.hid (HX2.out.drew.below hb3)
        have HI3 := Lib.hid hi3
        clear hi3 hb3
        go_simp
        refine hK.out _ _ ?_ (fun hHeld => ?_)
        · (first | exact ⟨HX4.out.box.cells.2.1, HX4.out.box.cells.2.2.1, (HX4.out.box.cells.2.2.2.2).trans (by rw [HTA.out]), (HP.out.below HX4.out.b).kid0 HTA.out (by omega), (HP.out.below HX4.out.b).kid1 HTA.out (by omega)⟩ | exact ⟨HX3.out.box.cells.2.1, HX3.out.box.cells.2.2.1, (HX3.out.box.cells.2.2.2.2).trans (by rw [HTA.out]), (HP.out.below HX3.out.b).kid0 HTA.out (by omega), (HP.out.below HX3.out.b).kid1 HTA.out (by omega)⟩ | exact ⟨HX2.out.drew.box.cells.2.1, HX2.out.drew.box.cells.2.2.1, (HX2.out.drew.box.cells.2.2.2.2).trans (by rw [HTA.out]), (HP.out.below HX2.out.drew.b).kid0 HTA.out (by omega), (HP.out.below HX2.out.drew.b).kid1 HTA.out (by omega)⟩)
        clear hK K
        (try simp only [Act.put, List.setIfInBounds_toArray, List.set_cons_zero, List.set_cons_succ])
        refine one_l (i := 13) (o := ?oZ72) (by kernel_rfl) ?hiZ72 (fun K hK => ?stZ72)
        case hiZ72 => (simp only [List.getElem?_toArray, List.getElem?_cons_succ, List.getElem?_cons_zero] <;> rfl)
        go_simp
        go_at_call 43
        refine (refNode_any (AT.node (AT.node ll lk lv a) b c d) r h3 (H 1) h.ka h.va h.kn h.kc h.vn h.vc k v _ HI3.out ((HP.out.below HX3.out.b).kids 1 l1) (HP.out.below HX3.out.b).key (HP.out.below HX3.out.b).val).mono ?_
        rintro _ w4 ⟨h4, rfl, hi4, hb4⟩
        unfold TH.v
        have HX4 := Lib.hid (HX3.out.below hb4)
        have HI4 := Lib.hid hi4
        clear hi4 hb4
        go_simp
        refine hK.out _ _ ?_ (fun hHeld => ?_)
        · (first | exact ⟨HX4.out.box.cells.2.1, HX4.out.box.cells.2.2.1, (HX4.out.box.cells.2.2.2.2).trans (by rw [HTA.out]), (HP.out.below HX4.out.b).kid0 HTA.out (by omega), (HP.out.below HX4.out.b).kid1 HTA.out (by omega)⟩ | exact ⟨HX3.out.box.cells.2.1, HX3.out.box.cells.2.2.1, (HX3.out.box.cells.2.2.2.2).trans (by rw [HTA.out]), (HP.out.below HX3.out.b).kid0 HTA.out (by omega), (HP.out.below HX3.out.b).kid1 HTA.out (by omega)⟩ | exact ⟨HX2.out.drew.box.cells.2.1, HX2.out.drew.box.cells.2.2.1, (HX2.out.drew.box.cells.2.2.2.2).trans (by rw [HTA.out]), (HP.out.below HX2.out.drew.b).kid0 HTA.out (by omega), (HP.out.below HX2.out.drew.b).kid1 HTA.out (by omega)⟩)
        clear hK K
        (try simp only [Act.put, List.setIfInBounds_toArray, List.set_cons_zero, List.set_cons_succ])
        refine last_l (o := ?oZ73) (by kernel_rfl) ?hiZ73 (by kernel_rfl) (fun K hK => ?stZ73)
        case hiZ73 => (simp only [List.getElem?_toArray, List.getElem?_cons_succ, List.getElem?_cons_zero] <;> rfl)
        refine step_store_box rfl 33 (.tmp 1) (.tmp 27) rfl w.heap.size h h4 rfl rfl 33 HX4.out.box infoTree5 ?_
        intro w5 hbx5 hg5
        have HX5 : Hid (LX w w5 h4 _) := Lib.hid ⟨hbx5, HX4.out.res.grown hg5 (fun q => by injection q; omega), AT.outBox HX4.out.box hg5 _ _ HI4.out, HX4.out.b.grown hg5 HX4.out.b.size (fun j hj => by injection hj; omega)⟩
        clear hbx5 hg5
        refine hK.out _ _ ?_
        clear hK K
        (try simp only [Act.put])
        
        clear hHeld
        obtain ⟨x0, x1, x2, x3, x4⟩ := HX5.out.box.cells
        go_wp2_with (first
          | (go_at_call 52
             refine (refRight_any (AT.node ll lk lv a) b c d k v r h4 _ HX5.out.ti).mono ?_
             rintro _ w8 ⟨h8, rfl, hi8, hb8⟩
             unfold TH.v
             have HX8 := Lib.hid (HX5.out.below hb8)
             have HI8 := Lib.hid hi8
             clear hi8 hb8)
          | (refine wpList_store_box rfl 33 (.tmp 2) (.tmp 29) rfl (w.heap.size + 1) hZ h8 rfl rfl 33 HX8.out.res infoTree5 ?_
             intro w9 hbx9 hg9
             have HX9 := Lib.hid hbx9
             have HI9 := Lib.hid (AT.outBox HX8.out.res hg9 _ _ HI8.out)
             have HB9 : Hid (Below w.heap.size w w9) := Lib.hid (HX8.out.b.grown hg9 HX8.out.b.size (fun j hj => by injection hj; omega))
             clear hbx9 hg9))
        refine bodyPost_ret (v := h8.v) (result_tree Try.results44 _ HX9.out rfl Try.underlying33 infoTree5) rfl ⟨_, rfl, ?_, HB9.out⟩
        rw [HLV.out]
        exact HI9.out

      · have HLV : Hid ((AT.node (AT.node ll lk lv lr) k v r).level = AT.node ll lk lv (AT.node lr k v r)) := Lib.hid (by
          rw [HLV0.out, if_pos HXX.out, if_neg (show ¬ (AT.node ll lk lv lr).tilt < 0 by simp only [AT.tilt]; rw [HYY.out]; exact c2)]
          rfl)
        clear HLV0
        obtain ⟨x0, x1, x2, x3, x4⟩ := HX2.out.box.cells
        go_wp2_with (first
          | (go_at_call 52
             refine (refRight_any ll lk lv lr k v r h _ HX2.out.ti).mono ?_
             rintro _ w8 ⟨h8, rfl, hi8, hb8⟩
             unfold TH.v
             have HX8 := Lib.hid (HX2.out.below hb8)
             have HI8 := Lib.hid hi8
             clear hi8 hb8)
          | (refine wpList_store_box rfl 33 (.tmp 2) (.tmp 29) rfl (w.heap.size + 1) hZ h8 rfl rfl 33 HX8.out.res infoTree5 ?_
             intro w9 hbx9 hg9
             have HX9 := Lib.hid hbx9
             have HI9 := Lib.hid (AT.outBox HX8.out.res hg9 _ _ HI8.out)
             have HB9 : Hid (Below w.heap.size w w9) := Lib.hid (HX8.out.b.grown hg9 HX8.out.b.size (fun j hj => by injection hj; omega))
             clear hbx9 hg9))
        refine bodyPost_ret (v := h8.v) (result_tree Try.results44 _ HX9.out rfl Try.underlying33 infoTree5) rfl ⟨_, rfl, ?_, HB9.out⟩
        rw [HLV.out]
        exact HI9.out

  have c1b : (x == 2) = false := by simp [c1]
  rw [c1b]
  by_cases c3 : x = -2
  · subst c3
    cases r with
    | nil => exact absurd HXX.out (by simp only [AT.depth]; omega)
    | node rl rk rv rr =>
      have x4' := x4.trans (by rw [HTA.out])
      obtain ⟨k0, k1, k2, k3, k4⟩ := (HP.out.below HX1.out.b).kid1 HTA.out (by omega)
      clear x4
      rw [HTA.out]
      go_upto_if 37 with (first
    | (go_at_call 50
       refine (refTilt_any rl rk rv rr (H 1) _ ((HP.out.below HX1.out.b).kids 1 l1) HL.out.node.2.2.2 (by simp only [AT.depth] at *; omega) (by simp only [AT.depth] at *; omega)).mono ?_
       rintro _ w2 ⟨rfl, hb2⟩
       have HX2 := Lib.hid (HX1.out.below hb2)
       clear hb2))
      clear x0 x1 x2 x3 x4' k0 k1 k2 k3 k4
      generalize hy : (rl.depth : Int) - (rr.depth : Int) = y
      have HYY := Lib.hid hy
      clear hy
      by_cases c2 : 0 < y
      · cases rl with
        | nil => exact absurd HYY.out (by simp only [AT.depth]; omega)
        | node a b c d =>
        have HLV : Hid ((AT.node l k v (AT.node (AT.node a b c d) rk rv rr)).level = AT.node (AT.node l k v a) b c (AT.node d rk rv rr)) := Lib.hid (by
          rw [HLV0.out, if_neg (by rw [HXX.out]; omega), if_pos HXX.out, if_pos (show 0 < (AT.node (AT.node a b c d) rk rv rr).tilt by simp only [AT.tilt]; rw [HYY.out]; exact c2)]
          rfl)
        clear HLV0
        have hqn : rr.depth < (AT.node a b c d).depth := by have := HYY.out; omega
        go_upto_region 8 with fail
        clear hqn
        refine region_l (S := (fun W => W.cell? ⟨w.heap.size, 1, none⟩ = some (.slice h.ka h.kn h.kc) ∧ W.cell? ⟨w.heap.size, 2, none⟩ = some (.slice h.va h.vn h.vc) ∧ W.cell? ⟨w.heap.size, 4, none⟩ = some (.slice (some ⟨g, off, none⟩) h.tn h.tc) ∧ (W.cell? ⟨g, off, none⟩ = some (.int .i64 (H 0).k) ∧ W.cell? ⟨g, off + 1, none⟩ = some (.slice (H 0).ka (H 0).kn (H 0).kc) ∧ W.cell? ⟨g, off + 2, none⟩ = some (.slice (H 0).va (H 0).vn (H 0).vc) ∧ W.cell? ⟨g, off + 3, none⟩ = some (.slice (H 0).da (H 0).dn (H 0).dc) ∧ W.cell? ⟨g, off + 4, none⟩ = some (.slice (H 0).ta (H 0).tn (H 0).tc)) ∧ W.cell? ⟨g, off + 5, none⟩ = some (.int .i64 (H 1).k) ∧ W.cell? ⟨g, off + 5 + 1, none⟩ = some (.slice (H 1).ka (H 1).kn (H 1).kc) ∧ W.cell? ⟨g, off + 5 + 2, none⟩ = some (.slice (H 1).va (H 1).vn (H 1).vc) ∧ W.cell? ⟨g, off + 5 + 3, none⟩ = some (.slice (H 1).da (H 1).dn (H 1).dc) ∧ W.cell? ⟨g, off + 5 + 4, none⟩ = some (.slice (H 1).ta (H 1).tn (H 1).tc))) 14 (by kernel_rfl) ⟨HX2.out.drew.box.cells.2.1, HX2.out.drew.box.cells.2.2.1, (HX2.out.drew.box.cells.2.2.2.2).trans (by rw [HTA.out]), (HP.out.below HX2.out.drew.b).kid0 HTA.out (by omega), (HP.out.below HX2.out.drew.b).kid1 HTA.out (by omega)⟩ (fun hHeld => ?_)
        refine take_l (i := 0) (oi := ?oZ74) (v := ?vZ74) ?hiZ74 (by kernel_rfl) (by kernel_rfl) (by kernel_rfl) (by kernel_rfl) ?hQZ74 ?hwZ74 ?hyZ74 (by assumption) ?restZ74
        case hiZ74 => (simp only [List.getElem?_toArray, List.getElem?_cons_zero] <;> rfl)
        case hQZ74 => exact (fun _ _ _ h => h)
        case hwZ74 => rfl
        case hyZ74 => (intro w hSw; (try dsimp only at hSw); go_simp; try with_reducible rfl)
        (try simp only [Act.put, List.setIfInBounds_toArray, List.set_cons_zero, List.set_cons_succ])
        refine take_l (i := 1) (oi := ?oZ75) (v := ?vZ75) ?hiZ75 (by kernel_rfl) (by kernel_rfl) (by kernel_rfl) (by kernel_rfl) ?hQZ75 ?hwZ75 ?hyZ75 (by assumption) ?restZ75
        case hiZ75 => (simp only [List.getElem?_toArray, List.getElem?_cons_succ, List.getElem?_cons_zero] <;> rfl)
        case hQZ75 => exact (fun _ _ _ h => h)
        case hwZ75 => rfl
        case hyZ75 => (intro w hSw; (try dsimp only at hSw); go_simp; try with_reducible rfl)
        (try simp only [Act.put, List.setIfInBounds_toArray, List.set_cons_zero, List.set_cons_succ])
        refine take_l (i := 2) (oi := ?oZ76) (v := ?vZ76) ?hiZ76 (by kernel_rfl) (by kernel_rfl) (by kernel_rfl) (by kernel_rfl) ?hQZ76 ?hwZ76 ?hyZ76 (by assumption) ?restZ76
        case hiZ76 => (simp only [List.getElem?_toArray, List.getElem?_cons_succ, List.getElem?_cons_zero] <;> rfl)
        case hQZ76 => exact (fun _ _ _ h => h)
        case hwZ76 => rfl
        case hyZ76 => (intro w hSw; (try dsimp only at hSw); go_simp; try with_reducible rfl)
        (try simp only [Act.put, List.setIfInBounds_toArray, List.set_cons_zero, List.set_cons_succ])
        refine take_l (i := 3) (oi := ?oZ77) (v := ?vZ77) ?hiZ77 (by kernel_rfl) (by kernel_rfl) (by kernel_rfl) (by kernel_rfl) ?hQZ77 ?hwZ77 ?hyZ77 (by assumption) ?restZ77
        case hiZ77 => (simp only [List.getElem?_toArray, List.getElem?_cons_succ, List.getElem?_cons_zero] <;> rfl)
        case hQZ77 => exact (fun _ _ _ h => h)
        case hwZ77 => rfl
        case hyZ77 => (intro w hSw; (try dsimp only at hSw); go_simp; try with_reducible rfl)
        (try simp only [Act.put, List.setIfInBounds_toArray, List.set_cons_zero, List.set_cons_succ])
        refine take_l (i := 4) (oi := ?oZ78) (v := ?vZ78) ?hiZ78 (by kernel_rfl) (by kernel_rfl) (by kernel_rfl) (by kernel_rfl) ?hQZ78 ?hwZ78 ?hyZ78 (by assumption) ?restZ78
        case hiZ78 => (simp only [List.getElem?_toArray, List.getElem?_cons_succ, List.getElem?_cons_zero] <;> rfl)
        case hQZ78 => exact (fun _ _ _ h => h)
        case hwZ78 => rfl
        case hyZ78 => (intro w hSw; (try dsimp only at hSw); go_simp; try with_reducible rfl)
        (try simp only [Act.put, List.setIfInBounds_toArray, List.set_cons_zero, List.set_cons_succ])
        refine take_l (i := 5) (oi := ?oZ79) (v := ?vZ79) ?hiZ79 (by kernel_rfl) (by kernel_rfl) (by kernel_rfl) (by kernel_rfl) ?hQZ79 ?hwZ79 ?hyZ79 (by assumption) ?restZ79
        case hiZ79 => (simp only [List.getElem?_toArray, List.getElem?_cons_succ, List.getElem?_cons_zero] <;> rfl)
        case hQZ79 => exact (fun _ _ _ h => h)
        case hwZ79 => rfl
        case hyZ79 => (intro w hSw; (try dsimp only at hSw); go_simp; try with_reducible rfl)
        (try simp only [Act.put, List.setIfInBounds_toArray, List.set_cons_zero, List.set_cons_succ])
        refine take_l (i := 6) (oi := ?oZ80) (v := ?vZ80) ?hiZ80 (by kernel_rfl) (by kernel_rfl) (by kernel_rfl) (by kernel_rfl) ?hQZ80 ?hwZ80 ?hyZ80 (by assumption) ?restZ80
        case hiZ80 => (simp only [List.getElem?_toArray, List.getElem?_cons_succ, List.getElem?_cons_zero] <;> rfl)
        case hQZ80 => exact (fun _ _ _ h => h)
        case hwZ80 => rfl
        case hyZ80 => (intro w hSw; (try dsimp only at hSw); go_simp; try with_reducible rfl)
        (try simp only [Act.put, List.setIfInBounds_toArray, List.set_cons_zero, List.set_cons_succ])
        refine take_l (i := 7) (oi := ?oZ81) (v := ?vZ81) ?hiZ81 (by kernel_rfl) (by kernel_rfl) (by kernel_rfl) (by kernel_rfl) ?hQZ81 ?hwZ81 ?hyZ81 (by assumption) ?restZ81
        case hiZ81 => (simp only [List.getElem?_toArray, List.getElem?_cons_succ, List.getElem?_cons_zero] <;> rfl)
        case hQZ81 => exact (fun _ _ _ h => h)
        case hwZ81 => rfl
        case hyZ81 => (intro w hSw; (try dsimp only at hSw); go_simp; try with_reducible rfl)
        (try simp only [Act.put, List.setIfInBounds_toArray, List.set_cons_zero, List.set_cons_succ])
        refine take_l (i := 8) (oi := ?oZ82) (v := ?vZ82) ?hiZ82 (by kernel_rfl) (by kernel_rfl) (by kernel_rfl) (by kernel_rfl) ?hQZ82 ?hwZ82 ?hyZ82 (by assumption) ?restZ82
        case hiZ82 => (simp only [List.getElem?_toArray, List.getElem?_cons_succ, List.getElem?_cons_zero] <;> rfl)
        case hQZ82 => exact (fun _ _ _ h => h)
        case hwZ82 => rfl
        case hyZ82 => (intro w hSw; (try dsimp only at hSw); go_simp; try with_reducible rfl)
        (try simp only [Act.put, List.setIfInBounds_toArray, List.set_cons_zero, List.set_cons_succ])
        refine take_l (i := 9) (oi := ?oZ83) (v := ?vZ83) ?hiZ83 (by kernel_rfl) (by kernel_rfl) (by kernel_rfl) (by kernel_rfl) ?hQZ83 ?hwZ83 ?hyZ83 (by assumption) ?restZ83
        case hiZ83 => (simp only [List.getElem?_toArray, List.getElem?_cons_succ, List.getElem?_cons_zero] <;> rfl)
        case hQZ83 => exact (fun _ _ _ h => h)
        case hwZ83 => rfl
        case hyZ83 => (intro w hSw; (try dsimp only at hSw); go_simp; try with_reducible rfl)
        (try simp only [Act.put, List.setIfInBounds_toArray, List.set_cons_zero, List.set_cons_succ])
        refine take_l (i := 10) (oi := ?oZ84) (v := ?vZ84) ?hiZ84 (by kernel_rfl) (by kernel_rfl) (by kernel_rfl) (by kernel_rfl) ?hQZ84 ?hwZ84 ?hyZ84 (by assumption) ?restZ84
        case hiZ84 => (simp only [List.getElem?_toArray, List.getElem?_cons_succ, List.getElem?_cons_zero] <;> rfl)
        case hQZ84 => exact (fun _ _ _ h => h)
        case hwZ84 => rfl
        case hyZ84 => (intro w hSw; (try dsimp only at hSw); go_simp; try with_reducible rfl)
        (try simp only [Act.put, List.setIfInBounds_toArray, List.set_cons_zero, List.set_cons_succ])
        refine take_l (i := 11) (oi := ?oZ85) (v := ?vZ85) ?hiZ85 (by kernel_rfl) (by kernel_rfl) (by kernel_rfl) (by kernel_rfl) ?hQZ85 ?hwZ85 ?hyZ85 (by assumption) ?restZ85
        case hiZ85 => (simp only [List.getElem?_toArray, List.getElem?_cons_succ, List.getElem?_cons_zero] <;> rfl)
        case hQZ85 => exact (fun _ _ _ h => h)
        case hwZ85 => rfl
        case hyZ85 => (intro w hSw; (try dsimp only at hSw); go_simp; try with_reducible rfl)
        (try simp only [Act.put, List.setIfInBounds_toArray, List.set_cons_zero, List.set_cons_succ])
        refine one_l (i := 12) (o := ?oZ86) (by kernel_rfl) ?hiZ86 (fun K hK => ?stZ86)
        case hiZ86 => (simp only [List.getElem?_toArray, List.getElem?_cons_succ, List.getElem?_cons_zero] <;> rfl)
        go_simp
        go_at_call 52
        refine (refRight_any a b c d rk rv rr (H 1) _ ((HP.out.below HX2.out.drew.b).kids 1 l1)).mono ?_
        rintro _ w3 ⟨h3, rfl, hi3, hb3⟩
        unfold TH.v
        have HX3 := Lib.hid (HX2.out.drew.below hb3)
        have HI3 := Lib.hid hi3
        clear hi3 hb3
        go_simp
        refine hK.out _ _ ?_ (fun hHeld => ?_)
        · (first | exact ⟨HX4.out.box.cells.2.1, HX4.out.box.cells.2.2.1, (HX4.out.box.cells.2.2.2.2).trans (by rw [HTA.out]), (HP.out.below HX4.out.b).kid0 HTA.out (by omega), (HP.out.below HX4.out.b).kid1 HTA.out (by omega)⟩ | exact ⟨HX3.out.box.cells.2.1, HX3.out.box.cells.2.2.1, (HX3.out.box.cells.2.2.2.2).trans (by rw [HTA.out]), (HP.out.below HX3.out.b).kid0 HTA.out (by omega), (HP.out.below HX3.out.b).kid1 HTA.out (by omega)⟩ | exact ⟨HX2.out.drew.box.cells.2.1, HX2.out.drew.box.cells.2.2.1, (HX2.out.drew.box.cells.2.2.2.2).trans (by rw [HTA.out]), (HP.out.below HX2.out.drew.b).kid0 HTA.out (by omega), (HP.out.below HX2.out.drew.b).kid1 HTA.out (by omega)⟩)
        clear hK K
        (try simp only [Act.put, List.setIfInBounds_toArray, List.set_cons_zero, List.set_cons_succ])
        refine one_l (i := 13) (o := ?oZ87) (by kernel_rfl) ?hiZ87 (fun K hK => ?stZ87)
        case hiZ87 => (simp only [List.getElem?_toArray, List.getElem?_cons_succ, List.getElem?_cons_zero] <;> rfl)
        go_simp
        go_at_call 43
        refine (refNode_any l (AT.node a b c (AT.node d rk rv rr)) (H 0) h3 h.ka h.va h.kn h.kc h.vn h.vc k v _ ((HP.out.below HX3.out.b).kids 0 l0) HI3.out (HP.out.below HX3.out.b).key (HP.out.below HX3.out.b).val).mono ?_
        rintro _ w4 ⟨h4, rfl, hi4, hb4⟩
        unfold TH.v
        have HX4 := Lib.hid (HX3.out.below hb4)
        have HI4 := Lib.hid hi4
        clear hi4 hb4
        go_simp
        refine hK.out _ _ ?_ (fun hHeld => ?_)
        · (first | exact ⟨HX4.out.box.cells.2.1, HX4.out.box.cells.2.2.1, (HX4.out.box.cells.2.2.2.2).trans (by rw [HTA.out]), (HP.out.below HX4.out.b).kid0 HTA.out (by omega), (HP.out.below HX4.out.b).kid1 HTA.out (by omega)⟩ | exact ⟨HX3.out.box.cells.2.1, HX3.out.box.cells.2.2.1, (HX3.out.box.cells.2.2.2.2).trans (by rw [HTA.out]), (HP.out.below HX3.out.b).kid0 HTA.out (by omega), (HP.out.below HX3.out.b).kid1 HTA.out (by omega)⟩ | exact ⟨HX2.out.drew.box.cells.2.1, HX2.out.drew.box.cells.2.2.1, (HX2.out.drew.box.cells.2.2.2.2).trans (by rw [HTA.out]), (HP.out.below HX2.out.drew.b).kid0 HTA.out (by omega), (HP.out.below HX2.out.drew.b).kid1 HTA.out (by omega)⟩)
        clear hK K
        (try simp only [Act.put, List.setIfInBounds_toArray, List.set_cons_zero, List.set_cons_succ])
        refine last_l (o := ?oZ88) (by kernel_rfl) ?hiZ88 (by kernel_rfl) (fun K hK => ?stZ88)
        case hiZ88 => (simp only [List.getElem?_toArray, List.getElem?_cons_succ, List.getElem?_cons_zero] <;> rfl)
        refine step_store_box rfl 33 (.tmp 1) (.tmp 51) rfl w.heap.size h h4 rfl rfl 33 HX4.out.box infoTree5 ?_
        intro w5 hbx5 hg5
        have HX5 : Hid (LX w w5 h4 _) := Lib.hid ⟨hbx5, HX4.out.res.grown hg5 (fun q => by injection q; omega), AT.outBox HX4.out.box hg5 _ _ HI4.out, HX4.out.b.grown hg5 HX4.out.b.size (fun j hj => by injection hj; omega)⟩
        clear hbx5 hg5
        refine hK.out _ _ ?_
        clear hK K
        (try simp only [Act.put])
        
        clear hHeld
        obtain ⟨x0, x1, x2, x3, x4⟩ := HX5.out.box.cells
        go_wp2_with (first
          | (go_at_call 51
             refine (refLeft_any l k v a b c (AT.node d rk rv rr) h4 _ HX5.out.ti).mono ?_
             rintro _ w8 ⟨h8, rfl, hi8, hb8⟩
             unfold TH.v
             have HX8 := Lib.hid (HX5.out.below hb8)
             have HI8 := Lib.hid hi8
             clear hi8 hb8)
          | (refine wpList_store_box rfl 33 (.tmp 2) (.tmp 53) rfl (w.heap.size + 1) hZ h8 rfl rfl 33 HX8.out.res infoTree5 ?_
             intro w9 hbx9 hg9
             have HX9 := Lib.hid hbx9
             have HI9 := Lib.hid (AT.outBox HX8.out.res hg9 _ _ HI8.out)
             have HB9 : Hid (Below w.heap.size w w9) := Lib.hid (HX8.out.b.grown hg9 HX8.out.b.size (fun j hj => by injection hj; omega))
             clear hbx9 hg9))
        refine bodyPost_ret (v := h8.v) (result_tree Try.results44 _ HX9.out rfl Try.underlying33 infoTree5) rfl ⟨_, rfl, ?_, HB9.out⟩
        rw [HLV.out]
        exact HI9.out

      · have HLV : Hid ((AT.node l k v (AT.node rl rk rv rr)).level = AT.node (AT.node l k v rl) rk rv rr) := Lib.hid (by
          rw [HLV0.out, if_neg (by rw [HXX.out]; omega), if_pos HXX.out, if_neg (show ¬ 0 < (AT.node rl rk rv rr).tilt by simp only [AT.tilt]; rw [HYY.out]; exact c2)]
          rfl)
        clear HLV0
        have hqn : ¬ rr.depth < rl.depth := by have := HYY.out; omega
        obtain ⟨x0, x1, x2, x3, x4⟩ := HX2.out.box.cells
        go_wp2_with (first
          | (go_at_call 51
             refine (refLeft_any l k v rl rk rv rr h _ HX2.out.ti).mono ?_
             rintro _ w8 ⟨h8, rfl, hi8, hb8⟩
             unfold TH.v
             have HX8 := Lib.hid (HX2.out.below hb8)
             have HI8 := Lib.hid hi8
             clear hi8 hb8)
          | (refine wpList_store_box rfl 33 (.tmp 2) (.tmp 53) rfl (w.heap.size + 1) hZ h8 rfl rfl 33 HX8.out.res infoTree5 ?_
             intro w9 hbx9 hg9
             have HX9 := Lib.hid hbx9
             have HI9 := Lib.hid (AT.outBox HX8.out.res hg9 _ _ HI8.out)
             have HB9 : Hid (Below w.heap.size w w9) := Lib.hid (HX8.out.b.grown hg9 HX8.out.b.size (fun j hj => by injection hj; omega))
             clear hbx9 hg9))
        refine bodyPost_ret (v := h8.v) (result_tree Try.results44 _ HX9.out rfl Try.underlying33 infoTree5) rfl ⟨_, rfl, ?_, HB9.out⟩
        rw [HLV.out]
        exact HI9.out

  have c3b : (x == -2) = false := by simp [c3]
  have HLV : Hid ((AT.node l k v r).level = AT.node l k v r) := Lib.hid (by rw [HLV0.out, if_neg (by rw [HXX.out]; exact c1), if_neg (by rw [HXX.out]; exact c3)])
  clear HLV0
  go_wp2_with (first
  | (refine wpList_store_box rfl 33 (.tmp 2) (.tmp 54) rfl (w.heap.size + 1) hZ h rfl rfl 33 HX1.out.res infoTree5 ?_
     intro w9 hbx9 hg9
     have HX9 := Lib.hid hbx9
     have HI9 := Lib.hid (AT.outBox HX1.out.res hg9 _ _ HX1.out.ti)
     have HB9 : Hid (Below w.heap.size w w9) := Lib.hid (HX1.out.b.grown hg9 HX1.out.b.size (fun j hj => by injection hj; omega))
     clear hbx9 hg9))
  refine bodyPost_ret (v := h.v) (result_tree Try.results44 _ HX9.out rfl Try.underlying33 infoTree5) rfl ⟨_, rfl, ?_, HB9.out⟩
  rw [HLV.out]
  exact HI9.out
end Go.Proofs.Ytpjojhmdgeejmaa
