/- The contract of the closure of the program's filled: a node. The contract of the program's filled. Whether a row of trees holds a dark one: the contracts of slices.ContainsFunc and of isDark. The contract of the program's Join. The contracts of the program's Cut, Count, Fits and Join of layer 11. The contract of the document's Depth of a tree. The contracts of the document's nodes and turns of AVL trees. The contract of the document's leveling of AVL trees. -/
import Derived.Test.YtkcmohmfejmfoaaGreatDoorMAE
import Derived.Laws.EntriesVeiled
import Derived.Test.YtkcmohmfejmfoaaGreatDoorMAB
import Derived.Test.YtkcmohmfejmfoaaGreatDoorMAD
import Derived.Test.YtkcmohmfejmfoaaGreatDoorMAA
/- The contract of the closure of the program's filled: a node. -/
namespace Go.Proofs.YtkcmohmfejmfoaaGreatDoor
open Go.RowKit
set_option linter.unusedVariables false

set_option maxRecDepth 100000 in
set_option maxHeartbeats 8000000 in
theorem fillNode_any (wb : World) (gx gp gc : Nat) (a : Option Addr) (n c : Nat) (l : PT) (key val : List Int) (r : PT) (i : Nat) (h : TH) (w : World) (ht : InTree wb h (PT.shown l key val r).tr) (hbw : Below wb.heap.size wb w) (hge : wb.heap.size ≤ gx) (hc : Var1 w 82 gc (.func (.func 46) #[] #[.pointer (some ⟨gx, 0, none⟩), .pointer (some ⟨gp, 0, none⟩), .pointer (some ⟨gc, 0, none⟩)])) (hp : Var1 w 23 gp (.slice a n c)) (hv : Var1 w 3 gx (.int .i64 (i : Nat))) (j1 j2 : Nat) (al ar : AT)
    (ihl : ∀ (h : TH) (w : World), InTree wb h l.tr → Below wb.heap.size wb w → Var1 w 82 gc (.func (.func 46) #[] #[.pointer (some ⟨gx, 0, none⟩), .pointer (some ⟨gp, 0, none⟩), .pointer (some ⟨gc, 0, none⟩)]) → Var1 w 23 gp (.slice a n c) → Var1 w 3 gx (.int .i64 (i : Nat)) → Calls Tryz.prog 46 #[.agg #[.int .i64 h.k, .slice h.ka h.kn h.kc, .slice h.va h.vn h.vc, .slice h.da h.dn h.dc, .slice h.ta h.tn h.tc], .pointer (some ⟨gx, 0, none⟩), .pointer (some ⟨gp, 0, none⟩), .pointer (some ⟨gc, 0, none⟩)] w (FillPost wb w gx j1 al.tr))
    (ihr : ∀ (h : TH) (w : World), InTree wb h r.tr → Below wb.heap.size wb w → Var1 w 82 gc (.func (.func 46) #[] #[.pointer (some ⟨gx, 0, none⟩), .pointer (some ⟨gp, 0, none⟩), .pointer (some ⟨gc, 0, none⟩)]) → Var1 w 23 gp (.slice a n c) → Var1 w 3 gx (.int .i64 (j1 : Nat)) → Calls Tryz.prog 46 #[.agg #[.int .i64 h.k, .slice h.ka h.kn h.kc, .slice h.va h.vn h.vc, .slice h.da h.dn h.dc, .slice h.ta h.tn h.tc], .pointer (some ⟨gx, 0, none⟩), .pointer (some ⟨gp, 0, none⟩), .pointer (some ⟨gc, 0, none⟩)] w (FillPost wb w gx j2 ar.tr)) :
    Calls Tryz.prog 46 #[.agg #[.int .i64 h.k, .slice h.ka h.kn h.kc, .slice h.va h.vn h.vc, .slice h.da h.dn h.dc, .slice h.ta h.tn h.tc], .pointer (some ⟨gx, 0, none⟩), .pointer (some ⟨gp, 0, none⟩), .pointer (some ⟨gc, 0, none⟩)] w (FillPost wb w gx j2 (AT.node al key val ar).tr) := by
  have HTN : Hid (h.tn = 2) := Lib.hid (by obtain ⟨H, hp⟩ := ht.parts; exact hp.len.symm)
  have l0 : 0 < (PT.shown l key val r).tr.kids.length := by show 0 < 2; omega
  have l1 : 1 < (PT.shown l key val r).tr.kids.length := by show 1 < 2; omega
  have IHL := Lib.hid ihl
  have IHR := Lib.hid ihr
  have HHC : Hid (wb.heap.size ≤ gx) := Lib.hid hge
  have HD := Lib.hid (LF.enter h hbw hge hc hp hv)
  obtain ⟨H, hpt⟩ := ht.parts
  have HP := Lib.hid hpt
  have HTI := Lib.hid ht
  have HKK := Lib.hid hpt.hk
  clear hbw hge hc hp hv hpt ht
  clear ihl ihr
  have e0 : (h.k == 0) = false := by rw [HKK.out]; rfl
  have e3 : (h.k == 3) = false := by rw [HKK.out]; rfl
  go_enter Tryz.func46, Tryz.ntmps46
  go_upto_region 1 with fail
  generalize ((w.alloc (.cells #[.int .i64 h.k, .slice h.ka h.kn h.kc, .slice h.va h.vn h.vc, .slice h.da h.dn h.dc, .slice h.ta h.tn h.tc] 25)).alloc (.cells #[.int .i64 0, .slice none 0 0, .slice none 0 0, .slice none 0 0, .slice none 0 0] 25)) = w0 at *
  obtain ⟨x0, x1, x2, x3, x4⟩ := HD.out.cells
  go_upto_region 7 with fail
  clear x0 x1 x2 x3 x4 e0 e3
  have HD0 := Lib.hid HD.out
  clear HD
  obtain ⟨g, off, hta, hg, -⟩ := (HP.out.below HD0.out.b).place (by rw [HTN.out]; omega)
  have HTA := Lib.hid hta
  clear hta hg
  have ht0 : 0 < h.tn := by rw [HTN.out]; omega
  have ht1 : (1 : Int) < (h.tn : Int) := by rw [HTN.out]; omega
  go_cut [6] (fun s6 wx => FKid wb w0.drew gx j1 al.tr s6 wx)
  case first =>
    have HDZ := Lib.hid (HD0.out.drew.below ((Below.refl _ _).alloc (Nat.le_refl _) (.cells #[.int .i64 0, .slice none 0 0, .slice none 0 0, .slice none 0 0, .slice none 0 0] 25)))
    have HBZ : Hid (BN (w0.drew.alloc (.cells #[.int .i64 0, .slice none 0 0, .slice none 0 0, .slice none 0 0, .slice none 0 0] 25)) gx (.slice none 0 0) w0.heap.size hZ) := Lib.hid ⟨Box.new w0.drew 25 hZ, by have := HD0.out.var.lt; omega, fun e => by cases e⟩
    have HSZ : Hid (wb.heap.size ≤ w0.heap.size) := Lib.hid HD0.out.b.size
    refine wp_region_held_drew (S := (fun W => W.cell? ⟨gc, 0, none⟩ = some (.func (.func 46) #[] #[.pointer (some ⟨gx, 0, none⟩), .pointer (some ⟨gp, 0, none⟩), .pointer (some ⟨gc, 0, none⟩)]) ∧ W.cell? ⟨w.heap.size, 4, none⟩ = some (.slice (some ⟨g, off, none⟩) h.tn h.tc) ∧ W.cell? ⟨g, off, none⟩ = some (.int .i64 (H 0).k) ∧ W.cell? ⟨g, off + 1, none⟩ = some (.slice (H 0).ka (H 0).kn (H 0).kc) ∧ W.cell? ⟨g, off + 2, none⟩ = some (.slice (H 0).va (H 0).vn (H 0).vc) ∧ W.cell? ⟨g, off + 3, none⟩ = some (.slice (H 0).da (H 0).dn (H 0).dc) ∧ W.cell? ⟨g, off + 4, none⟩ = some (.slice (H 0).ta (H 0).tn (H 0).tc))) (by kernel_rfl) (by first | exact ⟨HD0.out.drew.clo.cell, (HD0.out.drew.cells.2.2.2.2).trans (by rw [HTA.out]), (HP.out.below HD0.out.drew.b).kid0 HTA.out (by omega)⟩) (fun hHeld => ?_)
    refine take_w (i := 0) (oi := ?oZ1) (v := ?vZ1) ?hiZ1 (by kernel_rfl) (by kernel_rfl) (by kernel_rfl) ?hQZ1 ?hwZ1 ?hyZ1 (by assumption) ?restZ1
    case hiZ1 => (simp only [List.getElem?_toArray, List.getElem?_cons_zero] <;> rfl)
    case hQZ1 => exact (fun _ _ _ h => h)
    case hwZ1 => rfl
    case hyZ1 => (intro w hSw; (try dsimp only at hSw); go_simp; try with_reducible rfl)
    (try simp only [Act.put, List.setIfInBounds_toArray, List.set_cons_zero, List.set_cons_succ])
    refine take_w (i := 1) (oi := ?oZ2) (v := ?vZ2) ?hiZ2 (by kernel_rfl) (by kernel_rfl) (by kernel_rfl) ?hQZ2 ?hwZ2 ?hyZ2 (by assumption) ?restZ2
    case hiZ2 => (simp only [List.getElem?_toArray, List.getElem?_cons_succ, List.getElem?_cons_zero] <;> rfl)
    case hQZ2 => exact (fun _ _ _ h => h)
    case hwZ2 => rfl
    case hyZ2 => (intro w hSw; (try dsimp only at hSw); go_simp; try with_reducible rfl)
    (try simp only [Act.put, List.setIfInBounds_toArray, List.set_cons_zero, List.set_cons_succ])
    refine take_w (i := 2) (oi := ?oZ3) (v := ?vZ3) ?hiZ3 (by kernel_rfl) (by kernel_rfl) (by kernel_rfl) ?hQZ3 ?hwZ3 ?hyZ3 (by assumption) ?restZ3
    case hiZ3 => (simp only [List.getElem?_toArray, List.getElem?_cons_succ, List.getElem?_cons_zero] <;> rfl)
    case hQZ3 => exact (fun _ _ _ h => h)
    case hwZ3 => rfl
    case hyZ3 => (intro w hSw; (try dsimp only at hSw); go_simp; try with_reducible rfl)
    (try simp only [Act.put, List.setIfInBounds_toArray, List.set_cons_zero, List.set_cons_succ])
    refine take_w (i := 3) (oi := ?oZ4) (v := ?vZ4) ?hiZ4 (by kernel_rfl) (by kernel_rfl) (by kernel_rfl) ?hQZ4 ?hwZ4 ?hyZ4 (by assumption) ?restZ4
    case hiZ4 => (simp only [List.getElem?_toArray, List.getElem?_cons_succ, List.getElem?_cons_zero] <;> rfl)
    case hQZ4 => exact (fun _ _ _ h => h)
    case hwZ4 => rfl
    case hyZ4 => (intro w hSw; (try dsimp only at hSw); go_simp; try with_reducible rfl)
    (try simp only [Act.put, List.setIfInBounds_toArray, List.set_cons_zero, List.set_cons_succ])
    refine take_w (i := 4) (oi := ?oZ5) (v := ?vZ5) ?hiZ5 (by kernel_rfl) (by kernel_rfl) (by kernel_rfl) ?hQZ5 ?hwZ5 ?hyZ5 (by assumption) ?restZ5
    case hiZ5 => (simp only [List.getElem?_toArray, List.getElem?_cons_succ, List.getElem?_cons_zero] <;> rfl)
    case hQZ5 => exact (fun _ _ _ h => h)
    case hwZ5 => rfl
    case hyZ5 => (intro w hSw; (try dsimp only at hSw); go_simp; try with_reducible rfl)
    (try simp only [Act.put, List.setIfInBounds_toArray, List.set_cons_zero, List.set_cons_succ])
    refine wpAnyH_ready (rs := [5, 6]) (by kernel_rfl) (by simp) ?_
    refine AllReadyH.cons (o := ?oZ6) ?hiZ6 (fun K hK => ?stZ6) (AllReadyH.cons (o := ?oZ7) ?hiZ7 (fun K hK => ?stZ7) AllReadyH.nil)
    case hiZ6 => (simp only [List.getElem?_toArray, List.getElem?_cons_succ, List.getElem?_cons_zero] <;> rfl)
    case hiZ7 => (simp only [List.getElem?_toArray, List.getElem?_cons_succ, List.getElem?_cons_zero] <;> rfl)
    case stZ6 =>
      go_simp
      go_at_call 46
      refine (IHL.out (H 0) _ (HP.out.kids 0 l0) HD0.out.drew.b HD0.out.drew.clo HD0.out.drew.par HD0.out.drew.var).mono ?_
      rintro _ wk ⟨hk, rfl, hvk, hkk, hsk2⟩
      unfold TH.v
      have HVK := Lib.hid hvk
      have HKK2 := Lib.hid hkk
      have HSK := Lib.hid hsk2
      have HDK := Lib.hid (HD0.out.drew.step hvk hkk)
      clear hvk hkk hsk2
      have HDKA := Lib.hid (HDK.out.below ((Below.refl _ _).alloc (Nat.le_refl _) (.cells #[.int .i64 0, .slice none 0 0, .slice none 0 0, .slice none 0 0, .slice none 0 0] 25)))
      have HBK : Hid (Box (wk.alloc (.cells #[.int .i64 0, .slice none 0 0, .slice none 0 0, .slice none 0 0, .slice none 0 0] 25)) 25 wk.heap.size hZ) := Lib.hid (Box.new wk 25 hZ)
      go_simp
      refine hK.out _ _ ?_ (fun hHeld => ?_)
      · (first | exact ⟨HDL.out.clo.cell, (HDL.out.cells.2.2.2.2).trans (by rw [HTA.out]), (HP.out.below HDL.out.b).kid0 HTA.out (by omega)⟩ | exact ⟨HDKA.out.clo.cell, (HDKA.out.cells.2.2.2.2).trans (by rw [HTA.out]), (HP.out.below HDKA.out.b).kid0 HTA.out (by omega)⟩ | exact ⟨HDK.out.clo.cell, (HDK.out.cells.2.2.2.2).trans (by rw [HTA.out]), (HP.out.below HDK.out.b).kid0 HTA.out (by omega)⟩ | exact ⟨HDZ.out.clo.cell, (HDZ.out.cells.2.2.2.2).trans (by rw [HTA.out]), (HP.out.below HDZ.out.b).kid0 HTA.out (by omega)⟩ | exact ⟨HD0.out.drew.clo.cell, (HD0.out.drew.cells.2.2.2.2).trans (by rw [HTA.out]), (HP.out.below HD0.out.drew.b).kid0 HTA.out (by omega)⟩)
      clear hK K
      (try simp only [Act.put, List.setIfInBounds_toArray, List.set_cons_zero, List.set_cons_succ])
      refine wpAnyH_ready (rs := [6]) (by kernel_rfl) (by simp) ?_
      refine AllReadyH.cons (o := ?oZ8) ?hiZ8 (fun K hK => ?stZ8) AllReadyH.nil
      case hiZ8 => (simp only [List.getElem?_toArray, List.getElem?_cons_succ, List.getElem?_cons_zero] <;> rfl)
      go_simp
      refine hK.out _ _ ?_ (fun hHeld => ?_)
      · (first | exact ⟨HDL.out.clo.cell, (HDL.out.cells.2.2.2.2).trans (by rw [HTA.out]), (HP.out.below HDL.out.b).kid0 HTA.out (by omega)⟩ | exact ⟨HDKA.out.clo.cell, (HDKA.out.cells.2.2.2.2).trans (by rw [HTA.out]), (HP.out.below HDKA.out.b).kid0 HTA.out (by omega)⟩ | exact ⟨HDK.out.clo.cell, (HDK.out.cells.2.2.2.2).trans (by rw [HTA.out]), (HP.out.below HDK.out.b).kid0 HTA.out (by omega)⟩ | exact ⟨HDZ.out.clo.cell, (HDZ.out.cells.2.2.2.2).trans (by rw [HTA.out]), (HP.out.below HDZ.out.b).kid0 HTA.out (by omega)⟩ | exact ⟨HD0.out.drew.clo.cell, (HD0.out.drew.cells.2.2.2.2).trans (by rw [HTA.out]), (HP.out.below HD0.out.drew.b).kid0 HTA.out (by omega)⟩)
      clear hK K
      (try simp only [Act.put, List.setIfInBounds_toArray, List.set_cons_zero, List.set_cons_succ])
      refine wpAnyH_ready (rs := [7]) (by kernel_rfl) (by simp) ?_
      refine AllReadyH.cons (o := ?oZ9) ?hiZ9 (fun K hK => ?stZ9) AllReadyH.nil
      case hiZ9 => (simp only [List.getElem?_toArray, List.getElem?_cons_succ, List.getElem?_cons_zero] <;> rfl)
      refine step_store_box rfl 25 (.tmp 6) (.tmp 26) rfl wk.heap.size hZ hk rfl (by unfold TH.v; rfl) 25 HBK.out infoTree5 ?_
      intro wl hbl hgl
      have hkp := FKid.one HVK.out HKK2.out HSK.out hgl hbl
      have HKP := Lib.hid hkp
      have HDL := Lib.hid (HD0.out.drew.kid hkp)
      clear hbl hgl hkp
      refine hK.out _ _ ?_ (fun hHeld => ?_)
      · (first | exact ⟨HDL.out.clo.cell, (HDL.out.cells.2.2.2.2).trans (by rw [HTA.out]), (HP.out.below HDL.out.b).kid0 HTA.out (by omega)⟩ | exact ⟨HDKA.out.clo.cell, (HDKA.out.cells.2.2.2.2).trans (by rw [HTA.out]), (HP.out.below HDKA.out.b).kid0 HTA.out (by omega)⟩ | exact ⟨HDK.out.clo.cell, (HDK.out.cells.2.2.2.2).trans (by rw [HTA.out]), (HP.out.below HDK.out.b).kid0 HTA.out (by omega)⟩ | exact ⟨HDZ.out.clo.cell, (HDZ.out.cells.2.2.2.2).trans (by rw [HTA.out]), (HP.out.below HDZ.out.b).kid0 HTA.out (by omega)⟩ | exact ⟨HD0.out.drew.clo.cell, (HD0.out.drew.cells.2.2.2.2).trans (by rw [HTA.out]), (HP.out.below HD0.out.drew.b).kid0 HTA.out (by omega)⟩)
      clear hK K
      (try simp only [Act.put])
      refine wpAnyH_done (by kernel_rfl) ?_ _
      go_wp2_with fail
      go_meet
      exact HKP.out
    case stZ7 =>
      go_simp
      refine hK.out _ _ ?_ (fun hHeld => ?_)
      · (first | exact ⟨HDL.out.clo.cell, (HDL.out.cells.2.2.2.2).trans (by rw [HTA.out]), (HP.out.below HDL.out.b).kid0 HTA.out (by omega)⟩ | exact ⟨HDKA.out.clo.cell, (HDKA.out.cells.2.2.2.2).trans (by rw [HTA.out]), (HP.out.below HDKA.out.b).kid0 HTA.out (by omega)⟩ | exact ⟨HDK.out.clo.cell, (HDK.out.cells.2.2.2.2).trans (by rw [HTA.out]), (HP.out.below HDK.out.b).kid0 HTA.out (by omega)⟩ | exact ⟨HDZ.out.clo.cell, (HDZ.out.cells.2.2.2.2).trans (by rw [HTA.out]), (HP.out.below HDZ.out.b).kid0 HTA.out (by omega)⟩ | exact ⟨HD0.out.drew.clo.cell, (HD0.out.drew.cells.2.2.2.2).trans (by rw [HTA.out]), (HP.out.below HD0.out.drew.b).kid0 HTA.out (by omega)⟩)
      clear hK K
      (try simp only [Act.put, List.setIfInBounds_toArray, List.set_cons_zero, List.set_cons_succ])
      refine wpAnyH_ready (rs := [5]) (by kernel_rfl) (by simp) ?_
      refine AllReadyH.cons (o := ?oZ10) ?hiZ10 (fun K hK => ?stZ10) AllReadyH.nil
      case hiZ10 => (simp only [List.getElem?_toArray, List.getElem?_cons_succ, List.getElem?_cons_zero] <;> rfl)
      go_simp
      go_at_call 46
      refine (IHL.out (H 0) _ (HP.out.kids 0 l0) HDZ.out.b HDZ.out.clo HDZ.out.par HDZ.out.var).mono ?_
      rintro _ wk ⟨hk, rfl, hvk, hkk, hsk2⟩
      unfold TH.v
      have HVK := Lib.hid hvk
      have HKK2 := Lib.hid hkk
      have HSK := Lib.hid hsk2
      have HDK := Lib.hid (HDZ.out.step hvk hkk)
      clear hvk hkk hsk2
      have HBK := Lib.hid (HBZ.out.step HKK2.out)
      go_simp
      refine hK.out _ _ ?_ (fun hHeld => ?_)
      · (first | exact ⟨HDL.out.clo.cell, (HDL.out.cells.2.2.2.2).trans (by rw [HTA.out]), (HP.out.below HDL.out.b).kid0 HTA.out (by omega)⟩ | exact ⟨HDKA.out.clo.cell, (HDKA.out.cells.2.2.2.2).trans (by rw [HTA.out]), (HP.out.below HDKA.out.b).kid0 HTA.out (by omega)⟩ | exact ⟨HDK.out.clo.cell, (HDK.out.cells.2.2.2.2).trans (by rw [HTA.out]), (HP.out.below HDK.out.b).kid0 HTA.out (by omega)⟩ | exact ⟨HDZ.out.clo.cell, (HDZ.out.cells.2.2.2.2).trans (by rw [HTA.out]), (HP.out.below HDZ.out.b).kid0 HTA.out (by omega)⟩ | exact ⟨HD0.out.drew.clo.cell, (HD0.out.drew.cells.2.2.2.2).trans (by rw [HTA.out]), (HP.out.below HD0.out.drew.b).kid0 HTA.out (by omega)⟩)
      clear hK K
      (try simp only [Act.put, List.setIfInBounds_toArray, List.set_cons_zero, List.set_cons_succ])
      refine wpAnyH_ready (rs := [7]) (by kernel_rfl) (by simp) ?_
      refine AllReadyH.cons (o := ?oZ11) ?hiZ11 (fun K hK => ?stZ11) AllReadyH.nil
      case hiZ11 => (simp only [List.getElem?_toArray, List.getElem?_cons_succ, List.getElem?_cons_zero] <;> rfl)
      refine step_store_box rfl 25 (.tmp 6) (.tmp 26) rfl w0.heap.size hZ hk rfl (by unfold TH.v; rfl) 25 HBK.out.box infoTree5 ?_
      intro wl hbl hgl
      have hkp := FKid.two (wd := w0.drew) HSZ.out HBZ.out HVK.out HKK2.out HSK.out hgl hbl
      have HKP := Lib.hid hkp
      have HDL := Lib.hid (HD0.out.drew.kid hkp)
      clear hbl hgl hkp
      refine hK.out _ _ ?_ (fun hHeld => ?_)
      · (first | exact ⟨HDL.out.clo.cell, (HDL.out.cells.2.2.2.2).trans (by rw [HTA.out]), (HP.out.below HDL.out.b).kid0 HTA.out (by omega)⟩ | exact ⟨HDKA.out.clo.cell, (HDKA.out.cells.2.2.2.2).trans (by rw [HTA.out]), (HP.out.below HDKA.out.b).kid0 HTA.out (by omega)⟩ | exact ⟨HDK.out.clo.cell, (HDK.out.cells.2.2.2.2).trans (by rw [HTA.out]), (HP.out.below HDK.out.b).kid0 HTA.out (by omega)⟩ | exact ⟨HDZ.out.clo.cell, (HDZ.out.cells.2.2.2.2).trans (by rw [HTA.out]), (HP.out.below HDZ.out.b).kid0 HTA.out (by omega)⟩ | exact ⟨HD0.out.drew.clo.cell, (HD0.out.drew.cells.2.2.2.2).trans (by rw [HTA.out]), (HP.out.below HD0.out.drew.b).kid0 HTA.out (by omega)⟩)
      clear hK K
      (try simp only [Act.put])
      refine wpAnyH_done (by kernel_rfl) ?_ _
      go_wp2_with fail
      go_meet
      exact HKP.out
  case rest =>
    obtain ⟨h1, L1, rfl, hv1, hk1', hs1', hb1⟩ := hcut
    obtain ⟨wa, hwa⟩ : ∃ x, x = wc := ⟨_, rfl⟩
    subst hwa
    have bd : Below wa.heap.size wa wa.drew := (Below.refl _ _).drew
    have HD1 := Lib.hid ((HD0.out.drew.step hv1 hk1').below bd)
    have HB1 := Lib.hid (hb1.below bd)
    have HS1 : Hid (StayT wb.heap.size (w.heap.size + 2) wa.drew gx (.slice none 0 0) h1 al.tr) := Lib.hid ((hs1'.wide HD0.out.ws).below bd)
    clear hv1 hk1' hs1' hb1 bd HD0
    go_upto_region 8 with fail
    refine region_l (S := (fun W => W.cell? ⟨gc, 0, none⟩ = some (.func (.func 46) #[] #[.pointer (some ⟨gx, 0, none⟩), .pointer (some ⟨gp, 0, none⟩), .pointer (some ⟨gc, 0, none⟩)]) ∧ W.cell? ⟨w.heap.size, 0, none⟩ = some (.int .i64 h.k) ∧ W.cell? ⟨w.heap.size, 1, none⟩ = some (.slice h.ka h.kn h.kc) ∧ W.cell? ⟨w.heap.size, 2, none⟩ = some (.slice h.va h.vn h.vc) ∧ W.cell? ⟨w.heap.size, 3, none⟩ = some (.slice h.da h.dn h.dc) ∧ W.cell? ⟨w.heap.size, 4, none⟩ = some (.slice (some ⟨g, off, none⟩) h.tn h.tc) ∧ W.cell? ⟨L1, 0, none⟩ = some (.int .i64 h1.k) ∧ W.cell? ⟨L1, 1, none⟩ = some (.slice h1.ka h1.kn h1.kc) ∧ W.cell? ⟨L1, 2, none⟩ = some (.slice h1.va h1.vn h1.vc) ∧ W.cell? ⟨L1, 3, none⟩ = some (.slice h1.da h1.dn h1.dc) ∧ W.cell? ⟨L1, 4, none⟩ = some (.slice h1.ta h1.tn h1.tc) ∧ W.cell? ⟨g, off + 5, none⟩ = some (.int .i64 (H 1).k) ∧ W.cell? ⟨g, off + 5 + 1, none⟩ = some (.slice (H 1).ka (H 1).kn (H 1).kc) ∧ W.cell? ⟨g, off + 5 + 2, none⟩ = some (.slice (H 1).va (H 1).vn (H 1).vc) ∧ W.cell? ⟨g, off + 5 + 3, none⟩ = some (.slice (H 1).da (H 1).dn (H 1).dc) ∧ W.cell? ⟨g, off + 5 + 4, none⟩ = some (.slice (H 1).ta (H 1).tn (H 1).tc))) 9 (by kernel_rfl) (by first | exact ⟨HD1.out.clo.cell, HD1.out.cells.1, HD1.out.cells.2.1, HD1.out.cells.2.2.1, HD1.out.cells.2.2.2.1, (HD1.out.cells.2.2.2.2).trans (by rw [HTA.out]), HB1.out.box.cells.1, HB1.out.box.cells.2.1, HB1.out.box.cells.2.2.1, HB1.out.box.cells.2.2.2.1, HB1.out.box.cells.2.2.2.2, (HP.out.below HD1.out.b).kid1 HTA.out (by omega)⟩) (fun hHeld => ?_)
    refine take_l (i := 0) (oi := ?oZ12) (v := ?vZ12) ?hiZ12 (by kernel_rfl) (by kernel_rfl) (by kernel_rfl) (by kernel_rfl) ?hQZ12 ?hwZ12 ?hyZ12 (by assumption) ?restZ12
    case hiZ12 => (simp only [List.getElem?_toArray, List.getElem?_cons_zero] <;> rfl)
    case hQZ12 => exact (fun _ _ _ h => h)
    case hwZ12 => rfl
    case hyZ12 => (intro w hSw; (try dsimp only at hSw); go_simp; try with_reducible rfl)
    (try simp only [Act.put, List.setIfInBounds_toArray, List.set_cons_zero, List.set_cons_succ])
    refine take_l (i := 1) (oi := ?oZ13) (v := ?vZ13) ?hiZ13 (by kernel_rfl) (by kernel_rfl) (by kernel_rfl) (by kernel_rfl) ?hQZ13 ?hwZ13 ?hyZ13 (by assumption) ?restZ13
    case hiZ13 => (simp only [List.getElem?_toArray, List.getElem?_cons_succ, List.getElem?_cons_zero] <;> rfl)
    case hQZ13 => exact (fun _ _ _ h => h)
    case hwZ13 => rfl
    case hyZ13 => (intro w hSw; (try dsimp only at hSw); go_simp; try with_reducible rfl)
    (try simp only [Act.put, List.setIfInBounds_toArray, List.set_cons_zero, List.set_cons_succ])
    refine take_l (i := 2) (oi := ?oZ14) (v := ?vZ14) ?hiZ14 (by kernel_rfl) (by kernel_rfl) (by kernel_rfl) (by kernel_rfl) ?hQZ14 ?hwZ14 ?hyZ14 (by assumption) ?restZ14
    case hiZ14 => (simp only [List.getElem?_toArray, List.getElem?_cons_succ, List.getElem?_cons_zero] <;> rfl)
    case hQZ14 => exact (fun _ _ _ h => h)
    case hwZ14 => rfl
    case hyZ14 => (intro w hSw; (try dsimp only at hSw); go_simp; try with_reducible rfl)
    (try simp only [Act.put, List.setIfInBounds_toArray, List.set_cons_zero, List.set_cons_succ])
    refine take_l (i := 3) (oi := ?oZ15) (v := ?vZ15) ?hiZ15 (by kernel_rfl) (by kernel_rfl) (by kernel_rfl) (by kernel_rfl) ?hQZ15 ?hwZ15 ?hyZ15 (by assumption) ?restZ15
    case hiZ15 => (simp only [List.getElem?_toArray, List.getElem?_cons_succ, List.getElem?_cons_zero] <;> rfl)
    case hQZ15 => exact (fun _ _ _ h => h)
    case hwZ15 => rfl
    case hyZ15 => (intro w hSw; (try dsimp only at hSw); go_simp; try with_reducible rfl)
    (try simp only [Act.put, List.setIfInBounds_toArray, List.set_cons_zero, List.set_cons_succ])
    refine take_l (i := 4) (oi := ?oZ16) (v := ?vZ16) ?hiZ16 (by kernel_rfl) (by kernel_rfl) (by kernel_rfl) (by kernel_rfl) ?hQZ16 ?hwZ16 ?hyZ16 (by assumption) ?restZ16
    case hiZ16 => (simp only [List.getElem?_toArray, List.getElem?_cons_succ, List.getElem?_cons_zero] <;> rfl)
    case hQZ16 => exact (fun _ _ _ h => h)
    case hwZ16 => rfl
    case hyZ16 => (intro w hSw; (try dsimp only at hSw); go_simp; try with_reducible rfl)
    (try simp only [Act.put, List.setIfInBounds_toArray, List.set_cons_zero, List.set_cons_succ])
    refine take_l (i := 5) (oi := ?oZ17) (v := ?vZ17) ?hiZ17 (by kernel_rfl) (by kernel_rfl) (by kernel_rfl) (by kernel_rfl) ?hQZ17 ?hwZ17 ?hyZ17 (by assumption) ?restZ17
    case hiZ17 => (simp only [List.getElem?_toArray, List.getElem?_cons_succ, List.getElem?_cons_zero] <;> rfl)
    case hQZ17 => exact (fun _ _ _ h => h)
    case hwZ17 => rfl
    case hyZ17 => (intro w hSw; (try dsimp only at hSw); go_simp; try with_reducible rfl)
    (try simp only [Act.put, List.setIfInBounds_toArray, List.set_cons_zero, List.set_cons_succ])
    refine take_l (i := 6) (oi := ?oZ18) (v := ?vZ18) ?hiZ18 (by kernel_rfl) (by kernel_rfl) (by kernel_rfl) (by kernel_rfl) ?hQZ18 ?hwZ18 ?hyZ18 (by assumption) ?restZ18
    case hiZ18 => (simp only [List.getElem?_toArray, List.getElem?_cons_succ, List.getElem?_cons_zero] <;> rfl)
    case hQZ18 => exact (fun _ _ _ h => h)
    case hwZ18 => rfl
    case hyZ18 => (intro w hSw; (try dsimp only at hSw); go_simp; try with_reducible rfl)
    (try simp only [Act.put, List.setIfInBounds_toArray, List.set_cons_zero, List.set_cons_succ])
    refine one_l (i := 7) (o := ?oZ19) (by kernel_rfl) ?hiZ19 (fun K hK => ?stZ19)
    case hiZ19 => (simp only [List.getElem?_toArray, List.getElem?_cons_succ, List.getElem?_cons_zero] <;> rfl)
    go_simp
    go_at_call 46
    refine (IHR.out (H 1) _ (HP.out.kids 1 l1) HD1.out.b HD1.out.clo HD1.out.par HD1.out.var).mono ?_
    rintro _ wk ⟨h2, rfl, hvk, hkk, hsk2⟩
    unfold TH.v
    have HDK := Lib.hid (HD1.out.step hvk hkk)
    have HBK := Lib.hid (HB1.out.step hkk)
    have HSL := Lib.hid (HS1.out.step hkk)
    have HSR : Hid (StayT wb.heap.size (w.heap.size + 2) wk gx (.slice none 0 0) h2 ar.tr) := Lib.hid (hsk2.wide HD1.out.ws)
    clear hvk hkk hsk2
    go_simp
    refine hK.out _ _ ?_ (fun hHeld => ?_)
    · (first | exact ⟨HD5.out.clo.cell, HD5.out.cells.1, HD5.out.cells.2.1, HD5.out.cells.2.2.1, HD5.out.cells.2.2.2.1, (HD5.out.cells.2.2.2.2).trans (by rw [HTA.out]), HB5.out.box.cells.1, HB5.out.box.cells.2.1, HB5.out.box.cells.2.2.1, HB5.out.box.cells.2.2.2.1, HB5.out.box.cells.2.2.2.2, (HP.out.below HD5.out.b).kid1 HTA.out (by omega)⟩ | exact ⟨HDK.out.clo.cell, HDK.out.cells.1, HDK.out.cells.2.1, HDK.out.cells.2.2.1, HDK.out.cells.2.2.2.1, (HDK.out.cells.2.2.2.2).trans (by rw [HTA.out]), HBK.out.box.cells.1, HBK.out.box.cells.2.1, HBK.out.box.cells.2.2.1, HBK.out.box.cells.2.2.2.1, HBK.out.box.cells.2.2.2.2, (HP.out.below HDK.out.b).kid1 HTA.out (by omega)⟩ | exact ⟨HD1.out.clo.cell, HD1.out.cells.1, HD1.out.cells.2.1, HD1.out.cells.2.2.1, HD1.out.cells.2.2.2.1, (HD1.out.cells.2.2.2.2).trans (by rw [HTA.out]), HB1.out.box.cells.1, HB1.out.box.cells.2.1, HB1.out.box.cells.2.2.1, HB1.out.box.cells.2.2.2.1, HB1.out.box.cells.2.2.2.2, (HP.out.below HD1.out.b).kid1 HTA.out (by omega)⟩)
    clear hK K
    (try simp only [Act.put, List.setIfInBounds_toArray, List.set_cons_zero, List.set_cons_succ])
    refine one_l (i := 8) (o := ?oZ20) (by kernel_rfl) ?hiZ20 (fun K hK => ?stZ20)
    case hiZ20 => (simp only [List.getElem?_toArray, List.getElem?_cons_succ, List.getElem?_cons_zero] <;> rfl)
    go_simp
    go_at_call 38
    refine (withKids_any ⟨h.k, h.ka, h.kn, h.kc, h.va, h.vn, h.vc, h.da, h.dn, h.dc, some ⟨g, off, none⟩, h.tn, h.tc⟩ h1 h2 _).mono ?_
    rintro _ w5 ⟨g5, rfl, hge5, hx5, hb5⟩
    unfold TH.v
    have HD5 := Lib.hid (HDK.out.below hb5)
    have HB5 := Lib.hid (HBK.out.below hb5)
    have HT5 : Hid (Two5 w5 25 g5 h1 h2 ∧ wk.heap.size ≤ g5) := Lib.hid ⟨hx5, hge5⟩
    have HSL5 := Lib.hid (HSL.out.below hb5)
    have HSR5 := Lib.hid (HSR.out.below hb5)
    clear hge5 hx5 hb5
    go_simp
    refine hK.out _ _ ?_ (fun hHeld => ?_)
    · (first | exact ⟨HD5.out.clo.cell, HD5.out.cells.1, HD5.out.cells.2.1, HD5.out.cells.2.2.1, HD5.out.cells.2.2.2.1, (HD5.out.cells.2.2.2.2).trans (by rw [HTA.out]), HB5.out.box.cells.1, HB5.out.box.cells.2.1, HB5.out.box.cells.2.2.1, HB5.out.box.cells.2.2.2.1, HB5.out.box.cells.2.2.2.2, (HP.out.below HD5.out.b).kid1 HTA.out (by omega)⟩ | exact ⟨HDK.out.clo.cell, HDK.out.cells.1, HDK.out.cells.2.1, HDK.out.cells.2.2.1, HDK.out.cells.2.2.2.1, (HDK.out.cells.2.2.2.2).trans (by rw [HTA.out]), HBK.out.box.cells.1, HBK.out.box.cells.2.1, HBK.out.box.cells.2.2.1, HBK.out.box.cells.2.2.2.1, HBK.out.box.cells.2.2.2.2, (HP.out.below HDK.out.b).kid1 HTA.out (by omega)⟩ | exact ⟨HD1.out.clo.cell, HD1.out.cells.1, HD1.out.cells.2.1, HD1.out.cells.2.2.1, HD1.out.cells.2.2.2.1, (HD1.out.cells.2.2.2.2).trans (by rw [HTA.out]), HB1.out.box.cells.1, HB1.out.box.cells.2.1, HB1.out.box.cells.2.2.1, HB1.out.box.cells.2.2.2.1, HB1.out.box.cells.2.2.2.2, (HP.out.below HD1.out.b).kid1 HTA.out (by omega)⟩)
    clear hK K
    (try simp only [Act.put, List.setIfInBounds_toArray, List.set_cons_zero, List.set_cons_succ])
    refine last_l (o := ?oZ21) (by kernel_rfl) ?hiZ21 (by kernel_rfl) (fun K hK => ?stZ21)
    case hiZ21 => (simp only [List.getElem?_toArray, List.getElem?_cons_succ, List.getElem?_cons_zero] <;> rfl)
    refine step_store_box rfl 25 (.tmp 5) (.tmp 35) rfl (w.heap.size + 1) hZ ⟨h.k, h.ka, h.kn, h.kc, h.va, h.vn, h.vc, h.da, h.dn, h.dc, some ⟨g5, 0, none⟩, 2, 2⟩ rfl rfl 25 HD5.out.res.box infoTree5 ?_
    intro w9 hbx9 hg9
    have HX9 := Lib.hid hbx9
    have HG9 := Lib.hid hg9
    have HF9 := Lib.hid (HD5.out.fin hg9)
    clear hbx9 hg9
    refine hK.out _ _ ?_
    clear hK K
    (try simp only [Act.put])
    
    go_wp2_with fail
    refine bodyPost_ret (v := TH.v ⟨h.k, h.ka, h.kn, h.kc, h.va, h.vn, h.vc, h.da, h.dn, h.dc, some ⟨g5, 0, none⟩, 2, 2⟩) (result_tree Tryz.results46 _ HX9.out rfl Tryz.underlying25 infoTree5) rfl ⟨⟨h.k, h.ka, h.kn, h.kc, h.va, h.vn, h.vc, h.da, h.dn, h.dc, some ⟨g5, 0, none⟩, 2, 2⟩, rfl, HF9.out.1, HF9.out.2.1, ?_⟩
    have q0 := HT5.out.2
    have q1 := HDK.out.ws
    have q2 := HDK.out.var.lt
    have q3 := HDK.out.sz
    have hx9 : Two5 w9 25 g5 h1 h2 := (HG9.out.block g5 HT5.out.1.lt (fun e => by injection e; omega)).trans HT5.out.1
    have hh1 : h.k = 1 := HKK.out
    rw [hh1]
    have hlo : wb.heap.size ≤ w.heap.size + 1 := by omega
    have own : ∀ j, Value.ownBlock (.slice none 0 0) = some j → wb.heap.size ≤ j := fun j e => by cases e
    have hB9 := HF9.out.2.2
    show StayT _ _ _ _ _ _ (.mk 1 key val [] [al.tr, ar.tr])
    exact (StayT.node (lo := w.heap.size + 2) hx9 (by omega) (by omega) (fun e => by cases e) (HSL5.out.box HG9.out hlo (Nat.lt_succ_self _)) (HSR5.out.box HG9.out hlo (Nat.lt_succ_self _)) (k := 1) (by omega) (by omega) (StayB.low HP.out.key hB9 HHC.out own) (StayB.low HP.out.val hB9 HHC.out own) (StayB.low HP.out.dig hB9 HHC.out own)).wide (Nat.le_add_right _ _)
end Go.Proofs.YtkcmohmfejmfoaaGreatDoor

/- The contract of the program's filled. -/
namespace Go.Proofs.YtkcmohmfejmfoaaGreatDoor
open Go.RowKit
set_option linter.unusedVariables false

theorem fillC_any (wb : World) (gx gp gc : Nat) (a : Option Addr) (n c : Nat) (ps : List AT) (Hs : Nat → TH) (hps : TreesAt wb a n c (ps.map AT.tr) Hs) (hn : n ≤ 500) (hge : wb.heap.size ≤ gx) : ∀ (p : PT), darkP p = false → ∀ (i : Nat) (h : TH) (w : World), i + (cutsP p).length ≤ ps.length → InTree wb h p.tr → Below wb.heap.size wb w → Var1 w 82 gc (.func (.func 46) #[] #[.pointer (some ⟨gx, 0, none⟩), .pointer (some ⟨gp, 0, none⟩), .pointer (some ⟨gc, 0, none⟩)]) → Var1 w 23 gp (.slice a n c) → Var1 w 3 gx (.int .i64 (i : Nat)) → Calls Tryz.prog 46 #[.agg #[.int .i64 h.k, .slice h.ka h.kn h.kc, .slice h.va h.vn h.vc, .slice h.da h.dn h.dc, .slice h.ta h.tn h.tc], .pointer (some ⟨gx, 0, none⟩), .pointer (some ⟨gp, 0, none⟩), .pointer (some ⟨gc, 0, none⟩)] w (FillPost wb w gx (i + (cutsP p).length) (fillA p (ps.drop i)).1.tr) := by
  intro p
  induction p with
  | nil => exact fun hd i h w hi ht hbw hc hp hv => fillNil_any wb gx gp gc a n c ps Hs hps hn i h w ht hbw hge hc hp hv
  | cut d =>
    intro hd i h w hi ht hbw hc hp hv
    have hi2 : i < ps.length := by
      have q : i + 1 ≤ ps.length := hi
      omega
    rw [List.drop_eq_getElem_cons hi2]
    exact fillCut_any wb gx gp gc a n c ps Hs hps hn d i h w ht hbw hge hc hp hv hi2
  | shown l key val r ihl ihr =>
    intro hd i h w hi ht hbw hc hp hv
    rw [darkP, Bool.or_eq_false_iff] at hd
    have e : (cutsP (.shown l key val r)).length = (cutsP l).length + (cutsP r).length := by rw [cutsP, List.length_append]
    rw [e] at hi ⊢
    have e2 : (fillA l (ps.drop i)).2 = ps.drop (i + (cutsP l).length) := by rw [fill_drop l _ hd.1, List.drop_drop]
    have e3 : (fillA (.shown l key val r) (ps.drop i)).1 = .node (fillA l (ps.drop i)).1 key val (fillA r (ps.drop (i + (cutsP l).length))).1 := by rw [fillA, e2]
    rw [e3, ← Nat.add_assoc]
    exact fillNode_any wb gx gp gc a n c l key val r i h w ht hbw hge hc hp hv (i + (cutsP l).length) (i + (cutsP l).length + (cutsP r).length) _ _ (fun h w q1 q2 q3 q4 q5 => ihl hd.1 i h w (by omega) q1 q2 q3 q4 q5) (fun h w q1 q2 q3 q4 q5 => ihr hd.2 (i + (cutsP l).length) h w (by omega) q1 q2 q3 q4 q5)
  | dark l key d r ihl ihr => exact fun hd => by cases hd
/-- What filled tells. -/
def FilledPost (w : World) (t : Tr) (e : Ending) (w' : World) : Prop := ∃ h', e = .returned h'.v ∧ InTree w' h' t ∧ Below w.heap.size w w'
/-- filled's boxes: the tree, the parts, the result. -/
structure KF (w W : World) (a : Option Addr) (n c : Nat) (h : TH) : Prop where
  box : Box W 25 w.heap.size h
  par : Var1 W 23 (w.heap.size + 1) (.slice a n c)
  res : Box W 25 (w.heap.size + 2) hZ
  b : Below w.heap.size w W
theorem KF.below {w W W' : World} {a : Option Addr} {n c : Nat} {h : TH} (d : KF w W a n c h) (hb : Below W.heap.size W W') : KF w W' a n c h := ⟨d.box.below hb d.box.lt, d.par.below hb d.par.lt, d.res.below hb d.res.lt, d.b.trans (hb.mono d.b.size)⟩
theorem KF.enter (w : World) (a : Option Addr) (n c : Nat) (h : TH) : KF w (((w.alloc (.cells #[.int .i64 h.k, .slice h.ka h.kn h.kc, .slice h.va h.vn h.vc, .slice h.da h.dn h.dc, .slice h.ta h.tn h.tc] 25)).alloc (.cells #[.slice a n c] 23)).alloc (.cells #[.int .i64 0, .slice none 0 0, .slice none 0 0, .slice none 0 0, .slice none 0 0] 25)) a n c h := by
  have q1 : Below w.heap.size w (w.alloc (.cells #[.int .i64 h.k, .slice h.ka h.kn h.kc, .slice h.va h.vn h.vc, .slice h.da h.dn h.dc, .slice h.ta h.tn h.tc] 25)) := (Below.refl _ _).alloc (Nat.le_refl _) _
  have s1 : (w.alloc (.cells #[.int .i64 h.k, .slice h.ka h.kn h.kc, .slice h.va h.vn h.vc, .slice h.da h.dn h.dc, .slice h.ta h.tn h.tc] 25)).heap.size = w.heap.size + 1 := by simp
  have s2 : ((w.alloc (.cells #[.int .i64 h.k, .slice h.ka h.kn h.kc, .slice h.va h.vn h.vc, .slice h.da h.dn h.dc, .slice h.ta h.tn h.tc] 25)).alloc (.cells #[.slice a n c] 23)).heap.size = w.heap.size + 2 := by simp
  have q2 : Below (w.alloc (.cells #[.int .i64 h.k, .slice h.ka h.kn h.kc, .slice h.va h.vn h.vc, .slice h.da h.dn h.dc, .slice h.ta h.tn h.tc] 25)).heap.size (w.alloc (.cells #[.int .i64 h.k, .slice h.ka h.kn h.kc, .slice h.va h.vn h.vc, .slice h.da h.dn h.dc, .slice h.ta h.tn h.tc] 25)) ((w.alloc (.cells #[.int .i64 h.k, .slice h.ka h.kn h.kc, .slice h.va h.vn h.vc, .slice h.da h.dn h.dc, .slice h.ta h.tn h.tc] 25)).alloc (.cells #[.slice a n c] 23)) := (Below.refl _ _).alloc (Nat.le_refl _) _
  have q3 : Below ((w.alloc (.cells #[.int .i64 h.k, .slice h.ka h.kn h.kc, .slice h.va h.vn h.vc, .slice h.da h.dn h.dc, .slice h.ta h.tn h.tc] 25)).alloc (.cells #[.slice a n c] 23)).heap.size ((w.alloc (.cells #[.int .i64 h.k, .slice h.ka h.kn h.kc, .slice h.va h.vn h.vc, .slice h.da h.dn h.dc, .slice h.ta h.tn h.tc] 25)).alloc (.cells #[.slice a n c] 23)) (((w.alloc (.cells #[.int .i64 h.k, .slice h.ka h.kn h.kc, .slice h.va h.vn h.vc, .slice h.da h.dn h.dc, .slice h.ta h.tn h.tc] 25)).alloc (.cells #[.slice a n c] 23)).alloc (.cells #[.int .i64 0, .slice none 0 0, .slice none 0 0, .slice none 0 0, .slice none 0 0] 25)) := (Below.refl _ _).alloc (Nat.le_refl _) _
  have x0 := Box.new w 25 h
  have x1 := Var1.new (w.alloc (.cells #[.int .i64 h.k, .slice h.ka h.kn h.kc, .slice h.va h.vn h.vc, .slice h.da h.dn h.dc, .slice h.ta h.tn h.tc] 25)) 23 (.slice a n c)
  have x2 := Box.new ((w.alloc (.cells #[.int .i64 h.k, .slice h.ka h.kn h.kc, .slice h.va h.vn h.vc, .slice h.da h.dn h.dc, .slice h.ta h.tn h.tc] 25)).alloc (.cells #[.slice a n c] 23)) 25 hZ
  rw [s1] at x1
  rw [s2] at x2
  exact ⟨(x0.below q2 x0.lt).below q3 (x0.below q2 x0.lt).lt, x1.below q3 x1.lt, x2, (q1.trans (q2.mono q1.size)).trans (q3.mono (by rw [s2]; omega))⟩

set_option maxRecDepth 100000 in
set_option maxHeartbeats 8000000 in
theorem filled_any (p : PT) (h : TH) (ps : List AT) (a : Option Addr) (n c : Nat) (Hs : Nat → TH) (w : World) (ht : InTree w h p.tr) (hps : TreesAt w a n c (ps.map AT.tr) Hs) (hn : n ≤ 500) (hdk : darkP p = false) (hle : (cutsP p).length ≤ ps.length) : Calls Tryz.prog 25 #[.agg #[.int .i64 h.k, .slice h.ka h.kn h.kc, .slice h.va h.vn h.vc, .slice h.da h.dn h.dc, .slice h.ta h.tn h.tc], .slice a n c] w (FilledPost w (fillA p ps).1.tr) := by
  have hmf : ∀ (fn : Fn) (first cap : Array Value) (w : World), (Instr.makeFunc fn first cap).run Tryz.prog w = .ok (.func fn first cap) w := fun _ _ _ _ => rfl
  have HD := Lib.hid (KF.enter w a n c h)
  have HT := Lib.hid ht
  have HPS := Lib.hid hps
  have HN := Lib.hid hn
  have HDK := Lib.hid hdk
  have HLE : Hid (0 + (cutsP p).length ≤ ps.length) := Lib.hid (by omega)
  clear ht hps hn hdk hle
  go_enter Tryz.func25, Tryz.ntmps25
  go_upto_region 1 with fail
  generalize (((w.alloc (.cells #[.int .i64 h.k, .slice h.ka h.kn h.kc, .slice h.va h.vn h.vc, .slice h.da h.dn h.dc, .slice h.ta h.tn h.tc] 25)).alloc (.cells #[.slice a n c] 23)).alloc (.cells #[.int .i64 0, .slice none 0 0, .slice none 0 0, .slice none 0 0, .slice none 0 0] 25)) = w2 at *
  have b3 : Below w2.heap.size w2 (w2.alloc (.cells #[.int .i64 0] 3)) := (Below.refl _ _).alloc (Nat.le_refl _) _
  have b4 : Below (w2.alloc (.cells #[.int .i64 0] 3)).heap.size (w2.alloc (.cells #[.int .i64 0] 3)) ((w2.alloc (.cells #[.int .i64 0] 3)).alloc (.cells #[.nilFunc] 82)) := (Below.refl _ _).alloc (Nat.le_refl _) _
  have e3 : (w2.alloc (.cells #[.int .i64 0] 3)).heap.size = w2.heap.size + 1 := by simp
  have v3 := Var1.new w2 3 (.int .i64 0)
  have v4 := Var1.new (w2.alloc (.cells #[.int .i64 0] 3)) 82 .nilFunc
  rw [e3] at v4
  have b24 : Below w2.heap.size w2 ((w2.alloc (.cells #[.int .i64 0] 3)).alloc (.cells #[.nilFunc] 82)) := b3.trans (b4.mono b3.size)
  have HD4 := Lib.hid (HD.out.below b24)
  have HV4 : Hid (Var1 ((w2.alloc (.cells #[.int .i64 0] 3)).alloc (.cells #[.nilFunc] 82)) 3 w2.heap.size (.int .i64 0) ∧ Var1 ((w2.alloc (.cells #[.int .i64 0] 3)).alloc (.cells #[.nilFunc] 82)) 82 (w2.heap.size + 1) .nilFunc) := Lib.hid ⟨v3.below b4 v3.lt, v4⟩
  have HG4 : Hid (w.heap.size + 2 < w2.heap.size) := Lib.hid HD.out.res.lt
  have HS4 : Hid (((w2.alloc (.cells #[.int .i64 0] 3)).alloc (.cells #[.nilFunc] 82)).heap.size = w2.heap.size + 2) := Lib.hid (by simp)
  clear b3 b4 e3 v3 v4 b24
  go_upto_region 3 with fail
  generalize ((w2.alloc (.cells #[.int .i64 0] 3)).alloc (.cells #[.nilFunc] 82)) = w4 at *
  generalize w2.heap.size = gx at *
  have cf4 := HV4.out.2.cell
  have ff4 := HV4.out.2.frozen 0
  go_upto_region 4 with fail
  clear cf4 ff4
  have hg5 : w4.grownBy (w4.setCell ⟨gx + 1, 0, none⟩ (.func (.func 46) #[] #[.pointer (some ⟨gx, 0, none⟩), .pointer (some ⟨(w.heap.size + 1), 0, none⟩), .pointer (some ⟨(gx + 1), 0, none⟩)])) (some (gx + 1)) := only_set (only_refl _ _) 0 _
  have HC5 : Hid (Var1 (w4.setCell ⟨gx + 1, 0, none⟩ (.func (.func 46) #[] #[.pointer (some ⟨gx, 0, none⟩), .pointer (some ⟨(w.heap.size + 1), 0, none⟩), .pointer (some ⟨(gx + 1), 0, none⟩)])) 82 (gx + 1) (.func (.func 46) #[] #[.pointer (some ⟨gx, 0, none⟩), .pointer (some ⟨(w.heap.size + 1), 0, none⟩), .pointer (some ⟨(gx + 1), 0, none⟩)])) := Lib.hid (HV4.out.2.set _)
  have HV5 : Hid (Var1 (w4.setCell ⟨gx + 1, 0, none⟩ (.func (.func 46) #[] #[.pointer (some ⟨gx, 0, none⟩), .pointer (some ⟨(w.heap.size + 1), 0, none⟩), .pointer (some ⟨(gx + 1), 0, none⟩)])) 3 gx (.int .i64 ((0 : Nat) : Int))) := Lib.hid (HV4.out.1.grown hg5 (fun e => by injection e; omega))
  have HP5 := Lib.hid (HD4.out.par.grown hg5 (fun e => by injection e; have := HG4.out; omega))
  have HX5 := Lib.hid (HD4.out.box.grown hg5 (fun e => by injection e; have := HG4.out; omega))
  have HB5 : Hid (Below w.heap.size w (w4.setCell ⟨gx + 1, 0, none⟩ (.func (.func 46) #[] #[.pointer (some ⟨gx, 0, none⟩), .pointer (some ⟨(w.heap.size + 1), 0, none⟩), .pointer (some ⟨(gx + 1), 0, none⟩)]))) := Lib.hid (HD4.out.b.grown hg5 HD4.out.b.size (fun j hj => by injection hj; have := HG4.out; omega))
  have HR5 : Hid (BN (w4.setCell ⟨gx + 1, 0, none⟩ (.func (.func 46) #[] #[.pointer (some ⟨gx, 0, none⟩), .pointer (some ⟨(w.heap.size + 1), 0, none⟩), .pointer (some ⟨(gx + 1), 0, none⟩)])) gx (.slice none 0 0) (w.heap.size + 2) hZ) := Lib.hid ⟨HD4.out.res.grown hg5 (fun e => by injection e; have := HG4.out; omega), by have := HG4.out; omega, fun e => by cases e⟩
  have HGN : Hid (w.heap.size ≤ gx ∧ w.heap.size + 2 < (w4.setCell ⟨gx + 1, 0, none⟩ (.func (.func 46) #[] #[.pointer (some ⟨gx, 0, none⟩), .pointer (some ⟨(w.heap.size + 1), 0, none⟩), .pointer (some ⟨(gx + 1), 0, none⟩)])).heap.size) := Lib.hid ⟨by have := HG4.out; omega, by have q1 := hg5.size; have q2 := HS4.out; have q3 := HG4.out; omega⟩
  clear hg5 HV4 HD4 HD
  generalize (w4.setCell ⟨gx + 1, 0, none⟩ (.func (.func 46) #[] #[.pointer (some ⟨gx, 0, none⟩), .pointer (some ⟨(w.heap.size + 1), 0, none⟩), .pointer (some ⟨(gx + 1), 0, none⟩)])) = w5 at *
  have xc := HC5.out.cell
  obtain ⟨x0, x1, x2, x3, x4⟩ := HX5.out.cells
  go_wp2_with (first
  | (go_at_call 46
     refine (fillC_any w gx (w.heap.size + 1) (gx + 1) a n c ps Hs HPS.out HN.out HGN.out.1 p HDK.out 0 h _ HLE.out HT.out HB5.out HC5.out HP5.out HV5.out).mono ?_
     rintro _ w6 ⟨h6, rfl, hv6, hk6, hst6⟩
     unfold TH.v
     have HR6 := Lib.hid (HR5.out.step hk6)
     have HB6 : Hid (Below w.heap.size w w6) := Lib.hid (hk6.below HB5.out HB5.out.size HGN.out.1 (fun k e => by cases e))
     have HS6 := Lib.hid hst6
     clear hv6 hk6 hst6 x0 x1 x2 x3 x4 xc)
  | (refine wpList_store_box rfl 25 (.tmp 4) (.tmp 10) rfl (w.heap.size + 2) hZ h6 rfl rfl 25 HR6.out.box infoTree5 ?_
     intro w9 hbx9 hg9
     have HX9 := Lib.hid hbx9
     have HB9 : Hid (Below w.heap.size w w9) := Lib.hid (HB6.out.grown hg9 HB6.out.size (fun j hj => by injection hj; omega))
     have HT9 := Lib.hid ((HS6.out.box hg9 (Nat.le_add_right _ _) HGN.out.2).self)
     clear hbx9 hg9))
  exact bodyPost_ret (v := TH.v h6) (result_tree Tryz.results25 _ HX9.out rfl Tryz.underlying25 infoTree5) rfl ⟨h6, rfl, HT9.out, HB9.out⟩
end Go.Proofs.YtkcmohmfejmfoaaGreatDoor

/- Whether a row of trees holds a dark one: the contracts of slices.ContainsFunc and of isDark. -/
namespace Go.Proofs.YtkcmohmfejmfoaaGreatDoor
open Go.RowKit
set_option linter.unusedVariables false

set_option maxRecDepth 100000 in
set_option maxHeartbeats 8000000 in
theorem isDark_any (h : TH) (w : World) : Calls Tryz.prog 22 #[.agg #[.int .i64 h.k, .slice h.ka h.kn h.kc, .slice h.va h.vn h.vc, .slice h.da h.dn h.dc, .slice h.ta h.tn h.tc]] w (Says w (.bool (h.k == 2))) := by
  have HB : Hid (Below w.heap.size w (w.alloc (.cells #[.int .i64 h.k, .slice h.ka h.kn h.kc, .slice h.va h.vn h.vc, .slice h.da h.dn h.dc, .slice h.ta h.tn h.tc] 25))) := Lib.hid ((Below.refl _ _).alloc (Nat.le_refl _) _)
  obtain ⟨x0, x1, x2, x3, x4⟩ := (Box.new w 25 h).cells
  go_enter Tryz.func22, Tryz.ntmps22
  go_wp2_with fail
  go_ret
  exact ⟨rfl, HB.out⟩
/-- A row of trees, where the first world lies below. -/
structure RWd (w W : World) (base : Nat) (a : Option Addr) (n c : Nat) (hs : List TH) (ts : List Tr) : Prop where
  o : OwnT W base 25 (.slice a n c) hs
  hh : Heads W hs ts
  b : Below w.heap.size w W
theorem RWd.below {w W W' : World} {base : Nat} {a : Option Addr} {n c : Nat} {hs : List TH} {ts : List Tr} (x : RWd w W base a n c hs ts) (hb : Below W.heap.size W W') : RWd w W' base a n c hs ts := ⟨x.o.keep hb, x.hh.lower hb, x.b.trans (hb.mono x.b.size)⟩
/-- The place of the first dark one, or less than nothing. -/
def IndexPost (w : World) (ts : List Tr) (e : Ending) (w' : World) : Prop := ∃ r : Int, e = .returned (.int .i64 r) ∧ decide (0 ≤ r) = ts.any (fun t => t.k == 2) ∧ Below w.heap.size w w'

set_option maxRecDepth 100000 in
set_option maxHeartbeats 8000000 in
theorem index_any (ts : List Tr) (hs : List TH) (base : Nat) (a : Option Addr) (n c : Nat) (w : World) (ho : OwnT w base 25 (.slice a n c) hs) (hh : Heads w hs ts) (hl : hs.length = n) (hn : n ≤ 1000) : Calls Tryz.prog 43 #[.slice a n c, (.func (.func 22) #[] #[])] w (IndexPost w ts) := by
  have hr : RWd w w base a n c hs ts := ⟨ho, hh, Below.refl _ _⟩
  have HR := Lib.hid hr
  have HL := Lib.hid hl
  have HLT := Lib.hid hh.1
  clear ho hh hr hl
  go_enter Tryz.func43, Tryz.ntmps43
  go_upto_region 2 with fail
  go_loopw [8] (fun s8 wx => ∃ i : Nat, i ≤ n ∧ s8 = .int .i64 i ∧ RWd w wx base a n c hs ts ∧ ∀ j (hj : j < i) (h2 : j < ts.length), (ts[j].k == 2) = false) (fun s8 _ => n - (intOf s8).toNat)
  case atStart => exact ⟨0, by omega, rfl, HR.out, fun j hj => absurd hj (Nat.not_lt_zero j)⟩
  case round =>
    clear HR
    obtain ⟨i, hi, rfl, hr, hno⟩ := hrel
    have HR := Lib.hid hr
    have HNO := Lib.hid hno
    clear hr hno
    by_cases hlt : i < n
    · have q1 : (i : Int) < (n : Int) := by omega
      have hih : i < hs.length := by rw [HL.out]; exact hlt
      have hit : i < ts.length := by rw [← HLT.out]; exact hih
      obtain ⟨g, hga, x0, x1, x2, x3, x4⟩ := HR.out.o.at HL.out i hih
      subst hga
      obtain ⟨HH, hp⟩ := (HR.out.hh.2 i hih hit).parts
      have hkk := hp.hk
      clear hp
      cases hd : (ts[i].k == 2) with
      | true =>
        have HKV : Hid ((hs[i].k == 2) = true) := Lib.hid (by rw [hkk]; exact hd)
        have HAN : Hid (ts.any (fun t => t.k == 2) = true) := Lib.hid (List.any_eq_true.2 ⟨_, List.getElem_mem hit, hd⟩)
        clear hkk hd
        go_wp2_with (first
        | (go_at_call 22
           (with_reducible refine (isDark_any (hs[i]) _).mono ?_)
           rintro _ w1 ⟨rfl, hb1⟩
           rw [HKV.out]
           have HR1 := Lib.hid (HR.out.below hb1)
           clear hb1 x0 x1 x2 x3 x4))
        go_ret
        exact ⟨i, rfl, by rw [HAN.out]; simp, HR1.out.b⟩
      | false =>
        have HKV : Hid ((hs[i].k == 2) = false) := Lib.hid (by rw [hkk]; exact hd)
        have HDD := Lib.hid hd
        clear hkk hd
        go_wp2_with (first
        | (go_at_call 22
           (with_reducible refine (isDark_any (hs[i]) _).mono ?_)
           rintro _ w1 ⟨rfl, hb1⟩
           rw [HKV.out]
           have HR1 := Lib.hid (HR.out.below hb1)
           clear hb1 x0 x1 x2 x3 x4))
        exact ⟨⟨i + 1, by omega, by go_num, HR1.out, fun j hj h2 => by
          rcases Nat.lt_or_ge j i with q | q
          · exact HNO.out j q h2
          · obtain rfl : j = i := by omega
            exact HDD.out⟩, by simp [intOf]; omega⟩
    · have q1 : ¬ (i : Int) < (n : Int) := by omega
      have HAN : Hid (ts.any (fun t => t.k == 2) = false) := Lib.hid (by
        rw [List.any_eq_false]
        intro x hx
        obtain ⟨j, hj, rfl⟩ := List.getElem_of_mem hx
        have q2 := HNO.out j (by rw [← HLT.out, HL.out] at hj; omega) hj
        simp only [q2]
        simp)
      go_wp2_with fail
      go_ret
      exact ⟨-1, rfl, by rw [HAN.out]; simp, HR.out.b⟩

set_option maxRecDepth 100000 in
set_option maxHeartbeats 8000000 in
theorem hasDark_any (ts : List Tr) (hs : List TH) (base : Nat) (a : Option Addr) (n c : Nat) (w : World) (ho : OwnT w base 25 (.slice a n c) hs) (hh : Heads w hs ts) (hl : hs.length = n) (hn : n ≤ 1000) : Calls Tryz.prog 20 #[.slice a n c, (.func (.func 22) #[] #[])] w (Says w (.bool (ts.any (fun t => t.k == 2)))) := by
  have HX := Lib.hid (index_any ts hs base a n c w ho hh hl hn)
  obtain ⟨bb, hbb⟩ : ∃ bb, (ts.any (fun t => t.k == 2)) = bb := ⟨_, rfl⟩
  rw [hbb]
  have HBB := Lib.hid hbb
  clear ho hh hbb
  go_enter Tryz.func20, Tryz.ntmps20
  go_wp2_with (first
    | (go_at_call 43
       refine HX.out.mono ?_
       rintro _ w1 ⟨r, rfl, hr, hb1⟩
       rw [HBB.out] at hr
       have HR := Lib.hid hr
       have HB1 := Lib.hid hb1
       clear hr hb1))
  go_ret
  exact ⟨by first | (rw [← HR.out]; done) | (rw [← HR.out]; rfl), HB1.out⟩
end Go.Proofs.YtkcmohmfejmfoaaGreatDoor

/- The contract of the program's Join. -/
namespace Go.Proofs.YtkcmohmfejmfoaaGreatDoor
open Go.RowKit
set_option linter.unusedVariables false

/-- Join's boxes: the head, the result. -/
structure JX (w W : World) (h : TH) : Prop where
  box : Box W 25 w.heap.size h
  res : Box W 25 (w.heap.size + 1) hZ
  b : Below w.heap.size w W
theorem JX.below {w W W' : World} {h : TH} (d : JX w W h) (hb : Below W.heap.size W W') : JX w W' h := ⟨d.box.below hb d.box.lt, d.res.below hb d.res.lt, d.b.trans (hb.mono d.b.size)⟩
theorem JX.enter (w : World) (h : TH) : JX w ((w.alloc (.cells #[.int .i64 h.k, .slice h.ka h.kn h.kc, .slice h.va h.vn h.vc, .slice h.da h.dn h.dc, .slice h.ta h.tn h.tc] 25)).alloc (.cells #[.int .i64 0, .slice none 0 0, .slice none 0 0, .slice none 0 0, .slice none 0 0] 25)) h := ⟨(enter2 w h).1, (enter2 w h).2.1, (enter2 w h).2.2.1⟩
/-- What lies there while the parts are held against the head's cuts. -/
structure JL (w W : World) (h : TH) (a : Option Addr) (n c : Nat) (hs : List TH) (ts : List Tr) : Prop where
  d : JX w W h
  o : OwnT W w.heap.size 25 (.slice a n c) hs
  hh : Heads W hs ts
section
variable {w W W' : World} {h : TH} {a : Option Addr} {n c : Nat} {hs : List TH} {ts : List Tr}
theorem JL.below (x : JL w W h a n c hs ts) (hb : Below W.heap.size W W') : JL w W' h a n c hs ts := ⟨x.d.below hb, x.o.keep hb, x.hh.lower hb⟩
theorem JL.dig (x : JL w W h a n c hs ts) (i : Nat) (h1 : i < hs.length) (h2 : i < ts.length) : InBytes W (hs[i]).da (hs[i]).dn (hs[i]).dc (ts[i]).dig := by
  obtain ⟨H, hp⟩ := (x.hh.2 i h1 h2).parts
  exact hp.dig
end
theorem partX_not6 {k : Nat} (h1 : 1 ≤ k) (h2 : k ≤ 32) (p : Tr) : partX k p ≠ 6 := by
  unfold partX toldD
  rw [if_pos (show (1 : Int) ≤ k ∧ (k : Int) ≤ 32 by omega)]
  unfold checkT
  repeat' split
  all_goals omega
theorem bad_step {x : Int} {t : Tr} {i : Nat} {ps : List Tr} (hi : i < ps.length) : badX x t i (ps.drop i) = if fitsX x t i ps[i] = 0 then badX x t (i + 1) (ps.drop (i + 1)) else some (i, fitsX x t i ps[i]) := by
  rw [List.drop_eq_getElem_cons hi, badX]

set_option maxRecDepth 100000 in
set_option maxHeartbeats 8000000 in
theorem cjoin_any (x : Int) (hx1 : -9223372036854775808 ≤ x) (hx2 : x ≤ 9223372036854775807) (t : Tr) (h : TH) (a : Option Addr) (n c : Nat) (ps : List Tr) (H : Nat → TH) (w : World) (ht : InTree w h t) (hps : TreesAt w a n c ps H) (hc : countT t ≤ 500) (hc2 : ∀ p ∈ ps, countT p ≤ 500) (hn : ps.length ≤ 500) (hT : TabLies w) : Calls Tryz.prog 7 #[.int .i64 x, h.v, .slice a n c] w (JoinTold w (joinX x t ps)) := by
  unfold TH.v
  have HD := Lib.hid (JX.enter w h)
  have HT := Lib.hid ht
  have HTT := Lib.hid hT
  have HPS := Lib.hid hps
  have hlen := hps.len
  obtain ⟨rr, hrr⟩ : ∃ rr, joinX x t ps = rr := ⟨_, rfl⟩
  rw [hrr]
  have HRR := Lib.hid hrr
  clear ht hT hps hrr hc2
  have HLEN := Lib.hid hlen
  rw [hlen] at hn
  clear hlen
  go_enter Tryz.func7, Tryz.ntmps7
  go_upto_region 1 with fail
  generalize ((w.alloc (.cells #[.int .i64 h.k, .slice h.ka h.kn h.kc, .slice h.va h.vn h.vc, .slice h.da h.dn h.dc, .slice h.ta h.tn h.tc] 25)).alloc (.cells #[.int .i64 0, .slice none 0 0, .slice none 0 0, .slice none 0 0, .slice none 0 0] 25)) = w0 at *
  obtain ⟨x0, x1, x2, x3, x4⟩ := HD.out.box.cells
  by_cases hx : 1 ≤ x ∧ x ≤ 32
  case neg =>
    have HE : Hid (rr = (1, none, tNil)) := Lib.hid (by rw [← HRR.out]; unfold joinX; rw [if_pos hx])
    go_wp2_with (first
    | (go_at_call 17
       (with_reducible refine (chWidth_no x _ hx1 hx2 hx).mono ?_)
       rintro _ w9 ⟨rfl, hw9⟩
       rw [hw9]
       clear hw9)
    | (refine wpList_store_box rfl 25 (.tmp 6) (.tmp 19) rfl (w.heap.size + 1) hZ (hZ) rfl rfl 25 HD.out.res infoTree5 ?_
       intro w9 hbx9 hg9
       have HX9 := Lib.hid hbx9
       have HB9 : Hid (Below w.heap.size w w9) := Lib.hid (HD.out.b.grown hg9 HD.out.b.size (fun j hj => by injection hj; omega))
       clear hbx9 hg9))
    exact bodyPost_ret (v := .tuple #[TH.v hZ, .iface 42 (.int .i64 1)]) (Box.result Tryz.results7 _ HX9.out rfl Tryz.underlying25 infoTree5) rfl ⟨hZ, _, rfl, by rw [HE.out]; exact inTree_nil w9, by rw [HE.out]; rfl, HB9.out⟩
  obtain ⟨k, rfl⟩ : ∃ k : Nat, x = (k : Int) := ⟨x.toNat, by omega⟩
  have hk1 : 1 ≤ k := by omega
  have hk2 : k ≤ 32 := by omega
  have HK12 : Hid (1 ≤ k ∧ k ≤ 32) := Lib.hid ⟨hk1, hk2⟩
  have HX12 : Hid (¬ ¬ (1 ≤ (k : Int) ∧ (k : Int) ≤ 32)) := Lib.hid (by simp only [Classical.not_not]; omega)
  clear hx
  by_cases hck : checkT t = 0
  case neg =>
    have HNC := Lib.hid hck
    have HE : Hid (rr = (checkT t, none, tNil)) := Lib.hid (by rw [← HRR.out]; unfold joinX; rw [if_neg HX12.out, if_pos hck])
    have HCV : Hid (codeV (checkT t) = .iface 42 (.int .i64 (checkT t : Nat))) := Lib.hid (codeV_pos hck)
    clear hck
    go_wp2_with (first
    | (go_at_call 17
       (with_reducible refine (chWidth_ok (k : Int) _ (by omega) (by omega)).mono ?_)
       rintro _ w9 ⟨rfl, hw9⟩
       rw [hw9]
       clear hw9)
    | (go_at_call 18
       refine (check_any t h _ (HT.out.lower HD.out.b)).mono ?_
       rintro _ w1 ⟨rfl, hb1⟩
       rw [codeV_pos HNC.out]
       have HD1 := Lib.hid (HD.out.below hb1)
       clear hb1 x0 x1 x2 x3 x4
       obtain ⟨x0, x1, x2, x3, x4⟩ := HD1.out.box.cells)
    | (refine wpList_store_box rfl 25 (.tmp 6) (.tmp 25) rfl (w.heap.size + 1) hZ (hZ) rfl rfl 25 HD1.out.res infoTree5 ?_
       intro w9 hbx9 hg9
       have HX9 := Lib.hid hbx9
       have HB9 : Hid (Below w.heap.size w w9) := Lib.hid (HD1.out.b.grown hg9 HD1.out.b.size (fun j hj => by injection hj; omega))
       clear hbx9 hg9))
    exact bodyPost_ret (v := .tuple #[TH.v hZ, .iface 42 (.int .i64 (checkT t : Nat))]) (Box.result Tryz.results7 _ HX9.out rfl Tryz.underlying25 infoTree5) rfl ⟨hZ, _, rfl, by rw [HE.out]; exact inTree_nil w9, by rw [HE.out]; exact HCV.out.symm, HB9.out⟩
  have HCV0 : Hid (codeV (checkT t) = .nilIface) := Lib.hid (by rw [hck]; rfl)
  have HCK := Lib.hid hck
  have hfo := (check_zero hck).1
  have HCD : Hid ((cutNT t).map Tr.dig = cutsT t) := Lib.hid (cutN_dig hfo)
  have HDS : Hid ((listT t).any (fun n => n.k == 2) = darkP (toP t)) := Lib.hid (dark_some hfo)
  have HLL : Hid ((listT t).length ≤ 1000) := Lib.hid (by have := list_len t hfo; omega)
  have HPT : Hid ((toP t).tr = t) := Lib.hid (by
    obtain ⟨p, rfl⟩ := PT.of t hfo
    rw [toP_tr])
  have hcn := cutN_len hfo
  have HCT0 : Hid (¬ checkT t ≠ 0) := Lib.hid (by rw [hck]; simp)
  clear hck hfo
  obtain ⟨L, hL⟩ : ∃ L, (cutsT t).length = L := ⟨_, rfl⟩
  have HCL0 := Lib.hid hL
  have HCN : Hid ((cutNT t).length = L) := Lib.hid (hcn.trans hL)
  have HLC : Hid (L ≤ 500) := Lib.hid (by have := cutNT_len t; rw [HCN.out] at this; omega)
  clear hL hcn
  by_cases hln : n = L
  case neg =>
    have HE : Hid (rr = (3, none, tNil)) := Lib.hid (by rw [← HRR.out]; unfold joinX; rw [if_neg HX12.out, if_neg HCT0.out, if_pos (.inl (by rw [HCL0.out, HLEN.out]; omega))])
    have hb : ((n : Int) == (L : Int)) = false := by simp; omega
    go_wp2_with (first
    | (go_at_call 17
       (with_reducible refine (chWidth_ok (k : Int) _ (by omega) (by omega)).mono ?_)
       rintro _ w9 ⟨rfl, hw9⟩
       rw [hw9]
       clear hw9)
    | (go_at_call 18
       refine (check_any t h _ (HT.out.lower HD.out.b)).mono ?_
       rintro _ w1 ⟨rfl, hb1⟩
       rw [HCV0.out]
       have HD1 := Lib.hid (HD.out.below hb1)
       clear hb1 x0 x1 x2 x3 x4
       obtain ⟨x0, x1, x2, x3, x4⟩ := HD1.out.box.cells)
    | (go_at_call 19
       refine (cutsOf_any t h _ (HT.out.lower HD1.out.b) (by omega)).mono ?_
       rintro _ w3 ⟨v3, hs3, rfl, ho3, hh3, hb3⟩
       have HD3 := Lib.hid (HD1.out.below hb3)
       have HH3 := Lib.hid (hh3.lower hb3)
       have HL3 : Hid (hs3.length = L) := Lib.hid (hh3.1.trans HCN.out)
       obtain ⟨a3, c3, hv3⟩ := ho3.sl
       subst hv3
       have HO3 := Lib.hid (ho3.weak HD1.out.b.size)
       rw [HL3.out]
       clear ho3 hh3 hb3 x0 x1 x2 x3 x4
       obtain ⟨x0, x1, x2, x3, x4⟩ := HD3.out.box.cells)
    | (refine wpList_store_box rfl 25 (.tmp 6) (.tmp 39) rfl (w.heap.size + 1) hZ (hZ) rfl rfl 25 HD3.out.res infoTree5 ?_
       intro w9 hbx9 hg9
       have HX9 := Lib.hid hbx9
       have HB9 : Hid (Below w.heap.size w w9) := Lib.hid (HD3.out.b.grown hg9 HD3.out.b.size (fun j hj => by injection hj; omega))
       clear hbx9 hg9))
    exact bodyPost_ret (v := .tuple #[TH.v hZ, .iface 42 (.int .i64 3)]) (Box.result Tryz.results7 _ HX9.out rfl Tryz.underlying25 infoTree5) rfl ⟨hZ, _, rfl, by rw [HE.out]; exact inTree_nil w9, by rw [HE.out]; rfl, HB9.out⟩
  subst hln
  cases hdk : darkP (toP t) with
  | true =>
    have HE : Hid (rr = (3, none, tNil)) := Lib.hid (by rw [← HRR.out]; unfold joinX; rw [if_neg HX12.out, if_neg HCT0.out, if_pos (.inr hdk)])
    rw [hdk] at HDS
    clear hdk
    go_wp2_with (first
    | (go_at_call 17
       (with_reducible refine (chWidth_ok (k : Int) _ (by omega) (by omega)).mono ?_)
       rintro _ w9 ⟨rfl, hw9⟩
       rw [hw9]
       clear hw9)
    | (go_at_call 18
       refine (check_any t h _ (HT.out.lower HD.out.b)).mono ?_
       rintro _ w1 ⟨rfl, hb1⟩
       rw [HCV0.out]
       have HD1 := Lib.hid (HD.out.below hb1)
       clear hb1 x0 x1 x2 x3 x4
       obtain ⟨x0, x1, x2, x3, x4⟩ := HD1.out.box.cells)
    | (go_at_call 19
       refine (cutsOf_any t h _ (HT.out.lower HD1.out.b) (by omega)).mono ?_
       rintro _ w3 ⟨v3, hs3, rfl, ho3, hh3, hb3⟩
       have HD3 := Lib.hid (HD1.out.below hb3)
       have HH3 := Lib.hid (hh3.lower hb3)
       have HL3 : Hid (hs3.length = n) := Lib.hid (hh3.1.trans HCN.out)
       obtain ⟨a3, c3, hv3⟩ := ho3.sl
       subst hv3
       have HO3 := Lib.hid (ho3.weak HD1.out.b.size)
       rw [HL3.out]
       clear ho3 hh3 hb3 x0 x1 x2 x3 x4
       obtain ⟨x0, x1, x2, x3, x4⟩ := HD3.out.box.cells)
    | (go_at_call 21
       refine (list_any t h _ (HT.out.lower HD3.out.b) (by omega)).mono ?_
       rintro _ w4 ⟨v4, hs4, rfl, ho4, hh4, -, hb4⟩
       have HD4 := Lib.hid (HD3.out.below hb4)
       have HH4 := Lib.hid ((hh4 HCK.out).lower hb4)
       have HHC4 := Lib.hid (HH3.out.lower hb4)
       have HOC4 := Lib.hid (HO3.out.keep hb4)
       obtain ⟨a4, c4, hv4⟩ := ho4.sl
       subst hv4
       have HO4 := Lib.hid ho4
       clear ho4 hh4 hb4 x0 x1 x2 x3 x4)
    | (go_at_call 20
       refine (hasDark_any (listT t) hs4 _ a4 _ c4 _ HO4.out HH4.out rfl (by rw [HH4.out.1]; exact HLL.out)).mono ?_
       rintro _ w5 ⟨rfl, hb5⟩
       rw [HDS.out]
       have HD5 := Lib.hid (HD4.out.below hb5)
       have HHC5 := Lib.hid (HHC4.out.lower hb5)
       have HOC5 := Lib.hid (HOC4.out.keep hb5)
       clear hb5)
    | (refine wpList_store_box rfl 25 (.tmp 6) (.tmp 39) rfl (w.heap.size + 1) hZ (hZ) rfl rfl 25 HD5.out.res infoTree5 ?_
       intro w9 hbx9 hg9
       have HX9 := Lib.hid hbx9
       have HB9 : Hid (Below w.heap.size w w9) := Lib.hid (HD5.out.b.grown hg9 HD5.out.b.size (fun j hj => by injection hj; omega))
       clear hbx9 hg9))
    exact bodyPost_ret (v := .tuple #[TH.v hZ, .iface 42 (.int .i64 3)]) (Box.result Tryz.results7 _ HX9.out rfl Tryz.underlying25 infoTree5) rfl ⟨hZ, _, rfl, by rw [HE.out]; exact inTree_nil w9, by rw [HE.out]; rfl, HB9.out⟩
  | false =>
  have HE0 : Hid (rr = match badX k t 0 ps with
    | some (i, m) => (m, if m = 6 then some i else none, tNil)
    | none => if checkT (fillA (toP t) (ps.map toA)).1.tr ≠ 0 then (checkT (fillA (toP t) (ps.map toA)).1.tr, none, tNil) else (0, none, (fillA (toP t) (ps.map toA)).1.tr)) := Lib.hid (by
    rw [← HRR.out]
    unfold joinX
    rw [if_neg HX12.out, if_neg HCT0.out, if_neg (by rw [hdk, HCL0.out, HLEN.out]; simp)]
    rfl)
  have HDF := Lib.hid hdk
  rw [hdk] at HDS
  clear hdk
  go_upto_region 10 with (first
  | (go_at_call 17
     (with_reducible refine (chWidth_ok (k : Int) _ (by omega) (by omega)).mono ?_)
     rintro _ w9 ⟨rfl, hw9⟩
     rw [hw9]
     clear hw9)
  | (go_at_call 18
     refine (check_any t h _ (HT.out.lower HD.out.b)).mono ?_
     rintro _ w1 ⟨rfl, hb1⟩
     rw [HCV0.out]
     have HD1 := Lib.hid (HD.out.below hb1)
     clear hb1 x0 x1 x2 x3 x4
     obtain ⟨x0, x1, x2, x3, x4⟩ := HD1.out.box.cells)
  | (go_at_call 19
     refine (cutsOf_any t h _ (HT.out.lower HD1.out.b) (by omega)).mono ?_
     rintro _ w3 ⟨v3, hs3, rfl, ho3, hh3, hb3⟩
     have HD3 := Lib.hid (HD1.out.below hb3)
     have HH3 := Lib.hid (hh3.lower hb3)
     have HL3 : Hid (hs3.length = n) := Lib.hid (hh3.1.trans HCN.out)
     obtain ⟨a3, c3, hv3⟩ := ho3.sl
     subst hv3
     have HO3 := Lib.hid (ho3.weak HD1.out.b.size)
     rw [HL3.out]
     clear ho3 hh3 hb3 x0 x1 x2 x3 x4
     obtain ⟨x0, x1, x2, x3, x4⟩ := HD3.out.box.cells)
  | (go_at_call 21
     refine (list_any t h _ (HT.out.lower HD3.out.b) (by omega)).mono ?_
     rintro _ w4 ⟨v4, hs4, rfl, ho4, hh4, -, hb4⟩
     have HD4 := Lib.hid (HD3.out.below hb4)
     have HH4 := Lib.hid ((hh4 HCK.out).lower hb4)
     have HHC4 := Lib.hid (HH3.out.lower hb4)
     have HOC4 := Lib.hid (HO3.out.keep hb4)
     obtain ⟨a4, c4, hv4⟩ := ho4.sl
     subst hv4
     have HO4 := Lib.hid ho4
     clear ho4 hh4 hb4 x0 x1 x2 x3 x4)
  | (go_at_call 20
     refine (hasDark_any (listT t) hs4 _ a4 _ c4 _ HO4.out HH4.out rfl (by rw [HH4.out.1]; exact HLL.out)).mono ?_
     rintro _ w5 ⟨rfl, hb5⟩
     rw [HDS.out]
     have HD5 := Lib.hid (HD4.out.below hb5)
     have HHC5 := Lib.hid (HHC4.out.lower hb5)
     have HOC5 := Lib.hid (HOC4.out.keep hb5)
     clear hb5))
  have HJ0 : Hid (JL w w5 h a3 n c3 hs3 (cutNT t)) := Lib.hid ⟨HD5.out, by have q := HOC5.out; rw [HL3.out] at q; exact q, HHC5.out⟩
  clear HD HD1 HD3 HD4 HD5 HO3 HO4 HH3 HH4 HHC4 HOC4 HHC5 HOC5
  go_loopw [43] (fun s43 wx => ∃ i : Nat, i ≤ n ∧ s43 = .int .i64 i ∧ JL w wx h a3 n c3 hs3 (cutNT t) ∧ badX k t 0 ps = badX k t i (ps.drop i)) (fun s43 _ => n - (intOf s43).toNat)
  case atStart => exact ⟨0, by omega, rfl, HJ0.out, by rw [List.drop_zero]⟩
  case round =>
    clear HJ0
    obtain ⟨i, hi, rfl, hj, hbd⟩ := hrel
    have HJ := Lib.hid hj
    have HBD := Lib.hid hbd
    clear hj hbd
    by_cases hlt : i < n
    · have q1 : (i : Int) < (n : Int) := by omega
      have hip : i < ps.length := by rw [HLEN.out]; exact hlt
      have hih : i < hs3.length := by rw [HL3.out]; exact hlt
      have hic : i < (cutNT t).length := by rw [HCN.out]; exact hlt
      have HBS : Hid (badX k t 0 ps = if fitsX k t i ps[i] = 0 then badX k t (i + 1) (ps.drop (i + 1)) else some (i, fitsX k t i ps[i])) := Lib.hid (HBD.out.trans (bad_step hip))
      have HPI : Hid (InTree w (H i) ps[i]) := Lib.hid (HPS.out.all i hip)
      have HDG : Hid ((cutNT t)[i].dig = (cutsT t).getD i []) := Lib.hid (by
        rw [List.getD, ← HCD.out, List.getElem?_map, List.getElem?_eq_getElem hic]
        rfl)
      obtain ⟨g3, hga3, -, -, -, -, -⟩ := HJ.out.o.at HL3.out i hih
      subst hga3
      obtain ⟨ga, offa, hae, hcell⟩ := HPS.out.place (by omega)
      obtain ⟨x0, x1, x2, x3, x4⟩ := hcell wr HJ.out.d.b i hlt
      have HAE := Lib.hid hae
      rw [hae]
      clear hcell hae
      go_upto_region 12 with fail
      have b2 : Below wr.heap.size wr (wr.alloc (.cells #[.int .i64 (H i).k, .slice (H i).ka (H i).kn (H i).kc, .slice (H i).va (H i).vn (H i).vc, .slice (H i).da (H i).dn (H i).dc, .slice (H i).ta (H i).tn (H i).tc] 25)) := (Below.refl _ _).alloc (Nat.le_refl _) _
      have bx := Box.new wr 25 (H i)
      generalize (wr.alloc (.cells #[.int .i64 (H i).k, .slice (H i).ka (H i).kn (H i).kc, .slice (H i).va (H i).vn (H i).vc, .slice (H i).da (H i).dn (H i).dc, .slice (H i).ta (H i).tn (H i).tc] 25)) = w2 at *
      have HJ2 := Lib.hid (HJ.out.below b2)
      obtain ⟨y0, y1, y2, y3, y4⟩ := bx.cells
      clear b2 bx x0 x1 x2 x3 x4
      by_cases hp : partX k ps[i] = 0
      case neg =>
        have HNP := Lib.hid hp
        have HE : Hid (rr = (partX k ps[i], none, tNil)) := Lib.hid (by
          rw [HE0.out, HBS.out, fitsX_no HK12.out.1 HK12.out.2 HCK.out hp, if_neg hp]
          show (partX k ps[i], (if partX k ps[i] = 6 then some i else none), tNil) = _
          rw [if_neg (partX_not6 HK12.out.1 HK12.out.2 _)])
        have HCV : Hid (codeV (partX k ps[i]) = .iface 42 (.int .i64 (partX k ps[i] : Nat))) := Lib.hid (codeV_pos hp)
        clear hp
        go_wp2_with (first
        | (go_at_call 23
           refine (part_no k HK12.out.1 HK12.out.2 ps[i] (H i) _ (HPI.out.lower HJ2.out.d.b) (HTT.out.below HJ2.out.d.b (Nat.le_refl _)) HNP.out).mono ?_
           rintro _ w6 ⟨a6, c6, rfl, hb6⟩
           have HJ6 := Lib.hid (HJ2.out.below hb6)
           have HD6 := Lib.hid (HJ2.out.d.below hb6)
           clear hb6 y0 y1 y2 y3 y4)
        | (refine wpList_store_box rfl 25 (.tmp 6) (.tmp 56) rfl (w.heap.size + 1) hZ (hZ) rfl rfl 25 HD6.out.res infoTree5 ?_
           intro w9 hbx9 hg9
           have HX9 := Lib.hid hbx9
           have HB9 : Hid (Below w.heap.size w w9) := Lib.hid (HD6.out.b.grown hg9 HD6.out.b.size (fun j hj => by injection hj; omega))
           clear hbx9 hg9))
        exact bodyPost_ret (v := .tuple #[TH.v hZ, .iface 42 (.int .i64 (partX k ps[i] : Nat))]) (Box.result Tryz.results7 _ HX9.out rfl Tryz.underlying25 infoTree5) rfl ⟨hZ, _, rfl, by rw [HE.out]; exact inTree_nil w9, by rw [HE.out]; exact HCV.out.symm, HB9.out⟩
      obtain ⟨zs, hzs, -, -, -⟩ := partX_dig hp
      have HYP := Lib.hid hp
      have HZS := Lib.hid hzs
      have hfx := fitsX_yes (i := (i : Int)) HK12.out.1 HK12.out.2 HCK.out hp hzs
      rw [if_neg (by rw [HCL0.out]; omega)] at hfx
      have HFX : Hid (fitsX k t i ps[i] = if (cutsT t).getD i [] = zs then 0 else 6) := Lib.hid hfx
      clear hp hzs hfx
      by_cases he : (cutsT t).getD i [] = zs
      · have HEQ : Hid (((cutsT t).getD i [] == zs) = true) := Lib.hid (by simpa using he)
        have HNX : Hid (badX k t 0 ps = badX k t (i + 1) (ps.drop (i + 1))) := Lib.hid (by rw [HBS.out, HFX.out, if_pos he, if_pos rfl])
        clear he
        go_wp2_with (first
        | (go_at_call 23
           refine (part_yes k HK12.out.1 HK12.out.2 ps[i] (H i) _ (HPI.out.lower HJ2.out.d.b) (HTT.out.below HJ2.out.d.b (Nat.le_refl _)) HYP.out HZS.out).mono ?_
           rintro _ w6 ⟨a6, c6, rfl, hi6, hb6⟩
           have HJ6 := Lib.hid (HJ2.out.below hb6)
           have HD6 := Lib.hid (HJ2.out.d.below hb6)
           have HI6 := Lib.hid hi6
           have hq6 := (HJ2.out.dig i hih hic).below hb6
           rw [HDG.out] at hq6
           have HQ6 := Lib.hid hq6
           obtain ⟨_, e3, -, -, -, z3, -⟩ := HJ6.out.o.at HL3.out i hih
           injection e3 with e3
           injection e3 with e3
           subst e3
           clear hi6 hb6 hq6 y0 y1 y2 y3 y4)
        | (go_at_call 24
           refine (equal_any _ _ _ _ _ _ _ _ _ HQ6.out HI6.out).mono ?_
           rintro _ w9 ⟨rfl, hw9⟩
           rw [hw9]
           clear hw9
           rw [HEQ.out]))
        exact ⟨⟨i + 1, by omega, by go_num, HJ6.out, HNX.out⟩, by simp [intOf]; omega⟩
      · have HEQ : Hid (((cutsT t).getD i [] == zs) = false) := Lib.hid (by simpa using he)
        have HE : Hid (rr = (6, some i, tNil)) := Lib.hid (by
          rw [HE0.out, HBS.out, HFX.out, if_neg he]
          rfl)
        clear he
        go_upto_region 16 with (first
        | (go_at_call 23
           refine (part_yes k HK12.out.1 HK12.out.2 ps[i] (H i) _ (HPI.out.lower HJ2.out.d.b) (HTT.out.below HJ2.out.d.b (Nat.le_refl _)) HYP.out HZS.out).mono ?_
           rintro _ w6 ⟨a6, c6, rfl, hi6, hb6⟩
           have HJ6 := Lib.hid (HJ2.out.below hb6)
           have HD6 := Lib.hid (HJ2.out.d.below hb6)
           have HI6 := Lib.hid hi6
           have hq6 := (HJ2.out.dig i hih hic).below hb6
           rw [HDG.out] at hq6
           have HQ6 := Lib.hid hq6
           obtain ⟨_, e3, -, -, -, z3, -⟩ := HJ6.out.o.at HL3.out i hih
           injection e3 with e3
           injection e3 with e3
           subst e3
           clear hi6 hb6 hq6 y0 y1 y2 y3 y4)
        | (go_at_call 24
           refine (equal_any _ _ _ _ _ _ _ _ _ HQ6.out HI6.out).mono ?_
           rintro _ w9 ⟨rfl, hw9⟩
           rw [hw9]
           clear hw9
           rw [HEQ.out]))
        have bs : Below w6.heap.size w6 (w6.alloc (.cells #[.int .i64 (i : Int), .iface 42 (.int .i64 6)] 63)) := (Below.refl _ _).alloc (Nat.le_refl _) _
        have HSP : Hid ((w6.alloc (.cells #[.int .i64 (i : Int), .iface 42 (.int .i64 6)] 63)).heap[w6.heap.size]? = some (.cells #[.int .i64 (i : Int), .iface 42 (.int .i64 6)] 63 (0, 0))) := Lib.hid (heap_alloc_new w6 _)
        have HDS6 := Lib.hid (HD6.out.below bs)
        have HSZ6 : Hid (w.heap.size + 1 < w6.heap.size ∧ w6.heap.size < (w6.alloc (.cells #[.int .i64 (i : Int), .iface 42 (.int .i64 6)] 63)).heap.size) := Lib.hid ⟨HD6.out.res.lt, by simp⟩
        clear bs
        go_wp2_with (first
        | (refine wpList_store_box rfl 25 (.tmp 6) (.tmp 66) rfl (w.heap.size + 1) hZ (hZ) rfl rfl 25 HDS6.out.res infoTree5 ?_
           intro w9 hbx9 hg9
           have HX9 := Lib.hid hbx9
           have HB9 : Hid (Below w.heap.size w w9) := Lib.hid (HDS6.out.b.grown hg9 HDS6.out.b.size (fun j hj => by injection hj; omega))
           have HG9 := Lib.hid hg9
           clear hbx9 hg9))
        exact bodyPost_ret (v := .tuple #[TH.v hZ, .iface 61 (.pointer (some ⟨w6.heap.size, 0, none⟩))]) (Box.result Tryz.results7 _ HX9.out rfl Tryz.underlying25 infoTree5) rfl ⟨hZ, _, rfl, by rw [HE.out]; exact inTree_nil w9, by rw [HE.out]; exact ⟨w6.heap.size, rfl, by have := HSZ6.out.1; omega, (HG9.out.block _ HSZ6.out.2 (fun e => by injection e; have := HSZ6.out.1; omega)).trans HSP.out⟩, HB9.out⟩
    · obtain ⟨hin, q1⟩ : i = n ∧ ¬ (n : Int) < (n : Int) := ⟨by omega, by omega⟩
      subst i
      have hnone : badX k t 0 ps = none := by rw [HBD.out, List.drop_of_length_le (by rw [HLEN.out]; exact Nat.le_refl _)]; rfl
      have HPM : Hid ((ps.map toA).map AT.tr = ps) := Lib.hid (by
        rw [List.map_map]
        conv => rhs; rw [← List.map_id ps]
        refine List.map_congr_left fun p hp => ?_
        obtain ⟨j, hj, rfl⟩ := List.getElem_of_mem hp
        have q := bad_none ps 0 hnone j hj
        obtain ⟨_, -, -, -, -, b, hb, -⟩ := fits_zero q
        show (toA ps[j]).tr = ps[j]
        rw [hb, toA_tr])
      have HCL : Hid ((cutsP (toP t)).length = (ps.map toA).length) := Lib.hid (by
        rw [← cutsT_P, HPT.out, HCL0.out, List.length_map, HLEN.out])
      obtain ⟨cc, hcc⟩ : ∃ cc, (fillA (toP t) (ps.map toA)).1.tr = cc := ⟨_, rfl⟩
      have HE1 : Hid (rr = if checkT cc ≠ 0 then (checkT cc, none, tNil) else (0, none, cc)) := Lib.hid (by rw [HE0.out, hnone, ← hcc])
      have HCC := Lib.hid hcc
      clear hnone hcc
      obtain ⟨x0, x1, x2, x3, x4⟩ := HJ.out.d.box.cells
      go_upto_region 19 with (first
      | (go_at_call 25
         refine (filled_any (toP t) h (ps.map toA) a n c H _ (by rw [HPT.out]; exact HT.out.lower HJ.out.d.b) (by rw [HPM.out]; exact HPS.out.below HJ.out.d.b) (by omega) HDF.out (by rw [HCL.out]; exact Nat.le_refl _)).mono ?_
         rintro _ w7 ⟨h7, rfl, ht7, hb7⟩
         unfold TH.v
         have HD7 := Lib.hid (HJ.out.d.below hb7)
         have HT7 := Lib.hid ht7
         clear ht7 hb7 x0 x1 x2 x3 x4))
      have b8 : Below w7.heap.size w7 (w7.alloc (.cells #[.int .i64 h7.k, .slice h7.ka h7.kn h7.kc, .slice h7.va h7.vn h7.vc, .slice h7.da h7.dn h7.dc, .slice h7.ta h7.tn h7.tc] 25)) := (Below.refl _ _).alloc (Nat.le_refl _) _
      have HL8 := Lib.hid (Box.new w7 25 h7)
      have HD8 := Lib.hid (HD7.out.below b8)
      have HT8 : Hid (InTree (w7.alloc (.cells #[.int .i64 h7.k, .slice h7.ka h7.kn h7.kc, .slice h7.va h7.vn h7.vc, .slice h7.da h7.dn h7.dc, .slice h7.ta h7.tn h7.tc] 25)) h7 cc) := Lib.hid (by rw [← HCC.out]; exact HT7.out.lower b8)
      have HLN8 : Hid (w7.heap.size ≠ w.heap.size + 1) := Lib.hid (by have := HD7.out.res.lt; omega)
      clear b8 HT7 HD7 HJ
      generalize (w7.alloc (.cells #[.int .i64 h7.k, .slice h7.ka h7.kn h7.kc, .slice h7.va h7.vn h7.vc, .slice h7.da h7.dn h7.dc, .slice h7.ta h7.tn h7.tc] 25)) = w8 at *
      generalize w7.heap.size = G at *
      obtain ⟨y0, y1, y2, y3, y4⟩ := HL8.out.cells
      by_cases h8 : checkT cc = 0
      · have HCV8 : Hid (codeV (checkT cc) = .nilIface) := Lib.hid (by rw [h8]; rfl)
        have HE : Hid (rr = (0, none, cc)) := Lib.hid (by rw [HE1.out, if_neg (by rw [h8]; simp)])
        have HFT : Hid (formedT cc = true) := Lib.hid (check_zero h8).1
        clear h8
        go_wp2_with (first
        | (go_at_call 18
           refine (check_any _ h7 _ HT8.out).mono ?_
           rintro _ w1 ⟨rfl, hb1⟩
           rw [HCV8.out]
           have HDE := Lib.hid (HD8.out.below hb1)
           have HTE := Lib.hid (HT8.out.lower hb1)
           have HLE := Lib.hid (HL8.out.below hb1 HL8.out.lt)
           clear hb1 y0 y1 y2 y3 y4
           obtain ⟨y0, y1, y2, y3, y4⟩ := HLE.out.cells)
        | (refine wpList_store_box rfl 25 (.tmp 6) (.tmp 82) rfl (w.heap.size + 1) hZ (h7) rfl rfl 25 HDE.out.res infoTree5 ?_
           intro w9 hbx9 hg9
           have HX9 := Lib.hid hbx9
           have HB9 : Hid (Below w.heap.size w w9) := Lib.hid (HDE.out.b.grown hg9 HDE.out.b.size (fun j hj => by injection hj; omega))
           have HTX := Lib.hid (InTree.outBox HDE.out.res hg9 _ _ HFT.out HTE.out)
           clear hbx9 hg9))
        exact bodyPost_ret (v := .tuple #[TH.v h7, .nilIface]) (Box.result Tryz.results7 _ HX9.out rfl Tryz.underlying25 infoTree5) rfl ⟨h7, _, rfl, by rw [HE.out]; exact HTX.out, by rw [HE.out]; rfl, HB9.out⟩
      · have HN8 := Lib.hid h8
        have HE : Hid (rr = (checkT cc, none, tNil)) := Lib.hid (by rw [HE1.out, if_pos h8])
        have HCV : Hid (codeV (checkT cc) = .iface 42 (.int .i64 (checkT cc : Nat))) := Lib.hid (codeV_pos h8)
        clear h8
        go_wp2_with (first
        | (go_at_call 18
           refine (check_any _ h7 _ HT8.out).mono ?_
           rintro _ w1 ⟨rfl, hb1⟩
           rw [codeV_pos HN8.out]
           have HDE := Lib.hid (HD8.out.below hb1)
           have HTE := Lib.hid (HT8.out.lower hb1)
           have HLE := Lib.hid (HL8.out.below hb1 HL8.out.lt)
           clear hb1 y0 y1 y2 y3 y4
           obtain ⟨y0, y1, y2, y3, y4⟩ := HLE.out.cells)
        | (refine wpList_store_box rfl 25 (.tmp 6) (.tmp 80) rfl (w.heap.size + 1) hZ (hZ) rfl rfl 25 HDE.out.res infoTree5 ?_
           intro w9 hbx9 hg9
           have HX9 := Lib.hid hbx9
           have HB9 : Hid (Below w.heap.size w w9) := Lib.hid (HDE.out.b.grown hg9 HDE.out.b.size (fun j hj => by injection hj; omega))
           clear hbx9 hg9))
        exact bodyPost_ret (v := .tuple #[TH.v hZ, .iface 42 (.int .i64 (checkT cc : Nat))]) (Box.result Tryz.results7 _ HX9.out rfl Tryz.underlying25 infoTree5) rfl ⟨hZ, _, rfl, by rw [HE.out]; exact inTree_nil w9, by rw [HE.out]; exact HCV.out.symm, HB9.out⟩
end Go.Proofs.YtkcmohmfejmfoaaGreatDoor

/- The contracts of the program's Cut, Count, Fits and Join of layer 11. -/
namespace Go.Proofs.YtkcmohmfejmfoaaGreatDoor
open Go.RowKit
set_option linter.unusedVariables false

end Go.Proofs.YtkcmohmfejmfoaaGreatDoor

/- The contract of the document's Depth of a tree. -/
namespace Go.Proofs.YtkcmohmfejmfoaaGreatDoor
open Go.RowKit
set_option linter.unusedVariables false

set_option maxRecDepth 100000 in
set_option maxHeartbeats 4000000 in
theorem refDepth_any : ∀ (t : Tr) (h : TH) (b : Int) (w : World), InTree w h t → formedT t = true → deepT t b = false → 0 ≤ b → b ≤ 64 →
    Calls Tryz.prog 86 #[h.v] w (Says w (.int .i64 (depthT t))) := by
  intro t
  induction t using Tr.ind with
  | h t ih =>
  intro h b w ht hf hd hb0 hb1
  obtain ⟨hpb, hfk⟩ := formed_kids hf
  unfold TH.v
  obtain ⟨H, hp⟩ := ht.parts
  have hkl := hp.key.len
  have hvl := hp.val.len
  have hdl := hp.dig.len
  have htl := hp.len
  have HK := Lib.hid hp.hk
  have htm := Nat.le_trans hp.sl.le hp.sl.max
  have htc := hp.sl.le
  simp only [maxLen] at htm
  have HP := Lib.hid hp
  have IH := Lib.hid ih
  clear hp ht ih
  have hbox := Box.new w 25 h
  have HX := Lib.hid hbox
  obtain ⟨x0, x1, x2, x3, x4⟩ := hbox.cells
  clear hbox
  have hw1 : Below w.heap.size w (w.alloc (.cells #[.int .i64 h.k, .slice h.ka h.kn h.kc, .slice h.va h.vn h.vc, .slice h.da h.dn h.dc, .slice h.ta h.tn h.tc] 25)) := (Below.refl _ _).alloc (Nat.le_refl _) _
  have HB := Lib.hid hw1
  clear hw1
  rcases part_kids hpb with ⟨h0, _⟩ | ⟨h2, _⟩
  · have htn : ((h.tn : Int) == 0) = true := by simp; omega
    go_enter Tryz.func86, Tryz.ntmps86
    go_wp2_with fail
    go_ret
    have e : depthT t = 0 := by rw [depthT_eq, if_pos h0]
    exact ⟨by rw [e]; rfl, HB.out⟩
  · obtain ⟨hbn, hdk⟩ := deep_kids hd (by omega)
    have htn : ((h.tn : Int) == 0) = false := by simp; omega
    have l0 : 0 < t.kids.length := by omega
    have l1 : 1 < t.kids.length := by omega
    have e := depth_two h2
    have b0 := depth_le _ (b - 1) (hfk 0 l0) (hdk 0 l0) (by omega)
    have b1 := depth_le _ (b - 1) (hfk 1 l1) (hdk 1 l1) (by omega)
    have HE := Lib.hid (And.intro e (And.intro hfk hdk))
    clear e hfk hdk hf hd
    go_enter Tryz.func86, Tryz.ntmps86
    go_upto_region 3 with fail
    generalize w.alloc (.cells #[.int .i64 h.k, .slice h.ka h.kn h.kc, .slice h.va h.vn h.vc, .slice h.da h.dn h.dc, .slice h.ta h.tn h.tc] 25) = w0 at *
    obtain ⟨g, off, hta, hg, hcs⟩ := (HP.out.below HB.out).place (by omega)
    have ht1 : (1 : Int) < (h.tn : Int) := by omega
    have ht0 : 0 < h.tn := by omega
    rw [hta] at x4
    obtain ⟨k0, k1, k2, k3, k4⟩ := hcs 0 (by omega)
    simp only [Nat.zero_mul, Nat.add_zero] at k0 k1 k2 k3 k4
    clear hcs
    go_upto_region 4 with (first
        | (go_at_call 86
           refine (IH.out _ (List.getElem_mem l0) (H 0) (b - 1) _ ((HP.out.below HB.out).kids 0 l0) (HE.out.2.1 0 l0) (HE.out.2.2 0 l0) (by omega) (by omega)).mono ?_
           rintro _ w1 ⟨rfl, hb1⟩
           have HB1 : Hid (Below w.heap.size w w1) := Lib.hid (HB.out.trans (hb1.mono HB.out.size))
           have hx1 := HX.out.below hb1 HX.out.lt
           have y4 := hx1.cells.2.2.2.2
           clear hb1 hx1))
    clear x0 x1 x2 x3 x4 k0 k1 k2 k3 k4
    obtain ⟨g', off', hta', hg', hcs'⟩ := (HP.out.below HB1.out).place (by omega)
    rw [hta'] at y4
    obtain ⟨k0, k1, k2, k3, k4⟩ := hcs' 1 (by omega)
    simp only [Nat.one_mul] at k0 k1 k2 k3 k4
    clear hcs' hta hta'
    go_upto_region 5 with (first
        | (go_at_call 86
           refine (IH.out _ (List.getElem_mem l1) (H 1) (b - 1) _ ((HP.out.below HB1.out).kids 1 l1) (HE.out.2.1 1 l1) (HE.out.2.2 1 l1) (by omega) (by omega)).mono ?_
           rintro _ w2 ⟨rfl, hb2⟩
           have HB2 : Hid (Below w.heap.size w w2) := Lib.hid (HB1.out.trans (hb2.mono HB1.out.size))
           clear hb2))
    have he := HE.out.1
    generalize depthT t.kids[0] = d0 at *
    generalize depthT t.kids[1] = d1 at *
    have HE2 := Lib.hid he
    clear he HE
    by_cases hc : (d1 : Int) < (d0 : Int)
    · go_wp2_with fail
      go_ret
      have e : (depthT t : Int) = (d0 : Int) + 1 := by rw [HE2.out]; omega
      exact ⟨by rw [e]; rfl, HB2.out⟩
    · go_wp2_with fail
      go_ret
      have e : (depthT t : Int) = (d1 : Int) + 1 := by rw [HE2.out]; omega
      exact ⟨by rw [e]; rfl, HB2.out⟩
end Go.Proofs.YtkcmohmfejmfoaaGreatDoor

/- The contracts of the document's nodes and turns of AVL trees. -/
namespace Go.Proofs.YtkcmohmfejmfoaaGreatDoor
open Go.RowKit
set_option linter.unusedVariables false

set_option maxRecDepth 100000 in
set_option maxHeartbeats 4000000 in
theorem refNode_any (a b : AT) (hl hr : TH) (ka va : Option Addr) (kn kc vn vc : Nat) (key val : List Int) (w : World) (ha : InTree w hl a.tr) (hb : InTree w hr b.tr) (hk : InBytes w ka kn kc key) (hv : InBytes w va vn vc val) :
    Calls Tryz.prog 58 #[hl.v, .slice ka kn kc, .slice va vn vc, hr.v] w (Tells w (AT.node a key val b)) := by
  unfold TH.v
  have q1 : Below w.heap.size w (w.alloc (.cells #[.int .i64 hl.k, .slice hl.ka hl.kn hl.kc, .slice hl.va hl.vn hl.vc, .slice hl.da hl.dn hl.dc, .slice hl.ta hl.tn hl.tc] 25)) := (Below.refl _ _).alloc (Nat.le_refl _) _
  have s1 : (w.alloc (.cells #[.int .i64 hl.k, .slice hl.ka hl.kn hl.kc, .slice hl.va hl.vn hl.vc, .slice hl.da hl.dn hl.dc, .slice hl.ta hl.tn hl.tc] 25)).heap.size = w.heap.size + 1 := by simp
  have q2 : Below w.heap.size w ((w.alloc (.cells #[.int .i64 hl.k, .slice hl.ka hl.kn hl.kc, .slice hl.va hl.vn hl.vc, .slice hl.da hl.dn hl.dc, .slice hl.ta hl.tn hl.tc] 25)).alloc (.cells #[.int .i64 hr.k, .slice hr.ka hr.kn hr.kc, .slice hr.va hr.vn hr.vc, .slice hr.da hr.dn hr.dc, .slice hr.ta hr.tn hr.tc] 25)) := q1.alloc (by rw [s1]; omega) _
  have s2 : ((w.alloc (.cells #[.int .i64 hl.k, .slice hl.ka hl.kn hl.kc, .slice hl.va hl.vn hl.vc, .slice hl.da hl.dn hl.dc, .slice hl.ta hl.tn hl.tc] 25)).alloc (.cells #[.int .i64 hr.k, .slice hr.ka hr.kn hr.kc, .slice hr.va hr.vn hr.vc, .slice hr.da hr.dn hr.dc, .slice hr.ta hr.tn hr.tc] 25)).heap.size = w.heap.size + 2 := by simp
  have q3 : Below w.heap.size w (((w.alloc (.cells #[.int .i64 hl.k, .slice hl.ka hl.kn hl.kc, .slice hl.va hl.vn hl.vc, .slice hl.da hl.dn hl.dc, .slice hl.ta hl.tn hl.tc] 25)).alloc (.cells #[.int .i64 hr.k, .slice hr.ka hr.kn hr.kc, .slice hr.va hr.vn hr.vc, .slice hr.da hr.dn hr.dc, .slice hr.ta hr.tn hr.tc] 25)).alloc (.cells #[.int .i64 0, .slice none 0 0, .slice none 0 0, .slice none 0 0, .slice none 0 0] 25)) := q2.alloc (by rw [s2]; omega) _
  have x1 := Box.new w 25 hl
  have x1' := x1.below ((Below.refl _ _).alloc (Nat.le_refl _) (.cells #[.int .i64 hr.k, .slice hr.ka hr.kn hr.kc, .slice hr.va hr.vn hr.vc, .slice hr.da hr.dn hr.dc, .slice hr.ta hr.tn hr.tc] 25)) x1.lt
  have x1'' := x1'.below ((Below.refl _ _).alloc (Nat.le_refl _) (.cells #[.int .i64 0, .slice none 0 0, .slice none 0 0, .slice none 0 0, .slice none 0 0] 25)) x1'.lt
  have x2 := Box.new (w.alloc (.cells #[.int .i64 hl.k, .slice hl.ka hl.kn hl.kc, .slice hl.va hl.vn hl.vc, .slice hl.da hl.dn hl.dc, .slice hl.ta hl.tn hl.tc] 25)) 25 hr
  have x2' := x2.below ((Below.refl _ _).alloc (Nat.le_refl _) (.cells #[.int .i64 0, .slice none 0 0, .slice none 0 0, .slice none 0 0, .slice none 0 0] 25)) x2.lt
  have x3 : Box (((w.alloc (.cells #[.int .i64 hl.k, .slice hl.ka hl.kn hl.kc, .slice hl.va hl.vn hl.vc, .slice hl.da hl.dn hl.dc, .slice hl.ta hl.tn hl.tc] 25)).alloc (.cells #[.int .i64 hr.k, .slice hr.ka hr.kn hr.kc, .slice hr.va hr.vn hr.vc, .slice hr.da hr.dn hr.dc, .slice hr.ta hr.tn hr.tc] 25)).alloc (.cells #[.int .i64 0, .slice none 0 0, .slice none 0 0, .slice none 0 0, .slice none 0 0] 25)) 25 ((w.alloc (.cells #[.int .i64 hl.k, .slice hl.ka hl.kn hl.kc, .slice hl.va hl.vn hl.vc, .slice hl.da hl.dn hl.dc, .slice hl.ta hl.tn hl.tc] 25)).alloc (.cells #[.int .i64 hr.k, .slice hr.ka hr.kn hr.kc, .slice hr.va hr.vn hr.vc, .slice hr.da hr.dn hr.dc, .slice hr.ta hr.tn hr.tc] 25)).heap.size hZ := Box.new ((w.alloc (.cells #[.int .i64 hl.k, .slice hl.ka hl.kn hl.kc, .slice hl.va hl.vn hl.vc, .slice hl.da hl.dn hl.dc, .slice hl.ta hl.tn hl.tc] 25)).alloc (.cells #[.int .i64 hr.k, .slice hr.ka hr.kn hr.kc, .slice hr.va hr.vn hr.vc, .slice hr.da hr.dn hr.dc, .slice hr.ta hr.tn hr.tc] 25)) 25 hZ
  rw [s1] at x2'
  rw [s2] at x3
  clear q1 s1 q2 s2 x1 x1' x2
  go_enter Tryz.func58, Tryz.ntmps58
  go_upto_region 1 with fail
  generalize (((w.alloc (.cells #[.int .i64 hl.k, .slice hl.ka hl.kn hl.kc, .slice hl.va hl.vn hl.vc, .slice hl.da hl.dn hl.dc, .slice hl.ta hl.tn hl.tc] 25)).alloc (.cells #[.int .i64 hr.k, .slice hr.ka hr.kn hr.kc, .slice hr.va hr.vn hr.vc, .slice hr.da hr.dn hr.dc, .slice hr.ta hr.tn hr.tc] 25)).alloc (.cells #[.int .i64 0, .slice none 0 0, .slice none 0 0, .slice none 0 0, .slice none 0 0] 25)) = w0 at *
  obtain ⟨l0, l1, l2, l3, l4⟩ := x1''.cells
  obtain ⟨r0, r1, r2, r3, r4⟩ := x2'.cells
  have hb1 : Below w0.heap.size w0 (w0.alloc (.cells #[.int .i64 hl.k, .slice hl.ka hl.kn hl.kc, .slice hl.va hl.vn hl.vc, .slice hl.da hl.dn hl.dc, .slice hl.ta hl.tn hl.tc, .int .i64 hr.k, .slice hr.ka hr.kn hr.kc, .slice hr.va hr.vn hr.vc, .slice hr.da hr.dn hr.dc, .slice hr.ta hr.tn hr.tc] 25)) := (Below.refl _ _).alloc (Nat.le_refl _) _
  have HX := Lib.hid (x3.below hb1 x3.lt)
  have HB := Lib.hid (q3.trans (hb1.mono q3.size))
  have HT : Hid (Two5 (w0.alloc (.cells #[.int .i64 hl.k, .slice hl.ka hl.kn hl.kc, .slice hl.va hl.vn hl.vc, .slice hl.da hl.dn hl.dc, .slice hl.ta hl.tn hl.tc, .int .i64 hr.k, .slice hr.ka hr.kn hr.kc, .slice hr.va hr.vn hr.vc, .slice hr.da hr.dn hr.dc, .slice hr.ta hr.tn hr.tc] 25)) 25 w0.heap.size hl hr) := Lib.hid (Two5.new w0 25 hl hr)
  have HI := Lib.hid (And.intro (And.intro ha hb) (And.intro hk hv))
  have hlt : w.heap.size + 2 < w0.heap.size := x3.lt
  clear x1'' x2' x3 q3 hb1 ha hb hk hv
  go_wp2_with (first
    | (refine wpList_store_box rfl 25 (.tmp 8) (.tmp 14) rfl (w.heap.size + 2) hZ ⟨1, ka, kn, kc, va, vn, vc, none, 0, 0, some ⟨w0.heap.size, 0, none⟩, 2, 2⟩ rfl rfl 25 HX.out infoTree5 ?_
       intro w2 hbx2 hg2
       have HX2 := Lib.hid hbx2
       have hb2 : Below w.heap.size w w2 := HB.out.grown hg2 HB.out.size (fun j hj => by injection hj; omega)
       have HT2 : Hid (Two5 w2 25 w0.heap.size hl hr) := Lib.hid ((hg2.block _ HT.out.lt (fun q => by injection q; omega)).trans HT.out)
       have HB2 := Lib.hid hb2
       clear hbx2 hg2 hb2))
  exact bodyPost_ret (v := TH.v ⟨1, ka, kn, kc, va, vn, vc, none, 0, 0, some ⟨w0.heap.size, 0, none⟩, 2, 2⟩) (result_tree Tryz.results58 _ HX2.out rfl Tryz.underlying25 infoTree5) rfl ⟨_, rfl, AT.inNode HT2.out (HI.out.1.1.lower HB2.out) (HI.out.1.2.lower HB2.out) (HI.out.2.1.below HB2.out) (HI.out.2.2.below HB2.out), HB2.out⟩

/-- The depth of a full tree. -/
theorem refDepthA_any (a : AT) (h : TH) (w : World) (ht : InTree w h a.tr) (hl : Lim a.pairs) (hd : a.depth ≤ 64) : Calls Tryz.prog 86 #[h.v] w (Says w (.int .i64 a.depth)) := by
  have := refDepth_any a.tr h 64 w ht ((AT.tr_formed a).2 hl) (by rw [AT.tr_deep a 64 (by omega), decide_eq_false_iff_not]; omega) (by omega) (by omega)
  rw [AT.tr_depth] at this
  exact this
set_option maxRecDepth 100000 in
set_option maxHeartbeats 4000000 in
theorem refTilt_any (a : AT) (key val : List Int) (b : AT) (h : TH) (w : World) (ht : InTree w h (AT.node a key val b).tr) (hlim : Lim (AT.node a key val b).pairs) (hda : a.depth ≤ 64) (hdb : b.depth ≤ 64) :
    Calls Tryz.prog 77 #[h.v] w (Says w (.int .i64 ((a.depth : Int) - (b.depth : Int)))) := by
  unfold TH.v
  obtain ⟨H, hp⟩ := ht.parts
  have ht1 : (1 : Int) < (h.tn : Int) := by have h2 : h.tn = 2 := hp.len.symm; omega
  have ht0 : 0 < h.tn := by omega
  have l0 : 0 < (AT.node a key val b).tr.kids.length := by rw [AT.tr_kids]; simp
  have l1 : 1 < (AT.node a key val b).tr.kids.length := by rw [AT.tr_kids]; simp
  have HP := Lib.hid hp
  have HL := Lib.hid hlim.node
  have hd1 := BW.new w ht
  have HD1 := Lib.hid hd1
  clear hp ht hlim hd1
  go_enter Tryz.func77, Tryz.ntmps77
  go_upto_region 1 with fail
  obtain ⟨g, off, hta, hg, -⟩ := (HP.out.below HD1.out.b).place (by omega)
  have HTA := Lib.hid hta
  rw [hta]
  generalize hw0 : w.alloc (.cells #[.int .i64 h.k, .slice h.ka h.kn h.kc, .slice h.va h.vn h.vc, .slice h.da h.dn h.dc, .slice (some ⟨g, off, none⟩) h.tn h.tc] 25) = w0
  have hw1 : w.alloc (.cells #[.int .i64 h.k, .slice h.ka h.kn h.kc, .slice h.va h.vn h.vc, .slice h.da h.dn h.dc, .slice h.ta h.tn h.tc] 25) = w0 := by rw [hta]; exact hw0
  rw [hw1] at HD1
  clear hta hg hw0 hw1
  refine wp_region_held_drew (S := (fun W => W.cell? ⟨w.heap.size, 4, none⟩ = some (.slice (some ⟨g, off, none⟩) h.tn h.tc) ∧ W.cell? ⟨g, off, none⟩ = some (.int .i64 (H 0).k) ∧ W.cell? ⟨g, off + 1, none⟩ = some (.slice (H 0).ka (H 0).kn (H 0).kc) ∧ W.cell? ⟨g, off + 2, none⟩ = some (.slice (H 0).va (H 0).vn (H 0).vc) ∧ W.cell? ⟨g, off + 3, none⟩ = some (.slice (H 0).da (H 0).dn (H 0).dc) ∧ W.cell? ⟨g, off + 4, none⟩ = some (.slice (H 0).ta (H 0).tn (H 0).tc) ∧ (W.cell? ⟨g, off + 5, none⟩ = some (.int .i64 (H 1).k) ∧ W.cell? ⟨g, off + 5 + 1, none⟩ = some (.slice (H 1).ka (H 1).kn (H 1).kc) ∧ W.cell? ⟨g, off + 5 + 2, none⟩ = some (.slice (H 1).va (H 1).vn (H 1).vc) ∧ W.cell? ⟨g, off + 5 + 3, none⟩ = some (.slice (H 1).da (H 1).dn (H 1).dc) ∧ W.cell? ⟨g, off + 5 + 4, none⟩ = some (.slice (H 1).ta (H 1).tn (H 1).tc)))) (by kernel_rfl) ⟨(HD1.out.drew.box.cells.2.2.2.2).trans (by rw [HTA.out]), ((HP.out.below HD1.out.drew.b).kid0 HTA.out (by omega)).1, ((HP.out.below HD1.out.drew.b).kid0 HTA.out (by omega)).2.1, ((HP.out.below HD1.out.drew.b).kid0 HTA.out (by omega)).2.2.1, ((HP.out.below HD1.out.drew.b).kid0 HTA.out (by omega)).2.2.2.1, ((HP.out.below HD1.out.drew.b).kid0 HTA.out (by omega)).2.2.2.2, (HP.out.below HD1.out.drew.b).kid1 HTA.out (by omega)⟩ (fun hHeld => ?_)
  refine take_w (i := 0) (oi := ?oZ1) (v := ?vZ1) ?hiZ1 (by kernel_rfl) (by kernel_rfl) (by kernel_rfl) ?hQZ1 ?hwZ1 ?hyZ1 (by assumption) ?restZ1
  case hiZ1 => (simp only [List.getElem?_toArray, List.getElem?_cons_zero] <;> rfl)
  case hQZ1 => exact (fun _ _ _ h => h)
  case hwZ1 => rfl
  case hyZ1 => (intro w hSw; (try dsimp only at hSw); go_simp; try with_reducible rfl)
  (try simp only [Act.put, List.setIfInBounds_toArray, List.set_cons_zero, List.set_cons_succ])
  refine take_w (i := 1) (oi := ?oZ2) (v := ?vZ2) ?hiZ2 (by kernel_rfl) (by kernel_rfl) (by kernel_rfl) ?hQZ2 ?hwZ2 ?hyZ2 (by assumption) ?restZ2
  case hiZ2 => (simp only [List.getElem?_toArray, List.getElem?_cons_succ, List.getElem?_cons_zero] <;> rfl)
  case hQZ2 => exact (fun _ _ _ h => h)
  case hwZ2 => rfl
  case hyZ2 => (intro w hSw; (try dsimp only at hSw); go_simp; try with_reducible rfl)
  (try simp only [Act.put, List.setIfInBounds_toArray, List.set_cons_zero, List.set_cons_succ])
  refine take_w (i := 2) (oi := ?oZ3) (v := ?vZ3) ?hiZ3 (by kernel_rfl) (by kernel_rfl) (by kernel_rfl) ?hQZ3 ?hwZ3 ?hyZ3 (by assumption) ?restZ3
  case hiZ3 => (simp only [List.getElem?_toArray, List.getElem?_cons_succ, List.getElem?_cons_zero] <;> rfl)
  case hQZ3 => exact (fun _ _ _ h => h)
  case hwZ3 => rfl
  case hyZ3 => (intro w hSw; (try dsimp only at hSw); go_simp; try with_reducible rfl)
  (try simp only [Act.put, List.setIfInBounds_toArray, List.set_cons_zero, List.set_cons_succ])
  refine take_w (i := 3) (oi := ?oZ4) (v := ?vZ4) ?hiZ4 (by kernel_rfl) (by kernel_rfl) (by kernel_rfl) ?hQZ4 ?hwZ4 ?hyZ4 (by assumption) ?restZ4
  case hiZ4 => (simp only [List.getElem?_toArray, List.getElem?_cons_succ, List.getElem?_cons_zero] <;> rfl)
  case hQZ4 => exact (fun _ _ _ h => h)
  case hwZ4 => rfl
  case hyZ4 => (intro w hSw; (try dsimp only at hSw); go_simp; try with_reducible rfl)
  (try simp only [Act.put, List.setIfInBounds_toArray, List.set_cons_zero, List.set_cons_succ])
  refine take_w (i := 5) (oi := ?oZ5) (v := ?vZ5) ?hiZ5 (by kernel_rfl) (by kernel_rfl) (by kernel_rfl) ?hQZ5 ?hwZ5 ?hyZ5 (by assumption) ?restZ5
  case hiZ5 => (simp only [List.getElem?_toArray, List.getElem?_cons_succ, List.getElem?_cons_zero] <;> rfl)
  case hQZ5 => exact (fun _ _ _ h => h)
  case hwZ5 => rfl
  case hyZ5 => (intro w hSw; (try dsimp only at hSw); go_simp; try with_reducible rfl)
  (try simp only [Act.put, List.setIfInBounds_toArray, List.set_cons_zero, List.set_cons_succ])
  refine take_w (i := 6) (oi := ?oZ6) (v := ?vZ6) ?hiZ6 (by kernel_rfl) (by kernel_rfl) (by kernel_rfl) ?hQZ6 ?hwZ6 ?hyZ6 (by assumption) ?restZ6
  case hiZ6 => (simp only [List.getElem?_toArray, List.getElem?_cons_succ, List.getElem?_cons_zero] <;> rfl)
  case hQZ6 => exact (fun _ _ _ h => h)
  case hwZ6 => rfl
  case hyZ6 => (intro w hSw; (try dsimp only at hSw); go_simp; try with_reducible rfl)
  (try simp only [Act.put, List.setIfInBounds_toArray, List.set_cons_zero, List.set_cons_succ])
  refine take_w (i := 7) (oi := ?oZ7) (v := ?vZ7) ?hiZ7 (by kernel_rfl) (by kernel_rfl) (by kernel_rfl) ?hQZ7 ?hwZ7 ?hyZ7 (by assumption) ?restZ7
  case hiZ7 => (simp only [List.getElem?_toArray, List.getElem?_cons_succ, List.getElem?_cons_zero] <;> rfl)
  case hQZ7 => exact (fun _ _ _ h => h)
  case hwZ7 => rfl
  case hyZ7 => (intro w hSw; (try dsimp only at hSw); go_simp; try with_reducible rfl)
  (try simp only [Act.put, List.setIfInBounds_toArray, List.set_cons_zero, List.set_cons_succ])
  refine take_w (i := 8) (oi := ?oZ8) (v := ?vZ8) ?hiZ8 (by kernel_rfl) (by kernel_rfl) (by kernel_rfl) ?hQZ8 ?hwZ8 ?hyZ8 (by assumption) ?restZ8
  case hiZ8 => (simp only [List.getElem?_toArray, List.getElem?_cons_succ, List.getElem?_cons_zero] <;> rfl)
  case hQZ8 => exact (fun _ _ _ h => h)
  case hwZ8 => rfl
  case hyZ8 => (intro w hSw; (try dsimp only at hSw); go_simp; try with_reducible rfl)
  (try simp only [Act.put, List.setIfInBounds_toArray, List.set_cons_zero, List.set_cons_succ])
  refine wpAnyH_ready (rs := [4]) (by kernel_rfl) (by simp) ?_
  refine AllReadyH.cons (o := ?oZ9) ?hiZ9 (fun K hK => ?stZ9) AllReadyH.nil
  case hiZ9 => (simp only [List.getElem?_toArray, List.getElem?_cons_succ, List.getElem?_cons_zero] <;> rfl)
  go_simp
  go_at_call 86
  refine (refDepthA_any a (H 0) _ ((HP.out.below HD1.out.drew.b).kids 0 l0) HL.out.1 (by omega)).mono ?_
  rintro _ w2 ⟨rfl, hb2⟩
  have HD2 := Lib.hid (HD1.out.drew.below hb2)
  clear hb2
  go_simp
  refine hK.out _ _ ?_ (fun hHeld => ?_)
  · (first | exact ⟨(HD3.out.box.cells.2.2.2.2).trans (by rw [HTA.out]), ((HP.out.below HD3.out.b).kid0 HTA.out (by omega)).1, ((HP.out.below HD3.out.b).kid0 HTA.out (by omega)).2.1, ((HP.out.below HD3.out.b).kid0 HTA.out (by omega)).2.2.1, ((HP.out.below HD3.out.b).kid0 HTA.out (by omega)).2.2.2.1, ((HP.out.below HD3.out.b).kid0 HTA.out (by omega)).2.2.2.2, (HP.out.below HD3.out.b).kid1 HTA.out (by omega)⟩ | exact ⟨(HD2.out.box.cells.2.2.2.2).trans (by rw [HTA.out]), ((HP.out.below HD2.out.b).kid0 HTA.out (by omega)).1, ((HP.out.below HD2.out.b).kid0 HTA.out (by omega)).2.1, ((HP.out.below HD2.out.b).kid0 HTA.out (by omega)).2.2.1, ((HP.out.below HD2.out.b).kid0 HTA.out (by omega)).2.2.2.1, ((HP.out.below HD2.out.b).kid0 HTA.out (by omega)).2.2.2.2, (HP.out.below HD2.out.b).kid1 HTA.out (by omega)⟩ | exact ⟨(HD1.out.drew.box.cells.2.2.2.2).trans (by rw [HTA.out]), ((HP.out.below HD1.out.drew.b).kid0 HTA.out (by omega)).1, ((HP.out.below HD1.out.drew.b).kid0 HTA.out (by omega)).2.1, ((HP.out.below HD1.out.drew.b).kid0 HTA.out (by omega)).2.2.1, ((HP.out.below HD1.out.drew.b).kid0 HTA.out (by omega)).2.2.2.1, ((HP.out.below HD1.out.drew.b).kid0 HTA.out (by omega)).2.2.2.2, (HP.out.below HD1.out.drew.b).kid1 HTA.out (by omega)⟩)
  clear hK K
  (try simp only [Act.put, List.setIfInBounds_toArray, List.set_cons_zero, List.set_cons_succ])
  refine wpAnyH_ready (rs := [9]) (by kernel_rfl) (by simp) ?_
  refine AllReadyH.cons (o := ?oZ10) ?hiZ10 (fun K hK => ?stZ10) AllReadyH.nil
  case hiZ10 => (simp only [List.getElem?_toArray, List.getElem?_cons_succ, List.getElem?_cons_zero] <;> rfl)
  go_simp
  go_at_call 86
  refine (refDepthA_any b (H 1) _ ((HP.out.below HD2.out.b).kids 1 l1) HL.out.2.2.2 (by omega)).mono ?_
  rintro _ w3 ⟨rfl, hb3⟩
  have HD3 := Lib.hid (HD2.out.below hb3)
  clear hb3
  go_simp
  refine hK.out _ _ ?_ (fun hHeld => ?_)
  · (first | exact ⟨(HD3.out.box.cells.2.2.2.2).trans (by rw [HTA.out]), ((HP.out.below HD3.out.b).kid0 HTA.out (by omega)).1, ((HP.out.below HD3.out.b).kid0 HTA.out (by omega)).2.1, ((HP.out.below HD3.out.b).kid0 HTA.out (by omega)).2.2.1, ((HP.out.below HD3.out.b).kid0 HTA.out (by omega)).2.2.2.1, ((HP.out.below HD3.out.b).kid0 HTA.out (by omega)).2.2.2.2, (HP.out.below HD3.out.b).kid1 HTA.out (by omega)⟩ | exact ⟨(HD2.out.box.cells.2.2.2.2).trans (by rw [HTA.out]), ((HP.out.below HD2.out.b).kid0 HTA.out (by omega)).1, ((HP.out.below HD2.out.b).kid0 HTA.out (by omega)).2.1, ((HP.out.below HD2.out.b).kid0 HTA.out (by omega)).2.2.1, ((HP.out.below HD2.out.b).kid0 HTA.out (by omega)).2.2.2.1, ((HP.out.below HD2.out.b).kid0 HTA.out (by omega)).2.2.2.2, (HP.out.below HD2.out.b).kid1 HTA.out (by omega)⟩ | exact ⟨(HD1.out.drew.box.cells.2.2.2.2).trans (by rw [HTA.out]), ((HP.out.below HD1.out.drew.b).kid0 HTA.out (by omega)).1, ((HP.out.below HD1.out.drew.b).kid0 HTA.out (by omega)).2.1, ((HP.out.below HD1.out.drew.b).kid0 HTA.out (by omega)).2.2.1, ((HP.out.below HD1.out.drew.b).kid0 HTA.out (by omega)).2.2.2.1, ((HP.out.below HD1.out.drew.b).kid0 HTA.out (by omega)).2.2.2.2, (HP.out.below HD1.out.drew.b).kid1 HTA.out (by omega)⟩)
  clear hK K
  (try simp only [Act.put, List.setIfInBounds_toArray, List.set_cons_zero, List.set_cons_succ])
  refine take_w (i := 10) (oi := ?oZ11) (v := ?vZ11) ?hiZ11 (by kernel_rfl) (by kernel_rfl) (by kernel_rfl) ?hQZ11 ?hwZ11 ?hyZ11 (by assumption) ?restZ11
  case hiZ11 => (simp only [List.getElem?_toArray, List.getElem?_cons_succ, List.getElem?_cons_zero] <;> rfl)
  case hQZ11 => exact (fun _ _ _ h => h)
  case hwZ11 => rfl
  case hyZ11 => (intro w hSw; (try dsimp only at hSw); go_simp; try with_reducible rfl)
  (try simp only [Act.put, List.setIfInBounds_toArray, List.set_cons_zero, List.set_cons_succ])
  refine take_w (i := 11) (oi := ?oZ12) (v := ?vZ12) ?hiZ12 (by kernel_rfl) (by kernel_rfl) (by kernel_rfl) ?hQZ12 ?hwZ12 ?hyZ12 (by assumption) ?restZ12
  case hiZ12 => (simp only [List.getElem?_toArray, List.getElem?_cons_succ, List.getElem?_cons_zero] <;> rfl)
  case hQZ12 => exact (fun _ _ _ h => h)
  case hwZ12 => rfl
  case hyZ12 => (intro w hSw; (try dsimp only at hSw); go_simp; try with_reducible rfl)
  (try simp only [Act.put, List.setIfInBounds_toArray, List.set_cons_zero, List.set_cons_succ])
  refine wpAnyH_done (by kernel_rfl) ?_ _
  
  go_wp2_with fail
  go_ret
  refine ⟨?_, HD3.out.b⟩
  have e : IntKind.i64.wrap ((a.depth : Int) - (b.depth : Int)) = (a.depth : Int) - (b.depth : Int) := IntWalk.i64_in _ (by omega)
  exact congrArg (fun z => Ending.returned (Value.int .i64 z)) e

set_option maxRecDepth 100000 in
set_option maxHeartbeats 4000000 in
theorem refRight_any (ll : AT) (lk lv : List Int) (lr : AT) (k v : List Int) (r : AT) (h : TH) (w : World) (ht : InTree w h (AT.node (AT.node ll lk lv lr) k v r).tr) :
    Calls Tryz.prog 79 #[h.v] w (Tells w (AT.node ll lk lv (AT.node lr k v r))) := by
  unfold TH.v
  obtain ⟨H, hp⟩ := ht.parts
  have l0 : 0 < (AT.node (AT.node ll lk lv lr) k v r).tr.kids.length := by rw [AT.tr_kids]; simp
  have l1 : 1 < (AT.node (AT.node ll lk lv lr) k v r).tr.kids.length := by rw [AT.tr_kids]; simp
  have m0 : 0 < (AT.node ll lk lv lr).tr.kids.length := by rw [AT.tr_kids]; simp
  have m1 : 1 < (AT.node ll lk lv lr).tr.kids.length := by rw [AT.tr_kids]; simp
  have hkt : InTree w (H 0) (AT.node ll lk lv lr).tr := hp.kids 0 l0
  obtain ⟨HH, hq⟩ := hkt.parts
  have ht1 : (1 : Int) < (h.tn : Int) := by have h2 : h.tn = 2 := hp.len.symm; omega
  have ht0 : 0 < h.tn := by omega
  have hs1 : (1 : Int) < ((H 0).tn : Int) := by have h2 : (H 0).tn = 2 := hq.len.symm; omega
  have hs0 : 0 < (H 0).tn := by omega
  have HP := Lib.hid hp
  have HQ := Lib.hid hq
  obtain ⟨g, off, hta, -, -⟩ := hp.place (by omega)
  obtain ⟨g', off', htk, -, -⟩ := hq.place (by omega)
  have HTA := Lib.hid hta
  have HTK := Lib.hid htk
  obtain ⟨e1, e2, e3, e4⟩ := enter2 w h
  clear hp ht hkt hq hta htk
  go_enter Tryz.func79, Tryz.ntmps79
  go_upto_region 1 with fail
  generalize ((w.alloc (.cells #[.int .i64 h.k, .slice h.ka h.kn h.kc, .slice h.va h.vn h.vc, .slice h.da h.dn h.dc, .slice h.ta h.tn h.tc] 25)).alloc (.cells #[.int .i64 0, .slice none 0 0, .slice none 0 0, .slice none 0 0, .slice none 0 0] 25)) = w0 at *
  have HE := Lib.hid (And.intro e1 (And.intro e2 e3))
  have HE4 := Lib.hid e4
  have x4 := (e1.cells.2.2.2.2).trans (by rw [HTA.out])
  obtain ⟨k0, k1, k2, k3, k4⟩ := (HP.out.below e3).kid0 HTA.out (by omega)
  clear e1 e2 e3 e4
  rw [HTA.out]
  go_upto_region 2 with fail
  clear x4 k0 k1 k2 k3 k4
  have hb1 : Below w0.heap.size w0 (w0.alloc (.cells #[.int .i64 (H 0).k, .slice (H 0).ka (H 0).kn (H 0).kc, .slice (H 0).va (H 0).vn (H 0).vc, .slice (H 0).da (H 0).dn (H 0).dc, .slice (H 0).ta (H 0).tn (H 0).tc] 25)) := (Below.refl _ _).alloc (Nat.le_refl _) _
  have hbx1 := Box.new w0 25 (H 0)
  rw [HE4.out] at hbx1
  have hr1 : RX w (w0.alloc (.cells #[.int .i64 (H 0).k, .slice (H 0).ka (H 0).kn (H 0).kc, .slice (H 0).va (H 0).vn (H 0).vc, .slice (H 0).da (H 0).dn (H 0).dc, .slice (H 0).ta (H 0).tn (H 0).tc] 25)) h (H 0) := ⟨HE.out.1.below hb1 HE.out.1.lt, HE.out.2.1.below hb1 HE.out.2.1.lt, hbx1, HE.out.2.2.trans (hb1.mono HE.out.2.2.size)⟩
  rw [HTK.out, HE4.out]
  rw [HTK.out] at hr1
  generalize hw1 : w0.alloc (.cells #[.int .i64 (H 0).k, .slice (H 0).ka (H 0).kn (H 0).kc, .slice (H 0).va (H 0).vn (H 0).vc, .slice (H 0).da (H 0).dn (H 0).dc, .slice (some ⟨g', off', none⟩) (H 0).tn (H 0).tc] 25) = w1 at *
  have HR1 := Lib.hid hr1
  clear hb1 hbx1 hr1 hw1
  refine wp_region_held_drew (S := (fun W => W.cell? ⟨w.heap.size, 1, none⟩ = some (.slice h.ka h.kn h.kc) ∧ W.cell? ⟨w.heap.size, 2, none⟩ = some (.slice h.va h.vn h.vc) ∧ W.cell? ⟨w.heap.size, 4, none⟩ = some (.slice (some ⟨g, off, none⟩) h.tn h.tc) ∧ W.cell? ⟨w.heap.size + 2, 1, none⟩ = some (.slice (H 0).ka (H 0).kn (H 0).kc) ∧ W.cell? ⟨w.heap.size + 2, 2, none⟩ = some (.slice (H 0).va (H 0).vn (H 0).vc) ∧ W.cell? ⟨w.heap.size + 2, 4, none⟩ = some (.slice (some ⟨g', off', none⟩) (H 0).tn (H 0).tc) ∧ (W.cell? ⟨g, off + 5, none⟩ = some (.int .i64 (H 1).k) ∧ W.cell? ⟨g, off + 5 + 1, none⟩ = some (.slice (H 1).ka (H 1).kn (H 1).kc) ∧ W.cell? ⟨g, off + 5 + 2, none⟩ = some (.slice (H 1).va (H 1).vn (H 1).vc) ∧ W.cell? ⟨g, off + 5 + 3, none⟩ = some (.slice (H 1).da (H 1).dn (H 1).dc) ∧ W.cell? ⟨g, off + 5 + 4, none⟩ = some (.slice (H 1).ta (H 1).tn (H 1).tc)) ∧ (W.cell? ⟨g', off', none⟩ = some (.int .i64 (HH 0).k) ∧ W.cell? ⟨g', off' + 1, none⟩ = some (.slice (HH 0).ka (HH 0).kn (HH 0).kc) ∧ W.cell? ⟨g', off' + 2, none⟩ = some (.slice (HH 0).va (HH 0).vn (HH 0).vc) ∧ W.cell? ⟨g', off' + 3, none⟩ = some (.slice (HH 0).da (HH 0).dn (HH 0).dc) ∧ W.cell? ⟨g', off' + 4, none⟩ = some (.slice (HH 0).ta (HH 0).tn (HH 0).tc)) ∧ (W.cell? ⟨g', off' + 5, none⟩ = some (.int .i64 (HH 1).k) ∧ W.cell? ⟨g', off' + 5 + 1, none⟩ = some (.slice (HH 1).ka (HH 1).kn (HH 1).kc) ∧ W.cell? ⟨g', off' + 5 + 2, none⟩ = some (.slice (HH 1).va (HH 1).vn (HH 1).vc) ∧ W.cell? ⟨g', off' + 5 + 3, none⟩ = some (.slice (HH 1).da (HH 1).dn (HH 1).dc) ∧ W.cell? ⟨g', off' + 5 + 4, none⟩ = some (.slice (HH 1).ta (HH 1).tn (HH 1).tc)))) (by kernel_rfl) ⟨HR1.out.drew.box.cells.2.1, HR1.out.drew.box.cells.2.2.1, (HR1.out.drew.box.cells.2.2.2.2).trans (by rw [HTA.out]), HR1.out.drew.kb.cells.2.1, HR1.out.drew.kb.cells.2.2.1, (HR1.out.drew.kb.cells.2.2.2.2).trans (by rw [HTK.out]), (HP.out.below HR1.out.drew.b).kid1 HTA.out (by omega), (HQ.out.below HR1.out.drew.b).kid0 HTK.out (by omega), (HQ.out.below HR1.out.drew.b).kid1 HTK.out (by omega)⟩ (fun hHeld => ?_)
  refine take_w (i := 0) (oi := ?oZ13) (v := ?vZ13) ?hiZ13 (by kernel_rfl) (by kernel_rfl) (by kernel_rfl) ?hQZ13 ?hwZ13 ?hyZ13 (by assumption) ?restZ13
  case hiZ13 => (simp only [List.getElem?_toArray, List.getElem?_cons_zero] <;> rfl)
  case hQZ13 => exact (fun _ _ _ h => h)
  case hwZ13 => rfl
  case hyZ13 => (intro w hSw; (try dsimp only at hSw); go_simp; try with_reducible rfl)
  (try simp only [Act.put, List.setIfInBounds_toArray, List.set_cons_zero, List.set_cons_succ])
  refine take_w (i := 1) (oi := ?oZ14) (v := ?vZ14) ?hiZ14 (by kernel_rfl) (by kernel_rfl) (by kernel_rfl) ?hQZ14 ?hwZ14 ?hyZ14 (by assumption) ?restZ14
  case hiZ14 => (simp only [List.getElem?_toArray, List.getElem?_cons_succ, List.getElem?_cons_zero] <;> rfl)
  case hQZ14 => exact (fun _ _ _ h => h)
  case hwZ14 => rfl
  case hyZ14 => (intro w hSw; (try dsimp only at hSw); go_simp; try with_reducible rfl)
  (try simp only [Act.put, List.setIfInBounds_toArray, List.set_cons_zero, List.set_cons_succ])
  refine take_w (i := 2) (oi := ?oZ15) (v := ?vZ15) ?hiZ15 (by kernel_rfl) (by kernel_rfl) (by kernel_rfl) ?hQZ15 ?hwZ15 ?hyZ15 (by assumption) ?restZ15
  case hiZ15 => (simp only [List.getElem?_toArray, List.getElem?_cons_succ, List.getElem?_cons_zero] <;> rfl)
  case hQZ15 => exact (fun _ _ _ h => h)
  case hwZ15 => rfl
  case hyZ15 => (intro w hSw; (try dsimp only at hSw); go_simp; try with_reducible rfl)
  (try simp only [Act.put, List.setIfInBounds_toArray, List.set_cons_zero, List.set_cons_succ])
  refine take_w (i := 3) (oi := ?oZ16) (v := ?vZ16) ?hiZ16 (by kernel_rfl) (by kernel_rfl) (by kernel_rfl) ?hQZ16 ?hwZ16 ?hyZ16 (by assumption) ?restZ16
  case hiZ16 => (simp only [List.getElem?_toArray, List.getElem?_cons_succ, List.getElem?_cons_zero] <;> rfl)
  case hQZ16 => exact (fun _ _ _ h => h)
  case hwZ16 => rfl
  case hyZ16 => (intro w hSw; (try dsimp only at hSw); go_simp; try with_reducible rfl)
  (try simp only [Act.put, List.setIfInBounds_toArray, List.set_cons_zero, List.set_cons_succ])
  refine take_w (i := 4) (oi := ?oZ17) (v := ?vZ17) ?hiZ17 (by kernel_rfl) (by kernel_rfl) (by kernel_rfl) ?hQZ17 ?hwZ17 ?hyZ17 (by assumption) ?restZ17
  case hiZ17 => (simp only [List.getElem?_toArray, List.getElem?_cons_succ, List.getElem?_cons_zero] <;> rfl)
  case hQZ17 => exact (fun _ _ _ h => h)
  case hwZ17 => rfl
  case hyZ17 => (intro w hSw; (try dsimp only at hSw); go_simp; try with_reducible rfl)
  (try simp only [Act.put, List.setIfInBounds_toArray, List.set_cons_zero, List.set_cons_succ])
  refine take_w (i := 5) (oi := ?oZ18) (v := ?vZ18) ?hiZ18 (by kernel_rfl) (by kernel_rfl) (by kernel_rfl) ?hQZ18 ?hwZ18 ?hyZ18 (by assumption) ?restZ18
  case hiZ18 => (simp only [List.getElem?_toArray, List.getElem?_cons_succ, List.getElem?_cons_zero] <;> rfl)
  case hQZ18 => exact (fun _ _ _ h => h)
  case hwZ18 => rfl
  case hyZ18 => (intro w hSw; (try dsimp only at hSw); go_simp; try with_reducible rfl)
  (try simp only [Act.put, List.setIfInBounds_toArray, List.set_cons_zero, List.set_cons_succ])
  refine take_w (i := 6) (oi := ?oZ19) (v := ?vZ19) ?hiZ19 (by kernel_rfl) (by kernel_rfl) (by kernel_rfl) ?hQZ19 ?hwZ19 ?hyZ19 (by assumption) ?restZ19
  case hiZ19 => (simp only [List.getElem?_toArray, List.getElem?_cons_succ, List.getElem?_cons_zero] <;> rfl)
  case hQZ19 => exact (fun _ _ _ h => h)
  case hwZ19 => rfl
  case hyZ19 => (intro w hSw; (try dsimp only at hSw); go_simp; try with_reducible rfl)
  (try simp only [Act.put, List.setIfInBounds_toArray, List.set_cons_zero, List.set_cons_succ])
  refine take_w (i := 7) (oi := ?oZ20) (v := ?vZ20) ?hiZ20 (by kernel_rfl) (by kernel_rfl) (by kernel_rfl) ?hQZ20 ?hwZ20 ?hyZ20 (by assumption) ?restZ20
  case hiZ20 => (simp only [List.getElem?_toArray, List.getElem?_cons_succ, List.getElem?_cons_zero] <;> rfl)
  case hQZ20 => exact (fun _ _ _ h => h)
  case hwZ20 => rfl
  case hyZ20 => (intro w hSw; (try dsimp only at hSw); go_simp; try with_reducible rfl)
  (try simp only [Act.put, List.setIfInBounds_toArray, List.set_cons_zero, List.set_cons_succ])
  refine take_w (i := 8) (oi := ?oZ21) (v := ?vZ21) ?hiZ21 (by kernel_rfl) (by kernel_rfl) (by kernel_rfl) ?hQZ21 ?hwZ21 ?hyZ21 (by assumption) ?restZ21
  case hiZ21 => (simp only [List.getElem?_toArray, List.getElem?_cons_succ, List.getElem?_cons_zero] <;> rfl)
  case hQZ21 => exact (fun _ _ _ h => h)
  case hwZ21 => rfl
  case hyZ21 => (intro w hSw; (try dsimp only at hSw); go_simp; try with_reducible rfl)
  (try simp only [Act.put, List.setIfInBounds_toArray, List.set_cons_zero, List.set_cons_succ])
  refine take_w (i := 9) (oi := ?oZ22) (v := ?vZ22) ?hiZ22 (by kernel_rfl) (by kernel_rfl) (by kernel_rfl) ?hQZ22 ?hwZ22 ?hyZ22 (by assumption) ?restZ22
  case hiZ22 => (simp only [List.getElem?_toArray, List.getElem?_cons_succ, List.getElem?_cons_zero] <;> rfl)
  case hQZ22 => exact (fun _ _ _ h => h)
  case hwZ22 => rfl
  case hyZ22 => (intro w hSw; (try dsimp only at hSw); go_simp; try with_reducible rfl)
  (try simp only [Act.put, List.setIfInBounds_toArray, List.set_cons_zero, List.set_cons_succ])
  refine take_w (i := 10) (oi := ?oZ23) (v := ?vZ23) ?hiZ23 (by kernel_rfl) (by kernel_rfl) (by kernel_rfl) ?hQZ23 ?hwZ23 ?hyZ23 (by assumption) ?restZ23
  case hiZ23 => (simp only [List.getElem?_toArray, List.getElem?_cons_succ, List.getElem?_cons_zero] <;> rfl)
  case hQZ23 => exact (fun _ _ _ h => h)
  case hwZ23 => rfl
  case hyZ23 => (intro w hSw; (try dsimp only at hSw); go_simp; try with_reducible rfl)
  (try simp only [Act.put, List.setIfInBounds_toArray, List.set_cons_zero, List.set_cons_succ])
  refine take_w (i := 11) (oi := ?oZ24) (v := ?vZ24) ?hiZ24 (by kernel_rfl) (by kernel_rfl) (by kernel_rfl) ?hQZ24 ?hwZ24 ?hyZ24 (by assumption) ?restZ24
  case hiZ24 => (simp only [List.getElem?_toArray, List.getElem?_cons_succ, List.getElem?_cons_zero] <;> rfl)
  case hQZ24 => exact (fun _ _ _ h => h)
  case hwZ24 => rfl
  case hyZ24 => (intro w hSw; (try dsimp only at hSw); go_simp; try with_reducible rfl)
  (try simp only [Act.put, List.setIfInBounds_toArray, List.set_cons_zero, List.set_cons_succ])
  refine take_w (i := 12) (oi := ?oZ25) (v := ?vZ25) ?hiZ25 (by kernel_rfl) (by kernel_rfl) (by kernel_rfl) ?hQZ25 ?hwZ25 ?hyZ25 (by assumption) ?restZ25
  case hiZ25 => (simp only [List.getElem?_toArray, List.getElem?_cons_succ, List.getElem?_cons_zero] <;> rfl)
  case hQZ25 => exact (fun _ _ _ h => h)
  case hwZ25 => rfl
  case hyZ25 => (intro w hSw; (try dsimp only at hSw); go_simp; try with_reducible rfl)
  (try simp only [Act.put, List.setIfInBounds_toArray, List.set_cons_zero, List.set_cons_succ])
  refine take_w (i := 13) (oi := ?oZ26) (v := ?vZ26) ?hiZ26 (by kernel_rfl) (by kernel_rfl) (by kernel_rfl) ?hQZ26 ?hwZ26 ?hyZ26 (by assumption) ?restZ26
  case hiZ26 => (simp only [List.getElem?_toArray, List.getElem?_cons_succ, List.getElem?_cons_zero] <;> rfl)
  case hQZ26 => exact (fun _ _ _ h => h)
  case hwZ26 => rfl
  case hyZ26 => (intro w hSw; (try dsimp only at hSw); go_simp; try with_reducible rfl)
  (try simp only [Act.put, List.setIfInBounds_toArray, List.set_cons_zero, List.set_cons_succ])
  refine take_w (i := 14) (oi := ?oZ27) (v := ?vZ27) ?hiZ27 (by kernel_rfl) (by kernel_rfl) (by kernel_rfl) ?hQZ27 ?hwZ27 ?hyZ27 (by assumption) ?restZ27
  case hiZ27 => (simp only [List.getElem?_toArray, List.getElem?_cons_succ, List.getElem?_cons_zero] <;> rfl)
  case hQZ27 => exact (fun _ _ _ h => h)
  case hwZ27 => rfl
  case hyZ27 => (intro w hSw; (try dsimp only at hSw); go_simp; try with_reducible rfl)
  (try simp only [Act.put, List.setIfInBounds_toArray, List.set_cons_zero, List.set_cons_succ])
  refine take_w (i := 15) (oi := ?oZ28) (v := ?vZ28) ?hiZ28 (by kernel_rfl) (by kernel_rfl) (by kernel_rfl) ?hQZ28 ?hwZ28 ?hyZ28 (by assumption) ?restZ28
  case hiZ28 => (simp only [List.getElem?_toArray, List.getElem?_cons_succ, List.getElem?_cons_zero] <;> rfl)
  case hQZ28 => exact (fun _ _ _ h => h)
  case hwZ28 => rfl
  case hyZ28 => (intro w hSw; (try dsimp only at hSw); go_simp; try with_reducible rfl)
  (try simp only [Act.put, List.setIfInBounds_toArray, List.set_cons_zero, List.set_cons_succ])
  refine take_w (i := 16) (oi := ?oZ29) (v := ?vZ29) ?hiZ29 (by kernel_rfl) (by kernel_rfl) (by kernel_rfl) ?hQZ29 ?hwZ29 ?hyZ29 (by assumption) ?restZ29
  case hiZ29 => (simp only [List.getElem?_toArray, List.getElem?_cons_succ, List.getElem?_cons_zero] <;> rfl)
  case hQZ29 => exact (fun _ _ _ h => h)
  case hwZ29 => rfl
  case hyZ29 => (intro w hSw; (try dsimp only at hSw); go_simp; try with_reducible rfl)
  (try simp only [Act.put, List.setIfInBounds_toArray, List.set_cons_zero, List.set_cons_succ])
  refine take_w (i := 17) (oi := ?oZ30) (v := ?vZ30) ?hiZ30 (by kernel_rfl) (by kernel_rfl) (by kernel_rfl) ?hQZ30 ?hwZ30 ?hyZ30 (by assumption) ?restZ30
  case hiZ30 => (simp only [List.getElem?_toArray, List.getElem?_cons_succ, List.getElem?_cons_zero] <;> rfl)
  case hQZ30 => exact (fun _ _ _ h => h)
  case hwZ30 => rfl
  case hyZ30 => (intro w hSw; (try dsimp only at hSw); go_simp; try with_reducible rfl)
  (try simp only [Act.put, List.setIfInBounds_toArray, List.set_cons_zero, List.set_cons_succ])
  refine take_w (i := 18) (oi := ?oZ31) (v := ?vZ31) ?hiZ31 (by kernel_rfl) (by kernel_rfl) (by kernel_rfl) ?hQZ31 ?hwZ31 ?hyZ31 (by assumption) ?restZ31
  case hiZ31 => (simp only [List.getElem?_toArray, List.getElem?_cons_succ, List.getElem?_cons_zero] <;> rfl)
  case hQZ31 => exact (fun _ _ _ h => h)
  case hwZ31 => rfl
  case hyZ31 => (intro w hSw; (try dsimp only at hSw); go_simp; try with_reducible rfl)
  (try simp only [Act.put, List.setIfInBounds_toArray, List.set_cons_zero, List.set_cons_succ])
  refine take_w (i := 19) (oi := ?oZ32) (v := ?vZ32) ?hiZ32 (by kernel_rfl) (by kernel_rfl) (by kernel_rfl) ?hQZ32 ?hwZ32 ?hyZ32 (by assumption) ?restZ32
  case hiZ32 => (simp only [List.getElem?_toArray, List.getElem?_cons_succ, List.getElem?_cons_zero] <;> rfl)
  case hQZ32 => exact (fun _ _ _ h => h)
  case hwZ32 => rfl
  case hyZ32 => (intro w hSw; (try dsimp only at hSw); go_simp; try with_reducible rfl)
  (try simp only [Act.put, List.setIfInBounds_toArray, List.set_cons_zero, List.set_cons_succ])
  refine wpAnyH_ready (rs := [20]) (by kernel_rfl) (by simp) ?_
  refine AllReadyH.cons (o := ?oZ33) ?hiZ33 (fun K hK => ?stZ33) AllReadyH.nil
  case hiZ33 => (simp only [List.getElem?_toArray, List.getElem?_cons_succ, List.getElem?_cons_zero] <;> rfl)
  go_simp
  go_at_call 58
  refine (refNode_any lr r (HH 1) (H 1) h.ka h.va h.kn h.kc h.vn h.vc k v _ ((HQ.out.below HR1.out.drew.b).kids 1 m1) ((HP.out.below HR1.out.drew.b).kids 1 l1) (HP.out.below HR1.out.drew.b).key (HP.out.below HR1.out.drew.b).val).mono ?_
  rintro _ w2 ⟨h2, rfl, hi2, hb2⟩
  unfold TH.v
  have HR2 := Lib.hid (HR1.out.drew.below hb2)
  have HI2 := Lib.hid hi2
  clear hi2 hb2
  go_simp
  refine hK.out _ _ ?_ (fun hHeld => ?_)
  · (first | exact ⟨HRX4.out.1.cells.2.1, HRX4.out.1.cells.2.2.1, (HRX4.out.1.cells.2.2.2.2).trans (by rw [HTA.out]), HRX4.out.2.cells.2.1, HRX4.out.2.cells.2.2.1, (HRX4.out.2.cells.2.2.2.2).trans (by rw [HTK.out]), (HP.out.below HB4.out).kid1 HTA.out (by omega), (HQ.out.below HB4.out).kid0 HTK.out (by omega), (HQ.out.below HB4.out).kid1 HTK.out (by omega)⟩ | exact ⟨HR3.out.box.cells.2.1, HR3.out.box.cells.2.2.1, (HR3.out.box.cells.2.2.2.2).trans (by rw [HTA.out]), HR3.out.kb.cells.2.1, HR3.out.kb.cells.2.2.1, (HR3.out.kb.cells.2.2.2.2).trans (by rw [HTK.out]), (HP.out.below HR3.out.b).kid1 HTA.out (by omega), (HQ.out.below HR3.out.b).kid0 HTK.out (by omega), (HQ.out.below HR3.out.b).kid1 HTK.out (by omega)⟩ | exact ⟨HR2.out.box.cells.2.1, HR2.out.box.cells.2.2.1, (HR2.out.box.cells.2.2.2.2).trans (by rw [HTA.out]), HR2.out.kb.cells.2.1, HR2.out.kb.cells.2.2.1, (HR2.out.kb.cells.2.2.2.2).trans (by rw [HTK.out]), (HP.out.below HR2.out.b).kid1 HTA.out (by omega), (HQ.out.below HR2.out.b).kid0 HTK.out (by omega), (HQ.out.below HR2.out.b).kid1 HTK.out (by omega)⟩ | exact ⟨HR1.out.drew.box.cells.2.1, HR1.out.drew.box.cells.2.2.1, (HR1.out.drew.box.cells.2.2.2.2).trans (by rw [HTA.out]), HR1.out.drew.kb.cells.2.1, HR1.out.drew.kb.cells.2.2.1, (HR1.out.drew.kb.cells.2.2.2.2).trans (by rw [HTK.out]), (HP.out.below HR1.out.drew.b).kid1 HTA.out (by omega), (HQ.out.below HR1.out.drew.b).kid0 HTK.out (by omega), (HQ.out.below HR1.out.drew.b).kid1 HTK.out (by omega)⟩)
  clear hK K
  (try simp only [Act.put, List.setIfInBounds_toArray, List.set_cons_zero, List.set_cons_succ])
  refine wpAnyH_ready (rs := [21]) (by kernel_rfl) (by simp) ?_
  refine AllReadyH.cons (o := ?oZ34) ?hiZ34 (fun K hK => ?stZ34) AllReadyH.nil
  case hiZ34 => (simp only [List.getElem?_toArray, List.getElem?_cons_succ, List.getElem?_cons_zero] <;> rfl)
  go_simp
  go_at_call 58
  refine (refNode_any ll (AT.node lr k v r) (HH 0) h2 (H 0).ka (H 0).va (H 0).kn (H 0).kc (H 0).vn (H 0).vc lk lv _ ((HQ.out.below HR2.out.b).kids 0 m0) HI2.out (HQ.out.below HR2.out.b).key (HQ.out.below HR2.out.b).val).mono ?_
  rintro _ w3 ⟨h3, rfl, hi3, hb3⟩
  unfold TH.v
  have HR3 := Lib.hid (HR2.out.below hb3)
  have HI3 := Lib.hid hi3
  clear hi3 hb3
  go_simp
  refine hK.out _ _ ?_ (fun hHeld => ?_)
  · (first | exact ⟨HRX4.out.1.cells.2.1, HRX4.out.1.cells.2.2.1, (HRX4.out.1.cells.2.2.2.2).trans (by rw [HTA.out]), HRX4.out.2.cells.2.1, HRX4.out.2.cells.2.2.1, (HRX4.out.2.cells.2.2.2.2).trans (by rw [HTK.out]), (HP.out.below HB4.out).kid1 HTA.out (by omega), (HQ.out.below HB4.out).kid0 HTK.out (by omega), (HQ.out.below HB4.out).kid1 HTK.out (by omega)⟩ | exact ⟨HR3.out.box.cells.2.1, HR3.out.box.cells.2.2.1, (HR3.out.box.cells.2.2.2.2).trans (by rw [HTA.out]), HR3.out.kb.cells.2.1, HR3.out.kb.cells.2.2.1, (HR3.out.kb.cells.2.2.2.2).trans (by rw [HTK.out]), (HP.out.below HR3.out.b).kid1 HTA.out (by omega), (HQ.out.below HR3.out.b).kid0 HTK.out (by omega), (HQ.out.below HR3.out.b).kid1 HTK.out (by omega)⟩ | exact ⟨HR2.out.box.cells.2.1, HR2.out.box.cells.2.2.1, (HR2.out.box.cells.2.2.2.2).trans (by rw [HTA.out]), HR2.out.kb.cells.2.1, HR2.out.kb.cells.2.2.1, (HR2.out.kb.cells.2.2.2.2).trans (by rw [HTK.out]), (HP.out.below HR2.out.b).kid1 HTA.out (by omega), (HQ.out.below HR2.out.b).kid0 HTK.out (by omega), (HQ.out.below HR2.out.b).kid1 HTK.out (by omega)⟩ | exact ⟨HR1.out.drew.box.cells.2.1, HR1.out.drew.box.cells.2.2.1, (HR1.out.drew.box.cells.2.2.2.2).trans (by rw [HTA.out]), HR1.out.drew.kb.cells.2.1, HR1.out.drew.kb.cells.2.2.1, (HR1.out.drew.kb.cells.2.2.2.2).trans (by rw [HTK.out]), (HP.out.below HR1.out.drew.b).kid1 HTA.out (by omega), (HQ.out.below HR1.out.drew.b).kid0 HTK.out (by omega), (HQ.out.below HR1.out.drew.b).kid1 HTK.out (by omega)⟩)
  clear hK K
  (try simp only [Act.put, List.setIfInBounds_toArray, List.set_cons_zero, List.set_cons_succ])
  refine wpAnyH_ready (rs := [22]) (by kernel_rfl) (by simp) ?_
  refine AllReadyH.cons (o := ?oZ35) ?hiZ35 (fun K hK => ?stZ35) AllReadyH.nil
  case hiZ35 => (simp only [List.getElem?_toArray, List.getElem?_cons_succ, List.getElem?_cons_zero] <;> rfl)
  refine step_store_box rfl 25 (.tmp 2) (.tmp 29) rfl (w.heap.size + 1) hZ h3 rfl rfl 25 HR3.out.res infoTree5 ?_
  intro w4 hbx4 hg4
  have HX4 := Lib.hid hbx4
  have HI4 := Lib.hid (AT.outBox HR3.out.res hg4 _ _ HI3.out)
  have HB4 : Hid (Below w.heap.size w w4) := Lib.hid (HR3.out.b.grown hg4 HR3.out.b.size (fun j hj => by injection hj; omega))
  have HRX4 : Hid (Box w4 25 w.heap.size h ∧ Box w4 25 (w.heap.size + 2) (H 0)) := Lib.hid ⟨HR3.out.box.grown hg4 (fun q => by injection q; omega), HR3.out.kb.grown hg4 (fun q => by injection q; omega)⟩
  clear hbx4 hg4
  refine hK.out _ _ ?_ (fun hHeld => ?_)
  · (first | exact ⟨HRX4.out.1.cells.2.1, HRX4.out.1.cells.2.2.1, (HRX4.out.1.cells.2.2.2.2).trans (by rw [HTA.out]), HRX4.out.2.cells.2.1, HRX4.out.2.cells.2.2.1, (HRX4.out.2.cells.2.2.2.2).trans (by rw [HTK.out]), (HP.out.below HB4.out).kid1 HTA.out (by omega), (HQ.out.below HB4.out).kid0 HTK.out (by omega), (HQ.out.below HB4.out).kid1 HTK.out (by omega)⟩ | exact ⟨HR3.out.box.cells.2.1, HR3.out.box.cells.2.2.1, (HR3.out.box.cells.2.2.2.2).trans (by rw [HTA.out]), HR3.out.kb.cells.2.1, HR3.out.kb.cells.2.2.1, (HR3.out.kb.cells.2.2.2.2).trans (by rw [HTK.out]), (HP.out.below HR3.out.b).kid1 HTA.out (by omega), (HQ.out.below HR3.out.b).kid0 HTK.out (by omega), (HQ.out.below HR3.out.b).kid1 HTK.out (by omega)⟩ | exact ⟨HR2.out.box.cells.2.1, HR2.out.box.cells.2.2.1, (HR2.out.box.cells.2.2.2.2).trans (by rw [HTA.out]), HR2.out.kb.cells.2.1, HR2.out.kb.cells.2.2.1, (HR2.out.kb.cells.2.2.2.2).trans (by rw [HTK.out]), (HP.out.below HR2.out.b).kid1 HTA.out (by omega), (HQ.out.below HR2.out.b).kid0 HTK.out (by omega), (HQ.out.below HR2.out.b).kid1 HTK.out (by omega)⟩ | exact ⟨HR1.out.drew.box.cells.2.1, HR1.out.drew.box.cells.2.2.1, (HR1.out.drew.box.cells.2.2.2.2).trans (by rw [HTA.out]), HR1.out.drew.kb.cells.2.1, HR1.out.drew.kb.cells.2.2.1, (HR1.out.drew.kb.cells.2.2.2.2).trans (by rw [HTK.out]), (HP.out.below HR1.out.drew.b).kid1 HTA.out (by omega), (HQ.out.below HR1.out.drew.b).kid0 HTK.out (by omega), (HQ.out.below HR1.out.drew.b).kid1 HTK.out (by omega)⟩)
  clear hK K
  (try simp only [Act.put])
  refine wpAnyH_done (by kernel_rfl) ?_ _
  
  go_wp2_with fail
  exact bodyPost_ret (v := h3.v) (result_tree Tryz.results79 _ HX4.out rfl Tryz.underlying25 infoTree5) rfl ⟨_, rfl, HI4.out, HB4.out⟩

set_option maxRecDepth 100000 in
set_option maxHeartbeats 4000000 in
theorem refLeft_any (l : AT) (k v : List Int) (rl : AT) (rk rv : List Int) (rr : AT) (h : TH) (w : World) (ht : InTree w h (AT.node l k v (AT.node rl rk rv rr)).tr) :
    Calls Tryz.prog 78 #[h.v] w (Tells w (AT.node (AT.node l k v rl) rk rv rr)) := by
  unfold TH.v
  obtain ⟨H, hp⟩ := ht.parts
  have l0 : 0 < (AT.node l k v (AT.node rl rk rv rr)).tr.kids.length := by rw [AT.tr_kids]; simp
  have l1 : 1 < (AT.node l k v (AT.node rl rk rv rr)).tr.kids.length := by rw [AT.tr_kids]; simp
  have m0 : 0 < (AT.node rl rk rv rr).tr.kids.length := by rw [AT.tr_kids]; simp
  have m1 : 1 < (AT.node rl rk rv rr).tr.kids.length := by rw [AT.tr_kids]; simp
  have hkt : InTree w (H 1) (AT.node rl rk rv rr).tr := hp.kids 1 l1
  obtain ⟨HH, hq⟩ := hkt.parts
  have ht1 : (1 : Int) < (h.tn : Int) := by have h2 : h.tn = 2 := hp.len.symm; omega
  have ht0 : 0 < h.tn := by omega
  have hs1 : (1 : Int) < ((H 1).tn : Int) := by have h2 : (H 1).tn = 2 := hq.len.symm; omega
  have hs0 : 0 < (H 1).tn := by omega
  have HP := Lib.hid hp
  have HQ := Lib.hid hq
  obtain ⟨g, off, hta, -, -⟩ := hp.place (by omega)
  obtain ⟨g', off', htk, -, -⟩ := hq.place (by omega)
  have HTA := Lib.hid hta
  have HTK := Lib.hid htk
  obtain ⟨e1, e2, e3, e4⟩ := enter2 w h
  clear hp ht hkt hq hta htk
  go_enter Tryz.func78, Tryz.ntmps78
  go_upto_region 1 with fail
  generalize ((w.alloc (.cells #[.int .i64 h.k, .slice h.ka h.kn h.kc, .slice h.va h.vn h.vc, .slice h.da h.dn h.dc, .slice h.ta h.tn h.tc] 25)).alloc (.cells #[.int .i64 0, .slice none 0 0, .slice none 0 0, .slice none 0 0, .slice none 0 0] 25)) = w0 at *
  have HE := Lib.hid (And.intro e1 (And.intro e2 e3))
  have HE4 := Lib.hid e4
  have x4 := (e1.cells.2.2.2.2).trans (by rw [HTA.out])
  obtain ⟨k0, k1, k2, k3, k4⟩ := (HP.out.below e3).kid1 HTA.out (by omega)
  clear e1 e2 e3 e4
  rw [HTA.out]
  go_upto_region 2 with fail
  clear x4 k0 k1 k2 k3 k4
  have hb1 : Below w0.heap.size w0 (w0.alloc (.cells #[.int .i64 (H 1).k, .slice (H 1).ka (H 1).kn (H 1).kc, .slice (H 1).va (H 1).vn (H 1).vc, .slice (H 1).da (H 1).dn (H 1).dc, .slice (H 1).ta (H 1).tn (H 1).tc] 25)) := (Below.refl _ _).alloc (Nat.le_refl _) _
  have hbx1 := Box.new w0 25 (H 1)
  rw [HE4.out] at hbx1
  have hr1 : RX w (w0.alloc (.cells #[.int .i64 (H 1).k, .slice (H 1).ka (H 1).kn (H 1).kc, .slice (H 1).va (H 1).vn (H 1).vc, .slice (H 1).da (H 1).dn (H 1).dc, .slice (H 1).ta (H 1).tn (H 1).tc] 25)) h (H 1) := ⟨HE.out.1.below hb1 HE.out.1.lt, HE.out.2.1.below hb1 HE.out.2.1.lt, hbx1, HE.out.2.2.trans (hb1.mono HE.out.2.2.size)⟩
  rw [HTK.out, HE4.out]
  rw [HTK.out] at hr1
  generalize hw1 : w0.alloc (.cells #[.int .i64 (H 1).k, .slice (H 1).ka (H 1).kn (H 1).kc, .slice (H 1).va (H 1).vn (H 1).vc, .slice (H 1).da (H 1).dn (H 1).dc, .slice (some ⟨g', off', none⟩) (H 1).tn (H 1).tc] 25) = w1 at *
  have HR1 := Lib.hid hr1
  clear hb1 hbx1 hr1 hw1
  refine wp_region_held_drew (S := (fun W => W.cell? ⟨w.heap.size, 1, none⟩ = some (.slice h.ka h.kn h.kc) ∧ W.cell? ⟨w.heap.size, 2, none⟩ = some (.slice h.va h.vn h.vc) ∧ W.cell? ⟨w.heap.size, 4, none⟩ = some (.slice (some ⟨g, off, none⟩) h.tn h.tc) ∧ W.cell? ⟨w.heap.size + 2, 1, none⟩ = some (.slice (H 1).ka (H 1).kn (H 1).kc) ∧ W.cell? ⟨w.heap.size + 2, 2, none⟩ = some (.slice (H 1).va (H 1).vn (H 1).vc) ∧ W.cell? ⟨w.heap.size + 2, 4, none⟩ = some (.slice (some ⟨g', off', none⟩) (H 1).tn (H 1).tc) ∧ (W.cell? ⟨g, off, none⟩ = some (.int .i64 (H 0).k) ∧ W.cell? ⟨g, off + 1, none⟩ = some (.slice (H 0).ka (H 0).kn (H 0).kc) ∧ W.cell? ⟨g, off + 2, none⟩ = some (.slice (H 0).va (H 0).vn (H 0).vc) ∧ W.cell? ⟨g, off + 3, none⟩ = some (.slice (H 0).da (H 0).dn (H 0).dc) ∧ W.cell? ⟨g, off + 4, none⟩ = some (.slice (H 0).ta (H 0).tn (H 0).tc)) ∧ (W.cell? ⟨g', off', none⟩ = some (.int .i64 (HH 0).k) ∧ W.cell? ⟨g', off' + 1, none⟩ = some (.slice (HH 0).ka (HH 0).kn (HH 0).kc) ∧ W.cell? ⟨g', off' + 2, none⟩ = some (.slice (HH 0).va (HH 0).vn (HH 0).vc) ∧ W.cell? ⟨g', off' + 3, none⟩ = some (.slice (HH 0).da (HH 0).dn (HH 0).dc) ∧ W.cell? ⟨g', off' + 4, none⟩ = some (.slice (HH 0).ta (HH 0).tn (HH 0).tc)) ∧ (W.cell? ⟨g', off' + 5, none⟩ = some (.int .i64 (HH 1).k) ∧ W.cell? ⟨g', off' + 5 + 1, none⟩ = some (.slice (HH 1).ka (HH 1).kn (HH 1).kc) ∧ W.cell? ⟨g', off' + 5 + 2, none⟩ = some (.slice (HH 1).va (HH 1).vn (HH 1).vc) ∧ W.cell? ⟨g', off' + 5 + 3, none⟩ = some (.slice (HH 1).da (HH 1).dn (HH 1).dc) ∧ W.cell? ⟨g', off' + 5 + 4, none⟩ = some (.slice (HH 1).ta (HH 1).tn (HH 1).tc)))) (by kernel_rfl) ⟨HR1.out.drew.box.cells.2.1, HR1.out.drew.box.cells.2.2.1, (HR1.out.drew.box.cells.2.2.2.2).trans (by rw [HTA.out]), HR1.out.drew.kb.cells.2.1, HR1.out.drew.kb.cells.2.2.1, (HR1.out.drew.kb.cells.2.2.2.2).trans (by rw [HTK.out]), (HP.out.below HR1.out.drew.b).kid0 HTA.out (by omega), (HQ.out.below HR1.out.drew.b).kid0 HTK.out (by omega), (HQ.out.below HR1.out.drew.b).kid1 HTK.out (by omega)⟩ (fun hHeld => ?_)
  refine take_w (i := 0) (oi := ?oZ36) (v := ?vZ36) ?hiZ36 (by kernel_rfl) (by kernel_rfl) (by kernel_rfl) ?hQZ36 ?hwZ36 ?hyZ36 (by assumption) ?restZ36
  case hiZ36 => (simp only [List.getElem?_toArray, List.getElem?_cons_zero] <;> rfl)
  case hQZ36 => exact (fun _ _ _ h => h)
  case hwZ36 => rfl
  case hyZ36 => (intro w hSw; (try dsimp only at hSw); go_simp; try with_reducible rfl)
  (try simp only [Act.put, List.setIfInBounds_toArray, List.set_cons_zero, List.set_cons_succ])
  refine take_w (i := 1) (oi := ?oZ37) (v := ?vZ37) ?hiZ37 (by kernel_rfl) (by kernel_rfl) (by kernel_rfl) ?hQZ37 ?hwZ37 ?hyZ37 (by assumption) ?restZ37
  case hiZ37 => (simp only [List.getElem?_toArray, List.getElem?_cons_succ, List.getElem?_cons_zero] <;> rfl)
  case hQZ37 => exact (fun _ _ _ h => h)
  case hwZ37 => rfl
  case hyZ37 => (intro w hSw; (try dsimp only at hSw); go_simp; try with_reducible rfl)
  (try simp only [Act.put, List.setIfInBounds_toArray, List.set_cons_zero, List.set_cons_succ])
  refine take_w (i := 2) (oi := ?oZ38) (v := ?vZ38) ?hiZ38 (by kernel_rfl) (by kernel_rfl) (by kernel_rfl) ?hQZ38 ?hwZ38 ?hyZ38 (by assumption) ?restZ38
  case hiZ38 => (simp only [List.getElem?_toArray, List.getElem?_cons_succ, List.getElem?_cons_zero] <;> rfl)
  case hQZ38 => exact (fun _ _ _ h => h)
  case hwZ38 => rfl
  case hyZ38 => (intro w hSw; (try dsimp only at hSw); go_simp; try with_reducible rfl)
  (try simp only [Act.put, List.setIfInBounds_toArray, List.set_cons_zero, List.set_cons_succ])
  refine take_w (i := 3) (oi := ?oZ39) (v := ?vZ39) ?hiZ39 (by kernel_rfl) (by kernel_rfl) (by kernel_rfl) ?hQZ39 ?hwZ39 ?hyZ39 (by assumption) ?restZ39
  case hiZ39 => (simp only [List.getElem?_toArray, List.getElem?_cons_succ, List.getElem?_cons_zero] <;> rfl)
  case hQZ39 => exact (fun _ _ _ h => h)
  case hwZ39 => rfl
  case hyZ39 => (intro w hSw; (try dsimp only at hSw); go_simp; try with_reducible rfl)
  (try simp only [Act.put, List.setIfInBounds_toArray, List.set_cons_zero, List.set_cons_succ])
  refine take_w (i := 4) (oi := ?oZ40) (v := ?vZ40) ?hiZ40 (by kernel_rfl) (by kernel_rfl) (by kernel_rfl) ?hQZ40 ?hwZ40 ?hyZ40 (by assumption) ?restZ40
  case hiZ40 => (simp only [List.getElem?_toArray, List.getElem?_cons_succ, List.getElem?_cons_zero] <;> rfl)
  case hQZ40 => exact (fun _ _ _ h => h)
  case hwZ40 => rfl
  case hyZ40 => (intro w hSw; (try dsimp only at hSw); go_simp; try with_reducible rfl)
  (try simp only [Act.put, List.setIfInBounds_toArray, List.set_cons_zero, List.set_cons_succ])
  refine take_w (i := 5) (oi := ?oZ41) (v := ?vZ41) ?hiZ41 (by kernel_rfl) (by kernel_rfl) (by kernel_rfl) ?hQZ41 ?hwZ41 ?hyZ41 (by assumption) ?restZ41
  case hiZ41 => (simp only [List.getElem?_toArray, List.getElem?_cons_succ, List.getElem?_cons_zero] <;> rfl)
  case hQZ41 => exact (fun _ _ _ h => h)
  case hwZ41 => rfl
  case hyZ41 => (intro w hSw; (try dsimp only at hSw); go_simp; try with_reducible rfl)
  (try simp only [Act.put, List.setIfInBounds_toArray, List.set_cons_zero, List.set_cons_succ])
  refine take_w (i := 6) (oi := ?oZ42) (v := ?vZ42) ?hiZ42 (by kernel_rfl) (by kernel_rfl) (by kernel_rfl) ?hQZ42 ?hwZ42 ?hyZ42 (by assumption) ?restZ42
  case hiZ42 => (simp only [List.getElem?_toArray, List.getElem?_cons_succ, List.getElem?_cons_zero] <;> rfl)
  case hQZ42 => exact (fun _ _ _ h => h)
  case hwZ42 => rfl
  case hyZ42 => (intro w hSw; (try dsimp only at hSw); go_simp; try with_reducible rfl)
  (try simp only [Act.put, List.setIfInBounds_toArray, List.set_cons_zero, List.set_cons_succ])
  refine take_w (i := 7) (oi := ?oZ43) (v := ?vZ43) ?hiZ43 (by kernel_rfl) (by kernel_rfl) (by kernel_rfl) ?hQZ43 ?hwZ43 ?hyZ43 (by assumption) ?restZ43
  case hiZ43 => (simp only [List.getElem?_toArray, List.getElem?_cons_succ, List.getElem?_cons_zero] <;> rfl)
  case hQZ43 => exact (fun _ _ _ h => h)
  case hwZ43 => rfl
  case hyZ43 => (intro w hSw; (try dsimp only at hSw); go_simp; try with_reducible rfl)
  (try simp only [Act.put, List.setIfInBounds_toArray, List.set_cons_zero, List.set_cons_succ])
  refine take_w (i := 8) (oi := ?oZ44) (v := ?vZ44) ?hiZ44 (by kernel_rfl) (by kernel_rfl) (by kernel_rfl) ?hQZ44 ?hwZ44 ?hyZ44 (by assumption) ?restZ44
  case hiZ44 => (simp only [List.getElem?_toArray, List.getElem?_cons_succ, List.getElem?_cons_zero] <;> rfl)
  case hQZ44 => exact (fun _ _ _ h => h)
  case hwZ44 => rfl
  case hyZ44 => (intro w hSw; (try dsimp only at hSw); go_simp; try with_reducible rfl)
  (try simp only [Act.put, List.setIfInBounds_toArray, List.set_cons_zero, List.set_cons_succ])
  refine take_w (i := 9) (oi := ?oZ45) (v := ?vZ45) ?hiZ45 (by kernel_rfl) (by kernel_rfl) (by kernel_rfl) ?hQZ45 ?hwZ45 ?hyZ45 (by assumption) ?restZ45
  case hiZ45 => (simp only [List.getElem?_toArray, List.getElem?_cons_succ, List.getElem?_cons_zero] <;> rfl)
  case hQZ45 => exact (fun _ _ _ h => h)
  case hwZ45 => rfl
  case hyZ45 => (intro w hSw; (try dsimp only at hSw); go_simp; try with_reducible rfl)
  (try simp only [Act.put, List.setIfInBounds_toArray, List.set_cons_zero, List.set_cons_succ])
  refine take_w (i := 10) (oi := ?oZ46) (v := ?vZ46) ?hiZ46 (by kernel_rfl) (by kernel_rfl) (by kernel_rfl) ?hQZ46 ?hwZ46 ?hyZ46 (by assumption) ?restZ46
  case hiZ46 => (simp only [List.getElem?_toArray, List.getElem?_cons_succ, List.getElem?_cons_zero] <;> rfl)
  case hQZ46 => exact (fun _ _ _ h => h)
  case hwZ46 => rfl
  case hyZ46 => (intro w hSw; (try dsimp only at hSw); go_simp; try with_reducible rfl)
  (try simp only [Act.put, List.setIfInBounds_toArray, List.set_cons_zero, List.set_cons_succ])
  refine take_w (i := 11) (oi := ?oZ47) (v := ?vZ47) ?hiZ47 (by kernel_rfl) (by kernel_rfl) (by kernel_rfl) ?hQZ47 ?hwZ47 ?hyZ47 (by assumption) ?restZ47
  case hiZ47 => (simp only [List.getElem?_toArray, List.getElem?_cons_succ, List.getElem?_cons_zero] <;> rfl)
  case hQZ47 => exact (fun _ _ _ h => h)
  case hwZ47 => rfl
  case hyZ47 => (intro w hSw; (try dsimp only at hSw); go_simp; try with_reducible rfl)
  (try simp only [Act.put, List.setIfInBounds_toArray, List.set_cons_zero, List.set_cons_succ])
  refine take_w (i := 13) (oi := ?oZ48) (v := ?vZ48) ?hiZ48 (by kernel_rfl) (by kernel_rfl) (by kernel_rfl) ?hQZ48 ?hwZ48 ?hyZ48 (by assumption) ?restZ48
  case hiZ48 => (simp only [List.getElem?_toArray, List.getElem?_cons_succ, List.getElem?_cons_zero] <;> rfl)
  case hQZ48 => exact (fun _ _ _ h => h)
  case hwZ48 => rfl
  case hyZ48 => (intro w hSw; (try dsimp only at hSw); go_simp; try with_reducible rfl)
  (try simp only [Act.put, List.setIfInBounds_toArray, List.set_cons_zero, List.set_cons_succ])
  refine take_w (i := 14) (oi := ?oZ49) (v := ?vZ49) ?hiZ49 (by kernel_rfl) (by kernel_rfl) (by kernel_rfl) ?hQZ49 ?hwZ49 ?hyZ49 (by assumption) ?restZ49
  case hiZ49 => (simp only [List.getElem?_toArray, List.getElem?_cons_succ, List.getElem?_cons_zero] <;> rfl)
  case hQZ49 => exact (fun _ _ _ h => h)
  case hwZ49 => rfl
  case hyZ49 => (intro w hSw; (try dsimp only at hSw); go_simp; try with_reducible rfl)
  (try simp only [Act.put, List.setIfInBounds_toArray, List.set_cons_zero, List.set_cons_succ])
  refine take_w (i := 15) (oi := ?oZ50) (v := ?vZ50) ?hiZ50 (by kernel_rfl) (by kernel_rfl) (by kernel_rfl) ?hQZ50 ?hwZ50 ?hyZ50 (by assumption) ?restZ50
  case hiZ50 => (simp only [List.getElem?_toArray, List.getElem?_cons_succ, List.getElem?_cons_zero] <;> rfl)
  case hQZ50 => exact (fun _ _ _ h => h)
  case hwZ50 => rfl
  case hyZ50 => (intro w hSw; (try dsimp only at hSw); go_simp; try with_reducible rfl)
  (try simp only [Act.put, List.setIfInBounds_toArray, List.set_cons_zero, List.set_cons_succ])
  refine take_w (i := 16) (oi := ?oZ51) (v := ?vZ51) ?hiZ51 (by kernel_rfl) (by kernel_rfl) (by kernel_rfl) ?hQZ51 ?hwZ51 ?hyZ51 (by assumption) ?restZ51
  case hiZ51 => (simp only [List.getElem?_toArray, List.getElem?_cons_succ, List.getElem?_cons_zero] <;> rfl)
  case hQZ51 => exact (fun _ _ _ h => h)
  case hwZ51 => rfl
  case hyZ51 => (intro w hSw; (try dsimp only at hSw); go_simp; try with_reducible rfl)
  (try simp only [Act.put, List.setIfInBounds_toArray, List.set_cons_zero, List.set_cons_succ])
  refine take_w (i := 17) (oi := ?oZ52) (v := ?vZ52) ?hiZ52 (by kernel_rfl) (by kernel_rfl) (by kernel_rfl) ?hQZ52 ?hwZ52 ?hyZ52 (by assumption) ?restZ52
  case hiZ52 => (simp only [List.getElem?_toArray, List.getElem?_cons_succ, List.getElem?_cons_zero] <;> rfl)
  case hQZ52 => exact (fun _ _ _ h => h)
  case hwZ52 => rfl
  case hyZ52 => (intro w hSw; (try dsimp only at hSw); go_simp; try with_reducible rfl)
  (try simp only [Act.put, List.setIfInBounds_toArray, List.set_cons_zero, List.set_cons_succ])
  refine take_w (i := 18) (oi := ?oZ53) (v := ?vZ53) ?hiZ53 (by kernel_rfl) (by kernel_rfl) (by kernel_rfl) ?hQZ53 ?hwZ53 ?hyZ53 (by assumption) ?restZ53
  case hiZ53 => (simp only [List.getElem?_toArray, List.getElem?_cons_succ, List.getElem?_cons_zero] <;> rfl)
  case hQZ53 => exact (fun _ _ _ h => h)
  case hwZ53 => rfl
  case hyZ53 => (intro w hSw; (try dsimp only at hSw); go_simp; try with_reducible rfl)
  (try simp only [Act.put, List.setIfInBounds_toArray, List.set_cons_zero, List.set_cons_succ])
  refine take_w (i := 19) (oi := ?oZ54) (v := ?vZ54) ?hiZ54 (by kernel_rfl) (by kernel_rfl) (by kernel_rfl) ?hQZ54 ?hwZ54 ?hyZ54 (by assumption) ?restZ54
  case hiZ54 => (simp only [List.getElem?_toArray, List.getElem?_cons_succ, List.getElem?_cons_zero] <;> rfl)
  case hQZ54 => exact (fun _ _ _ h => h)
  case hwZ54 => rfl
  case hyZ54 => (intro w hSw; (try dsimp only at hSw); go_simp; try with_reducible rfl)
  (try simp only [Act.put, List.setIfInBounds_toArray, List.set_cons_zero, List.set_cons_succ])
  refine take_w (i := 20) (oi := ?oZ55) (v := ?vZ55) ?hiZ55 (by kernel_rfl) (by kernel_rfl) (by kernel_rfl) ?hQZ55 ?hwZ55 ?hyZ55 (by assumption) ?restZ55
  case hiZ55 => (simp only [List.getElem?_toArray, List.getElem?_cons_succ, List.getElem?_cons_zero] <;> rfl)
  case hQZ55 => exact (fun _ _ _ h => h)
  case hwZ55 => rfl
  case hyZ55 => (intro w hSw; (try dsimp only at hSw); go_simp; try with_reducible rfl)
  (try simp only [Act.put, List.setIfInBounds_toArray, List.set_cons_zero, List.set_cons_succ])
  refine wpAnyH_ready (rs := [12]) (by kernel_rfl) (by simp) ?_
  refine AllReadyH.cons (o := ?oZ56) ?hiZ56 (fun K hK => ?stZ56) AllReadyH.nil
  case hiZ56 => (simp only [List.getElem?_toArray, List.getElem?_cons_succ, List.getElem?_cons_zero] <;> rfl)
  go_simp
  go_at_call 58
  refine (refNode_any l rl (H 0) (HH 0) h.ka h.va h.kn h.kc h.vn h.vc k v _ ((HP.out.below HR1.out.drew.b).kids 0 l0) ((HQ.out.below HR1.out.drew.b).kids 0 m0) (HP.out.below HR1.out.drew.b).key (HP.out.below HR1.out.drew.b).val).mono ?_
  rintro _ w2 ⟨h2, rfl, hi2, hb2⟩
  unfold TH.v
  have HR2 := Lib.hid (HR1.out.drew.below hb2)
  have HI2 := Lib.hid hi2
  clear hi2 hb2
  go_simp
  refine hK.out _ _ ?_ (fun hHeld => ?_)
  · (first | exact ⟨HRX4.out.1.cells.2.1, HRX4.out.1.cells.2.2.1, (HRX4.out.1.cells.2.2.2.2).trans (by rw [HTA.out]), HRX4.out.2.cells.2.1, HRX4.out.2.cells.2.2.1, (HRX4.out.2.cells.2.2.2.2).trans (by rw [HTK.out]), (HP.out.below HB4.out).kid0 HTA.out (by omega), (HQ.out.below HB4.out).kid0 HTK.out (by omega), (HQ.out.below HB4.out).kid1 HTK.out (by omega)⟩ | exact ⟨HR3.out.box.cells.2.1, HR3.out.box.cells.2.2.1, (HR3.out.box.cells.2.2.2.2).trans (by rw [HTA.out]), HR3.out.kb.cells.2.1, HR3.out.kb.cells.2.2.1, (HR3.out.kb.cells.2.2.2.2).trans (by rw [HTK.out]), (HP.out.below HR3.out.b).kid0 HTA.out (by omega), (HQ.out.below HR3.out.b).kid0 HTK.out (by omega), (HQ.out.below HR3.out.b).kid1 HTK.out (by omega)⟩ | exact ⟨HR2.out.box.cells.2.1, HR2.out.box.cells.2.2.1, (HR2.out.box.cells.2.2.2.2).trans (by rw [HTA.out]), HR2.out.kb.cells.2.1, HR2.out.kb.cells.2.2.1, (HR2.out.kb.cells.2.2.2.2).trans (by rw [HTK.out]), (HP.out.below HR2.out.b).kid0 HTA.out (by omega), (HQ.out.below HR2.out.b).kid0 HTK.out (by omega), (HQ.out.below HR2.out.b).kid1 HTK.out (by omega)⟩ | exact ⟨HR1.out.drew.box.cells.2.1, HR1.out.drew.box.cells.2.2.1, (HR1.out.drew.box.cells.2.2.2.2).trans (by rw [HTA.out]), HR1.out.drew.kb.cells.2.1, HR1.out.drew.kb.cells.2.2.1, (HR1.out.drew.kb.cells.2.2.2.2).trans (by rw [HTK.out]), (HP.out.below HR1.out.drew.b).kid0 HTA.out (by omega), (HQ.out.below HR1.out.drew.b).kid0 HTK.out (by omega), (HQ.out.below HR1.out.drew.b).kid1 HTK.out (by omega)⟩)
  clear hK K
  (try simp only [Act.put, List.setIfInBounds_toArray, List.set_cons_zero, List.set_cons_succ])
  refine wpAnyH_ready (rs := [21]) (by kernel_rfl) (by simp) ?_
  refine AllReadyH.cons (o := ?oZ57) ?hiZ57 (fun K hK => ?stZ57) AllReadyH.nil
  case hiZ57 => (simp only [List.getElem?_toArray, List.getElem?_cons_succ, List.getElem?_cons_zero] <;> rfl)
  go_simp
  go_at_call 58
  refine (refNode_any (AT.node l k v rl) rr h2 (HH 1) (H 1).ka (H 1).va (H 1).kn (H 1).kc (H 1).vn (H 1).vc rk rv _ HI2.out ((HQ.out.below HR2.out.b).kids 1 m1) (HQ.out.below HR2.out.b).key (HQ.out.below HR2.out.b).val).mono ?_
  rintro _ w3 ⟨h3, rfl, hi3, hb3⟩
  unfold TH.v
  have HR3 := Lib.hid (HR2.out.below hb3)
  have HI3 := Lib.hid hi3
  clear hi3 hb3
  go_simp
  refine hK.out _ _ ?_ (fun hHeld => ?_)
  · (first | exact ⟨HRX4.out.1.cells.2.1, HRX4.out.1.cells.2.2.1, (HRX4.out.1.cells.2.2.2.2).trans (by rw [HTA.out]), HRX4.out.2.cells.2.1, HRX4.out.2.cells.2.2.1, (HRX4.out.2.cells.2.2.2.2).trans (by rw [HTK.out]), (HP.out.below HB4.out).kid0 HTA.out (by omega), (HQ.out.below HB4.out).kid0 HTK.out (by omega), (HQ.out.below HB4.out).kid1 HTK.out (by omega)⟩ | exact ⟨HR3.out.box.cells.2.1, HR3.out.box.cells.2.2.1, (HR3.out.box.cells.2.2.2.2).trans (by rw [HTA.out]), HR3.out.kb.cells.2.1, HR3.out.kb.cells.2.2.1, (HR3.out.kb.cells.2.2.2.2).trans (by rw [HTK.out]), (HP.out.below HR3.out.b).kid0 HTA.out (by omega), (HQ.out.below HR3.out.b).kid0 HTK.out (by omega), (HQ.out.below HR3.out.b).kid1 HTK.out (by omega)⟩ | exact ⟨HR2.out.box.cells.2.1, HR2.out.box.cells.2.2.1, (HR2.out.box.cells.2.2.2.2).trans (by rw [HTA.out]), HR2.out.kb.cells.2.1, HR2.out.kb.cells.2.2.1, (HR2.out.kb.cells.2.2.2.2).trans (by rw [HTK.out]), (HP.out.below HR2.out.b).kid0 HTA.out (by omega), (HQ.out.below HR2.out.b).kid0 HTK.out (by omega), (HQ.out.below HR2.out.b).kid1 HTK.out (by omega)⟩ | exact ⟨HR1.out.drew.box.cells.2.1, HR1.out.drew.box.cells.2.2.1, (HR1.out.drew.box.cells.2.2.2.2).trans (by rw [HTA.out]), HR1.out.drew.kb.cells.2.1, HR1.out.drew.kb.cells.2.2.1, (HR1.out.drew.kb.cells.2.2.2.2).trans (by rw [HTK.out]), (HP.out.below HR1.out.drew.b).kid0 HTA.out (by omega), (HQ.out.below HR1.out.drew.b).kid0 HTK.out (by omega), (HQ.out.below HR1.out.drew.b).kid1 HTK.out (by omega)⟩)
  clear hK K
  (try simp only [Act.put, List.setIfInBounds_toArray, List.set_cons_zero, List.set_cons_succ])
  refine wpAnyH_ready (rs := [22]) (by kernel_rfl) (by simp) ?_
  refine AllReadyH.cons (o := ?oZ58) ?hiZ58 (fun K hK => ?stZ58) AllReadyH.nil
  case hiZ58 => (simp only [List.getElem?_toArray, List.getElem?_cons_succ, List.getElem?_cons_zero] <;> rfl)
  refine step_store_box rfl 25 (.tmp 2) (.tmp 29) rfl (w.heap.size + 1) hZ h3 rfl rfl 25 HR3.out.res infoTree5 ?_
  intro w4 hbx4 hg4
  have HX4 := Lib.hid hbx4
  have HI4 := Lib.hid (AT.outBox HR3.out.res hg4 _ _ HI3.out)
  have HB4 : Hid (Below w.heap.size w w4) := Lib.hid (HR3.out.b.grown hg4 HR3.out.b.size (fun j hj => by injection hj; omega))
  have HRX4 : Hid (Box w4 25 w.heap.size h ∧ Box w4 25 (w.heap.size + 2) (H 1)) := Lib.hid ⟨HR3.out.box.grown hg4 (fun q => by injection q; omega), HR3.out.kb.grown hg4 (fun q => by injection q; omega)⟩
  clear hbx4 hg4
  refine hK.out _ _ ?_ (fun hHeld => ?_)
  · (first | exact ⟨HRX4.out.1.cells.2.1, HRX4.out.1.cells.2.2.1, (HRX4.out.1.cells.2.2.2.2).trans (by rw [HTA.out]), HRX4.out.2.cells.2.1, HRX4.out.2.cells.2.2.1, (HRX4.out.2.cells.2.2.2.2).trans (by rw [HTK.out]), (HP.out.below HB4.out).kid0 HTA.out (by omega), (HQ.out.below HB4.out).kid0 HTK.out (by omega), (HQ.out.below HB4.out).kid1 HTK.out (by omega)⟩ | exact ⟨HR3.out.box.cells.2.1, HR3.out.box.cells.2.2.1, (HR3.out.box.cells.2.2.2.2).trans (by rw [HTA.out]), HR3.out.kb.cells.2.1, HR3.out.kb.cells.2.2.1, (HR3.out.kb.cells.2.2.2.2).trans (by rw [HTK.out]), (HP.out.below HR3.out.b).kid0 HTA.out (by omega), (HQ.out.below HR3.out.b).kid0 HTK.out (by omega), (HQ.out.below HR3.out.b).kid1 HTK.out (by omega)⟩ | exact ⟨HR2.out.box.cells.2.1, HR2.out.box.cells.2.2.1, (HR2.out.box.cells.2.2.2.2).trans (by rw [HTA.out]), HR2.out.kb.cells.2.1, HR2.out.kb.cells.2.2.1, (HR2.out.kb.cells.2.2.2.2).trans (by rw [HTK.out]), (HP.out.below HR2.out.b).kid0 HTA.out (by omega), (HQ.out.below HR2.out.b).kid0 HTK.out (by omega), (HQ.out.below HR2.out.b).kid1 HTK.out (by omega)⟩ | exact ⟨HR1.out.drew.box.cells.2.1, HR1.out.drew.box.cells.2.2.1, (HR1.out.drew.box.cells.2.2.2.2).trans (by rw [HTA.out]), HR1.out.drew.kb.cells.2.1, HR1.out.drew.kb.cells.2.2.1, (HR1.out.drew.kb.cells.2.2.2.2).trans (by rw [HTK.out]), (HP.out.below HR1.out.drew.b).kid0 HTA.out (by omega), (HQ.out.below HR1.out.drew.b).kid0 HTK.out (by omega), (HQ.out.below HR1.out.drew.b).kid1 HTK.out (by omega)⟩)
  clear hK K
  (try simp only [Act.put])
  refine wpAnyH_done (by kernel_rfl) ?_ _
  
  go_wp2_with fail
  exact bodyPost_ret (v := h3.v) (result_tree Tryz.results78 _ HX4.out rfl Tryz.underlying25 infoTree5) rfl ⟨_, rfl, HI4.out, HB4.out⟩
end Go.Proofs.YtkcmohmfejmfoaaGreatDoor

/- The contract of the document's leveling of AVL trees. -/
namespace Go.Proofs.YtkcmohmfejmfoaaGreatDoor
open Go.RowKit
set_option linter.unusedVariables false

set_option maxRecDepth 100000 in
set_option maxHeartbeats 4000000 in
theorem refLevel_any (l : AT) (k v : List Int) (r : AT) (h : TH) (w : World) (ht : InTree w h (AT.node l k v r).tr) (hlim : Lim (AT.node l k v r).pairs) (hdl : l.depth ≤ 64) (hdr : r.depth ≤ 64) :
    Calls Tryz.prog 59 #[h.v] w (Tells w (AT.node l k v r).level) := by
  unfold TH.v
  obtain ⟨H, hp⟩ := ht.parts
  have l0 : 0 < (AT.node l k v r).tr.kids.length := by rw [AT.tr_kids]; simp
  have l1 : 1 < (AT.node l k v r).tr.kids.length := by rw [AT.tr_kids]; simp
  have ht1 : (1 : Int) < (h.tn : Int) := by have h2 : h.tn = 2 := hp.len.symm; omega
  have ht0 : 0 < h.tn := by omega
  have HP := Lib.hid hp
  have HL := Lib.hid hlim
  obtain ⟨g, off, hta, -, -⟩ := hp.place (by omega)
  have HTA := Lib.hid hta
  obtain ⟨e1, e2, e3, e4⟩ := enter2 w h
  clear hp hta hlim
  go_enter Tryz.func59, Tryz.ntmps59
  go_upto_region 1 with fail
  generalize ((w.alloc (.cells #[.int .i64 h.k, .slice h.ka h.kn h.kc, .slice h.va h.vn h.vc, .slice h.da h.dn h.dc, .slice h.ta h.tn h.tc] 25)).alloc (.cells #[.int .i64 0, .slice none 0 0, .slice none 0 0, .slice none 0 0, .slice none 0 0] 25)) = w0 at *
  have HX0 : Hid (LX w w0 h (AT.node l k v r).tr) := Lib.hid ⟨e1, e2, ht.lower e3, e3⟩
  obtain ⟨x0, x1, x2, x3, x4⟩ := e1.cells
  clear e1 e2 e3 e4 ht
  have hlv := AT.level_node l k v r
  have HLV0 := Lib.hid hlv
  clear hlv
  go_upto_if 7 with (first
    | (go_at_call 77
       refine (refTilt_any l k v r h _ HX0.out.ti HL.out hdl hdr).mono ?_
       rintro _ w1 ⟨rfl, hb1⟩
       have HX1 := Lib.hid (HX0.out.below hb1)
       clear hb1))
  clear x0 x1 x2 x3 x4
  generalize hx : (l.depth : Int) - (r.depth : Int) = x
  have HXX := Lib.hid hx
  clear hx
  obtain ⟨x0, x1, x2, x3, x4⟩ := HX1.out.box.cells
  by_cases c1 : x = 2
  · subst c1
    cases l with
    | nil => exact absurd HXX.out (by simp [AT.depth]; omega)
    | node ll lk lv lr =>
      have x4' := x4.trans (by rw [HTA.out])
      obtain ⟨k0, k1, k2, k3, k4⟩ := (HP.out.below HX1.out.b).kid0 HTA.out (by omega)
      clear x4
      rw [HTA.out]
      go_upto_if 13 with (first
    | (go_at_call 77
       refine (refTilt_any ll lk lv lr (H 0) _ ((HP.out.below HX1.out.b).kids 0 l0) HL.out.node.1 (by simp only [AT.depth] at *; omega) (by simp only [AT.depth] at *; omega)).mono ?_
       rintro _ w2 ⟨rfl, hb2⟩
       have HX2 := Lib.hid (HX1.out.below hb2)
       clear hb2))
      clear x0 x1 x2 x3 x4' k0 k1 k2 k3 k4
      generalize hy : (ll.depth : Int) - (lr.depth : Int) = y
      have HYY := Lib.hid hy
      clear hy
      by_cases c2 : y < 0
      · cases lr with
        | nil => exact absurd HYY.out (by simp only [AT.depth]; omega)
        | node a b c d =>
        have HLV : Hid ((AT.node (AT.node ll lk lv (AT.node a b c d)) k v r).level = AT.node (AT.node ll lk lv a) b c (AT.node d k v r)) := Lib.hid (by
          rw [HLV0.out, if_pos HXX.out, if_pos (show (AT.node ll lk lv (AT.node a b c d)).tilt < 0 by simp only [AT.tilt]; rw [HYY.out]; exact c2)]
          rfl)
        clear HLV0
        go_upto_region 4 with fail
        refine region_l (S := (fun W => W.cell? ⟨w.heap.size, 1, none⟩ = some (.slice h.ka h.kn h.kc) ∧ W.cell? ⟨w.heap.size, 2, none⟩ = some (.slice h.va h.vn h.vc) ∧ W.cell? ⟨w.heap.size, 4, none⟩ = some (.slice (some ⟨g, off, none⟩) h.tn h.tc) ∧ (W.cell? ⟨g, off, none⟩ = some (.int .i64 (H 0).k) ∧ W.cell? ⟨g, off + 1, none⟩ = some (.slice (H 0).ka (H 0).kn (H 0).kc) ∧ W.cell? ⟨g, off + 2, none⟩ = some (.slice (H 0).va (H 0).vn (H 0).vc) ∧ W.cell? ⟨g, off + 3, none⟩ = some (.slice (H 0).da (H 0).dn (H 0).dc) ∧ W.cell? ⟨g, off + 4, none⟩ = some (.slice (H 0).ta (H 0).tn (H 0).tc)) ∧ W.cell? ⟨g, off + 5, none⟩ = some (.int .i64 (H 1).k) ∧ W.cell? ⟨g, off + 5 + 1, none⟩ = some (.slice (H 1).ka (H 1).kn (H 1).kc) ∧ W.cell? ⟨g, off + 5 + 2, none⟩ = some (.slice (H 1).va (H 1).vn (H 1).vc) ∧ W.cell? ⟨g, off + 5 + 3, none⟩ = some (.slice (H 1).da (H 1).dn (H 1).dc) ∧ W.cell? ⟨g, off + 5 + 4, none⟩ = some (.slice (H 1).ta (H 1).tn (H 1).tc))) 14 (by kernel_rfl) ⟨HX2.out.drew.box.cells.2.1, HX2.out.drew.box.cells.2.2.1, (HX2.out.drew.box.cells.2.2.2.2).trans (by rw [HTA.out]), (HP.out.below HX2.out.drew.b).kid0 HTA.out (by omega), (HP.out.below HX2.out.drew.b).kid1 HTA.out (by omega)⟩ (fun hHeld => ?_)
        refine take_l (i := 0) (oi := ?oZ59) (v := ?vZ59) ?hiZ59 (by kernel_rfl) (by kernel_rfl) (by kernel_rfl) (by kernel_rfl) ?hQZ59 ?hwZ59 ?hyZ59 (by assumption) ?restZ59
        case hiZ59 => (simp only [List.getElem?_toArray, List.getElem?_cons_zero] <;> rfl)
        case hQZ59 => exact (fun _ _ _ h => h)
        case hwZ59 => rfl
        case hyZ59 => (intro w hSw; (try dsimp only at hSw); go_simp; try with_reducible rfl)
        (try simp only [Act.put, List.setIfInBounds_toArray, List.set_cons_zero, List.set_cons_succ])
        refine take_l (i := 1) (oi := ?oZ60) (v := ?vZ60) ?hiZ60 (by kernel_rfl) (by kernel_rfl) (by kernel_rfl) (by kernel_rfl) ?hQZ60 ?hwZ60 ?hyZ60 (by assumption) ?restZ60
        case hiZ60 => (simp only [List.getElem?_toArray, List.getElem?_cons_succ, List.getElem?_cons_zero] <;> rfl)
        case hQZ60 => exact (fun _ _ _ h => h)
        case hwZ60 => rfl
        case hyZ60 => (intro w hSw; (try dsimp only at hSw); go_simp; try with_reducible rfl)
        (try simp only [Act.put, List.setIfInBounds_toArray, List.set_cons_zero, List.set_cons_succ])
        refine take_l (i := 2) (oi := ?oZ61) (v := ?vZ61) ?hiZ61 (by kernel_rfl) (by kernel_rfl) (by kernel_rfl) (by kernel_rfl) ?hQZ61 ?hwZ61 ?hyZ61 (by assumption) ?restZ61
        case hiZ61 => (simp only [List.getElem?_toArray, List.getElem?_cons_succ, List.getElem?_cons_zero] <;> rfl)
        case hQZ61 => exact (fun _ _ _ h => h)
        case hwZ61 => rfl
        case hyZ61 => (intro w hSw; (try dsimp only at hSw); go_simp; try with_reducible rfl)
        (try simp only [Act.put, List.setIfInBounds_toArray, List.set_cons_zero, List.set_cons_succ])
        refine take_l (i := 3) (oi := ?oZ62) (v := ?vZ62) ?hiZ62 (by kernel_rfl) (by kernel_rfl) (by kernel_rfl) (by kernel_rfl) ?hQZ62 ?hwZ62 ?hyZ62 (by assumption) ?restZ62
        case hiZ62 => (simp only [List.getElem?_toArray, List.getElem?_cons_succ, List.getElem?_cons_zero] <;> rfl)
        case hQZ62 => exact (fun _ _ _ h => h)
        case hwZ62 => rfl
        case hyZ62 => (intro w hSw; (try dsimp only at hSw); go_simp; try with_reducible rfl)
        (try simp only [Act.put, List.setIfInBounds_toArray, List.set_cons_zero, List.set_cons_succ])
        refine take_l (i := 5) (oi := ?oZ63) (v := ?vZ63) ?hiZ63 (by kernel_rfl) (by kernel_rfl) (by kernel_rfl) (by kernel_rfl) ?hQZ63 ?hwZ63 ?hyZ63 (by assumption) ?restZ63
        case hiZ63 => (simp only [List.getElem?_toArray, List.getElem?_cons_succ, List.getElem?_cons_zero] <;> rfl)
        case hQZ63 => exact (fun _ _ _ h => h)
        case hwZ63 => rfl
        case hyZ63 => (intro w hSw; (try dsimp only at hSw); go_simp; try with_reducible rfl)
        (try simp only [Act.put, List.setIfInBounds_toArray, List.set_cons_zero, List.set_cons_succ])
        refine take_l (i := 6) (oi := ?oZ64) (v := ?vZ64) ?hiZ64 (by kernel_rfl) (by kernel_rfl) (by kernel_rfl) (by kernel_rfl) ?hQZ64 ?hwZ64 ?hyZ64 (by assumption) ?restZ64
        case hiZ64 => (simp only [List.getElem?_toArray, List.getElem?_cons_succ, List.getElem?_cons_zero] <;> rfl)
        case hQZ64 => exact (fun _ _ _ h => h)
        case hwZ64 => rfl
        case hyZ64 => (intro w hSw; (try dsimp only at hSw); go_simp; try with_reducible rfl)
        (try simp only [Act.put, List.setIfInBounds_toArray, List.set_cons_zero, List.set_cons_succ])
        refine take_l (i := 7) (oi := ?oZ65) (v := ?vZ65) ?hiZ65 (by kernel_rfl) (by kernel_rfl) (by kernel_rfl) (by kernel_rfl) ?hQZ65 ?hwZ65 ?hyZ65 (by assumption) ?restZ65
        case hiZ65 => (simp only [List.getElem?_toArray, List.getElem?_cons_succ, List.getElem?_cons_zero] <;> rfl)
        case hQZ65 => exact (fun _ _ _ h => h)
        case hwZ65 => rfl
        case hyZ65 => (intro w hSw; (try dsimp only at hSw); go_simp; try with_reducible rfl)
        (try simp only [Act.put, List.setIfInBounds_toArray, List.set_cons_zero, List.set_cons_succ])
        refine take_l (i := 8) (oi := ?oZ66) (v := ?vZ66) ?hiZ66 (by kernel_rfl) (by kernel_rfl) (by kernel_rfl) (by kernel_rfl) ?hQZ66 ?hwZ66 ?hyZ66 (by assumption) ?restZ66
        case hiZ66 => (simp only [List.getElem?_toArray, List.getElem?_cons_succ, List.getElem?_cons_zero] <;> rfl)
        case hQZ66 => exact (fun _ _ _ h => h)
        case hwZ66 => rfl
        case hyZ66 => (intro w hSw; (try dsimp only at hSw); go_simp; try with_reducible rfl)
        (try simp only [Act.put, List.setIfInBounds_toArray, List.set_cons_zero, List.set_cons_succ])
        refine take_l (i := 9) (oi := ?oZ67) (v := ?vZ67) ?hiZ67 (by kernel_rfl) (by kernel_rfl) (by kernel_rfl) (by kernel_rfl) ?hQZ67 ?hwZ67 ?hyZ67 (by assumption) ?restZ67
        case hiZ67 => (simp only [List.getElem?_toArray, List.getElem?_cons_succ, List.getElem?_cons_zero] <;> rfl)
        case hQZ67 => exact (fun _ _ _ h => h)
        case hwZ67 => rfl
        case hyZ67 => (intro w hSw; (try dsimp only at hSw); go_simp; try with_reducible rfl)
        (try simp only [Act.put, List.setIfInBounds_toArray, List.set_cons_zero, List.set_cons_succ])
        refine take_l (i := 10) (oi := ?oZ68) (v := ?vZ68) ?hiZ68 (by kernel_rfl) (by kernel_rfl) (by kernel_rfl) (by kernel_rfl) ?hQZ68 ?hwZ68 ?hyZ68 (by assumption) ?restZ68
        case hiZ68 => (simp only [List.getElem?_toArray, List.getElem?_cons_succ, List.getElem?_cons_zero] <;> rfl)
        case hQZ68 => exact (fun _ _ _ h => h)
        case hwZ68 => rfl
        case hyZ68 => (intro w hSw; (try dsimp only at hSw); go_simp; try with_reducible rfl)
        (try simp only [Act.put, List.setIfInBounds_toArray, List.set_cons_zero, List.set_cons_succ])
        refine take_l (i := 11) (oi := ?oZ69) (v := ?vZ69) ?hiZ69 (by kernel_rfl) (by kernel_rfl) (by kernel_rfl) (by kernel_rfl) ?hQZ69 ?hwZ69 ?hyZ69 (by assumption) ?restZ69
        case hiZ69 => (simp only [List.getElem?_toArray, List.getElem?_cons_succ, List.getElem?_cons_zero] <;> rfl)
        case hQZ69 => exact (fun _ _ _ h => h)
        case hwZ69 => rfl
        case hyZ69 => (intro w hSw; (try dsimp only at hSw); go_simp; try with_reducible rfl)
        (try simp only [Act.put, List.setIfInBounds_toArray, List.set_cons_zero, List.set_cons_succ])
        refine take_l (i := 12) (oi := ?oZ70) (v := ?vZ70) ?hiZ70 (by kernel_rfl) (by kernel_rfl) (by kernel_rfl) (by kernel_rfl) ?hQZ70 ?hwZ70 ?hyZ70 (by assumption) ?restZ70
        case hiZ70 => (simp only [List.getElem?_toArray, List.getElem?_cons_succ, List.getElem?_cons_zero] <;> rfl)
        case hQZ70 => exact (fun _ _ _ h => h)
        case hwZ70 => rfl
        case hyZ70 => (intro w hSw; (try dsimp only at hSw); go_simp; try with_reducible rfl)
        (try simp only [Act.put, List.setIfInBounds_toArray, List.set_cons_zero, List.set_cons_succ])
        refine one_l (i := 4) (o := ?oZ71) (by kernel_rfl) ?hiZ71 (fun K hK => ?stZ71)
        case hiZ71 => (simp only [List.getElem?_toArray, List.getElem?_cons_succ, List.getElem?_cons_zero] <;> rfl)
        go_simp
        go_at_call 78
        refine (refLeft_any ll lk lv a b c d (H 0) _ ((HP.out.below HX2.out.drew.b).kids 0 l0)).mono ?_
        rintro _ w3 ⟨h3, rfl, hi3, hb3⟩
        unfold TH.v
        have HX3 := Lib.hid (HX2.out.drew.below hb3)
        have HI3 := Lib.hid hi3
        clear hi3 hb3
        go_simp
        refine hK.out _ _ ?_ (fun hHeld => ?_)
        · (first | exact ⟨HX4.out.box.cells.2.1, HX4.out.box.cells.2.2.1, (HX4.out.box.cells.2.2.2.2).trans (by rw [HTA.out]), (HP.out.below HX4.out.b).kid0 HTA.out (by omega), (HP.out.below HX4.out.b).kid1 HTA.out (by omega)⟩ | exact ⟨HX3.out.box.cells.2.1, HX3.out.box.cells.2.2.1, (HX3.out.box.cells.2.2.2.2).trans (by rw [HTA.out]), (HP.out.below HX3.out.b).kid0 HTA.out (by omega), (HP.out.below HX3.out.b).kid1 HTA.out (by omega)⟩ | exact ⟨HX2.out.drew.box.cells.2.1, HX2.out.drew.box.cells.2.2.1, (HX2.out.drew.box.cells.2.2.2.2).trans (by rw [HTA.out]), (HP.out.below HX2.out.drew.b).kid0 HTA.out (by omega), (HP.out.below HX2.out.drew.b).kid1 HTA.out (by omega)⟩)
        clear hK K
        (try simp only [Act.put, List.setIfInBounds_toArray, List.set_cons_zero, List.set_cons_succ])
        refine one_l (i := 13) (o := ?oZ72) (by kernel_rfl) ?hiZ72 (fun K hK => ?stZ72)
        case hiZ72 => (simp only [List.getElem?_toArray, List.getElem?_cons_succ, List.getElem?_cons_zero] <;> rfl)
        go_simp
        go_at_call 58
        refine (refNode_any (AT.node (AT.node ll lk lv a) b c d) r h3 (H 1) h.ka h.va h.kn h.kc h.vn h.vc k v _ HI3.out ((HP.out.below HX3.out.b).kids 1 l1) (HP.out.below HX3.out.b).key (HP.out.below HX3.out.b).val).mono ?_
        rintro _ w4 ⟨h4, rfl, hi4, hb4⟩
        unfold TH.v
        have HX4 := Lib.hid (HX3.out.below hb4)
        have HI4 := Lib.hid hi4
        clear hi4 hb4
        go_simp
        refine hK.out _ _ ?_ (fun hHeld => ?_)
        · (first | exact ⟨HX4.out.box.cells.2.1, HX4.out.box.cells.2.2.1, (HX4.out.box.cells.2.2.2.2).trans (by rw [HTA.out]), (HP.out.below HX4.out.b).kid0 HTA.out (by omega), (HP.out.below HX4.out.b).kid1 HTA.out (by omega)⟩ | exact ⟨HX3.out.box.cells.2.1, HX3.out.box.cells.2.2.1, (HX3.out.box.cells.2.2.2.2).trans (by rw [HTA.out]), (HP.out.below HX3.out.b).kid0 HTA.out (by omega), (HP.out.below HX3.out.b).kid1 HTA.out (by omega)⟩ | exact ⟨HX2.out.drew.box.cells.2.1, HX2.out.drew.box.cells.2.2.1, (HX2.out.drew.box.cells.2.2.2.2).trans (by rw [HTA.out]), (HP.out.below HX2.out.drew.b).kid0 HTA.out (by omega), (HP.out.below HX2.out.drew.b).kid1 HTA.out (by omega)⟩)
        clear hK K
        (try simp only [Act.put, List.setIfInBounds_toArray, List.set_cons_zero, List.set_cons_succ])
        refine last_l (o := ?oZ73) (by kernel_rfl) ?hiZ73 (by kernel_rfl) (fun K hK => ?stZ73)
        case hiZ73 => (simp only [List.getElem?_toArray, List.getElem?_cons_succ, List.getElem?_cons_zero] <;> rfl)
        refine step_store_box rfl 25 (.tmp 1) (.tmp 27) rfl w.heap.size h h4 rfl rfl 25 HX4.out.box infoTree5 ?_
        intro w5 hbx5 hg5
        have HX5 : Hid (LX w w5 h4 _) := Lib.hid ⟨hbx5, HX4.out.res.grown hg5 (fun q => by injection q; omega), AT.outBox HX4.out.box hg5 _ _ HI4.out, HX4.out.b.grown hg5 HX4.out.b.size (fun j hj => by injection hj; omega)⟩
        clear hbx5 hg5
        refine hK.out _ _ ?_
        clear hK K
        (try simp only [Act.put])
        
        clear hHeld
        obtain ⟨x0, x1, x2, x3, x4⟩ := HX5.out.box.cells
        go_wp2_with (first
          | (go_at_call 79
             refine (refRight_any (AT.node ll lk lv a) b c d k v r h4 _ HX5.out.ti).mono ?_
             rintro _ w8 ⟨h8, rfl, hi8, hb8⟩
             unfold TH.v
             have HX8 := Lib.hid (HX5.out.below hb8)
             have HI8 := Lib.hid hi8
             clear hi8 hb8)
          | (refine wpList_store_box rfl 25 (.tmp 2) (.tmp 29) rfl (w.heap.size + 1) hZ h8 rfl rfl 25 HX8.out.res infoTree5 ?_
             intro w9 hbx9 hg9
             have HX9 := Lib.hid hbx9
             have HI9 := Lib.hid (AT.outBox HX8.out.res hg9 _ _ HI8.out)
             have HB9 : Hid (Below w.heap.size w w9) := Lib.hid (HX8.out.b.grown hg9 HX8.out.b.size (fun j hj => by injection hj; omega))
             clear hbx9 hg9))
        refine bodyPost_ret (v := h8.v) (result_tree Tryz.results59 _ HX9.out rfl Tryz.underlying25 infoTree5) rfl ⟨_, rfl, ?_, HB9.out⟩
        rw [HLV.out]
        exact HI9.out

      · have HLV : Hid ((AT.node (AT.node ll lk lv lr) k v r).level = AT.node ll lk lv (AT.node lr k v r)) := Lib.hid (by
          rw [HLV0.out, if_pos HXX.out, if_neg (show ¬ (AT.node ll lk lv lr).tilt < 0 by simp only [AT.tilt]; rw [HYY.out]; exact c2)]
          rfl)
        clear HLV0
        obtain ⟨x0, x1, x2, x3, x4⟩ := HX2.out.box.cells
        go_wp2_with (first
          | (go_at_call 79
             refine (refRight_any ll lk lv lr k v r h _ HX2.out.ti).mono ?_
             rintro _ w8 ⟨h8, rfl, hi8, hb8⟩
             unfold TH.v
             have HX8 := Lib.hid (HX2.out.below hb8)
             have HI8 := Lib.hid hi8
             clear hi8 hb8)
          | (refine wpList_store_box rfl 25 (.tmp 2) (.tmp 29) rfl (w.heap.size + 1) hZ h8 rfl rfl 25 HX8.out.res infoTree5 ?_
             intro w9 hbx9 hg9
             have HX9 := Lib.hid hbx9
             have HI9 := Lib.hid (AT.outBox HX8.out.res hg9 _ _ HI8.out)
             have HB9 : Hid (Below w.heap.size w w9) := Lib.hid (HX8.out.b.grown hg9 HX8.out.b.size (fun j hj => by injection hj; omega))
             clear hbx9 hg9))
        refine bodyPost_ret (v := h8.v) (result_tree Tryz.results59 _ HX9.out rfl Tryz.underlying25 infoTree5) rfl ⟨_, rfl, ?_, HB9.out⟩
        rw [HLV.out]
        exact HI9.out

  have c1b : (x == 2) = false := by simp [c1]
  rw [c1b]
  by_cases c3 : x = -2
  · subst c3
    cases r with
    | nil => exact absurd HXX.out (by simp only [AT.depth]; omega)
    | node rl rk rv rr =>
      have x4' := x4.trans (by rw [HTA.out])
      obtain ⟨k0, k1, k2, k3, k4⟩ := (HP.out.below HX1.out.b).kid1 HTA.out (by omega)
      clear x4
      rw [HTA.out]
      go_upto_if 37 with (first
    | (go_at_call 77
       refine (refTilt_any rl rk rv rr (H 1) _ ((HP.out.below HX1.out.b).kids 1 l1) HL.out.node.2.2.2 (by simp only [AT.depth] at *; omega) (by simp only [AT.depth] at *; omega)).mono ?_
       rintro _ w2 ⟨rfl, hb2⟩
       have HX2 := Lib.hid (HX1.out.below hb2)
       clear hb2))
      clear x0 x1 x2 x3 x4' k0 k1 k2 k3 k4
      generalize hy : (rl.depth : Int) - (rr.depth : Int) = y
      have HYY := Lib.hid hy
      clear hy
      by_cases c2 : 0 < y
      · cases rl with
        | nil => exact absurd HYY.out (by simp only [AT.depth]; omega)
        | node a b c d =>
        have HLV : Hid ((AT.node l k v (AT.node (AT.node a b c d) rk rv rr)).level = AT.node (AT.node l k v a) b c (AT.node d rk rv rr)) := Lib.hid (by
          rw [HLV0.out, if_neg (by rw [HXX.out]; omega), if_pos HXX.out, if_pos (show 0 < (AT.node (AT.node a b c d) rk rv rr).tilt by simp only [AT.tilt]; rw [HYY.out]; exact c2)]
          rfl)
        clear HLV0
        have hqn : rr.depth < (AT.node a b c d).depth := by have := HYY.out; omega
        go_upto_region 8 with fail
        clear hqn
        refine region_l (S := (fun W => W.cell? ⟨w.heap.size, 1, none⟩ = some (.slice h.ka h.kn h.kc) ∧ W.cell? ⟨w.heap.size, 2, none⟩ = some (.slice h.va h.vn h.vc) ∧ W.cell? ⟨w.heap.size, 4, none⟩ = some (.slice (some ⟨g, off, none⟩) h.tn h.tc) ∧ (W.cell? ⟨g, off, none⟩ = some (.int .i64 (H 0).k) ∧ W.cell? ⟨g, off + 1, none⟩ = some (.slice (H 0).ka (H 0).kn (H 0).kc) ∧ W.cell? ⟨g, off + 2, none⟩ = some (.slice (H 0).va (H 0).vn (H 0).vc) ∧ W.cell? ⟨g, off + 3, none⟩ = some (.slice (H 0).da (H 0).dn (H 0).dc) ∧ W.cell? ⟨g, off + 4, none⟩ = some (.slice (H 0).ta (H 0).tn (H 0).tc)) ∧ W.cell? ⟨g, off + 5, none⟩ = some (.int .i64 (H 1).k) ∧ W.cell? ⟨g, off + 5 + 1, none⟩ = some (.slice (H 1).ka (H 1).kn (H 1).kc) ∧ W.cell? ⟨g, off + 5 + 2, none⟩ = some (.slice (H 1).va (H 1).vn (H 1).vc) ∧ W.cell? ⟨g, off + 5 + 3, none⟩ = some (.slice (H 1).da (H 1).dn (H 1).dc) ∧ W.cell? ⟨g, off + 5 + 4, none⟩ = some (.slice (H 1).ta (H 1).tn (H 1).tc))) 14 (by kernel_rfl) ⟨HX2.out.drew.box.cells.2.1, HX2.out.drew.box.cells.2.2.1, (HX2.out.drew.box.cells.2.2.2.2).trans (by rw [HTA.out]), (HP.out.below HX2.out.drew.b).kid0 HTA.out (by omega), (HP.out.below HX2.out.drew.b).kid1 HTA.out (by omega)⟩ (fun hHeld => ?_)
        refine take_l (i := 0) (oi := ?oZ74) (v := ?vZ74) ?hiZ74 (by kernel_rfl) (by kernel_rfl) (by kernel_rfl) (by kernel_rfl) ?hQZ74 ?hwZ74 ?hyZ74 (by assumption) ?restZ74
        case hiZ74 => (simp only [List.getElem?_toArray, List.getElem?_cons_zero] <;> rfl)
        case hQZ74 => exact (fun _ _ _ h => h)
        case hwZ74 => rfl
        case hyZ74 => (intro w hSw; (try dsimp only at hSw); go_simp; try with_reducible rfl)
        (try simp only [Act.put, List.setIfInBounds_toArray, List.set_cons_zero, List.set_cons_succ])
        refine take_l (i := 1) (oi := ?oZ75) (v := ?vZ75) ?hiZ75 (by kernel_rfl) (by kernel_rfl) (by kernel_rfl) (by kernel_rfl) ?hQZ75 ?hwZ75 ?hyZ75 (by assumption) ?restZ75
        case hiZ75 => (simp only [List.getElem?_toArray, List.getElem?_cons_succ, List.getElem?_cons_zero] <;> rfl)
        case hQZ75 => exact (fun _ _ _ h => h)
        case hwZ75 => rfl
        case hyZ75 => (intro w hSw; (try dsimp only at hSw); go_simp; try with_reducible rfl)
        (try simp only [Act.put, List.setIfInBounds_toArray, List.set_cons_zero, List.set_cons_succ])
        refine take_l (i := 2) (oi := ?oZ76) (v := ?vZ76) ?hiZ76 (by kernel_rfl) (by kernel_rfl) (by kernel_rfl) (by kernel_rfl) ?hQZ76 ?hwZ76 ?hyZ76 (by assumption) ?restZ76
        case hiZ76 => (simp only [List.getElem?_toArray, List.getElem?_cons_succ, List.getElem?_cons_zero] <;> rfl)
        case hQZ76 => exact (fun _ _ _ h => h)
        case hwZ76 => rfl
        case hyZ76 => (intro w hSw; (try dsimp only at hSw); go_simp; try with_reducible rfl)
        (try simp only [Act.put, List.setIfInBounds_toArray, List.set_cons_zero, List.set_cons_succ])
        refine take_l (i := 3) (oi := ?oZ77) (v := ?vZ77) ?hiZ77 (by kernel_rfl) (by kernel_rfl) (by kernel_rfl) (by kernel_rfl) ?hQZ77 ?hwZ77 ?hyZ77 (by assumption) ?restZ77
        case hiZ77 => (simp only [List.getElem?_toArray, List.getElem?_cons_succ, List.getElem?_cons_zero] <;> rfl)
        case hQZ77 => exact (fun _ _ _ h => h)
        case hwZ77 => rfl
        case hyZ77 => (intro w hSw; (try dsimp only at hSw); go_simp; try with_reducible rfl)
        (try simp only [Act.put, List.setIfInBounds_toArray, List.set_cons_zero, List.set_cons_succ])
        refine take_l (i := 4) (oi := ?oZ78) (v := ?vZ78) ?hiZ78 (by kernel_rfl) (by kernel_rfl) (by kernel_rfl) (by kernel_rfl) ?hQZ78 ?hwZ78 ?hyZ78 (by assumption) ?restZ78
        case hiZ78 => (simp only [List.getElem?_toArray, List.getElem?_cons_succ, List.getElem?_cons_zero] <;> rfl)
        case hQZ78 => exact (fun _ _ _ h => h)
        case hwZ78 => rfl
        case hyZ78 => (intro w hSw; (try dsimp only at hSw); go_simp; try with_reducible rfl)
        (try simp only [Act.put, List.setIfInBounds_toArray, List.set_cons_zero, List.set_cons_succ])
        refine take_l (i := 5) (oi := ?oZ79) (v := ?vZ79) ?hiZ79 (by kernel_rfl) (by kernel_rfl) (by kernel_rfl) (by kernel_rfl) ?hQZ79 ?hwZ79 ?hyZ79 (by assumption) ?restZ79
        case hiZ79 => (simp only [List.getElem?_toArray, List.getElem?_cons_succ, List.getElem?_cons_zero] <;> rfl)
        case hQZ79 => exact (fun _ _ _ h => h)
        case hwZ79 => rfl
        case hyZ79 => (intro w hSw; (try dsimp only at hSw); go_simp; try with_reducible rfl)
        (try simp only [Act.put, List.setIfInBounds_toArray, List.set_cons_zero, List.set_cons_succ])
        refine take_l (i := 6) (oi := ?oZ80) (v := ?vZ80) ?hiZ80 (by kernel_rfl) (by kernel_rfl) (by kernel_rfl) (by kernel_rfl) ?hQZ80 ?hwZ80 ?hyZ80 (by assumption) ?restZ80
        case hiZ80 => (simp only [List.getElem?_toArray, List.getElem?_cons_succ, List.getElem?_cons_zero] <;> rfl)
        case hQZ80 => exact (fun _ _ _ h => h)
        case hwZ80 => rfl
        case hyZ80 => (intro w hSw; (try dsimp only at hSw); go_simp; try with_reducible rfl)
        (try simp only [Act.put, List.setIfInBounds_toArray, List.set_cons_zero, List.set_cons_succ])
        refine take_l (i := 7) (oi := ?oZ81) (v := ?vZ81) ?hiZ81 (by kernel_rfl) (by kernel_rfl) (by kernel_rfl) (by kernel_rfl) ?hQZ81 ?hwZ81 ?hyZ81 (by assumption) ?restZ81
        case hiZ81 => (simp only [List.getElem?_toArray, List.getElem?_cons_succ, List.getElem?_cons_zero] <;> rfl)
        case hQZ81 => exact (fun _ _ _ h => h)
        case hwZ81 => rfl
        case hyZ81 => (intro w hSw; (try dsimp only at hSw); go_simp; try with_reducible rfl)
        (try simp only [Act.put, List.setIfInBounds_toArray, List.set_cons_zero, List.set_cons_succ])
        refine take_l (i := 8) (oi := ?oZ82) (v := ?vZ82) ?hiZ82 (by kernel_rfl) (by kernel_rfl) (by kernel_rfl) (by kernel_rfl) ?hQZ82 ?hwZ82 ?hyZ82 (by assumption) ?restZ82
        case hiZ82 => (simp only [List.getElem?_toArray, List.getElem?_cons_succ, List.getElem?_cons_zero] <;> rfl)
        case hQZ82 => exact (fun _ _ _ h => h)
        case hwZ82 => rfl
        case hyZ82 => (intro w hSw; (try dsimp only at hSw); go_simp; try with_reducible rfl)
        (try simp only [Act.put, List.setIfInBounds_toArray, List.set_cons_zero, List.set_cons_succ])
        refine take_l (i := 9) (oi := ?oZ83) (v := ?vZ83) ?hiZ83 (by kernel_rfl) (by kernel_rfl) (by kernel_rfl) (by kernel_rfl) ?hQZ83 ?hwZ83 ?hyZ83 (by assumption) ?restZ83
        case hiZ83 => (simp only [List.getElem?_toArray, List.getElem?_cons_succ, List.getElem?_cons_zero] <;> rfl)
        case hQZ83 => exact (fun _ _ _ h => h)
        case hwZ83 => rfl
        case hyZ83 => (intro w hSw; (try dsimp only at hSw); go_simp; try with_reducible rfl)
        (try simp only [Act.put, List.setIfInBounds_toArray, List.set_cons_zero, List.set_cons_succ])
        refine take_l (i := 10) (oi := ?oZ84) (v := ?vZ84) ?hiZ84 (by kernel_rfl) (by kernel_rfl) (by kernel_rfl) (by kernel_rfl) ?hQZ84 ?hwZ84 ?hyZ84 (by assumption) ?restZ84
        case hiZ84 => (simp only [List.getElem?_toArray, List.getElem?_cons_succ, List.getElem?_cons_zero] <;> rfl)
        case hQZ84 => exact (fun _ _ _ h => h)
        case hwZ84 => rfl
        case hyZ84 => (intro w hSw; (try dsimp only at hSw); go_simp; try with_reducible rfl)
        (try simp only [Act.put, List.setIfInBounds_toArray, List.set_cons_zero, List.set_cons_succ])
        refine take_l (i := 11) (oi := ?oZ85) (v := ?vZ85) ?hiZ85 (by kernel_rfl) (by kernel_rfl) (by kernel_rfl) (by kernel_rfl) ?hQZ85 ?hwZ85 ?hyZ85 (by assumption) ?restZ85
        case hiZ85 => (simp only [List.getElem?_toArray, List.getElem?_cons_succ, List.getElem?_cons_zero] <;> rfl)
        case hQZ85 => exact (fun _ _ _ h => h)
        case hwZ85 => rfl
        case hyZ85 => (intro w hSw; (try dsimp only at hSw); go_simp; try with_reducible rfl)
        (try simp only [Act.put, List.setIfInBounds_toArray, List.set_cons_zero, List.set_cons_succ])
        refine one_l (i := 12) (o := ?oZ86) (by kernel_rfl) ?hiZ86 (fun K hK => ?stZ86)
        case hiZ86 => (simp only [List.getElem?_toArray, List.getElem?_cons_succ, List.getElem?_cons_zero] <;> rfl)
        go_simp
        go_at_call 79
        refine (refRight_any a b c d rk rv rr (H 1) _ ((HP.out.below HX2.out.drew.b).kids 1 l1)).mono ?_
        rintro _ w3 ⟨h3, rfl, hi3, hb3⟩
        unfold TH.v
        have HX3 := Lib.hid (HX2.out.drew.below hb3)
        have HI3 := Lib.hid hi3
        clear hi3 hb3
        go_simp
        refine hK.out _ _ ?_ (fun hHeld => ?_)
        · (first | exact ⟨HX4.out.box.cells.2.1, HX4.out.box.cells.2.2.1, (HX4.out.box.cells.2.2.2.2).trans (by rw [HTA.out]), (HP.out.below HX4.out.b).kid0 HTA.out (by omega), (HP.out.below HX4.out.b).kid1 HTA.out (by omega)⟩ | exact ⟨HX3.out.box.cells.2.1, HX3.out.box.cells.2.2.1, (HX3.out.box.cells.2.2.2.2).trans (by rw [HTA.out]), (HP.out.below HX3.out.b).kid0 HTA.out (by omega), (HP.out.below HX3.out.b).kid1 HTA.out (by omega)⟩ | exact ⟨HX2.out.drew.box.cells.2.1, HX2.out.drew.box.cells.2.2.1, (HX2.out.drew.box.cells.2.2.2.2).trans (by rw [HTA.out]), (HP.out.below HX2.out.drew.b).kid0 HTA.out (by omega), (HP.out.below HX2.out.drew.b).kid1 HTA.out (by omega)⟩)
        clear hK K
        (try simp only [Act.put, List.setIfInBounds_toArray, List.set_cons_zero, List.set_cons_succ])
        refine one_l (i := 13) (o := ?oZ87) (by kernel_rfl) ?hiZ87 (fun K hK => ?stZ87)
        case hiZ87 => (simp only [List.getElem?_toArray, List.getElem?_cons_succ, List.getElem?_cons_zero] <;> rfl)
        go_simp
        go_at_call 58
        refine (refNode_any l (AT.node a b c (AT.node d rk rv rr)) (H 0) h3 h.ka h.va h.kn h.kc h.vn h.vc k v _ ((HP.out.below HX3.out.b).kids 0 l0) HI3.out (HP.out.below HX3.out.b).key (HP.out.below HX3.out.b).val).mono ?_
        rintro _ w4 ⟨h4, rfl, hi4, hb4⟩
        unfold TH.v
        have HX4 := Lib.hid (HX3.out.below hb4)
        have HI4 := Lib.hid hi4
        clear hi4 hb4
        go_simp
        refine hK.out _ _ ?_ (fun hHeld => ?_)
        · (first | exact ⟨HX4.out.box.cells.2.1, HX4.out.box.cells.2.2.1, (HX4.out.box.cells.2.2.2.2).trans (by rw [HTA.out]), (HP.out.below HX4.out.b).kid0 HTA.out (by omega), (HP.out.below HX4.out.b).kid1 HTA.out (by omega)⟩ | exact ⟨HX3.out.box.cells.2.1, HX3.out.box.cells.2.2.1, (HX3.out.box.cells.2.2.2.2).trans (by rw [HTA.out]), (HP.out.below HX3.out.b).kid0 HTA.out (by omega), (HP.out.below HX3.out.b).kid1 HTA.out (by omega)⟩ | exact ⟨HX2.out.drew.box.cells.2.1, HX2.out.drew.box.cells.2.2.1, (HX2.out.drew.box.cells.2.2.2.2).trans (by rw [HTA.out]), (HP.out.below HX2.out.drew.b).kid0 HTA.out (by omega), (HP.out.below HX2.out.drew.b).kid1 HTA.out (by omega)⟩)
        clear hK K
        (try simp only [Act.put, List.setIfInBounds_toArray, List.set_cons_zero, List.set_cons_succ])
        refine last_l (o := ?oZ88) (by kernel_rfl) ?hiZ88 (by kernel_rfl) (fun K hK => ?stZ88)
        case hiZ88 => (simp only [List.getElem?_toArray, List.getElem?_cons_succ, List.getElem?_cons_zero] <;> rfl)
        refine step_store_box rfl 25 (.tmp 1) (.tmp 51) rfl w.heap.size h h4 rfl rfl 25 HX4.out.box infoTree5 ?_
        intro w5 hbx5 hg5
        have HX5 : Hid (LX w w5 h4 _) := Lib.hid ⟨hbx5, HX4.out.res.grown hg5 (fun q => by injection q; omega), AT.outBox HX4.out.box hg5 _ _ HI4.out, HX4.out.b.grown hg5 HX4.out.b.size (fun j hj => by injection hj; omega)⟩
        clear hbx5 hg5
        refine hK.out _ _ ?_
        clear hK K
        (try simp only [Act.put])
        
        clear hHeld
        obtain ⟨x0, x1, x2, x3, x4⟩ := HX5.out.box.cells
        go_wp2_with (first
          | (go_at_call 78
             refine (refLeft_any l k v a b c (AT.node d rk rv rr) h4 _ HX5.out.ti).mono ?_
             rintro _ w8 ⟨h8, rfl, hi8, hb8⟩
             unfold TH.v
             have HX8 := Lib.hid (HX5.out.below hb8)
             have HI8 := Lib.hid hi8
             clear hi8 hb8)
          | (refine wpList_store_box rfl 25 (.tmp 2) (.tmp 53) rfl (w.heap.size + 1) hZ h8 rfl rfl 25 HX8.out.res infoTree5 ?_
             intro w9 hbx9 hg9
             have HX9 := Lib.hid hbx9
             have HI9 := Lib.hid (AT.outBox HX8.out.res hg9 _ _ HI8.out)
             have HB9 : Hid (Below w.heap.size w w9) := Lib.hid (HX8.out.b.grown hg9 HX8.out.b.size (fun j hj => by injection hj; omega))
             clear hbx9 hg9))
        refine bodyPost_ret (v := h8.v) (result_tree Tryz.results59 _ HX9.out rfl Tryz.underlying25 infoTree5) rfl ⟨_, rfl, ?_, HB9.out⟩
        rw [HLV.out]
        exact HI9.out

      · have HLV : Hid ((AT.node l k v (AT.node rl rk rv rr)).level = AT.node (AT.node l k v rl) rk rv rr) := Lib.hid (by
          rw [HLV0.out, if_neg (by rw [HXX.out]; omega), if_pos HXX.out, if_neg (show ¬ 0 < (AT.node rl rk rv rr).tilt by simp only [AT.tilt]; rw [HYY.out]; exact c2)]
          rfl)
        clear HLV0
        have hqn : ¬ rr.depth < rl.depth := by have := HYY.out; omega
        obtain ⟨x0, x1, x2, x3, x4⟩ := HX2.out.box.cells
        go_wp2_with (first
          | (go_at_call 78
             refine (refLeft_any l k v rl rk rv rr h _ HX2.out.ti).mono ?_
             rintro _ w8 ⟨h8, rfl, hi8, hb8⟩
             unfold TH.v
             have HX8 := Lib.hid (HX2.out.below hb8)
             have HI8 := Lib.hid hi8
             clear hi8 hb8)
          | (refine wpList_store_box rfl 25 (.tmp 2) (.tmp 53) rfl (w.heap.size + 1) hZ h8 rfl rfl 25 HX8.out.res infoTree5 ?_
             intro w9 hbx9 hg9
             have HX9 := Lib.hid hbx9
             have HI9 := Lib.hid (AT.outBox HX8.out.res hg9 _ _ HI8.out)
             have HB9 : Hid (Below w.heap.size w w9) := Lib.hid (HX8.out.b.grown hg9 HX8.out.b.size (fun j hj => by injection hj; omega))
             clear hbx9 hg9))
        refine bodyPost_ret (v := h8.v) (result_tree Tryz.results59 _ HX9.out rfl Tryz.underlying25 infoTree5) rfl ⟨_, rfl, ?_, HB9.out⟩
        rw [HLV.out]
        exact HI9.out

  have c3b : (x == -2) = false := by simp [c3]
  have HLV : Hid ((AT.node l k v r).level = AT.node l k v r) := Lib.hid (by rw [HLV0.out, if_neg (by rw [HXX.out]; exact c1), if_neg (by rw [HXX.out]; exact c3)])
  clear HLV0
  go_wp2_with (first
  | (refine wpList_store_box rfl 25 (.tmp 2) (.tmp 54) rfl (w.heap.size + 1) hZ h rfl rfl 25 HX1.out.res infoTree5 ?_
     intro w9 hbx9 hg9
     have HX9 := Lib.hid hbx9
     have HI9 := Lib.hid (AT.outBox HX1.out.res hg9 _ _ HX1.out.ti)
     have HB9 : Hid (Below w.heap.size w w9) := Lib.hid (HX1.out.b.grown hg9 HX1.out.b.size (fun j hj => by injection hj; omega))
     clear hbx9 hg9))
  refine bodyPost_ret (v := h.v) (result_tree Tryz.results59 _ HX9.out rfl Tryz.underlying25 infoTree5) rfl ⟨_, rfl, ?_, HB9.out⟩
  rw [HLV.out]
  exact HI9.out
end Go.Proofs.YtkcmohmfejmfoaaGreatDoor
