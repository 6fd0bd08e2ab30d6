/- The contract of the document's comparison of trees: of one and the same tree. The contract of the document's Full. Rows of trees: the cells of the i-th; their heads. No program is named here. The row of a tree's nodes, and the i-th of them. No program is named here. The contracts of the document's Is and Get of AVL trees. The document's measure of a tree: has it few enough parts? The contract of the document's Range of balanced trees. The walk of the law ProofShows. What the rows' condition on the two listed tables gives the walks; a start that meets it. A tree that is an argument of the program. Spans, and lists of pairs, that are arguments. -/
import Derived.Test.YtkfjhegehhahcaaDoorMSA
import Derived.Test.YtkfjhegehhahcaaDoorMSB
import Derived.Test.YtkfjhegehhahcaaDoorMSD
import Derived.Test.YtkfjhegehhahcaaDoorMSC
import Derived.Test.YtkfjhegehhahcaaDoorMSE
import Derived.Test.YtkfjhegehhahcaaDoorMSF
import Derived.Test.YtkfjhegehhahcaaDoorRows
import Derived.ProofKit
import Derived.LaidMore
import Derived.OpenShut
import Derived.Stop.Joined
import Derived.Test.YtkfjhegehhahcaaDoorProg
/- The contract of the document's comparison of trees: of one and the same tree. -/
namespace Go.Proofs.YtkfjhegehhahcaaDoor
open Go.RowKit
set_option linter.unusedVariables false

theorem conv_of' {w : World} {a : Option Addr} {n cap : Nat} {bs : List Int} (h : InBytes w a n cap bs) :
    (convert 22 9 (.slice a n cap)).run Tryd.prog w = .ok (.string (strOfNums bs)) w :=
  conv_in (P := Tryd.prog) h 22 5 9 Tryd.underlying22 Tryd.underlying5 Tryd.underlying9
/-- Two boxes, side by side. -/
structure Two (w W : World) (h h' : TH) : Prop where
  bx : Box W 25 w.heap.size h
  by' : Box W 25 (w.heap.size + 1) h'
  b : Below w.heap.size w W
theorem Two.below {w W W' : World} {h h' : TH} (d : Two w W h h') (hb : Below W.heap.size W W') : Two w W' h h' := ⟨d.bx.below hb d.bx.lt, d.by'.below hb d.by'.lt, d.b.trans (hb.mono d.b.size)⟩
theorem Two.drew {w W : World} {h h' : TH} (d : Two w W h h') : Two w W.drew h h' := d.below (Below.refl _ _).drew
theorem Two.new (w : World) (h h' : TH) : Two w ((w.alloc (.cells #[.int .i64 h.k, .slice h.ka h.kn h.kc, .slice h.va h.vn h.vc, .slice h.da h.dn h.dc, .slice h.ta h.tn h.tc] 25)).alloc (.cells #[.int .i64 h'.k, .slice h'.ka h'.kn h'.kc, .slice h'.va h'.vn h'.vc, .slice h'.da h'.dn h'.dc, .slice h'.ta h'.tn h'.tc] 25)) h h' :=
  ⟨(Box.new w _ h).below ((Below.refl _ _).alloc (Nat.le_refl _) _) (by simp), by have := Box.new (w.alloc (.cells #[.int .i64 h.k, .slice h.ka h.kn h.kc, .slice h.va h.vn h.vc, .slice h.da h.dn h.dc, .slice h.ta h.tn h.tc] 25)) 25 h'; simpa using this, ((Below.refl w.heap.size w).alloc (Nat.le_refl _) _).alloc (by simp) _⟩

set_option maxRecDepth 100000 in
set_option maxHeartbeats 4000000 in
theorem refSame_any : ∀ (t : Tr) (h h' : TH) (w : World), InTree w h t → InTree w h' t →
    Calls Tryd.prog 9 #[h.v, h'.v] w (Says w (.bool true)) := by
  intro t
  induction t using Tr.ind with
  | h t ih =>
  intro h h' w ht ht'
  unfold TH.v
  obtain ⟨H, hp⟩ := ht.parts
  obtain ⟨H', hp'⟩ := ht'.parts
  have HP := Lib.hid (And.intro hp hp')
  have htl := hp.len
  have htl' := hp'.len
  have htm := Nat.le_trans hp.sl.le hp.sl.max
  simp only [maxLen] at htm
  have k1 : (h.k != h'.k) = false := by rw [hp.hk, hp'.hk]; simp
  have k2 : ((h.tn : Int) != (h'.tn : Int)) = false := by rw [← htl, ← htl']; simp
  have IH := Lib.hid ih
  clear hp hp' ht ht' ih
  have HD := Lib.hid (Two.new w h h')
  go_enter Tryd.func9, Tryd.ntmps9
  go_upto_region 1 with fail
  generalize (w.alloc (.cells #[.int .i64 h.k, .slice h.ka h.kn h.kc, .slice h.va h.vn h.vc, .slice h.da h.dn h.dc, .slice h.ta h.tn h.tc] 25)).alloc (.cells #[.int .i64 h'.k, .slice h'.ka h'.kn h'.kc, .slice h'.va h'.vn h'.vc, .slice h'.da h'.dn h'.dc, .slice h'.ta h'.tn h'.tc] 25) = w0 at *
  obtain ⟨x0, x1, x2, x3, x4⟩ := HD.out.bx.cells
  obtain ⟨y0, y1, y2, y3, y4⟩ := HD.out.by'.cells
  have c1 := conv_of' (HP.out.1.below HD.out.b).key
  have c2 := conv_of' (HP.out.1.below HD.out.b).val
  have c3 := conv_of' (HP.out.1.below HD.out.b).dig
  have d1 := conv_of' (HP.out.2.below HD.out.b).key
  have d2 := conv_of' (HP.out.2.below HD.out.b).val
  have d3 := conv_of' (HP.out.2.below HD.out.b).dig
  have htl2 : h'.tn = h.tn := by omega
  have HL := Lib.hid htl2
  clear htl2 htl'
  go_wp2_with fail
  clear x0 x1 x2 x3 x4 y0 y1 y2 y3 y4 c1 c2 c3 d1 d2 d3
  go_loopw [5] (fun s5 wx => ∃ i : Nat, i ≤ h.tn ∧ s5 = .int .i64 i ∧ Two w wx h h') (fun s5 _ => h.tn - (intOf s5).toNat)
  case atStart => exact ⟨0, by omega, rfl, HD.out⟩
  case round =>
    clear HD
    obtain ⟨i, hi, rfl, hd⟩ := hrel
    have HD := Lib.hid hd
    have x4 := hd.bx.cells.2.2.2.2
    clear hd
    by_cases hlt : i < h.tn
    · have q1 : (i : Int) < (h.tn : Int) := by omega
      have hlt' : i < h'.tn := by rw [HL.out]; exact hlt
      have q2 : (i : Int) < (h'.tn : Int) := by omega
      have him : i < t.kids.length := by omega
      obtain ⟨g, off, hta, _, _⟩ := (HP.out.1.below HD.out.b).place (by omega)
      obtain ⟨g', off', hta', _, _⟩ := (HP.out.2.below HD.out.b).place (by omega)
      have HTA := Lib.hid (And.intro hta hta')
      clear hta hta'
      go_upto_region 6 with fail
      clear x4
      refine wp_region_held_drew (S := (fun W => W.cell? ⟨w.heap.size, 4, none⟩ = some (.slice (some ⟨g, off, none⟩) h.tn h.tc) ∧ W.cell? ⟨(w.heap.size + 1), 4, none⟩ = some (.slice (some ⟨g', off', none⟩) h'.tn h'.tc) ∧ (W.cell? ⟨g, off + i * 5, none⟩ = some (.int .i64 (H i).k) ∧ W.cell? ⟨g, off + i * 5 + 1, none⟩ = some (.slice (H i).ka (H i).kn (H i).kc) ∧ W.cell? ⟨g, off + i * 5 + 2, none⟩ = some (.slice (H i).va (H i).vn (H i).vc) ∧ W.cell? ⟨g, off + i * 5 + 3, none⟩ = some (.slice (H i).da (H i).dn (H i).dc) ∧ W.cell? ⟨g, off + i * 5 + 4, none⟩ = some (.slice (H i).ta (H i).tn (H i).tc)) ∧ W.cell? ⟨g', off' + i * 5, none⟩ = some (.int .i64 (H' i).k) ∧ W.cell? ⟨g', off' + i * 5 + 1, none⟩ = some (.slice (H' i).ka (H' i).kn (H' i).kc) ∧ W.cell? ⟨g', off' + i * 5 + 2, none⟩ = some (.slice (H' i).va (H' i).vn (H' i).vc) ∧ W.cell? ⟨g', off' + i * 5 + 3, none⟩ = some (.slice (H' i).da (H' i).dn (H' i).dc) ∧ W.cell? ⟨g', off' + i * 5 + 4, none⟩ = some (.slice (H' i).ta (H' i).tn (H' i).tc))) (by kernel_rfl) ⟨(HD.out.drew.bx.cells.2.2.2.2).trans (by rw [HTA.out.1]), (HD.out.drew.by'.cells.2.2.2.2).trans (by rw [HTA.out.2]), (HP.out.1.below HD.out.drew.b).cellsAt HTA.out.1 i hlt, (HP.out.2.below HD.out.drew.b).cellsAt HTA.out.2 i hlt'⟩ (fun hHeld => ?_)
      refine take_w (i := 0) (oi := ?oZ1) (v := ?vZ1) ?hiZ1 (by kernel_rfl) (by kernel_rfl) (by kernel_rfl) ?hQZ1 ?hwZ1 ?hyZ1 (by assumption) ?restZ1
      case hiZ1 => (simp only [List.getElem?_toArray, List.getElem?_cons_zero] <;> rfl)
      case hQZ1 => exact (fun _ _ _ h => h)
      case hwZ1 => rfl
      case hyZ1 => (intro w hSw; (try dsimp only at hSw); go_simp; try with_reducible rfl)
      (try simp only [Act.put, List.setIfInBounds_toArray, List.set_cons_zero, List.set_cons_succ])
      refine take_w (i := 1) (oi := ?oZ2) (v := ?vZ2) ?hiZ2 (by kernel_rfl) (by kernel_rfl) (by kernel_rfl) ?hQZ2 ?hwZ2 ?hyZ2 (by assumption) ?restZ2
      case hiZ2 => (simp only [List.getElem?_toArray, List.getElem?_cons_succ, List.getElem?_cons_zero] <;> rfl)
      case hQZ2 => exact (fun _ _ _ h => h)
      case hwZ2 => rfl
      case hyZ2 => (intro w hSw; (try dsimp only at hSw); go_simp; try with_reducible rfl)
      (try simp only [Act.put, List.setIfInBounds_toArray, List.set_cons_zero, List.set_cons_succ])
      refine take_w (i := 2) (oi := ?oZ3) (v := ?vZ3) ?hiZ3 (by kernel_rfl) (by kernel_rfl) (by kernel_rfl) ?hQZ3 ?hwZ3 ?hyZ3 (by assumption) ?restZ3
      case hiZ3 => (simp only [List.getElem?_toArray, List.getElem?_cons_succ, List.getElem?_cons_zero] <;> rfl)
      case hQZ3 => exact (fun _ _ _ h => h)
      case hwZ3 => rfl
      case hyZ3 => (intro w hSw; (try dsimp only at hSw); go_simp; try with_reducible rfl)
      (try simp only [Act.put, List.setIfInBounds_toArray, List.set_cons_zero, List.set_cons_succ])
      refine take_w (i := 3) (oi := ?oZ4) (v := ?vZ4) ?hiZ4 (by kernel_rfl) (by kernel_rfl) (by kernel_rfl) ?hQZ4 ?hwZ4 ?hyZ4 (by assumption) ?restZ4
      case hiZ4 => (simp only [List.getElem?_toArray, List.getElem?_cons_succ, List.getElem?_cons_zero] <;> rfl)
      case hQZ4 => exact (fun _ _ _ h => h)
      case hwZ4 => rfl
      case hyZ4 => (intro w hSw; (try dsimp only at hSw); go_simp; try with_reducible rfl)
      (try simp only [Act.put, List.setIfInBounds_toArray, List.set_cons_zero, List.set_cons_succ])
      refine take_w (i := 4) (oi := ?oZ5) (v := ?vZ5) ?hiZ5 (by kernel_rfl) (by kernel_rfl) (by kernel_rfl) ?hQZ5 ?hwZ5 ?hyZ5 (by assumption) ?restZ5
      case hiZ5 => (simp only [List.getElem?_toArray, List.getElem?_cons_succ, List.getElem?_cons_zero] <;> rfl)
      case hQZ5 => exact (fun _ _ _ h => h)
      case hwZ5 => rfl
      case hyZ5 => (intro w hSw; (try dsimp only at hSw); go_simp; try with_reducible rfl)
      (try simp only [Act.put, List.setIfInBounds_toArray, List.set_cons_zero, List.set_cons_succ])
      refine take_w (i := 5) (oi := ?oZ6) (v := ?vZ6) ?hiZ6 (by kernel_rfl) (by kernel_rfl) (by kernel_rfl) ?hQZ6 ?hwZ6 ?hyZ6 (by assumption) ?restZ6
      case hiZ6 => (simp only [List.getElem?_toArray, List.getElem?_cons_succ, List.getElem?_cons_zero] <;> rfl)
      case hQZ6 => exact (fun _ _ _ h => h)
      case hwZ6 => rfl
      case hyZ6 => (intro w hSw; (try dsimp only at hSw); go_simp; try with_reducible rfl)
      (try simp only [Act.put, List.setIfInBounds_toArray, List.set_cons_zero, List.set_cons_succ])
      refine take_w (i := 6) (oi := ?oZ7) (v := ?vZ7) ?hiZ7 (by kernel_rfl) (by kernel_rfl) (by kernel_rfl) ?hQZ7 ?hwZ7 ?hyZ7 (by assumption) ?restZ7
      case hiZ7 => (simp only [List.getElem?_toArray, List.getElem?_cons_succ, List.getElem?_cons_zero] <;> rfl)
      case hQZ7 => exact (fun _ _ _ h => h)
      case hwZ7 => rfl
      case hyZ7 => (intro w hSw; (try dsimp only at hSw); go_simp; try with_reducible rfl)
      (try simp only [Act.put, List.setIfInBounds_toArray, List.set_cons_zero, List.set_cons_succ])
      refine take_w (i := 7) (oi := ?oZ8) (v := ?vZ8) ?hiZ8 (by kernel_rfl) (by kernel_rfl) (by kernel_rfl) ?hQZ8 ?hwZ8 ?hyZ8 (by assumption) ?restZ8
      case hiZ8 => (simp only [List.getElem?_toArray, List.getElem?_cons_succ, List.getElem?_cons_zero] <;> rfl)
      case hQZ8 => exact (fun _ _ _ h => h)
      case hwZ8 => rfl
      case hyZ8 => (intro w hSw; (try dsimp only at hSw); go_simp; try with_reducible rfl)
      (try simp only [Act.put, List.setIfInBounds_toArray, List.set_cons_zero, List.set_cons_succ])
      refine take_w (i := 8) (oi := ?oZ9) (v := ?vZ9) ?hiZ9 (by kernel_rfl) (by kernel_rfl) (by kernel_rfl) ?hQZ9 ?hwZ9 ?hyZ9 (by assumption) ?restZ9
      case hiZ9 => (simp only [List.getElem?_toArray, List.getElem?_cons_succ, List.getElem?_cons_zero] <;> rfl)
      case hQZ9 => exact (fun _ _ _ h => h)
      case hwZ9 => rfl
      case hyZ9 => (intro w hSw; (try dsimp only at hSw); go_simp; try with_reducible rfl)
      (try simp only [Act.put, List.setIfInBounds_toArray, List.set_cons_zero, List.set_cons_succ])
      refine take_w (i := 9) (oi := ?oZ10) (v := ?vZ10) ?hiZ10 (by kernel_rfl) (by kernel_rfl) (by kernel_rfl) ?hQZ10 ?hwZ10 ?hyZ10 (by assumption) ?restZ10
      case hiZ10 => (simp only [List.getElem?_toArray, List.getElem?_cons_succ, List.getElem?_cons_zero] <;> rfl)
      case hQZ10 => exact (fun _ _ _ h => h)
      case hwZ10 => rfl
      case hyZ10 => (intro w hSw; (try dsimp only at hSw); go_simp; try with_reducible rfl)
      (try simp only [Act.put, List.setIfInBounds_toArray, List.set_cons_zero, List.set_cons_succ])
      refine wpAnyH_ready (rs := [10]) (by kernel_rfl) (by simp) ?_
      refine AllReadyH.cons (o := ?oZ11) ?hiZ11 (fun K hK => ?stZ11) AllReadyH.nil
      case hiZ11 => (simp only [List.getElem?_toArray, List.getElem?_cons_succ, List.getElem?_cons_zero] <;> rfl)
      go_simp
      go_at_call 9
      refine (IH.out _ (List.getElem_mem him) (H i) (H' i) _ ((HP.out.1.below HD.out.drew.b).kids i him) ((HP.out.2.below HD.out.drew.b).kids i him)).mono ?_
      rintro _ w1 ⟨rfl, hb1⟩
      have HD1 := Lib.hid (HD.out.drew.below hb1)
      clear hb1
      go_simp
      refine hK.out _ _ ?_ (fun hHeld => ?_)
      · (first | exact ⟨(HD1.out.bx.cells.2.2.2.2).trans (by rw [HTA.out.1]), (HD1.out.by'.cells.2.2.2.2).trans (by rw [HTA.out.2]), (HP.out.1.below HD1.out.b).cellsAt HTA.out.1 i hlt, (HP.out.2.below HD1.out.b).cellsAt HTA.out.2 i hlt'⟩ | exact ⟨(HD.out.drew.bx.cells.2.2.2.2).trans (by rw [HTA.out.1]), (HD.out.drew.by'.cells.2.2.2.2).trans (by rw [HTA.out.2]), (HP.out.1.below HD.out.drew.b).cellsAt HTA.out.1 i hlt, (HP.out.2.below HD.out.drew.b).cellsAt HTA.out.2 i hlt'⟩)
      clear hK K
      (try simp only [Act.put, List.setIfInBounds_toArray, List.set_cons_zero, List.set_cons_succ])
      refine take_w (i := 11) (oi := ?oZ12) (v := ?vZ12) ?hiZ12 (by kernel_rfl) (by kernel_rfl) (by kernel_rfl) ?hQZ12 ?hwZ12 ?hyZ12 (by assumption) ?restZ12
      case hiZ12 => (simp only [List.getElem?_toArray, List.getElem?_cons_succ, List.getElem?_cons_zero] <;> rfl)
      case hQZ12 => exact (fun _ _ _ h => h)
      case hwZ12 => rfl
      case hyZ12 => (intro w hSw; (try dsimp only at hSw); go_simp; try with_reducible rfl)
      (try simp only [Act.put, List.setIfInBounds_toArray, List.set_cons_zero, List.set_cons_succ])
      refine wpAnyH_done (by kernel_rfl) ?_ _
      
      clear hHeld
      go_wp2_with fail
      exact ⟨⟨i + 1, by omega, by go_num, HD1.out⟩, by simp [intOf]; omega⟩
    · obtain rfl : i = h.tn := by omega
      have q1 : ¬ (h.tn : Int) < (h.tn : Int) := by omega
      go_wp2_with fail
      go_ret
      exact ⟨rfl, HD.out.b⟩
end Go.Proofs.YtkfjhegehhahcaaDoor

/- The contract of the document's Full. -/
namespace Go.Proofs.YtkfjhegehhahcaaDoor
open Go.RowKit
set_option linter.unusedVariables false

set_option maxRecDepth 100000 in
set_option maxHeartbeats 4000000 in
theorem refFull_any : ∀ (t : Tr) (h : TH) (w : World), InTree w h t →
    Calls Tryd.prog 23 #[h.v] w (Says w (.bool (fullT t))) := by
  intro t
  induction t using Tr.ind with
  | h t ih =>
  intro h w ht
  unfold TH.v
  obtain ⟨H, hp⟩ := ht.parts
  have hkl := hp.key.len
  have hvl := hp.val.len
  have hdl := hp.dig.len
  have htl := hp.len
  have HK := Lib.hid hp.hk
  have htm := Nat.le_trans hp.sl.le hp.sl.max
  have htc := hp.sl.le
  simp only [maxLen] at htm
  have HP := Lib.hid hp
  have IH := Lib.hid ih
  clear hp ht ih
  have hbox := Box.new w 25 h
  have HX := Lib.hid hbox
  obtain ⟨x0, x1, x2, x3, x4⟩ := hbox.cells
  clear hbox
  have hw1 : Below w.heap.size w (w.alloc (.cells #[.int .i64 h.k, .slice h.ka h.kn h.kc, .slice h.va h.vn h.vc, .slice h.da h.dn h.dc, .slice h.ta h.tn h.tc] 25)) := (Below.refl _ _).alloc (Nat.le_refl _) _
  have HB := Lib.hid hw1
  clear hw1
  go_enter Tryd.func23, Tryd.ntmps23
  by_cases hk1 : 1 < h.k
  · go_wp2_with fail
    go_ret
    have hd : fullT t = false := by
      rw [fullT_eq, ← HK.out]
      have : decide (h.k ≤ 1) = false := by simp; omega
      rw [this]
      rfl
    exact ⟨by rw [hd]; rfl, HB.out⟩
  have HK1 : Hid (decide (t.k ≤ 1) = true) := Lib.hid (by rw [← HK.out]; simp; omega)
  go_wp2_with fail
  clear x0 x1 x2 x3 x4
  go_loopw [3] (fun s3 wx => ∃ i : Nat, i ≤ h.tn ∧ s3 = .int .i64 i ∧ Box wx 25 w.heap.size h ∧ Below w.heap.size w wx ∧ (t.kids.take i).all fullT = true) (fun s3 _ => h.tn - (intOf s3).toNat)
  case atStart => exact ⟨0, by omega, rfl, HX.out, HB.out, by simp⟩
  case round =>
    clear HX HB
    obtain ⟨i, hi, rfl, hbx, hbw, hany⟩ := hrel
    have hx4 := hbx.cells.2.2.2.2
    have HBX := Lib.hid hbx
    have HBW := Lib.hid hbw
    have HA := Lib.hid hany
    clear hbx hbw hany
    by_cases hlt : i < h.tn
    · have q1 : (i : Int) < (h.tn : Int) := by omega
      obtain ⟨g, off, hta, hg, hcs⟩ := (HP.out.below HBW.out).place (by omega)
      rw [hta] at hx4
      obtain ⟨k0, k1, k2, k3, k4⟩ := hcs i hlt
      have him : i < t.kids.length := by omega
      clear hcs hta
      go_upto_region 7 with (first
        | (go_at_call 23
           refine (IH.out _ (List.getElem_mem him) (H i) _ ((HP.out.below HBW.out).kids i him)).mono ?_
           rintro _ w1 ⟨rfl, hb1⟩
           have HB1 : Hid (Below w.heap.size w w1) := Lib.hid (HBW.out.trans (hb1.mono HBW.out.size))
           have HX1 := Lib.hid (HBX.out.below hb1 HBX.out.lt)
           generalize hr : fullT t.kids[i] = r
           have HR := Lib.hid hr
           clear hb1 hr))
      clear hx4 k0 k1 k2 k3 k4
      cases r
      · go_wp2_with fail
        go_ret
        have hd : fullT t = false := by rw [fullT_eq, all_not i him HR.out, Bool.and_false]
        exact ⟨by rw [hd]; rfl, HB1.out⟩
      · go_wp2_with fail
        exact ⟨⟨i + 1, by omega, by go_num, HX1.out, HB1.out, by rw [all_take _ _ i him, HA.out, HR.out]; rfl⟩, by simp [intOf]; omega⟩
    · obtain rfl : i = h.tn := by omega
      have q1 : ¬ (h.tn : Int) < (h.tn : Int) := by omega
      go_wp2_with fail
      go_ret
      have hA := HA.out
      rw [List.take_of_length_le (by omega)] at hA
      have hd : fullT t = true := by rw [fullT_eq, HK1.out, hA]; rfl
      exact ⟨by rw [hd]; rfl, HBW.out⟩
end Go.Proofs.YtkfjhegehhahcaaDoor

/- Rows of trees: the cells of the i-th; their heads. No program is named here. -/
namespace Go.Proofs.YtkfjhegehhahcaaDoor
open Go.RowKit
set_option linter.unusedVariables false

/-- The cells of the i-th tree of a row. -/
theorem OwnT.at {W : World} {base : Nat} {ty : TypeId} {a : Option Addr} {n c : Nat} {hs : List TH} (h : OwnT W base ty (.slice a n c) hs) (hl : hs.length = n) (i : Nat) (hi : i < hs.length) :
    ∃ g, a = some ⟨g, 0, none⟩ ∧ W.cell? ⟨g, i * 5, none⟩ = some (.int .i64 (hs[i]).k) ∧ W.cell? ⟨g, i * 5 + 1, none⟩ = some (.slice (hs[i]).ka (hs[i]).kn (hs[i]).kc) ∧ W.cell? ⟨g, i * 5 + 2, none⟩ = some (.slice (hs[i]).va (hs[i]).vn (hs[i]).vc) ∧ W.cell? ⟨g, i * 5 + 3, none⟩ = some (.slice (hs[i]).da (hs[i]).dn (hs[i]).dc) ∧ W.cell? ⟨g, i * 5 + 4, none⟩ = some (.slice (hs[i]).ta (hs[i]).tn (hs[i]).tc) := by
  rcases h.form with ⟨_, h2⟩ | ⟨g, c', h1, _, _, _, _, hc⟩
  · rw [h2] at hi
    simp at hi
  · injection h1 with h1
    refine ⟨g, h1, ?_, ?_, ?_, ?_, ?_⟩
    · exact hc _ _ (cellsT_get hs i 0 hi (by omega))
    · exact hc _ _ (cellsT_get hs i 1 hi (by omega))
    · exact hc _ _ (cellsT_get hs i 2 hi (by omega))
    · exact hc _ _ (cellsT_get hs i 3 hi (by omega))
    · exact hc _ _ (cellsT_get hs i 4 hi (by omega))
theorem Heads.lower {w w' : World} {hs : List TH} {ts : List Tr} (h : Heads w hs ts) (hb : Below w.heap.size w w') : Heads w' hs ts := ⟨h.1, fun i h1 h2 => (h.2 i h1 h2).lower hb⟩
end Go.Proofs.YtkfjhegehhahcaaDoor

/- The row of a tree's nodes, and the i-th of them. No program is named here. -/
namespace Go.Proofs.YtkfjhegehhahcaaDoor
open Go.RowKit
set_option linter.unusedVariables false

/-- The i-th node of a full tree. -/
theorem AT.node_at (a : AT) (i : Nat) (hi : i < (listT a.tr).length) : ∃ l k v r, (listT a.tr)[i] = (AT.node l k v r).tr ∧ (listT a.tr).getD i (.mk 0 [] [] [] []) = (AT.node l k v r).tr ∧ AT.node l k v r ∈ a.nodes ∧ a.pairs[i]? = some (k, v) := by
  have e := AT.tr_list a
  have hi2 : i < a.nodes.length := by rw [e] at hi; simpa using hi
  cases hn : a.nodes[i] with
  | nil => exact absurd (AT.nodes_node a _ (List.getElem_mem hi2)) (by rw [hn]; simp [AT.isNil])
  | node l k v r =>
    have h1 : (listT a.tr)[i] = (AT.node l k v r).tr := by
      simp only [e, List.getElem_map, hn]
    refine ⟨l, k, v, r, h1, ?_, by rw [← hn]; exact List.getElem_mem hi2, ?_⟩
    · rw [List.getD, List.getElem?_eq_getElem hi, Option.getD_some, h1]
    · rw [← AT.nodes_kv, List.getElem?_map, List.getElem?_eq_getElem hi2, hn]
      rfl
theorem check_zeroR {t : Tr} (h : checkT t = 0) : formedT t = true ∧ deepT t 64 = false := by
  unfold checkT at h
  split at h
  · cases h
  · split at h
    · exact ⟨by assumption, by rename_i q _; simpa using q⟩
    · cases h
/-- A row of trees, and the memory that was there. -/
structure LS (w W : World) (a : Option Addr) (n c : Nat) (hs : List TH) (ts : List Tr) : Prop where
  o : OwnT W w.heap.size 25 (.slice a n c) hs
  hh : Heads W hs ts
  b : Below w.heap.size w W
theorem LS.below {w W W' : World} {a : Option Addr} {n c : Nat} {hs : List TH} {ts : List Tr} (x : LS w W a n c hs ts) (hb : Below W.heap.size W W') : LS w W' a n c hs ts :=
  ⟨x.o.keep hb, x.hh.lower hb, x.b.trans (hb.mono x.b.size)⟩
theorem LS.drew {w W : World} {a : Option Addr} {n c : Nat} {hs : List TH} {ts : List Tr} (x : LS w W a n c hs ts) : LS w W.drew a n c hs ts := x.below (Below.refl _ _).drew
theorem LS.cells {w W : World} {g n c : Nat} {hs : List TH} {ts : List Tr} (x : LS w W (some ⟨g, 0, none⟩) n c hs ts) (hl : hs.length = n) (i : Nat) (hi : i < hs.length) : W.cell? ⟨g, i * 5, none⟩ = some (.int .i64 (hs[i]).k) ∧ W.cell? ⟨g, i * 5 + 1, none⟩ = some (.slice (hs[i]).ka (hs[i]).kn (hs[i]).kc) ∧ W.cell? ⟨g, i * 5 + 2, none⟩ = some (.slice (hs[i]).va (hs[i]).vn (hs[i]).vc) ∧ W.cell? ⟨g, i * 5 + 3, none⟩ = some (.slice (hs[i]).da (hs[i]).dn (hs[i]).dc) ∧ W.cell? ⟨g, i * 5 + 4, none⟩ = some (.slice (hs[i]).ta (hs[i]).tn (hs[i]).tc) := by
  obtain ⟨g', e, h⟩ := x.o.at hl i hi
  injection e with e
  injection e with e
  subst e
  exact h
/-- The row, and the parts of one of its trees. -/
structure LN (w W : World) (a : Option Addr) (n c : Nat) (hs : List TH) (ts : List Tr) (hh : TH) (x : AT) (H : Nat → TH) : Prop where
  s : LS w W a n c hs ts
  p : TreeAt W hh x.tr H
theorem LN.below {w W W' : World} {a : Option Addr} {n c : Nat} {hs : List TH} {ts : List Tr} {hh : TH} {x : AT} {H : Nat → TH} (d : LN w W a n c hs ts hh x H) (hb : Below W.heap.size W W') : LN w W' a n c hs ts hh x H := ⟨d.s.below hb, d.p.below hb⟩
theorem LN.drew {w W : World} {a : Option Addr} {n c : Nat} {hs : List TH} {ts : List Tr} {hh : TH} {x : AT} {H : Nat → TH} (d : LN w W a n c hs ts hh x H) : LN w W.drew a n c hs ts hh x H := d.below (Below.refl _ _).drew
theorem LS.key {w W : World} {a : Option Addr} {n c : Nat} {hs : List TH} {ts : List Tr} (x : LS w W a n c hs ts) (i : Nat) (h1 : i < hs.length) (h2 : i < ts.length) {l : AT} {k v : List Int} {r : AT} (e : ts[i] = (AT.node l k v r).tr) : InBytes W (hs[i]).ka (hs[i]).kn (hs[i]).kc k ∧ InBytes W (hs[i]).va (hs[i]).vn (hs[i]).vc v := by
  have q := x.hh.2 i h1 h2
  rw [e] at q
  obtain ⟨H, hp⟩ := q.parts
  exact ⟨hp.key, hp.val⟩
end Go.Proofs.YtkfjhegehhahcaaDoor

/- The contracts of the document's Is and Get of AVL trees. -/
namespace Go.Proofs.YtkfjhegehhahcaaDoor
open Go.RowKit
set_option linter.unusedVariables false

/-- What is asked of the i-th node. -/
def condL (l : List Tr) (i : Nat) : Bool := (i == 0 || ltL (l.getD (i - 1) (.mk 0 [] [] [] [])).key (l.getD i (.mk 0 [] [] [] [])).key) && (decide (tiltT (l.getD i (.mk 0 [] [] [] [])) ≤ 1) && decide (-1 ≤ tiltT (l.getD i (.mk 0 [] [] [] []))))
theorem levelB_eq (l : List Tr) : levelB l = (List.range l.length).all (condL l) := rfl
theorem levelB_no {l : List Tr} {i : Nat} (hi : i < l.length) (h : condL l i = false) : levelB l = false := by
  rw [levelB_eq, Bool.eq_false_iff]
  intro q
  have := List.all_eq_true.1 q i (List.mem_range.2 hi)
  rw [h] at this
  cases this
theorem all_step {p : Nat → Bool} {i : Nat} (h : (List.range i).all p = true) (hp : p i = true) : (List.range (i + 1)).all p = true := by
  rw [List.range_succ, List.all_append, h]
  simp [hp]
theorem tilt_node (l : AT) (k v : List Int) (r : AT) : tiltT (AT.node l k v r).tr = (l.depth : Int) - (r.depth : Int) := (AT.tilt_tr (n := AT.node l k v r) rfl).1
theorem condL_zero {ts : List Tr} {l : AT} {k v : List Int} {r : AT} (h : ts.getD 0 (.mk 0 [] [] [] []) = (AT.node l k v r).tr) : condL ts 0 = (decide ((l.depth : Int) - (r.depth : Int) ≤ 1) && decide (-1 ≤ (l.depth : Int) - (r.depth : Int))) := by
  unfold condL
  rw [h, tilt_node]
  rfl
theorem condL_succ {ts : List Tr} {j : Nat} {l : AT} {k v : List Int} {r : AT} {l' : AT} {k' v' : List Int} {r' : AT} (h : ts.getD (j + 1) (.mk 0 [] [] [] []) = (AT.node l k v r).tr) (h' : ts.getD j (.mk 0 [] [] [] []) = (AT.node l' k' v' r').tr) :
    condL ts (j + 1) = (ltL k' k && (decide ((l.depth : Int) - (r.depth : Int) ≤ 1) && decide (-1 ≤ (l.depth : Int) - (r.depth : Int)))) := by
  unfold condL
  rw [Nat.add_sub_cancel, h, h', tilt_node]
  have e : (j + 1 == 0) = false := rfl
  rw [e, Bool.false_or]
  rfl
theorem AT.nodes_in : ∀ (a n : AT), n ∈ a.nodes → n.depth ≤ a.depth ∧ ∀ p ∈ n.pairs, p ∈ a.pairs := by
  intro a
  induction a with
  | nil => intro n hn; simp [AT.nodes] at hn
  | node l k v r ihl ihr =>
    intro n hn
    simp only [AT.nodes, List.mem_append, List.mem_cons] at hn
    simp only [AT.depth, AT.pairs, List.mem_append, List.mem_cons]
    rcases hn with hn | rfl | hn
    · have := ihl n hn
      exact ⟨by omega, fun p hp => .inl (this.2 p hp)⟩
    · simp only [AT.depth, AT.pairs, List.mem_append, List.mem_cons]
      exact ⟨by omega, fun p hp => hp⟩
    · have := ihr n hn
      exact ⟨by omega, fun p hp => .inr (.inr (this.2 p hp))⟩
set_option maxRecDepth 100000 in
set_option maxHeartbeats 4000000 in
theorem refIs_any (t : Tr) (h : TH) (w : World) (ht : InTree w h t) (hcn : countT t ≤ 500) : Calls Tryd.prog 10 #[h.v] w (Says w (.bool (isT t))) := by
  unfold TH.v
  have hbox := Box.new w 25 h
  have HX := Lib.hid hbox
  have HT := Lib.hid ht
  obtain ⟨x0, x1, x2, x3, x4⟩ := hbox.cells
  clear hbox ht
  go_enter Tryd.func10, Tryd.ntmps10
  by_cases hc : checkT t = 0
  · have hc0 : ((checkT t : Nat) : Int) = 0 := by rw [hc]; rfl
    have HC0 := Lib.hid hc0
    have HC := Lib.hid hc
    clear hc hc0
    cases hf : fullT t with
    | false =>
      have HF := Lib.hid hf
      clear hf
      go_wp2_with (first
    | (go_at_call 22
       refine (refCheck_any t h _ ?_).mono ?_
       · exact HT.out.lower ((Below.refl _ _).alloc (Nat.le_refl _) _)
       rintro _ w1 ⟨rfl, hb1⟩
       have HB1 : Hid (Below w.heap.size w w1) := Lib.hid (((Below.refl w.heap.size w).alloc (Nat.le_refl _) _).trans (hb1.mono (by simp)))
       have HX1 := Lib.hid (HX.out.below hb1 HX.out.lt)
       obtain ⟨y0, y1, y2, y3, y4⟩ := HX1.out.cells
       rw [HC0.out]
       clear hb1 x0 x1 x2 x3 x4)
    | (go_at_call 23
       refine (refFull_any t h _ (HT.out.lower HB1.out)).mono ?_
       rintro _ w2 ⟨rfl, hb2⟩
       have HB2 : Hid (Below w.heap.size w w2) := Lib.hid (HB1.out.trans (hb2.mono HB1.out.size))
       have HX2 := Lib.hid (HX1.out.below hb2 HX1.out.lt)
       obtain ⟨z0, z1, z2, z3, z4⟩ := HX2.out.cells
       rw [HF.out]
       clear hb2 y0 y1 y2 y3 y4))
      go_ret
      refine ⟨?_, HB2.out⟩
      unfold isT
      rw [HF.out, Bool.false_and, Bool.and_false]
      rfl
    | true =>
      have HF := Lib.hid hf
      obtain ⟨hfo, hde⟩ := check_zeroR HC.out
      obtain ⟨a, rfl⟩ := AT.of_full t hfo hf
      have hln := list_len a.tr hfo
      generalize hn : (listT a.tr).length = n at hln
      have HN := Lib.hid hn
      have hn5 : n ≤ 500 := by omega
      have HFO := Lib.hid hfo
      have HE : Hid (isT a.tr = levelB (listT a.tr)) := Lib.hid (by unfold isT; rw [HC.out, hf]; rfl)
      have HAD : Hid (a.depth ≤ 64 ∧ Lim a.pairs) := Lib.hid (by
        rw [AT.tr_deep a 64 (by omega), decide_eq_false_iff_not] at hde
        exact ⟨by omega, (AT.tr_formed a).1 hfo⟩)
      clear hf hfo hde hln hn
      go_upto_region 7 with (first
    | (go_at_call 22
       refine (refCheck_any a.tr h _ ?_).mono ?_
       · exact HT.out.lower ((Below.refl _ _).alloc (Nat.le_refl _) _)
       rintro _ w1 ⟨rfl, hb1⟩
       have HB1 : Hid (Below w.heap.size w w1) := Lib.hid (((Below.refl w.heap.size w).alloc (Nat.le_refl _) _).trans (hb1.mono (by simp)))
       have HX1 := Lib.hid (HX.out.below hb1 HX.out.lt)
       obtain ⟨y0, y1, y2, y3, y4⟩ := HX1.out.cells
       rw [HC0.out]
       clear hb1 x0 x1 x2 x3 x4)
    | (go_at_call 23
       refine (refFull_any a.tr h _ (HT.out.lower HB1.out)).mono ?_
       rintro _ w2 ⟨rfl, hb2⟩
       have HB2 : Hid (Below w.heap.size w w2) := Lib.hid (HB1.out.trans (hb2.mono HB1.out.size))
       have HX2 := Lib.hid (HX1.out.below hb2 HX1.out.lt)
       obtain ⟨z0, z1, z2, z3, z4⟩ := HX2.out.cells
       rw [HF.out]
       clear hb2 y0 y1 y2 y3 y4)
    | (go_at_call 19
       refine (refList_any a.tr h w2 w2 (HT.out.lower HB2.out) (Below.refl _ _) HFO.out hcn).mono ?_
       rintro _ w3 ⟨v3, hs, rfl, ho3, hh3, hb3⟩
       obtain ⟨la, lc, hv3⟩ := ho3.sl
       rw [hh3.1, HN.out] at hv3
       subst hv3
       have HS3 : Hid (LS w w3 la n lc hs (listT a.tr)) := Lib.hid ⟨ho3.weak HB2.out.size, hh3.lower hb3, HB2.out.trans (hb3.mono HB2.out.size)⟩
       clear ho3 hh3 hb3 z0 z1 z2 z3 z4))
      clear HX HX1 HX2 HB1 HB2 HC0 HC HF HFO HT
      go_wp2_with fail
      go_loopw [5] (fun s5 wx => ∃ i : Nat, i ≤ n ∧ s5 = .int .i64 i ∧ LS w wx la n lc hs (listT a.tr) ∧ (List.range i).all (condL (listT a.tr)) = true) (fun s5 _ => n - (intOf s5).toNat)
      case atStart => exact ⟨0, by omega, rfl, HS3.out, rfl⟩
      case round =>
        clear HS3
        obtain ⟨i, hi, rfl, hls, hall⟩ := hrel
        have HALL := Lib.hid hall
        by_cases hlt : i < n
        · have q1 : (i : Int) < (n : Int) := by omega
          have hhl : hs.length = n := hls.hh.1.trans HN.out
          have him : i < hs.length := by omega
          have him2 : i < (listT a.tr).length := by rw [HN.out]; exact hlt
          obtain ⟨g, hga, -⟩ := hls.o.at hhl i him
          subst hga
          obtain ⟨l, k, v, r, e1, e2, e3, -⟩ := AT.node_at a i him2
          obtain ⟨hsd, hsp⟩ := AT.nodes_in a _ e3
          have hld : l.depth ≤ 64 := by have := HAD.out.1; simp only [AT.depth] at hsd; omega
          have hrd : r.depth ≤ 64 := by have := HAD.out.1; simp only [AT.depth] at hsd; omega
          have HLD : Hid ((formedT l.tr = true ∧ deepT l.tr 64 = false) ∧ (formedT r.tr = true ∧ deepT r.tr 64 = false)) := Lib.hid (by
            have hlim : Lim (AT.node l k v r).pairs := fun p hp => HAD.out.2 p (hsp p hp)
            have q := Lim.node hlim
            refine ⟨⟨(AT.tr_formed l).2 q.1, ?_⟩, ⟨(AT.tr_formed r).2 q.2.2.2, ?_⟩⟩
            · rw [AT.tr_deep l 64 (by omega), decide_eq_false_iff_not]; omega
            · rw [AT.tr_deep r 64 (by omega), decide_eq_false_iff_not]; omega)
          have hq := hls.hh.2 i him him2
          rw [e1] at hq
          obtain ⟨H, hp⟩ := hq.parts
          obtain ⟨g2, off2, hta, -, -⟩ := hp.place (by have h2 : (hs[i]).tn = 2 := hp.len.symm; omega)
          have ht1 : (1 : Int) < ((hs[i]).tn : Int) := by have h2 : (hs[i]).tn = 2 := hp.len.symm; omega
          have ht0 : 0 < (hs[i]).tn := by omega
          have HTA := Lib.hid hta
          have HL : Hid (LN w wr (some ⟨g, 0, none⟩) n lc hs (listT a.tr) (hs[i]) (AT.node l k v r) H) := Lib.hid ⟨hls, hp⟩
          have HE1 := Lib.hid e1
          have HE2 := Lib.hid e2
          have keep12 : ∀ (W : World), LN w W (some ⟨g, 0, none⟩) n lc hs (listT a.tr) (hs[i]) (AT.node l k v r) H → (fun W => W.cell? ⟨g, i * 5 + 4, none⟩ = some (.slice (some ⟨g2, off2, none⟩) (hs[i]).tn (hs[i]).tc) ∧ (W.cell? ⟨g2, off2, none⟩ = some (.int .i64 (H 0).k) ∧ W.cell? ⟨g2, off2 + 1, none⟩ = some (.slice (H 0).ka (H 0).kn (H 0).kc) ∧ W.cell? ⟨g2, off2 + 2, none⟩ = some (.slice (H 0).va (H 0).vn (H 0).vc) ∧ W.cell? ⟨g2, off2 + 3, none⟩ = some (.slice (H 0).da (H 0).dn (H 0).dc) ∧ W.cell? ⟨g2, off2 + 4, none⟩ = some (.slice (H 0).ta (H 0).tn (H 0).tc)) ∧ W.cell? ⟨g2, off2 + 5, none⟩ = some (.int .i64 (H 1).k) ∧ W.cell? ⟨g2, off2 + 5 + 1, none⟩ = some (.slice (H 1).ka (H 1).kn (H 1).kc) ∧ W.cell? ⟨g2, off2 + 5 + 2, none⟩ = some (.slice (H 1).va (H 1).vn (H 1).vc) ∧ W.cell? ⟨g2, off2 + 5 + 3, none⟩ = some (.slice (H 1).da (H 1).dn (H 1).dc) ∧ W.cell? ⟨g2, off2 + 5 + 4, none⟩ = some (.slice (H 1).ta (H 1).tn (H 1).tc)) W := fun W x =>
            ⟨((x.s.cells hhl i him).2.2.2.2).trans (by rw [HTA.out]), x.p.kid0 HTA.out (by omega), x.p.kid1 HTA.out (by omega)⟩
          have KEEP := Lib.hid keep12
          clear keep12 hls hall hq hp hta e1 e2 e3 hsd hsp
          rcases Nat.eq_zero_or_pos i with hz | hpos
          · have hcnd := condL_zero (by rw [← hz]; exact HE2.out)
            rw [← hz] at hcnd
            have HCD := Lib.hid hcnd
            have q2 : ¬ 0 < i := by omega
            clear hcnd hz
            go_upto_region 10 with fail
            refine wp_region_held_drew (S := fun _ => True) (by kernel_rfl) trivial (fun hHeld => ?_)
            refine take_w (i := 0) (oi := ?oZ1) (v := ?vZ1) ?hiZ1 (by kernel_rfl) (by kernel_rfl) (by kernel_rfl) ?hQZ1 ?hwZ1 ?hyZ1 (by assumption) ?restZ1
            case hiZ1 => (simp only [List.getElem?_toArray, List.getElem?_cons_zero] <;> rfl)
            case hQZ1 => exact (fun _ _ _ h => h)
            case hwZ1 => rfl
            case hyZ1 => (intro w hSw; (try dsimp only at hSw); go_simp; try with_reducible rfl)
            (try simp only [Act.put, List.setIfInBounds_toArray, List.set_cons_zero, List.set_cons_succ])
            refine take_w (i := 1) (oi := ?oZ2) (v := ?vZ2) ?hiZ2 (by kernel_rfl) (by kernel_rfl) (by kernel_rfl) ?hQZ2 ?hwZ2 ?hyZ2 (by assumption) ?restZ2
            case hiZ2 => (simp only [List.getElem?_toArray, List.getElem?_cons_succ, List.getElem?_cons_zero] <;> rfl)
            case hQZ2 => exact (fun _ _ _ h => h)
            case hwZ2 => rfl
            case hyZ2 => (intro w hSw; (try dsimp only at hSw); go_simp; try with_reducible rfl)
            (try simp only [Act.put, List.setIfInBounds_toArray, List.set_cons_zero, List.set_cons_succ])
            refine take_w (i := 2) (oi := ?oZ3) (v := ?vZ3) ?hiZ3 (by kernel_rfl) (by kernel_rfl) (by kernel_rfl) ?hQZ3 ?hwZ3 ?hyZ3 (by assumption) ?restZ3
            case hiZ3 => (simp only [List.getElem?_toArray, List.getElem?_cons_succ, List.getElem?_cons_zero] <;> rfl)
            case hQZ3 => exact (fun _ _ _ h => h)
            case hwZ3 => rfl
            case hyZ3 => (intro w hSw; (try dsimp only at hSw); go_simp; try with_reducible rfl)
            (try simp only [Act.put, List.setIfInBounds_toArray, List.set_cons_zero, List.set_cons_succ])
            refine take_u (i := 3) (oi := ?oZ4) ?hiZ4 (by kernel_rfl) (by kernel_rfl) (by kernel_rfl) ?hQZ4 ?hwZ4 (by assumption) ?restZ4
            case hiZ4 => (simp only [List.getElem?_toArray, List.getElem?_cons_succ, List.getElem?_cons_zero] <;> rfl)
            case hQZ4 => exact (fun _ _ _ h => h)
            case hwZ4 => rfl
            (try simp only [Act.put, List.setIfInBounds_toArray, List.set_cons_zero, List.set_cons_succ])
            refine take_u (i := 4) (oi := ?oZ5) ?hiZ5 (by kernel_rfl) (by kernel_rfl) (by kernel_rfl) ?hQZ5 ?hwZ5 (by assumption) ?restZ5
            case hiZ5 => (simp only [List.getElem?_toArray, List.getElem?_cons_succ, List.getElem?_cons_zero] <;> rfl)
            case hQZ5 => exact (fun _ _ _ h => h)
            case hwZ5 => rfl
            (try simp only [Act.put, List.setIfInBounds_toArray, List.set_cons_zero, List.set_cons_succ])
            refine take_u (i := 5) (oi := ?oZ6) ?hiZ6 (by kernel_rfl) (by kernel_rfl) (by kernel_rfl) ?hQZ6 ?hwZ6 (by assumption) ?restZ6
            case hiZ6 => (simp only [List.getElem?_toArray, List.getElem?_cons_succ, List.getElem?_cons_zero] <;> rfl)
            case hQZ6 => exact (fun _ _ _ h => h)
            case hwZ6 => rfl
            (try simp only [Act.put, List.setIfInBounds_toArray, List.set_cons_zero, List.set_cons_succ])
            refine take_u (i := 6) (oi := ?oZ7) ?hiZ7 (by kernel_rfl) (by kernel_rfl) (by kernel_rfl) ?hQZ7 ?hwZ7 (by assumption) ?restZ7
            case hiZ7 => (simp only [List.getElem?_toArray, List.getElem?_cons_succ, List.getElem?_cons_zero] <;> rfl)
            case hQZ7 => exact (fun _ _ _ h => h)
            case hwZ7 => rfl
            (try simp only [Act.put, List.setIfInBounds_toArray, List.set_cons_zero, List.set_cons_succ])
            refine take_u (i := 7) (oi := ?oZ8) ?hiZ8 (by kernel_rfl) (by kernel_rfl) (by kernel_rfl) ?hQZ8 ?hwZ8 (by assumption) ?restZ8
            case hiZ8 => (simp only [List.getElem?_toArray, List.getElem?_cons_succ, List.getElem?_cons_zero] <;> rfl)
            case hQZ8 => exact (fun _ _ _ h => h)
            case hwZ8 => rfl
            (try simp only [Act.put, List.setIfInBounds_toArray, List.set_cons_zero, List.set_cons_succ])
            refine take_u (i := 8) (oi := ?oZ9) ?hiZ9 (by kernel_rfl) (by kernel_rfl) (by kernel_rfl) ?hQZ9 ?hwZ9 (by assumption) ?restZ9
            case hiZ9 => (simp only [List.getElem?_toArray, List.getElem?_cons_succ, List.getElem?_cons_zero] <;> rfl)
            case hQZ9 => exact (fun _ _ _ h => h)
            case hwZ9 => rfl
            (try simp only [Act.put, List.setIfInBounds_toArray, List.set_cons_zero, List.set_cons_succ])
            refine take_u (i := 9) (oi := ?oZ10) ?hiZ10 (by kernel_rfl) (by kernel_rfl) (by kernel_rfl) ?hQZ10 ?hwZ10 (by assumption) ?restZ10
            case hiZ10 => (simp only [List.getElem?_toArray, List.getElem?_cons_succ, List.getElem?_cons_zero] <;> rfl)
            case hQZ10 => exact (fun _ _ _ h => h)
            case hwZ10 => rfl
            (try simp only [Act.put, List.setIfInBounds_toArray, List.set_cons_zero, List.set_cons_succ])
            refine take_u (i := 10) (oi := ?oZ11) ?hiZ11 (by kernel_rfl) (by kernel_rfl) (by kernel_rfl) ?hQZ11 ?hwZ11 (by assumption) ?restZ11
            case hiZ11 => (simp only [List.getElem?_toArray, List.getElem?_cons_succ, List.getElem?_cons_zero] <;> rfl)
            case hQZ11 => exact (fun _ _ _ h => h)
            case hwZ11 => rfl
            (try simp only [Act.put, List.setIfInBounds_toArray, List.set_cons_zero, List.set_cons_succ])
            refine take_u (i := 11) (oi := ?oZ12) ?hiZ12 (by kernel_rfl) (by kernel_rfl) (by kernel_rfl) ?hQZ12 ?hwZ12 (by assumption) ?restZ12
            case hiZ12 => (simp only [List.getElem?_toArray, List.getElem?_cons_succ, List.getElem?_cons_zero] <;> rfl)
            case hQZ12 => exact (fun _ _ _ h => h)
            case hwZ12 => rfl
            (try simp only [Act.put, List.setIfInBounds_toArray, List.set_cons_zero, List.set_cons_succ])
            refine take_u (i := 12) (oi := ?oZ13) ?hiZ13 (by kernel_rfl) (by kernel_rfl) (by kernel_rfl) ?hQZ13 ?hwZ13 (by assumption) ?restZ13
            case hiZ13 => (simp only [List.getElem?_toArray, List.getElem?_cons_succ, List.getElem?_cons_zero] <;> rfl)
            case hQZ13 => exact (fun _ _ _ h => h)
            case hwZ13 => rfl
            (try simp only [Act.put, List.setIfInBounds_toArray, List.set_cons_zero, List.set_cons_succ])
            refine take_u (i := 13) (oi := ?oZ14) ?hiZ14 (by kernel_rfl) (by kernel_rfl) (by kernel_rfl) ?hQZ14 ?hwZ14 (by assumption) ?restZ14
            case hiZ14 => (simp only [List.getElem?_toArray, List.getElem?_cons_succ, List.getElem?_cons_zero] <;> rfl)
            case hQZ14 => exact (fun _ _ _ h => h)
            case hwZ14 => rfl
            (try simp only [Act.put, List.setIfInBounds_toArray, List.set_cons_zero, List.set_cons_succ])
            refine take_u (i := 14) (oi := ?oZ15) ?hiZ15 (by kernel_rfl) (by kernel_rfl) (by kernel_rfl) ?hQZ15 ?hwZ15 (by assumption) ?restZ15
            case hiZ15 => (simp only [List.getElem?_toArray, List.getElem?_cons_succ, List.getElem?_cons_zero] <;> rfl)
            case hQZ15 => exact (fun _ _ _ h => h)
            case hwZ15 => rfl
            (try simp only [Act.put, List.setIfInBounds_toArray, List.set_cons_zero, List.set_cons_succ])
            refine take_u (i := 15) (oi := ?oZ16) ?hiZ16 (by kernel_rfl) (by kernel_rfl) (by kernel_rfl) ?hQZ16 ?hwZ16 (by assumption) ?restZ16
            case hiZ16 => (simp only [List.getElem?_toArray, List.getElem?_cons_succ, List.getElem?_cons_zero] <;> rfl)
            case hQZ16 => exact (fun _ _ _ h => h)
            case hwZ16 => rfl
            (try simp only [Act.put, List.setIfInBounds_toArray, List.set_cons_zero, List.set_cons_succ])
            refine take_u (i := 16) (oi := ?oZ17) ?hiZ17 (by kernel_rfl) (by kernel_rfl) (by kernel_rfl) ?hQZ17 ?hwZ17 (by assumption) ?restZ17
            case hiZ17 => (simp only [List.getElem?_toArray, List.getElem?_cons_succ, List.getElem?_cons_zero] <;> rfl)
            case hQZ17 => exact (fun _ _ _ h => h)
            case hwZ17 => rfl
            (try simp only [Act.put, List.setIfInBounds_toArray, List.set_cons_zero, List.set_cons_succ])
            refine take_w (i := 17) (oi := ?oZ18) (v := ?vZ18) ?hiZ18 (by kernel_rfl) (by kernel_rfl) (by kernel_rfl) ?hQZ18 ?hwZ18 ?hyZ18 (by assumption) ?restZ18
            case hiZ18 => (simp only [List.getElem?_toArray, List.getElem?_cons_succ, List.getElem?_cons_zero] <;> rfl)
            case hQZ18 => exact (fun _ _ _ h => h)
            case hwZ18 => rfl
            case hyZ18 => (intro w hSw; (try dsimp only at hSw); go_simp; try with_reducible rfl)
            (try simp only [Act.put, List.setIfInBounds_toArray, List.set_cons_zero, List.set_cons_succ])
            refine wpAnyH_done (by kernel_rfl) ?_ _
            clear hHeld
            go_upto_region 12 with fail
            refine wp_region_held_drew (S := (fun W => W.cell? ⟨g, i * 5 + 4, none⟩ = some (.slice (some ⟨g2, off2, none⟩) (hs[i]).tn (hs[i]).tc) ∧ (W.cell? ⟨g2, off2, none⟩ = some (.int .i64 (H 0).k) ∧ W.cell? ⟨g2, off2 + 1, none⟩ = some (.slice (H 0).ka (H 0).kn (H 0).kc) ∧ W.cell? ⟨g2, off2 + 2, none⟩ = some (.slice (H 0).va (H 0).vn (H 0).vc) ∧ W.cell? ⟨g2, off2 + 3, none⟩ = some (.slice (H 0).da (H 0).dn (H 0).dc) ∧ W.cell? ⟨g2, off2 + 4, none⟩ = some (.slice (H 0).ta (H 0).tn (H 0).tc)) ∧ W.cell? ⟨g2, off2 + 5, none⟩ = some (.int .i64 (H 1).k) ∧ W.cell? ⟨g2, off2 + 5 + 1, none⟩ = some (.slice (H 1).ka (H 1).kn (H 1).kc) ∧ W.cell? ⟨g2, off2 + 5 + 2, none⟩ = some (.slice (H 1).va (H 1).vn (H 1).vc) ∧ W.cell? ⟨g2, off2 + 5 + 3, none⟩ = some (.slice (H 1).da (H 1).dn (H 1).dc) ∧ W.cell? ⟨g2, off2 + 5 + 4, none⟩ = some (.slice (H 1).ta (H 1).tn (H 1).tc))) (by kernel_rfl) (KEEP.out _ HL.out.drew.drew) (fun hHeld => ?_)
            refine take_w (i := 0) (oi := ?oZ55) (v := ?vZ55) ?hiZ55 (by kernel_rfl) (by kernel_rfl) (by kernel_rfl) ?hQZ55 ?hwZ55 ?hyZ55 (by assumption) ?restZ55
            case hiZ55 => (simp only [List.getElem?_toArray, List.getElem?_cons_zero] <;> rfl)
            case hQZ55 => exact (fun _ _ _ h => h)
            case hwZ55 => rfl
            case hyZ55 => (intro w hSw; (try dsimp only at hSw); go_simp; try with_reducible rfl)
            (try simp only [Act.put, List.setIfInBounds_toArray, List.set_cons_zero, List.set_cons_succ])
            refine take_w (i := 1) (oi := ?oZ56) (v := ?vZ56) ?hiZ56 (by kernel_rfl) (by kernel_rfl) (by kernel_rfl) ?hQZ56 ?hwZ56 ?hyZ56 (by assumption) ?restZ56
            case hiZ56 => (simp only [List.getElem?_toArray, List.getElem?_cons_succ, List.getElem?_cons_zero] <;> rfl)
            case hQZ56 => exact (fun _ _ _ h => h)
            case hwZ56 => rfl
            case hyZ56 => (intro w hSw; (try dsimp only at hSw); go_simp; try with_reducible rfl)
            (try simp only [Act.put, List.setIfInBounds_toArray, List.set_cons_zero, List.set_cons_succ])
            refine take_w (i := 2) (oi := ?oZ57) (v := ?vZ57) ?hiZ57 (by kernel_rfl) (by kernel_rfl) (by kernel_rfl) ?hQZ57 ?hwZ57 ?hyZ57 (by assumption) ?restZ57
            case hiZ57 => (simp only [List.getElem?_toArray, List.getElem?_cons_succ, List.getElem?_cons_zero] <;> rfl)
            case hQZ57 => exact (fun _ _ _ h => h)
            case hwZ57 => rfl
            case hyZ57 => (intro w hSw; (try dsimp only at hSw); go_simp; try with_reducible rfl)
            (try simp only [Act.put, List.setIfInBounds_toArray, List.set_cons_zero, List.set_cons_succ])
            refine take_w (i := 3) (oi := ?oZ58) (v := ?vZ58) ?hiZ58 (by kernel_rfl) (by kernel_rfl) (by kernel_rfl) ?hQZ58 ?hwZ58 ?hyZ58 (by assumption) ?restZ58
            case hiZ58 => (simp only [List.getElem?_toArray, List.getElem?_cons_succ, List.getElem?_cons_zero] <;> rfl)
            case hQZ58 => exact (fun _ _ _ h => h)
            case hwZ58 => rfl
            case hyZ58 => (intro w hSw; (try dsimp only at hSw); go_simp; try with_reducible rfl)
            (try simp only [Act.put, List.setIfInBounds_toArray, List.set_cons_zero, List.set_cons_succ])
            refine take_w (i := 4) (oi := ?oZ59) (v := ?vZ59) ?hiZ59 (by kernel_rfl) (by kernel_rfl) (by kernel_rfl) ?hQZ59 ?hwZ59 ?hyZ59 (by assumption) ?restZ59
            case hiZ59 => (simp only [List.getElem?_toArray, List.getElem?_cons_succ, List.getElem?_cons_zero] <;> rfl)
            case hQZ59 => exact (fun _ _ _ h => h)
            case hwZ59 => rfl
            case hyZ59 => (intro w hSw; (try dsimp only at hSw); go_simp; try with_reducible rfl)
            (try simp only [Act.put, List.setIfInBounds_toArray, List.set_cons_zero, List.set_cons_succ])
            refine take_w (i := 5) (oi := ?oZ60) (v := ?vZ60) ?hiZ60 (by kernel_rfl) (by kernel_rfl) (by kernel_rfl) ?hQZ60 ?hwZ60 ?hyZ60 (by assumption) ?restZ60
            case hiZ60 => (simp only [List.getElem?_toArray, List.getElem?_cons_succ, List.getElem?_cons_zero] <;> rfl)
            case hQZ60 => exact (fun _ _ _ h => h)
            case hwZ60 => rfl
            case hyZ60 => (intro w hSw; (try dsimp only at hSw); go_simp; try with_reducible rfl)
            (try simp only [Act.put, List.setIfInBounds_toArray, List.set_cons_zero, List.set_cons_succ])
            refine take_w (i := 6) (oi := ?oZ61) (v := ?vZ61) ?hiZ61 (by kernel_rfl) (by kernel_rfl) (by kernel_rfl) ?hQZ61 ?hwZ61 ?hyZ61 (by assumption) ?restZ61
            case hiZ61 => (simp only [List.getElem?_toArray, List.getElem?_cons_succ, List.getElem?_cons_zero] <;> rfl)
            case hQZ61 => exact (fun _ _ _ h => h)
            case hwZ61 => rfl
            case hyZ61 => (intro w hSw; (try dsimp only at hSw); go_simp; try with_reducible rfl)
            (try simp only [Act.put, List.setIfInBounds_toArray, List.set_cons_zero, List.set_cons_succ])
            refine take_w (i := 8) (oi := ?oZ62) (v := ?vZ62) ?hiZ62 (by kernel_rfl) (by kernel_rfl) (by kernel_rfl) ?hQZ62 ?hwZ62 ?hyZ62 (by assumption) ?restZ62
            case hiZ62 => (simp only [List.getElem?_toArray, List.getElem?_cons_succ, List.getElem?_cons_zero] <;> rfl)
            case hQZ62 => exact (fun _ _ _ h => h)
            case hwZ62 => rfl
            case hyZ62 => (intro w hSw; (try dsimp only at hSw); go_simp; try with_reducible rfl)
            (try simp only [Act.put, List.setIfInBounds_toArray, List.set_cons_zero, List.set_cons_succ])
            refine take_w (i := 9) (oi := ?oZ63) (v := ?vZ63) ?hiZ63 (by kernel_rfl) (by kernel_rfl) (by kernel_rfl) ?hQZ63 ?hwZ63 ?hyZ63 (by assumption) ?restZ63
            case hiZ63 => (simp only [List.getElem?_toArray, List.getElem?_cons_succ, List.getElem?_cons_zero] <;> rfl)
            case hQZ63 => exact (fun _ _ _ h => h)
            case hwZ63 => rfl
            case hyZ63 => (intro w hSw; (try dsimp only at hSw); go_simp; try with_reducible rfl)
            (try simp only [Act.put, List.setIfInBounds_toArray, List.set_cons_zero, List.set_cons_succ])
            refine take_w (i := 10) (oi := ?oZ64) (v := ?vZ64) ?hiZ64 (by kernel_rfl) (by kernel_rfl) (by kernel_rfl) ?hQZ64 ?hwZ64 ?hyZ64 (by assumption) ?restZ64
            case hiZ64 => (simp only [List.getElem?_toArray, List.getElem?_cons_succ, List.getElem?_cons_zero] <;> rfl)
            case hQZ64 => exact (fun _ _ _ h => h)
            case hwZ64 => rfl
            case hyZ64 => (intro w hSw; (try dsimp only at hSw); go_simp; try with_reducible rfl)
            (try simp only [Act.put, List.setIfInBounds_toArray, List.set_cons_zero, List.set_cons_succ])
            refine take_w (i := 11) (oi := ?oZ65) (v := ?vZ65) ?hiZ65 (by kernel_rfl) (by kernel_rfl) (by kernel_rfl) ?hQZ65 ?hwZ65 ?hyZ65 (by assumption) ?restZ65
            case hiZ65 => (simp only [List.getElem?_toArray, List.getElem?_cons_succ, List.getElem?_cons_zero] <;> rfl)
            case hQZ65 => exact (fun _ _ _ h => h)
            case hwZ65 => rfl
            case hyZ65 => (intro w hSw; (try dsimp only at hSw); go_simp; try with_reducible rfl)
            (try simp only [Act.put, List.setIfInBounds_toArray, List.set_cons_zero, List.set_cons_succ])
            refine take_w (i := 12) (oi := ?oZ66) (v := ?vZ66) ?hiZ66 (by kernel_rfl) (by kernel_rfl) (by kernel_rfl) ?hQZ66 ?hwZ66 ?hyZ66 (by assumption) ?restZ66
            case hiZ66 => (simp only [List.getElem?_toArray, List.getElem?_cons_succ, List.getElem?_cons_zero] <;> rfl)
            case hQZ66 => exact (fun _ _ _ h => h)
            case hwZ66 => rfl
            case hyZ66 => (intro w hSw; (try dsimp only at hSw); go_simp; try with_reducible rfl)
            (try simp only [Act.put, List.setIfInBounds_toArray, List.set_cons_zero, List.set_cons_succ])
            refine take_w (i := 13) (oi := ?oZ67) (v := ?vZ67) ?hiZ67 (by kernel_rfl) (by kernel_rfl) (by kernel_rfl) ?hQZ67 ?hwZ67 ?hyZ67 (by assumption) ?restZ67
            case hiZ67 => (simp only [List.getElem?_toArray, List.getElem?_cons_succ, List.getElem?_cons_zero] <;> rfl)
            case hQZ67 => exact (fun _ _ _ h => h)
            case hwZ67 => rfl
            case hyZ67 => (intro w hSw; (try dsimp only at hSw); go_simp; try with_reducible rfl)
            (try simp only [Act.put, List.setIfInBounds_toArray, List.set_cons_zero, List.set_cons_succ])
            refine take_w (i := 14) (oi := ?oZ68) (v := ?vZ68) ?hiZ68 (by kernel_rfl) (by kernel_rfl) (by kernel_rfl) ?hQZ68 ?hwZ68 ?hyZ68 (by assumption) ?restZ68
            case hiZ68 => (simp only [List.getElem?_toArray, List.getElem?_cons_succ, List.getElem?_cons_zero] <;> rfl)
            case hQZ68 => exact (fun _ _ _ h => h)
            case hwZ68 => rfl
            case hyZ68 => (intro w hSw; (try dsimp only at hSw); go_simp; try with_reducible rfl)
            (try simp only [Act.put, List.setIfInBounds_toArray, List.set_cons_zero, List.set_cons_succ])
            refine wpAnyH_ready (rs := [7]) (by kernel_rfl) (by simp) ?_
            refine AllReadyH.cons (o := ?oZ69) ?hiZ69 (fun K hK => ?stZ69) AllReadyH.nil
            case hiZ69 => (simp only [List.getElem?_toArray, List.getElem?_cons_succ, List.getElem?_cons_zero] <;> rfl)
            go_simp
            go_at_call 24
            refine (refDepth_any l.tr (H 0) 64 _ (HL.out.drew.drew.p.kids 0 (by rw [AT.tr_kids]; simp)) ?_ ?_ (by omega) (by omega)).mono ?_
            · exact HLD.out.1.1
            · exact HLD.out.1.2
            rintro _ w5 ⟨rfl, hb5⟩
            have HL5 := Lib.hid (HL.out.drew.drew.below hb5)
            rw [AT.tr_depth]
            clear hb5
            go_simp
            refine hK.out _ _ ?_ (fun hHeld => ?_)
            · (first | exact KEEP.out _ HL6.out | exact KEEP.out _ HL5.out | exact KEEP.out _ HL.out.drew.drew)
            clear hK K
            (try simp only [Act.put, List.setIfInBounds_toArray, List.set_cons_zero, List.set_cons_succ])
            refine wpAnyH_ready (rs := [15]) (by kernel_rfl) (by simp) ?_
            refine AllReadyH.cons (o := ?oZ70) ?hiZ70 (fun K hK => ?stZ70) AllReadyH.nil
            case hiZ70 => (simp only [List.getElem?_toArray, List.getElem?_cons_succ, List.getElem?_cons_zero] <;> rfl)
            go_simp
            go_at_call 24
            refine (refDepth_any r.tr (H 1) 64 _ (HL5.out.p.kids 1 (by rw [AT.tr_kids]; simp)) ?_ ?_ (by omega) (by omega)).mono ?_
            · exact HLD.out.2.1
            · exact HLD.out.2.2
            rintro _ w6 ⟨rfl, hb6⟩
            have HL6 := Lib.hid (HL5.out.below hb6)
            rw [AT.tr_depth]
            clear hb6
            go_simp
            refine hK.out _ _ ?_ (fun hHeld => ?_)
            · (first | exact KEEP.out _ HL6.out | exact KEEP.out _ HL5.out | exact KEEP.out _ HL.out.drew.drew)
            clear hK K
            (try simp only [Act.put, List.setIfInBounds_toArray, List.set_cons_zero, List.set_cons_succ])
            refine take_w (i := 16) (oi := ?oZ71) (v := ?vZ71) ?hiZ71 (by kernel_rfl) (by kernel_rfl) (by kernel_rfl) ?hQZ71 ?hwZ71 ?hyZ71 (by assumption) ?restZ71
            case hiZ71 => (simp only [List.getElem?_toArray, List.getElem?_cons_succ, List.getElem?_cons_zero] <;> rfl)
            case hQZ71 => exact (fun _ _ _ h => h)
            case hwZ71 => rfl
            case hyZ71 => (intro w hSw; (try dsimp only at hSw); go_simp; try with_reducible rfl)
            (try simp only [Act.put, List.setIfInBounds_toArray, List.set_cons_zero, List.set_cons_succ])
            refine take_w (i := 17) (oi := ?oZ72) (v := ?vZ72) ?hiZ72 (by kernel_rfl) (by kernel_rfl) (by kernel_rfl) ?hQZ72 ?hwZ72 ?hyZ72 (by assumption) ?restZ72
            case hiZ72 => (simp only [List.getElem?_toArray, List.getElem?_cons_succ, List.getElem?_cons_zero] <;> rfl)
            case hQZ72 => exact (fun _ _ _ h => h)
            case hwZ72 => rfl
            case hyZ72 => (intro w hSw; (try dsimp only at hSw); go_simp; try with_reducible rfl)
            (try simp only [Act.put, List.setIfInBounds_toArray, List.set_cons_zero, List.set_cons_succ])
            refine wpAnyH_done (by kernel_rfl) ?_ _
            clear hHeld
            by_cases c1 : (1 : Int) < (l.depth : Int) - (r.depth : Int)
            · have d1 : decide ((l.depth : Int) - (r.depth : Int) ≤ 1) = false := decide_eq_false (by omega)
              have HD1 := Lib.hid d1
              clear d1
              go_wp2_with fail
              go_ret
              refine ⟨?_, HL6.out.s.b⟩
              rw [HE.out, levelB_no him2 (by rw [HCD.out, HD1.out]; rfl)]
              rfl
            · by_cases c2 : (l.depth : Int) - (r.depth : Int) < -1
              · have d1 : decide (-1 ≤ (l.depth : Int) - (r.depth : Int)) = false := decide_eq_false (by omega)
                have HD1 := Lib.hid (And.intro d1 (decide_eq_true (show (l.depth : Int) - (r.depth : Int) ≤ 1 by omega)))
                clear d1
                go_wp2_with fail
                go_ret
                refine ⟨?_, HL6.out.s.b⟩
                rw [HE.out, levelB_no him2 (by rw [HCD.out, HD1.out.2, HD1.out.1]; rfl)]
                rfl
              · have d1 : decide ((l.depth : Int) - (r.depth : Int) ≤ 1) = true := decide_eq_true (by omega)
                have d2 : decide (-1 ≤ (l.depth : Int) - (r.depth : Int)) = true := decide_eq_true (by omega)
                have HD1 := Lib.hid (all_step HALL.out (by rw [HCD.out, d1, d2]; rfl))
                clear d1 d2
                go_wp2_with fail
                exact ⟨⟨i + 1, by omega, by go_num, HL6.out.s, HD1.out⟩, by simp [intOf]; omega⟩
          · obtain ⟨j, hj⟩ : ∃ j, i = j + 1 := ⟨i - 1, by omega⟩
            have hjm : j < hs.length := by omega
            have hjm2 : j < (listT a.tr).length := by omega
            obtain ⟨l', k', v', r', e1', e2', -, -⟩ := AT.node_at a j hjm2
            have hcnd := condL_succ (by rw [← hj]; exact HE2.out) e2'
            rw [← hj] at hcnd
            have HCD := Lib.hid hcnd
            have hjj : (i : Int) - 1 = (j : Int) := by omega
            have q2 : 0 < i := by omega
            have hjn : (j : Int) < (n : Int) := by omega
            have hwj : IntKind.i64.wrap (j : Int) = (j : Int) := by rw [IntKind.wrap_i64]; omega
            have hkb := (HL.out.s.key i him him2 HE1.out).1
            have hkb' := (HL.out.s.key j hjm hjm2 e1').1
            have hlx : Op.bytesLess (strOfNums k').toList (strOfNums k).toList = ltL k' k := str_lt hkb'.bytes hkb.bytes
            have HS10 : Hid ((fun W => W.cell? ⟨g, j * 5 + 1, none⟩ = some (.slice (hs[j]).ka (hs[j]).kn (hs[j]).kc) ∧ W.cell? ⟨g, i * 5 + 1, none⟩ = some (.slice (hs[i]).ka (hs[i]).kn (hs[i]).kc) ∧ (convert 22 9 (.slice (hs[j]).ka (hs[j]).kn (hs[j]).kc)).run Tryd.prog W = .ok (.string (strOfNums k')) W ∧ (convert 22 9 (.slice (hs[i]).ka (hs[i]).kn (hs[i]).kc)).run Tryd.prog W = .ok (.string (strOfNums k)) W) wr.drew) := Lib.hid ⟨(HL.out.drew.s.cells hhl j hjm).2.1, (HL.out.drew.s.cells hhl i him).2.1, conv_key (HL.out.drew.s.key j hjm hjm2 e1').1, conv_key (HL.out.drew.s.key i him him2 HE1.out).1⟩
            clear hcnd hkb hkb' e1' e2' hj hpos
            cases hcl : ltL k' k with
            | false =>
              have HCL := Lib.hid hcl
              rw [hcl] at hlx
              clear hcl
              go_upto_region 10 with fail
              refine wp_region_held_drew (S := (fun W => W.cell? ⟨g, j * 5 + 1, none⟩ = some (.slice (hs[j]).ka (hs[j]).kn (hs[j]).kc) ∧ W.cell? ⟨g, i * 5 + 1, none⟩ = some (.slice (hs[i]).ka (hs[i]).kn (hs[i]).kc) ∧ (convert 22 9 (.slice (hs[j]).ka (hs[j]).kn (hs[j]).kc)).run Tryd.prog W = .ok (.string (strOfNums k')) W ∧ (convert 22 9 (.slice (hs[i]).ka (hs[i]).kn (hs[i]).kc)).run Tryd.prog W = .ok (.string (strOfNums k)) W)) (by kernel_rfl) HS10.out (fun hHeld => ?_)
              refine take_w (i := 0) (oi := ?oZ19) (v := ?vZ19) ?hiZ19 (by kernel_rfl) (by kernel_rfl) (by kernel_rfl) ?hQZ19 ?hwZ19 ?hyZ19 (by assumption) ?restZ19
              case hiZ19 => (simp only [List.getElem?_toArray, List.getElem?_cons_zero] <;> rfl)
              case hQZ19 => exact (fun _ _ _ h => h)
              case hwZ19 => rfl
              case hyZ19 => (intro w hSw; (try dsimp only at hSw); go_simp; try with_reducible rfl)
              (try simp only [Act.put, List.setIfInBounds_toArray, List.set_cons_zero, List.set_cons_succ])
              refine take_w (i := 1) (oi := ?oZ20) (v := ?vZ20) ?hiZ20 (by kernel_rfl) (by kernel_rfl) (by kernel_rfl) ?hQZ20 ?hwZ20 ?hyZ20 (by assumption) ?restZ20
              case hiZ20 => (simp only [List.getElem?_toArray, List.getElem?_cons_succ, List.getElem?_cons_zero] <;> rfl)
              case hQZ20 => exact (fun _ _ _ h => h)
              case hwZ20 => rfl
              case hyZ20 => (intro w hSw; (try dsimp only at hSw); go_simp; try with_reducible rfl)
              (try simp only [Act.put, List.setIfInBounds_toArray, List.set_cons_zero, List.set_cons_succ])
              refine take_w (i := 2) (oi := ?oZ21) (v := ?vZ21) ?hiZ21 (by kernel_rfl) (by kernel_rfl) (by kernel_rfl) ?hQZ21 ?hwZ21 ?hyZ21 (by assumption) ?restZ21
              case hiZ21 => (simp only [List.getElem?_toArray, List.getElem?_cons_succ, List.getElem?_cons_zero] <;> rfl)
              case hQZ21 => exact (fun _ _ _ h => h)
              case hwZ21 => rfl
              case hyZ21 => (intro w hSw; (try dsimp only at hSw); go_simp; try with_reducible rfl)
              (try simp only [Act.put, List.setIfInBounds_toArray, List.set_cons_zero, List.set_cons_succ])
              refine take_w (i := 3) (oi := ?oZ22) (v := ?vZ22) ?hiZ22 (by kernel_rfl) (by kernel_rfl) (by kernel_rfl) ?hQZ22 ?hwZ22 ?hyZ22 (by assumption) ?restZ22
              case hiZ22 => (simp only [List.getElem?_toArray, List.getElem?_cons_succ, List.getElem?_cons_zero] <;> rfl)
              case hQZ22 => exact (fun _ _ _ h => h)
              case hwZ22 => rfl
              case hyZ22 => (intro w hSw; (try dsimp only at hSw); go_simp; try with_reducible rfl)
              (try simp only [Act.put, List.setIfInBounds_toArray, List.set_cons_zero, List.set_cons_succ])
              refine take_w (i := 4) (oi := ?oZ23) (v := ?vZ23) ?hiZ23 (by kernel_rfl) (by kernel_rfl) (by kernel_rfl) ?hQZ23 ?hwZ23 ?hyZ23 (by assumption) ?restZ23
              case hiZ23 => (simp only [List.getElem?_toArray, List.getElem?_cons_succ, List.getElem?_cons_zero] <;> rfl)
              case hQZ23 => exact (fun _ _ _ h => h)
              case hwZ23 => rfl
              case hyZ23 => (intro w hSw; (try dsimp only at hSw); go_simp; try with_reducible rfl)
              (try simp only [Act.put, List.setIfInBounds_toArray, List.set_cons_zero, List.set_cons_succ])
              refine take_w (i := 5) (oi := ?oZ24) (v := ?vZ24) ?hiZ24 (by kernel_rfl) (by kernel_rfl) (by kernel_rfl) ?hQZ24 ?hwZ24 ?hyZ24 (by assumption) ?restZ24
              case hiZ24 => (simp only [List.getElem?_toArray, List.getElem?_cons_succ, List.getElem?_cons_zero] <;> rfl)
              case hQZ24 => exact (fun _ _ _ h => h)
              case hwZ24 => rfl
              case hyZ24 => (intro w hSw; (try dsimp only at hSw); go_simp; try with_reducible rfl)
              (try simp only [Act.put, List.setIfInBounds_toArray, List.set_cons_zero, List.set_cons_succ])
              refine take_w (i := 6) (oi := ?oZ25) (v := ?vZ25) ?hiZ25 (by kernel_rfl) (by kernel_rfl) (by kernel_rfl) ?hQZ25 ?hwZ25 ?hyZ25 (by assumption) ?restZ25
              case hiZ25 => (simp only [List.getElem?_toArray, List.getElem?_cons_succ, List.getElem?_cons_zero] <;> rfl)
              case hQZ25 => exact (fun _ _ _ h => h)
              case hwZ25 => rfl
              case hyZ25 => (intro w hSw; (try dsimp only at hSw); go_simp; try with_reducible rfl)
              (try simp only [Act.put, List.setIfInBounds_toArray, List.set_cons_zero, List.set_cons_succ])
              refine take_w (i := 7) (oi := ?oZ26) (v := ?vZ26) ?hiZ26 (by kernel_rfl) (by kernel_rfl) (by kernel_rfl) ?hQZ26 ?hwZ26 ?hyZ26 (by assumption) ?restZ26
              case hiZ26 => (simp only [List.getElem?_toArray, List.getElem?_cons_succ, List.getElem?_cons_zero] <;> rfl)
              case hQZ26 => exact (fun _ _ _ h => h)
              case hwZ26 => rfl
              case hyZ26 => (intro w hSw; (try dsimp only at hSw); go_simp; try with_reducible rfl)
              (try simp only [Act.put, List.setIfInBounds_toArray, List.set_cons_zero, List.set_cons_succ])
              refine take_w (i := 8) (oi := ?oZ27) (v := ?vZ27) ?hiZ27 (by kernel_rfl) (by kernel_rfl) (by kernel_rfl) ?hQZ27 ?hwZ27 ?hyZ27 (by assumption) ?restZ27
              case hiZ27 => (simp only [List.getElem?_toArray, List.getElem?_cons_succ, List.getElem?_cons_zero] <;> rfl)
              case hQZ27 => exact (fun _ _ _ h => h)
              case hwZ27 => rfl
              case hyZ27 => (intro w hSw; (try dsimp only at hSw); go_simp; try with_reducible rfl)
              (try simp only [Act.put, List.setIfInBounds_toArray, List.set_cons_zero, List.set_cons_succ])
              refine take_w (i := 9) (oi := ?oZ28) (v := ?vZ28) ?hiZ28 (by kernel_rfl) (by kernel_rfl) (by kernel_rfl) ?hQZ28 ?hwZ28 ?hyZ28 (by assumption) ?restZ28
              case hiZ28 => (simp only [List.getElem?_toArray, List.getElem?_cons_succ, List.getElem?_cons_zero] <;> rfl)
              case hQZ28 => exact (fun _ _ _ h => h)
              case hwZ28 => rfl
              case hyZ28 => (intro w hSw; (try dsimp only at hSw); go_simp; try with_reducible rfl)
              (try simp only [Act.put, List.setIfInBounds_toArray, List.set_cons_zero, List.set_cons_succ])
              refine take_w (i := 10) (oi := ?oZ29) (v := ?vZ29) ?hiZ29 (by kernel_rfl) (by kernel_rfl) (by kernel_rfl) ?hQZ29 ?hwZ29 ?hyZ29 (by assumption) ?restZ29
              case hiZ29 => (simp only [List.getElem?_toArray, List.getElem?_cons_succ, List.getElem?_cons_zero] <;> rfl)
              case hQZ29 => exact (fun _ _ _ h => h)
              case hwZ29 => rfl
              case hyZ29 => (intro w hSw; (try dsimp only at hSw); go_simp; try with_reducible rfl)
              (try simp only [Act.put, List.setIfInBounds_toArray, List.set_cons_zero, List.set_cons_succ])
              refine take_w (i := 11) (oi := ?oZ30) (v := ?vZ30) ?hiZ30 (by kernel_rfl) (by kernel_rfl) (by kernel_rfl) ?hQZ30 ?hwZ30 ?hyZ30 (by assumption) ?restZ30
              case hiZ30 => (simp only [List.getElem?_toArray, List.getElem?_cons_succ, List.getElem?_cons_zero] <;> rfl)
              case hQZ30 => exact (fun _ _ _ h => h)
              case hwZ30 => rfl
              case hyZ30 => (intro w hSw; (try dsimp only at hSw); go_simp; try with_reducible rfl)
              (try simp only [Act.put, List.setIfInBounds_toArray, List.set_cons_zero, List.set_cons_succ])
              refine take_w (i := 12) (oi := ?oZ31) (v := ?vZ31) ?hiZ31 (by kernel_rfl) (by kernel_rfl) (by kernel_rfl) ?hQZ31 ?hwZ31 ?hyZ31 (by assumption) ?restZ31
              case hiZ31 => (simp only [List.getElem?_toArray, List.getElem?_cons_succ, List.getElem?_cons_zero] <;> rfl)
              case hQZ31 => exact (fun _ _ _ h => h)
              case hwZ31 => rfl
              case hyZ31 => (intro w hSw; (try dsimp only at hSw); go_simp; try with_reducible rfl)
              (try simp only [Act.put, List.setIfInBounds_toArray, List.set_cons_zero, List.set_cons_succ])
              refine take_w (i := 13) (oi := ?oZ32) (v := ?vZ32) ?hiZ32 (by kernel_rfl) (by kernel_rfl) (by kernel_rfl) ?hQZ32 ?hwZ32 ?hyZ32 (by assumption) ?restZ32
              case hiZ32 => (simp only [List.getElem?_toArray, List.getElem?_cons_succ, List.getElem?_cons_zero] <;> rfl)
              case hQZ32 => exact (fun _ _ _ h => h)
              case hwZ32 => rfl
              case hyZ32 => (intro w hSw; (try dsimp only at hSw); go_simp; try with_reducible rfl)
              (try simp only [Act.put, List.setIfInBounds_toArray, List.set_cons_zero, List.set_cons_succ])
              refine take_w (i := 14) (oi := ?oZ33) (v := ?vZ33) ?hiZ33 (by kernel_rfl) (by kernel_rfl) (by kernel_rfl) ?hQZ33 ?hwZ33 ?hyZ33 (by assumption) ?restZ33
              case hiZ33 => (simp only [List.getElem?_toArray, List.getElem?_cons_succ, List.getElem?_cons_zero] <;> rfl)
              case hQZ33 => exact (fun _ _ _ h => h)
              case hwZ33 => rfl
              case hyZ33 => (intro w hSw; (try dsimp only at hSw); go_simp; try with_reducible rfl)
              (try simp only [Act.put, List.setIfInBounds_toArray, List.set_cons_zero, List.set_cons_succ])
              refine take_w (i := 15) (oi := ?oZ34) (v := ?vZ34) ?hiZ34 (by kernel_rfl) (by kernel_rfl) (by kernel_rfl) ?hQZ34 ?hwZ34 ?hyZ34 (by assumption) ?restZ34
              case hiZ34 => (simp only [List.getElem?_toArray, List.getElem?_cons_succ, List.getElem?_cons_zero] <;> rfl)
              case hQZ34 => exact (fun _ _ _ h => h)
              case hwZ34 => rfl
              case hyZ34 => (intro w hSw; (try dsimp only at hSw); go_simp; try with_reducible rfl)
              (try simp only [Act.put, List.setIfInBounds_toArray, List.set_cons_zero, List.set_cons_succ])
              refine take_w (i := 16) (oi := ?oZ35) (v := ?vZ35) ?hiZ35 (by kernel_rfl) (by kernel_rfl) (by kernel_rfl) ?hQZ35 ?hwZ35 ?hyZ35 (by assumption) ?restZ35
              case hiZ35 => (simp only [List.getElem?_toArray, List.getElem?_cons_succ, List.getElem?_cons_zero] <;> rfl)
              case hQZ35 => exact (fun _ _ _ h => h)
              case hwZ35 => rfl
              case hyZ35 => (intro w hSw; (try dsimp only at hSw); go_simp; try with_reducible rfl)
              (try simp only [Act.put, List.setIfInBounds_toArray, List.set_cons_zero, List.set_cons_succ])
              refine take_w (i := 17) (oi := ?oZ36) (v := ?vZ36) ?hiZ36 (by kernel_rfl) (by kernel_rfl) (by kernel_rfl) ?hQZ36 ?hwZ36 ?hyZ36 (by assumption) ?restZ36
              case hiZ36 => (simp only [List.getElem?_toArray, List.getElem?_cons_succ, List.getElem?_cons_zero] <;> rfl)
              case hQZ36 => exact (fun _ _ _ h => h)
              case hwZ36 => rfl
              case hyZ36 => (intro w hSw; (try dsimp only at hSw); go_simp; try with_reducible rfl)
              (try simp only [Act.put, List.setIfInBounds_toArray, List.set_cons_zero, List.set_cons_succ])
              refine wpAnyH_done (by kernel_rfl) ?_ _
              clear hHeld
              clear HS10
              go_wp2_with fail
              go_ret
              refine ⟨?_, HL.out.drew.s.b⟩
              rw [HE.out, levelB_no him2 (by rw [HCD.out, HCL.out]; rfl)]
              rfl
            | true =>
              have HCL := Lib.hid hcl
              rw [hcl] at hlx
              clear hcl
              go_upto_region 10 with fail
              refine wp_region_held_drew (S := (fun W => W.cell? ⟨g, j * 5 + 1, none⟩ = some (.slice (hs[j]).ka (hs[j]).kn (hs[j]).kc) ∧ W.cell? ⟨g, i * 5 + 1, none⟩ = some (.slice (hs[i]).ka (hs[i]).kn (hs[i]).kc) ∧ (convert 22 9 (.slice (hs[j]).ka (hs[j]).kn (hs[j]).kc)).run Tryd.prog W = .ok (.string (strOfNums k')) W ∧ (convert 22 9 (.slice (hs[i]).ka (hs[i]).kn (hs[i]).kc)).run Tryd.prog W = .ok (.string (strOfNums k)) W)) (by kernel_rfl) HS10.out (fun hHeld => ?_)
              refine take_w (i := 0) (oi := ?oZ37) (v := ?vZ37) ?hiZ37 (by kernel_rfl) (by kernel_rfl) (by kernel_rfl) ?hQZ37 ?hwZ37 ?hyZ37 (by assumption) ?restZ37
              case hiZ37 => (simp only [List.getElem?_toArray, List.getElem?_cons_zero] <;> rfl)
              case hQZ37 => exact (fun _ _ _ h => h)
              case hwZ37 => rfl
              case hyZ37 => (intro w hSw; (try dsimp only at hSw); go_simp; try with_reducible rfl)
              (try simp only [Act.put, List.setIfInBounds_toArray, List.set_cons_zero, List.set_cons_succ])
              refine take_w (i := 1) (oi := ?oZ38) (v := ?vZ38) ?hiZ38 (by kernel_rfl) (by kernel_rfl) (by kernel_rfl) ?hQZ38 ?hwZ38 ?hyZ38 (by assumption) ?restZ38
              case hiZ38 => (simp only [List.getElem?_toArray, List.getElem?_cons_succ, List.getElem?_cons_zero] <;> rfl)
              case hQZ38 => exact (fun _ _ _ h => h)
              case hwZ38 => rfl
              case hyZ38 => (intro w hSw; (try dsimp only at hSw); go_simp; try with_reducible rfl)
              (try simp only [Act.put, List.setIfInBounds_toArray, List.set_cons_zero, List.set_cons_succ])
              refine take_w (i := 2) (oi := ?oZ39) (v := ?vZ39) ?hiZ39 (by kernel_rfl) (by kernel_rfl) (by kernel_rfl) ?hQZ39 ?hwZ39 ?hyZ39 (by assumption) ?restZ39
              case hiZ39 => (simp only [List.getElem?_toArray, List.getElem?_cons_succ, List.getElem?_cons_zero] <;> rfl)
              case hQZ39 => exact (fun _ _ _ h => h)
              case hwZ39 => rfl
              case hyZ39 => (intro w hSw; (try dsimp only at hSw); go_simp; try with_reducible rfl)
              (try simp only [Act.put, List.setIfInBounds_toArray, List.set_cons_zero, List.set_cons_succ])
              refine take_w (i := 3) (oi := ?oZ40) (v := ?vZ40) ?hiZ40 (by kernel_rfl) (by kernel_rfl) (by kernel_rfl) ?hQZ40 ?hwZ40 ?hyZ40 (by assumption) ?restZ40
              case hiZ40 => (simp only [List.getElem?_toArray, List.getElem?_cons_succ, List.getElem?_cons_zero] <;> rfl)
              case hQZ40 => exact (fun _ _ _ h => h)
              case hwZ40 => rfl
              case hyZ40 => (intro w hSw; (try dsimp only at hSw); go_simp; try with_reducible rfl)
              (try simp only [Act.put, List.setIfInBounds_toArray, List.set_cons_zero, List.set_cons_succ])
              refine take_w (i := 4) (oi := ?oZ41) (v := ?vZ41) ?hiZ41 (by kernel_rfl) (by kernel_rfl) (by kernel_rfl) ?hQZ41 ?hwZ41 ?hyZ41 (by assumption) ?restZ41
              case hiZ41 => (simp only [List.getElem?_toArray, List.getElem?_cons_succ, List.getElem?_cons_zero] <;> rfl)
              case hQZ41 => exact (fun _ _ _ h => h)
              case hwZ41 => rfl
              case hyZ41 => (intro w hSw; (try dsimp only at hSw); go_simp; try with_reducible rfl)
              (try simp only [Act.put, List.setIfInBounds_toArray, List.set_cons_zero, List.set_cons_succ])
              refine take_w (i := 5) (oi := ?oZ42) (v := ?vZ42) ?hiZ42 (by kernel_rfl) (by kernel_rfl) (by kernel_rfl) ?hQZ42 ?hwZ42 ?hyZ42 (by assumption) ?restZ42
              case hiZ42 => (simp only [List.getElem?_toArray, List.getElem?_cons_succ, List.getElem?_cons_zero] <;> rfl)
              case hQZ42 => exact (fun _ _ _ h => h)
              case hwZ42 => rfl
              case hyZ42 => (intro w hSw; (try dsimp only at hSw); go_simp; try with_reducible rfl)
              (try simp only [Act.put, List.setIfInBounds_toArray, List.set_cons_zero, List.set_cons_succ])
              refine take_w (i := 6) (oi := ?oZ43) (v := ?vZ43) ?hiZ43 (by kernel_rfl) (by kernel_rfl) (by kernel_rfl) ?hQZ43 ?hwZ43 ?hyZ43 (by assumption) ?restZ43
              case hiZ43 => (simp only [List.getElem?_toArray, List.getElem?_cons_succ, List.getElem?_cons_zero] <;> rfl)
              case hQZ43 => exact (fun _ _ _ h => h)
              case hwZ43 => rfl
              case hyZ43 => (intro w hSw; (try dsimp only at hSw); go_simp; try with_reducible rfl)
              (try simp only [Act.put, List.setIfInBounds_toArray, List.set_cons_zero, List.set_cons_succ])
              refine take_w (i := 7) (oi := ?oZ44) (v := ?vZ44) ?hiZ44 (by kernel_rfl) (by kernel_rfl) (by kernel_rfl) ?hQZ44 ?hwZ44 ?hyZ44 (by assumption) ?restZ44
              case hiZ44 => (simp only [List.getElem?_toArray, List.getElem?_cons_succ, List.getElem?_cons_zero] <;> rfl)
              case hQZ44 => exact (fun _ _ _ h => h)
              case hwZ44 => rfl
              case hyZ44 => (intro w hSw; (try dsimp only at hSw); go_simp; try with_reducible rfl)
              (try simp only [Act.put, List.setIfInBounds_toArray, List.set_cons_zero, List.set_cons_succ])
              refine take_w (i := 8) (oi := ?oZ45) (v := ?vZ45) ?hiZ45 (by kernel_rfl) (by kernel_rfl) (by kernel_rfl) ?hQZ45 ?hwZ45 ?hyZ45 (by assumption) ?restZ45
              case hiZ45 => (simp only [List.getElem?_toArray, List.getElem?_cons_succ, List.getElem?_cons_zero] <;> rfl)
              case hQZ45 => exact (fun _ _ _ h => h)
              case hwZ45 => rfl
              case hyZ45 => (intro w hSw; (try dsimp only at hSw); go_simp; try with_reducible rfl)
              (try simp only [Act.put, List.setIfInBounds_toArray, List.set_cons_zero, List.set_cons_succ])
              refine take_w (i := 9) (oi := ?oZ46) (v := ?vZ46) ?hiZ46 (by kernel_rfl) (by kernel_rfl) (by kernel_rfl) ?hQZ46 ?hwZ46 ?hyZ46 (by assumption) ?restZ46
              case hiZ46 => (simp only [List.getElem?_toArray, List.getElem?_cons_succ, List.getElem?_cons_zero] <;> rfl)
              case hQZ46 => exact (fun _ _ _ h => h)
              case hwZ46 => rfl
              case hyZ46 => (intro w hSw; (try dsimp only at hSw); go_simp; try with_reducible rfl)
              (try simp only [Act.put, List.setIfInBounds_toArray, List.set_cons_zero, List.set_cons_succ])
              refine take_w (i := 10) (oi := ?oZ47) (v := ?vZ47) ?hiZ47 (by kernel_rfl) (by kernel_rfl) (by kernel_rfl) ?hQZ47 ?hwZ47 ?hyZ47 (by assumption) ?restZ47
              case hiZ47 => (simp only [List.getElem?_toArray, List.getElem?_cons_succ, List.getElem?_cons_zero] <;> rfl)
              case hQZ47 => exact (fun _ _ _ h => h)
              case hwZ47 => rfl
              case hyZ47 => (intro w hSw; (try dsimp only at hSw); go_simp; try with_reducible rfl)
              (try simp only [Act.put, List.setIfInBounds_toArray, List.set_cons_zero, List.set_cons_succ])
              refine take_w (i := 11) (oi := ?oZ48) (v := ?vZ48) ?hiZ48 (by kernel_rfl) (by kernel_rfl) (by kernel_rfl) ?hQZ48 ?hwZ48 ?hyZ48 (by assumption) ?restZ48
              case hiZ48 => (simp only [List.getElem?_toArray, List.getElem?_cons_succ, List.getElem?_cons_zero] <;> rfl)
              case hQZ48 => exact (fun _ _ _ h => h)
              case hwZ48 => rfl
              case hyZ48 => (intro w hSw; (try dsimp only at hSw); go_simp; try with_reducible rfl)
              (try simp only [Act.put, List.setIfInBounds_toArray, List.set_cons_zero, List.set_cons_succ])
              refine take_w (i := 12) (oi := ?oZ49) (v := ?vZ49) ?hiZ49 (by kernel_rfl) (by kernel_rfl) (by kernel_rfl) ?hQZ49 ?hwZ49 ?hyZ49 (by assumption) ?restZ49
              case hiZ49 => (simp only [List.getElem?_toArray, List.getElem?_cons_succ, List.getElem?_cons_zero] <;> rfl)
              case hQZ49 => exact (fun _ _ _ h => h)
              case hwZ49 => rfl
              case hyZ49 => (intro w hSw; (try dsimp only at hSw); go_simp; try with_reducible rfl)
              (try simp only [Act.put, List.setIfInBounds_toArray, List.set_cons_zero, List.set_cons_succ])
              refine take_w (i := 13) (oi := ?oZ50) (v := ?vZ50) ?hiZ50 (by kernel_rfl) (by kernel_rfl) (by kernel_rfl) ?hQZ50 ?hwZ50 ?hyZ50 (by assumption) ?restZ50
              case hiZ50 => (simp only [List.getElem?_toArray, List.getElem?_cons_succ, List.getElem?_cons_zero] <;> rfl)
              case hQZ50 => exact (fun _ _ _ h => h)
              case hwZ50 => rfl
              case hyZ50 => (intro w hSw; (try dsimp only at hSw); go_simp; try with_reducible rfl)
              (try simp only [Act.put, List.setIfInBounds_toArray, List.set_cons_zero, List.set_cons_succ])
              refine take_w (i := 14) (oi := ?oZ51) (v := ?vZ51) ?hiZ51 (by kernel_rfl) (by kernel_rfl) (by kernel_rfl) ?hQZ51 ?hwZ51 ?hyZ51 (by assumption) ?restZ51
              case hiZ51 => (simp only [List.getElem?_toArray, List.getElem?_cons_succ, List.getElem?_cons_zero] <;> rfl)
              case hQZ51 => exact (fun _ _ _ h => h)
              case hwZ51 => rfl
              case hyZ51 => (intro w hSw; (try dsimp only at hSw); go_simp; try with_reducible rfl)
              (try simp only [Act.put, List.setIfInBounds_toArray, List.set_cons_zero, List.set_cons_succ])
              refine take_w (i := 15) (oi := ?oZ52) (v := ?vZ52) ?hiZ52 (by kernel_rfl) (by kernel_rfl) (by kernel_rfl) ?hQZ52 ?hwZ52 ?hyZ52 (by assumption) ?restZ52
              case hiZ52 => (simp only [List.getElem?_toArray, List.getElem?_cons_succ, List.getElem?_cons_zero] <;> rfl)
              case hQZ52 => exact (fun _ _ _ h => h)
              case hwZ52 => rfl
              case hyZ52 => (intro w hSw; (try dsimp only at hSw); go_simp; try with_reducible rfl)
              (try simp only [Act.put, List.setIfInBounds_toArray, List.set_cons_zero, List.set_cons_succ])
              refine take_w (i := 16) (oi := ?oZ53) (v := ?vZ53) ?hiZ53 (by kernel_rfl) (by kernel_rfl) (by kernel_rfl) ?hQZ53 ?hwZ53 ?hyZ53 (by assumption) ?restZ53
              case hiZ53 => (simp only [List.getElem?_toArray, List.getElem?_cons_succ, List.getElem?_cons_zero] <;> rfl)
              case hQZ53 => exact (fun _ _ _ h => h)
              case hwZ53 => rfl
              case hyZ53 => (intro w hSw; (try dsimp only at hSw); go_simp; try with_reducible rfl)
              (try simp only [Act.put, List.setIfInBounds_toArray, List.set_cons_zero, List.set_cons_succ])
              refine take_w (i := 17) (oi := ?oZ54) (v := ?vZ54) ?hiZ54 (by kernel_rfl) (by kernel_rfl) (by kernel_rfl) ?hQZ54 ?hwZ54 ?hyZ54 (by assumption) ?restZ54
              case hiZ54 => (simp only [List.getElem?_toArray, List.getElem?_cons_succ, List.getElem?_cons_zero] <;> rfl)
              case hQZ54 => exact (fun _ _ _ h => h)
              case hwZ54 => rfl
              case hyZ54 => (intro w hSw; (try dsimp only at hSw); go_simp; try with_reducible rfl)
              (try simp only [Act.put, List.setIfInBounds_toArray, List.set_cons_zero, List.set_cons_succ])
              refine wpAnyH_done (by kernel_rfl) ?_ _
              clear hHeld
              clear HS10
              go_upto_region 12 with fail
              refine wp_region_held_drew (S := (fun W => W.cell? ⟨g, i * 5 + 4, none⟩ = some (.slice (some ⟨g2, off2, none⟩) (hs[i]).tn (hs[i]).tc) ∧ (W.cell? ⟨g2, off2, none⟩ = some (.int .i64 (H 0).k) ∧ W.cell? ⟨g2, off2 + 1, none⟩ = some (.slice (H 0).ka (H 0).kn (H 0).kc) ∧ W.cell? ⟨g2, off2 + 2, none⟩ = some (.slice (H 0).va (H 0).vn (H 0).vc) ∧ W.cell? ⟨g2, off2 + 3, none⟩ = some (.slice (H 0).da (H 0).dn (H 0).dc) ∧ W.cell? ⟨g2, off2 + 4, none⟩ = some (.slice (H 0).ta (H 0).tn (H 0).tc)) ∧ W.cell? ⟨g2, off2 + 5, none⟩ = some (.int .i64 (H 1).k) ∧ W.cell? ⟨g2, off2 + 5 + 1, none⟩ = some (.slice (H 1).ka (H 1).kn (H 1).kc) ∧ W.cell? ⟨g2, off2 + 5 + 2, none⟩ = some (.slice (H 1).va (H 1).vn (H 1).vc) ∧ W.cell? ⟨g2, off2 + 5 + 3, none⟩ = some (.slice (H 1).da (H 1).dn (H 1).dc) ∧ W.cell? ⟨g2, off2 + 5 + 4, none⟩ = some (.slice (H 1).ta (H 1).tn (H 1).tc))) (by kernel_rfl) (KEEP.out _ HL.out.drew.drew) (fun hHeld => ?_)
              refine take_w (i := 0) (oi := ?oZ73) (v := ?vZ73) ?hiZ73 (by kernel_rfl) (by kernel_rfl) (by kernel_rfl) ?hQZ73 ?hwZ73 ?hyZ73 (by assumption) ?restZ73
              case hiZ73 => (simp only [List.getElem?_toArray, List.getElem?_cons_zero] <;> rfl)
              case hQZ73 => exact (fun _ _ _ h => h)
              case hwZ73 => rfl
              case hyZ73 => (intro w hSw; (try dsimp only at hSw); go_simp; try with_reducible rfl)
              (try simp only [Act.put, List.setIfInBounds_toArray, List.set_cons_zero, List.set_cons_succ])
              refine take_w (i := 1) (oi := ?oZ74) (v := ?vZ74) ?hiZ74 (by kernel_rfl) (by kernel_rfl) (by kernel_rfl) ?hQZ74 ?hwZ74 ?hyZ74 (by assumption) ?restZ74
              case hiZ74 => (simp only [List.getElem?_toArray, List.getElem?_cons_succ, List.getElem?_cons_zero] <;> rfl)
              case hQZ74 => exact (fun _ _ _ h => h)
              case hwZ74 => rfl
              case hyZ74 => (intro w hSw; (try dsimp only at hSw); go_simp; try with_reducible rfl)
              (try simp only [Act.put, List.setIfInBounds_toArray, List.set_cons_zero, List.set_cons_succ])
              refine take_w (i := 2) (oi := ?oZ75) (v := ?vZ75) ?hiZ75 (by kernel_rfl) (by kernel_rfl) (by kernel_rfl) ?hQZ75 ?hwZ75 ?hyZ75 (by assumption) ?restZ75
              case hiZ75 => (simp only [List.getElem?_toArray, List.getElem?_cons_succ, List.getElem?_cons_zero] <;> rfl)
              case hQZ75 => exact (fun _ _ _ h => h)
              case hwZ75 => rfl
              case hyZ75 => (intro w hSw; (try dsimp only at hSw); go_simp; try with_reducible rfl)
              (try simp only [Act.put, List.setIfInBounds_toArray, List.set_cons_zero, List.set_cons_succ])
              refine take_w (i := 3) (oi := ?oZ76) (v := ?vZ76) ?hiZ76 (by kernel_rfl) (by kernel_rfl) (by kernel_rfl) ?hQZ76 ?hwZ76 ?hyZ76 (by assumption) ?restZ76
              case hiZ76 => (simp only [List.getElem?_toArray, List.getElem?_cons_succ, List.getElem?_cons_zero] <;> rfl)
              case hQZ76 => exact (fun _ _ _ h => h)
              case hwZ76 => rfl
              case hyZ76 => (intro w hSw; (try dsimp only at hSw); go_simp; try with_reducible rfl)
              (try simp only [Act.put, List.setIfInBounds_toArray, List.set_cons_zero, List.set_cons_succ])
              refine take_w (i := 4) (oi := ?oZ77) (v := ?vZ77) ?hiZ77 (by kernel_rfl) (by kernel_rfl) (by kernel_rfl) ?hQZ77 ?hwZ77 ?hyZ77 (by assumption) ?restZ77
              case hiZ77 => (simp only [List.getElem?_toArray, List.getElem?_cons_succ, List.getElem?_cons_zero] <;> rfl)
              case hQZ77 => exact (fun _ _ _ h => h)
              case hwZ77 => rfl
              case hyZ77 => (intro w hSw; (try dsimp only at hSw); go_simp; try with_reducible rfl)
              (try simp only [Act.put, List.setIfInBounds_toArray, List.set_cons_zero, List.set_cons_succ])
              refine take_w (i := 5) (oi := ?oZ78) (v := ?vZ78) ?hiZ78 (by kernel_rfl) (by kernel_rfl) (by kernel_rfl) ?hQZ78 ?hwZ78 ?hyZ78 (by assumption) ?restZ78
              case hiZ78 => (simp only [List.getElem?_toArray, List.getElem?_cons_succ, List.getElem?_cons_zero] <;> rfl)
              case hQZ78 => exact (fun _ _ _ h => h)
              case hwZ78 => rfl
              case hyZ78 => (intro w hSw; (try dsimp only at hSw); go_simp; try with_reducible rfl)
              (try simp only [Act.put, List.setIfInBounds_toArray, List.set_cons_zero, List.set_cons_succ])
              refine take_w (i := 6) (oi := ?oZ79) (v := ?vZ79) ?hiZ79 (by kernel_rfl) (by kernel_rfl) (by kernel_rfl) ?hQZ79 ?hwZ79 ?hyZ79 (by assumption) ?restZ79
              case hiZ79 => (simp only [List.getElem?_toArray, List.getElem?_cons_succ, List.getElem?_cons_zero] <;> rfl)
              case hQZ79 => exact (fun _ _ _ h => h)
              case hwZ79 => rfl
              case hyZ79 => (intro w hSw; (try dsimp only at hSw); go_simp; try with_reducible rfl)
              (try simp only [Act.put, List.setIfInBounds_toArray, List.set_cons_zero, List.set_cons_succ])
              refine take_w (i := 8) (oi := ?oZ80) (v := ?vZ80) ?hiZ80 (by kernel_rfl) (by kernel_rfl) (by kernel_rfl) ?hQZ80 ?hwZ80 ?hyZ80 (by assumption) ?restZ80
              case hiZ80 => (simp only [List.getElem?_toArray, List.getElem?_cons_succ, List.getElem?_cons_zero] <;> rfl)
              case hQZ80 => exact (fun _ _ _ h => h)
              case hwZ80 => rfl
              case hyZ80 => (intro w hSw; (try dsimp only at hSw); go_simp; try with_reducible rfl)
              (try simp only [Act.put, List.setIfInBounds_toArray, List.set_cons_zero, List.set_cons_succ])
              refine take_w (i := 9) (oi := ?oZ81) (v := ?vZ81) ?hiZ81 (by kernel_rfl) (by kernel_rfl) (by kernel_rfl) ?hQZ81 ?hwZ81 ?hyZ81 (by assumption) ?restZ81
              case hiZ81 => (simp only [List.getElem?_toArray, List.getElem?_cons_succ, List.getElem?_cons_zero] <;> rfl)
              case hQZ81 => exact (fun _ _ _ h => h)
              case hwZ81 => rfl
              case hyZ81 => (intro w hSw; (try dsimp only at hSw); go_simp; try with_reducible rfl)
              (try simp only [Act.put, List.setIfInBounds_toArray, List.set_cons_zero, List.set_cons_succ])
              refine take_w (i := 10) (oi := ?oZ82) (v := ?vZ82) ?hiZ82 (by kernel_rfl) (by kernel_rfl) (by kernel_rfl) ?hQZ82 ?hwZ82 ?hyZ82 (by assumption) ?restZ82
              case hiZ82 => (simp only [List.getElem?_toArray, List.getElem?_cons_succ, List.getElem?_cons_zero] <;> rfl)
              case hQZ82 => exact (fun _ _ _ h => h)
              case hwZ82 => rfl
              case hyZ82 => (intro w hSw; (try dsimp only at hSw); go_simp; try with_reducible rfl)
              (try simp only [Act.put, List.setIfInBounds_toArray, List.set_cons_zero, List.set_cons_succ])
              refine take_w (i := 11) (oi := ?oZ83) (v := ?vZ83) ?hiZ83 (by kernel_rfl) (by kernel_rfl) (by kernel_rfl) ?hQZ83 ?hwZ83 ?hyZ83 (by assumption) ?restZ83
              case hiZ83 => (simp only [List.getElem?_toArray, List.getElem?_cons_succ, List.getElem?_cons_zero] <;> rfl)
              case hQZ83 => exact (fun _ _ _ h => h)
              case hwZ83 => rfl
              case hyZ83 => (intro w hSw; (try dsimp only at hSw); go_simp; try with_reducible rfl)
              (try simp only [Act.put, List.setIfInBounds_toArray, List.set_cons_zero, List.set_cons_succ])
              refine take_w (i := 12) (oi := ?oZ84) (v := ?vZ84) ?hiZ84 (by kernel_rfl) (by kernel_rfl) (by kernel_rfl) ?hQZ84 ?hwZ84 ?hyZ84 (by assumption) ?restZ84
              case hiZ84 => (simp only [List.getElem?_toArray, List.getElem?_cons_succ, List.getElem?_cons_zero] <;> rfl)
              case hQZ84 => exact (fun _ _ _ h => h)
              case hwZ84 => rfl
              case hyZ84 => (intro w hSw; (try dsimp only at hSw); go_simp; try with_reducible rfl)
              (try simp only [Act.put, List.setIfInBounds_toArray, List.set_cons_zero, List.set_cons_succ])
              refine take_w (i := 13) (oi := ?oZ85) (v := ?vZ85) ?hiZ85 (by kernel_rfl) (by kernel_rfl) (by kernel_rfl) ?hQZ85 ?hwZ85 ?hyZ85 (by assumption) ?restZ85
              case hiZ85 => (simp only [List.getElem?_toArray, List.getElem?_cons_succ, List.getElem?_cons_zero] <;> rfl)
              case hQZ85 => exact (fun _ _ _ h => h)
              case hwZ85 => rfl
              case hyZ85 => (intro w hSw; (try dsimp only at hSw); go_simp; try with_reducible rfl)
              (try simp only [Act.put, List.setIfInBounds_toArray, List.set_cons_zero, List.set_cons_succ])
              refine take_w (i := 14) (oi := ?oZ86) (v := ?vZ86) ?hiZ86 (by kernel_rfl) (by kernel_rfl) (by kernel_rfl) ?hQZ86 ?hwZ86 ?hyZ86 (by assumption) ?restZ86
              case hiZ86 => (simp only [List.getElem?_toArray, List.getElem?_cons_succ, List.getElem?_cons_zero] <;> rfl)
              case hQZ86 => exact (fun _ _ _ h => h)
              case hwZ86 => rfl
              case hyZ86 => (intro w hSw; (try dsimp only at hSw); go_simp; try with_reducible rfl)
              (try simp only [Act.put, List.setIfInBounds_toArray, List.set_cons_zero, List.set_cons_succ])
              refine wpAnyH_ready (rs := [7]) (by kernel_rfl) (by simp) ?_
              refine AllReadyH.cons (o := ?oZ87) ?hiZ87 (fun K hK => ?stZ87) AllReadyH.nil
              case hiZ87 => (simp only [List.getElem?_toArray, List.getElem?_cons_succ, List.getElem?_cons_zero] <;> rfl)
              go_simp
              go_at_call 24
              refine (refDepth_any l.tr (H 0) 64 _ (HL.out.drew.drew.p.kids 0 (by rw [AT.tr_kids]; simp)) ?_ ?_ (by omega) (by omega)).mono ?_
              · exact HLD.out.1.1
              · exact HLD.out.1.2
              rintro _ w5 ⟨rfl, hb5⟩
              have HL5 := Lib.hid (HL.out.drew.drew.below hb5)
              rw [AT.tr_depth]
              clear hb5
              go_simp
              refine hK.out _ _ ?_ (fun hHeld => ?_)
              · (first | exact KEEP.out _ HL6.out | exact KEEP.out _ HL5.out | exact KEEP.out _ HL.out.drew.drew)
              clear hK K
              (try simp only [Act.put, List.setIfInBounds_toArray, List.set_cons_zero, List.set_cons_succ])
              refine wpAnyH_ready (rs := [15]) (by kernel_rfl) (by simp) ?_
              refine AllReadyH.cons (o := ?oZ88) ?hiZ88 (fun K hK => ?stZ88) AllReadyH.nil
              case hiZ88 => (simp only [List.getElem?_toArray, List.getElem?_cons_succ, List.getElem?_cons_zero] <;> rfl)
              go_simp
              go_at_call 24
              refine (refDepth_any r.tr (H 1) 64 _ (HL5.out.p.kids 1 (by rw [AT.tr_kids]; simp)) ?_ ?_ (by omega) (by omega)).mono ?_
              · exact HLD.out.2.1
              · exact HLD.out.2.2
              rintro _ w6 ⟨rfl, hb6⟩
              have HL6 := Lib.hid (HL5.out.below hb6)
              rw [AT.tr_depth]
              clear hb6
              go_simp
              refine hK.out _ _ ?_ (fun hHeld => ?_)
              · (first | exact KEEP.out _ HL6.out | exact KEEP.out _ HL5.out | exact KEEP.out _ HL.out.drew.drew)
              clear hK K
              (try simp only [Act.put, List.setIfInBounds_toArray, List.set_cons_zero, List.set_cons_succ])
              refine take_w (i := 16) (oi := ?oZ89) (v := ?vZ89) ?hiZ89 (by kernel_rfl) (by kernel_rfl) (by kernel_rfl) ?hQZ89 ?hwZ89 ?hyZ89 (by assumption) ?restZ89
              case hiZ89 => (simp only [List.getElem?_toArray, List.getElem?_cons_succ, List.getElem?_cons_zero] <;> rfl)
              case hQZ89 => exact (fun _ _ _ h => h)
              case hwZ89 => rfl
              case hyZ89 => (intro w hSw; (try dsimp only at hSw); go_simp; try with_reducible rfl)
              (try simp only [Act.put, List.setIfInBounds_toArray, List.set_cons_zero, List.set_cons_succ])
              refine take_w (i := 17) (oi := ?oZ90) (v := ?vZ90) ?hiZ90 (by kernel_rfl) (by kernel_rfl) (by kernel_rfl) ?hQZ90 ?hwZ90 ?hyZ90 (by assumption) ?restZ90
              case hiZ90 => (simp only [List.getElem?_toArray, List.getElem?_cons_succ, List.getElem?_cons_zero] <;> rfl)
              case hQZ90 => exact (fun _ _ _ h => h)
              case hwZ90 => rfl
              case hyZ90 => (intro w hSw; (try dsimp only at hSw); go_simp; try with_reducible rfl)
              (try simp only [Act.put, List.setIfInBounds_toArray, List.set_cons_zero, List.set_cons_succ])
              refine wpAnyH_done (by kernel_rfl) ?_ _
              clear hHeld
              by_cases c1 : (1 : Int) < (l.depth : Int) - (r.depth : Int)
              · have d1 : decide ((l.depth : Int) - (r.depth : Int) ≤ 1) = false := decide_eq_false (by omega)
                have HD1 := Lib.hid d1
                clear d1
                go_wp2_with fail
                go_ret
                refine ⟨?_, HL6.out.s.b⟩
                rw [HE.out, levelB_no him2 (by rw [HCD.out, HCL.out, HD1.out]; rfl)]
                rfl
              · by_cases c2 : (l.depth : Int) - (r.depth : Int) < -1
                · have d1 : decide (-1 ≤ (l.depth : Int) - (r.depth : Int)) = false := decide_eq_false (by omega)
                  have HD1 := Lib.hid (And.intro d1 (decide_eq_true (show (l.depth : Int) - (r.depth : Int) ≤ 1 by omega)))
                  clear d1
                  go_wp2_with fail
                  go_ret
                  refine ⟨?_, HL6.out.s.b⟩
                  rw [HE.out, levelB_no him2 (by rw [HCD.out, HCL.out, HD1.out.2, HD1.out.1]; rfl)]
                  rfl
                · have d1 : decide ((l.depth : Int) - (r.depth : Int) ≤ 1) = true := decide_eq_true (by omega)
                  have d2 : decide (-1 ≤ (l.depth : Int) - (r.depth : Int)) = true := decide_eq_true (by omega)
                  have HD1 := Lib.hid (all_step HALL.out (by rw [HCD.out, HCL.out, d1, d2]; rfl))
                  clear d1 d2
                  go_wp2_with fail
                  exact ⟨⟨i + 1, by omega, by go_num, HL6.out.s, HD1.out⟩, by simp [intOf]; omega⟩
        · obtain rfl : i = n := by omega
          have q1 : ¬ (i : Int) < (i : Int) := by omega
          go_wp2_with fail
          go_ret
          refine ⟨?_, hls.b⟩
          rw [HE.out, levelB_eq, HN.out, HALL.out]
          rfl
  · have hc0 : ((checkT t : Nat) : Int) ≠ 0 := by omega
    have HC := Lib.hid hc
    clear hc
    go_wp2_with (first
      | (go_at_call 22
         refine (refCheck_any t h _ ?_).mono ?_
         · exact HT.out.lower ((Below.refl _ _).alloc (Nat.le_refl _) _)
         rintro _ w1 ⟨rfl, hb1⟩
         have HB1 : Hid (Below w.heap.size w w1) := Lib.hid (((Below.refl w.heap.size w).alloc (Nat.le_refl _) _).trans (hb1.mono (by simp)))
         clear hb1 x0 x1 x2 x3 x4))
    go_ret
    refine ⟨?_, HB1.out⟩
    unfold isT
    rw [decide_eq_false HC.out, Bool.false_and]
    rfl

end Go.Proofs.YtkfjhegehhahcaaDoor

/- The document's measure of a tree: has it few enough parts? -/
namespace Go.Proofs.YtkfjhegehhahcaaDoor
open Go.RowKit
set_option linter.unusedVariables false

/-- A number from -1 to 500; where it is not below 0, the tree is small. -/
def LightPost (w : World) (t : Tr) (left : Int) (e : Ending) (w' : World) : Prop :=
  ∃ r : Int, e = .returned (.int .i64 r) ∧ -1 ≤ r ∧ r ≤ 500 ∧ (0 ≤ r → LightOK t ∧ (countT t : Int) = left - r) ∧ Below w.heap.size w w'

set_option maxRecDepth 100000 in
set_option maxHeartbeats 4000000 in
theorem light_any : ∀ (t : Tr) (h : TH) (left : Int) (dep : Int) (w : World), InTree w h t → -1 ≤ left → left ≤ 500 → 0 ≤ dep → dep ≤ 200 → 
    Calls Tryd.prog 7 #[h.v, .int .i64 left, .int .i64 dep] w (LightPost w t left) := by
  intro t
  induction t using Tr.ind with
  | h t ih =>
  intro h left dep w ht hl1 hl2 hd1 hd2
  unfold TH.v
  obtain ⟨H, hp⟩ := ht.parts
  have hkl := hp.key.len
  have hvl := hp.val.len
  have hdl := hp.dig.len
  have htl := hp.len
  have hkm := Nat.le_trans hp.key.le hp.key.max
  have hvm := Nat.le_trans hp.val.le hp.val.max
  have hdm := Nat.le_trans hp.dig.le hp.dig.max
  have htm := Nat.le_trans hp.sl.le hp.sl.max
  have htc := hp.sl.le
  simp only [maxLen] at hkm hvm hdm htm
  have HP := Lib.hid hp
  have IH := Lib.hid ih
  clear hp ht ih
  have hbox := Box.new w 25 h
  have HX := Lib.hid hbox
  obtain ⟨x0, x1, x2, x3, x4⟩ := hbox.cells
  clear hbox
  go_enter Tryd.func7, Tryd.ntmps7
  by_cases c0 : dep = 0
  · subst c0
    go_wp2_with fail
    go_ret
    exact ⟨_, rfl, by omega, by omega, fun h => by omega, (Below.refl _ _).alloc (Nat.le_refl _) _⟩
  by_cases c1 : left - 1 < 0
  · go_wp2_with fail
    go_ret
    exact ⟨_, rfl, by omega, by omega, fun h => by omega, (Below.refl _ _).alloc (Nat.le_refl _) _⟩
  by_cases c2 : left - 1 < (h.tn : Int)
  · go_wp2_with fail
    go_ret
    exact ⟨_, rfl, by omega, by omega, fun h => by omega, (Below.refl _ _).alloc (Nat.le_refl _) _⟩
  by_cases c3 : (3000 : Int) < (h.kn : Int)
  · go_wp2_with fail
    go_ret
    exact ⟨_, rfl, by omega, by omega, fun h => by omega, (Below.refl _ _).alloc (Nat.le_refl _) _⟩
  by_cases c4 : (3000 : Int) < (h.vn : Int)
  · go_wp2_with fail
    go_ret
    exact ⟨_, rfl, by omega, by omega, fun h => by omega, (Below.refl _ _).alloc (Nat.le_refl _) _⟩
  by_cases c5 : (3000 : Int) < (h.dn : Int)
  · go_wp2_with fail
    go_ret
    exact ⟨_, rfl, by omega, by omega, fun h => by omega, (Below.refl _ _).alloc (Nat.le_refl _) _⟩
  go_wp2_with fail
  clear x0 x1 x2 x3 x4
  go_loopw [1, 7] (fun s1 s7 wx => ∃ (i : Nat) (l : Int), i ≤ h.tn ∧ 0 ≤ l ∧ l ≤ 500 ∧ s1 = .int .i64 l ∧ s7 = .int .i64 i ∧ Box wx 25 w.heap.size h ∧ Below w.heap.size w wx ∧ (∀ j (hj : j < t.kids.length), j < i → LightOK t.kids[j]) ∧ l = left - 1 - (((t.kids.take i).map countT).sum : Nat)) (fun _ s7 _ => h.tn - (intOf s7).toNat)
  case atStart => exact ⟨0, left - 1, by omega, by omega, by omega, by go_num, rfl, HX.out, (Below.refl _ _).alloc (Nat.le_refl _) _, (fun j hj h => by omega), by simp⟩
  case round =>
    obtain ⟨i, l, hi, hl0, hl5, rfl, rfl, hbx, hbw, hok, hsum⟩ := hrel
    have hx4 := hbx.cells.2.2.2.2
    have HBX := Lib.hid hbx
    have HBW := Lib.hid hbw
    have HOK := Lib.hid (And.intro hok hsum)
    clear hbx hbw hok hsum HX
    by_cases hlt : i < h.tn
    · have q1 : (i : Int) < (h.tn : Int) := by omega
      obtain ⟨g, off, hta, hg, hcs⟩ := (HP.out.below HBW.out).place (by omega)
      rw [hta] at hx4
      obtain ⟨k0, k1, k2, k3, k4⟩ := hcs i hlt
      clear hcs hta
      have him : i < t.kids.length := by omega
      go_upto_region 8 with (first
        | (go_at_call 7
           refine (IH.out _ (List.getElem_mem him) (H i) l (dep - 1) _ ((HP.out.below HBW.out).kids i him) (by omega) (by omega) (by omega) (by omega)).mono ?_
           rintro _ w1 ⟨r, rfl, hr1, hr2, hrok, hb1⟩
           have HB1 : Hid (Below w.heap.size w w1) := Lib.hid (HBW.out.trans (hb1.mono HBW.out.size))
           have HX1 := Lib.hid (HBX.out.below hb1 HBX.out.lt)
           have HR := Lib.hid hrok
           clear hb1 hrok))
      clear hx4 k0 k1 k2 k3 k4
      by_cases hr : r < 0
      · go_wp2_with fail
        go_ret
        exact ⟨_, rfl, by omega, by omega, fun h => by omega, HB1.out⟩
      · go_wp2_with fail
        exact ⟨⟨i + 1, r, by omega, by omega, by omega, rfl, by go_num, HX1.out, HB1.out, (fun j hj hji => by
          by_cases hij : j = i
          · subst hij; exact (HR.out (by omega)).1
          · exact HOK.out.1 j hj (by omega)), by
          have h1 := (HR.out (by omega)).2
          have h2 := HOK.out.2
          rw [List.take_succ_eq_append_getElem him, List.map_append, List.sum_append]
          simp only [List.map_cons, List.map_nil, List.sum_cons, List.sum_nil]
          omega⟩, by simp [intOf]; omega⟩
    · obtain rfl : i = h.tn := by omega
      have q1 : ¬ (h.tn : Int) < (h.tn : Int) := by omega
      go_wp2_with fail
      go_ret
      exact ⟨_, rfl, by omega, by omega, fun _ => ⟨.mk t (by omega) (by omega) (by omega) (by omega) fun j hj => HOK.out.1 j hj (by omega), by
        have h2 := HOK.out.2
        rw [List.take_of_length_le (by omega)] at h2
        rw [countT_eq]
        omega⟩, HBW.out⟩
end Go.Proofs.YtkfjhegehhahcaaDoor

/- The contract of the document's Range of balanced trees. -/
namespace Go.Proofs.YtkfjhegehhahcaaDoor
open Go.RowKit
set_option linter.unusedVariables false

theorem infoPair : (Tryd.prog.info? 51).map (fun i => (i.zero, i.size, i.bytes)) = some (some (.agg #[.slice none 0 0, .slice none 0 0]), 2, 48) := by kernel_rfl
/-- The row of trees, the span's box, and the row of pairs that grows from block b3 on. -/
structure RG (w W : World) (sp : DH) (b3 : Nat) (a : Option Addr) (n c : Nat) (hs : List TH) (ts : List Tr) (rv : Value) (rs : List PH) : Prop where
  b : Below w.heap.size w W
  o : OwnT W w.heap.size 25 (.slice a n c) hs
  hw : Heads w hs ts
  box : RBox recD W 27 (w.heap.size + 1) sp
  row : OwnR recP W b3 51 rv rs
  rb : b3 ≤ W.heap.size
  wb : w.heap.size + 2 ≤ b3
  lb : ∀ g, (Value.slice a n c).ownBlock = some g → g < b3
section
variable {w W W' : World} {sp : DH} {b3 : Nat} {a : Option Addr} {n c : Nat} {hs : List TH} {ts : List Tr} {rv rv' : Value} {rs : List PH} {p : PH}
theorem RG.ls (x : RG w W sp b3 a n c hs ts rv rs) : LS w W a n c hs ts := ⟨x.o, x.hw.lower x.b, x.b⟩
theorem RG.below (x : RG w W sp b3 a n c hs ts rv rs) (hb : Below W.heap.size W W') : RG w W' sp b3 a n c hs ts rv rs :=
  ⟨x.b.trans (hb.mono x.b.size), x.o.keep hb, x.hw, x.box.below hb x.box.lt, x.row.keep hb, Nat.le_trans x.rb hb.size, x.wb, x.lb⟩
theorem RG.drew (x : RG w W sp b3 a n c hs ts rv rs) : RG w W.drew sp b3 a n c hs ts rv rs := x.below (Below.refl _ _).drew
theorem RG.app (x : RG w W sp b3 a n c hs ts rv rs) (hg : W.grownBy W' rv.ownBlock) (ho : OwnR recP W' b3 51 rv' (rs ++ [p])) : RG w W' sp b3 a n c hs ts rv' (rs ++ [p]) := by
  refine ⟨x.b.grown hg x.b.size (fun j hj => by have h1 := (x.row.base_le hj).1; have h2 := x.wb; omega), ?_, x.hw, x.box.grown hg (fun q => by have h1 := (x.row.base_le q.symm).1; have h2 := x.wb; omega), ho, Nat.le_trans x.rb hg.size, x.wb, x.lb⟩
  refine World.ownsRow.kept x.o hg ?_
  cases hb : (Value.slice a n c).ownBlock with
  | none => exact .inl rfl
  | some g =>
    right
    intro q
    have h1 := (x.row.base_le q.symm).1
    have h2 := x.lb g hb
    omega
end
/-- What the document's Range tells. -/
def Ranges (w : World) (kvs : List KV) (e : Ending) (w' : World) : Prop := ∃ ra r rc rs, e = .returned (.slice ra r rc) ∧ OwnR recP w' w.heap.size 51 (.slice ra r rc) rs ∧ rs.length = r ∧ PairsIn w rs kvs ∧ Below w.heap.size w w'
theorem filter_in {l : List KV} {i : Nat} {p : KV} {q : KV → Bool} (e : l[i]? = some p) (h : q p = true) : (l.take (i + 1)).filter q = (l.take i).filter q ++ [p] := by
  rw [List.take_add_one, e, List.filter_append]
  simp [h]
theorem filter_out {l : List KV} {i : Nat} {p : KV} {q : KV → Bool} (e : l[i]? = some p) (h : q p = false) : (l.take (i + 1)).filter q = (l.take i).filter q := by
  rw [List.take_add_one, e, List.filter_append]
  simp [h]
/-- At the entry: the tree's box, the span's box. -/
theorem enterS (w : World) (h : TH) (sp : DH) : Box ((w.alloc (.cells #[.int .i64 h.k, .slice h.ka h.kn h.kc, .slice h.va h.vn h.vc, .slice h.da h.dn h.dc, .slice h.ta h.tn h.tc] 25)).alloc (.cells #[.slice sp.ka sp.kn sp.kc, .slice sp.va sp.vn sp.vc, .bool sp.out] 27)) 25 w.heap.size h ∧ RBox recD ((w.alloc (.cells #[.int .i64 h.k, .slice h.ka h.kn h.kc, .slice h.va h.vn h.vc, .slice h.da h.dn h.dc, .slice h.ta h.tn h.tc] 25)).alloc (.cells #[.slice sp.ka sp.kn sp.kc, .slice sp.va sp.vn sp.vc, .bool sp.out] 27)) 27 (w.heap.size + 1) sp ∧ Below w.heap.size w ((w.alloc (.cells #[.int .i64 h.k, .slice h.ka h.kn h.kc, .slice h.va h.vn h.vc, .slice h.da h.dn h.dc, .slice h.ta h.tn h.tc] 25)).alloc (.cells #[.slice sp.ka sp.kn sp.kc, .slice sp.va sp.vn sp.vc, .bool sp.out] 27)) ∧ ((w.alloc (.cells #[.int .i64 h.k, .slice h.ka h.kn h.kc, .slice h.va h.vn h.vc, .slice h.da h.dn h.dc, .slice h.ta h.tn h.tc] 25)).alloc (.cells #[.slice sp.ka sp.kn sp.kc, .slice sp.va sp.vn sp.vc, .bool sp.out] 27)).heap.size = w.heap.size + 2 := by
  have s1 : (w.alloc (.cells #[.int .i64 h.k, .slice h.ka h.kn h.kc, .slice h.va h.vn h.vc, .slice h.da h.dn h.dc, .slice h.ta h.tn h.tc] 25)).heap.size = w.heap.size + 1 := by simp
  have q1 : Below w.heap.size w (w.alloc (.cells #[.int .i64 h.k, .slice h.ka h.kn h.kc, .slice h.va h.vn h.vc, .slice h.da h.dn h.dc, .slice h.ta h.tn h.tc] 25)) := (Below.refl _ _).alloc (Nat.le_refl _) _
  have x1 := Box.new w 25 h
  have x2 := DH.box (w.alloc (.cells #[.int .i64 h.k, .slice h.ka h.kn h.kc, .slice h.va h.vn h.vc, .slice h.da h.dn h.dc, .slice h.ta h.tn h.tc] 25)) 27 sp
  rw [s1] at x2
  exact ⟨x1.below ((Below.refl _ _).alloc (Nat.le_refl _) _) x1.lt, x2, q1.alloc (by rw [s1]; omega) _, by simp⟩

set_option maxRecDepth 100000 in
set_option maxHeartbeats 4000000 in
theorem refRange_any (a : AT) (h : TH) (sp : DH) (f t : List Int) (w : World) (ht : InTree w h a.tr) (hlim : Lim a.pairs) (hcn : countT a.tr ≤ 500) (hs : SpanIn w sp f t) : Calls Tryd.prog 17 #[h.v, sp.v] w (Ranges w (a.pairs.filter (fun p => inS f t sp.out p.1))) := by
  unfold TH.v DH.v
  obtain ⟨ti, hti, htz⟩ := Option.map_eq_some_iff.1 infoPair
  simp only [Prod.mk.injEq] at htz
  obtain ⟨hz0, hz1, hz2⟩ := htz
  have HTI := Lib.hid (And.intro hti (And.intro hz0 (And.intro hz1 hz2)))
  clear hti hz0 hz1 hz2
  obtain ⟨e1, e2, e3, e4⟩ := enterS w h sp
  have HSP := Lib.hid hs
  have hfo := (AT.tr_formed a).2 hlim
  have hln := list_len a.tr hfo
  have hlp : (listT a.tr).length = a.pairs.length := by rw [AT.tr_list, List.length_map, ← AT.nodes_kv, List.length_map]
  generalize hn : (listT a.tr).length = n at hln hlp
  have HN := Lib.hid (And.intro hn hlp)
  have hn5 : n ≤ 500 := by omega
  have HFO := Lib.hid hfo
  clear hs hfo hln hn hlp
  go_enter Tryd.func17, Tryd.ntmps17
  go_upto_region 1 with fail
  generalize ((w.alloc (.cells #[.int .i64 h.k, .slice h.ka h.kn h.kc, .slice h.va h.vn h.vc, .slice h.da h.dn h.dc, .slice h.ta h.tn h.tc] 25)).alloc (.cells #[.slice sp.ka sp.kn sp.kc, .slice sp.va sp.vn sp.vc, .bool sp.out] 27)) = w0 at *
  obtain ⟨x0, x1, x2, x3, x4⟩ := e1.cells
  have HX := Lib.hid (And.intro e2 (And.intro e3 e4))
  have HT := Lib.hid ht
  clear e1 e2 e3 e4 ht
  go_upto_region 3 with (first
    | (go_at_call 19
       refine (refList_any a.tr h w _ HT.out HX.out.2.1 HFO.out hcn).mono ?_
       rintro _ w3 ⟨v3, hs, rfl, ho3, hh3, hb3⟩
       obtain ⟨la, lc, hv3⟩ := ho3.sl
       rw [hh3.1, HN.out.1] at hv3
       subst hv3
       have HG3 : Hid (RG w w3 sp w3.heap.size la n lc hs (listT a.tr) (.slice none 0 0) []) := Lib.hid ⟨HX.out.2.1.trans (hb3.mono HX.out.2.1.size), ho3.weak HX.out.2.1.size, hh3, HX.out.1.below hb3 HX.out.1.lt, OwnR.nil _ _ _ _, Nat.le_refl _, by have := hb3.size; have := HX.out.2.2; omega, fun g hg => by
         rcases ho3.form with ⟨q1, _⟩ | ⟨g', c', q1, _, q3, _⟩
         · rw [q1] at hg
           cases hg
         · rw [q1] at hg
           have e : g' = g := Option.some.inj hg
           subst e
           exact q3⟩
       clear ho3 hh3 hb3 x0 x1 x2 x3 x4))
  go_wp2_with fail
  generalize w3.heap.size = b3 at *
  go_loopw [5, 7] (fun s5 s7 wx => ∃ (i : Nat) (ra : Option Addr) (r rc : Nat) (rs : List PH), i ≤ n ∧ s5 = .slice ra r rc ∧ rs.length = r ∧ s7 = .int .i64 i ∧ RG w wx sp b3 la n lc hs (listT a.tr) (.slice ra r rc) rs ∧ PairsIn w rs ((a.pairs.take i).filter (fun p => inS f t sp.out p.1))) (fun _ s7 _ => n - (intOf s7).toNat)
  case atStart => exact ⟨0, none, 0, 0, [], by omega, rfl, rfl, rfl, HG3.out, PairsIn.nil _⟩
  case round =>
    clear HG3
    obtain ⟨i, ra, r, rc, rs, hi, rfl, hrl, rfl, hrg, hpin⟩ := hrel
    have HPIN := Lib.hid hpin
    have hr5 : r ≤ 500 := by
      have h1 := hpin.1
      have h2 := List.length_filter_le (fun p : KV => inS f t sp.out p.1) (a.pairs.take i)
      rw [List.length_take] at h2
      omega
    by_cases hlt : i < n
    · have q1 : (i : Int) < (n : Int) := by omega
      have hhl : hs.length = n := hrg.hw.1.trans HN.out.1
      have him : i < hs.length := by omega
      have him2 : i < (listT a.tr).length := by rw [HN.out.1]; exact hlt
      obtain ⟨g, hga, -⟩ := hrg.o.at hhl i him
      subst hga
      obtain ⟨l, k, v, rr, e1, -, -, e4⟩ := AT.node_at a i him2
      have HE1 := Lib.hid e1
      have HE4 := Lib.hid e4
      have HKV : Hid (InBytes w (hs[i]).ka (hs[i]).kn (hs[i]).kc k ∧ InBytes w (hs[i]).va (hs[i]).vn (hs[i]).vc v) := Lib.hid (by
        have q := hrg.hw.2 i him him2
        rw [e1] at q
        obtain ⟨H, hp⟩ := q.parts
        exact ⟨hp.key, hp.val⟩)
      have HL := Lib.hid hrg
      clear hrg hpin e1 e4
      cases hin : inS f t sp.out k with
      | false =>
        have HIN := Lib.hid hin
        clear hin
        go_upto_region 6 with fail
        refine wp_region_held_drew (S := (fun W => (W.cell? ⟨(w.heap.size + 1), 0, none⟩ = some (.slice sp.ka sp.kn sp.kc) ∧ W.cell? ⟨(w.heap.size + 1), 1, none⟩ = some (.slice sp.va sp.vn sp.vc) ∧ W.cell? ⟨(w.heap.size + 1), 2, none⟩ = some (.bool sp.out)) ∧ W.cell? ⟨g, i * 5 + 1, none⟩ = some (.slice (hs[i]).ka (hs[i]).kn (hs[i]).kc))) (by kernel_rfl) ⟨HL.out.drew.box.three, (HL.out.drew.ls.cells hhl i him).2.1⟩ (fun hHeld => ?_)
        refine take_w (i := 0) (oi := ?oZ44) (v := ?vZ44) ?hiZ44 (by kernel_rfl) (by kernel_rfl) (by kernel_rfl) ?hQZ44 ?hwZ44 ?hyZ44 (by assumption) ?restZ44
        case hiZ44 => (simp only [List.getElem?_toArray, List.getElem?_cons_zero] <;> rfl)
        case hQZ44 => exact (fun _ _ _ h => h)
        case hwZ44 => rfl
        case hyZ44 => (intro w hSw; (try dsimp only at hSw); go_simp; try with_reducible rfl)
        (try simp only [Act.put, List.setIfInBounds_toArray, List.set_cons_zero, List.set_cons_succ])
        refine take_w (i := 1) (oi := ?oZ45) (v := ?vZ45) ?hiZ45 (by kernel_rfl) (by kernel_rfl) (by kernel_rfl) ?hQZ45 ?hwZ45 ?hyZ45 (by assumption) ?restZ45
        case hiZ45 => (simp only [List.getElem?_toArray, List.getElem?_cons_succ, List.getElem?_cons_zero] <;> rfl)
        case hQZ45 => exact (fun _ _ _ h => h)
        case hwZ45 => rfl
        case hyZ45 => (intro w hSw; (try dsimp only at hSw); go_simp; try with_reducible rfl)
        (try simp only [Act.put, List.setIfInBounds_toArray, List.set_cons_zero, List.set_cons_succ])
        refine take_w (i := 2) (oi := ?oZ46) (v := ?vZ46) ?hiZ46 (by kernel_rfl) (by kernel_rfl) (by kernel_rfl) ?hQZ46 ?hwZ46 ?hyZ46 (by assumption) ?restZ46
        case hiZ46 => (simp only [List.getElem?_toArray, List.getElem?_cons_succ, List.getElem?_cons_zero] <;> rfl)
        case hQZ46 => exact (fun _ _ _ h => h)
        case hwZ46 => rfl
        case hyZ46 => (intro w hSw; (try dsimp only at hSw); go_simp; try with_reducible rfl)
        (try simp only [Act.put, List.setIfInBounds_toArray, List.set_cons_zero, List.set_cons_succ])
        refine take_w (i := 3) (oi := ?oZ47) (v := ?vZ47) ?hiZ47 (by kernel_rfl) (by kernel_rfl) (by kernel_rfl) ?hQZ47 ?hwZ47 ?hyZ47 (by assumption) ?restZ47
        case hiZ47 => (simp only [List.getElem?_toArray, List.getElem?_cons_succ, List.getElem?_cons_zero] <;> rfl)
        case hQZ47 => exact (fun _ _ _ h => h)
        case hwZ47 => rfl
        case hyZ47 => (intro w hSw; (try dsimp only at hSw); go_simp; try with_reducible rfl)
        (try simp only [Act.put, List.setIfInBounds_toArray, List.set_cons_zero, List.set_cons_succ])
        refine take_w (i := 4) (oi := ?oZ48) (v := ?vZ48) ?hiZ48 (by kernel_rfl) (by kernel_rfl) (by kernel_rfl) ?hQZ48 ?hwZ48 ?hyZ48 (by assumption) ?restZ48
        case hiZ48 => (simp only [List.getElem?_toArray, List.getElem?_cons_succ, List.getElem?_cons_zero] <;> rfl)
        case hQZ48 => exact (fun _ _ _ h => h)
        case hwZ48 => rfl
        case hyZ48 => (intro w hSw; (try dsimp only at hSw); go_simp; try with_reducible rfl)
        (try simp only [Act.put, List.setIfInBounds_toArray, List.set_cons_zero, List.set_cons_succ])
        refine take_w (i := 5) (oi := ?oZ49) (v := ?vZ49) ?hiZ49 (by kernel_rfl) (by kernel_rfl) (by kernel_rfl) ?hQZ49 ?hwZ49 ?hyZ49 (by assumption) ?restZ49
        case hiZ49 => (simp only [List.getElem?_toArray, List.getElem?_cons_succ, List.getElem?_cons_zero] <;> rfl)
        case hQZ49 => exact (fun _ _ _ h => h)
        case hwZ49 => rfl
        case hyZ49 => (intro w hSw; (try dsimp only at hSw); go_simp; try with_reducible rfl)
        (try simp only [Act.put, List.setIfInBounds_toArray, List.set_cons_zero, List.set_cons_succ])
        refine wpAnyH_ready (rs := [6]) (by kernel_rfl) (by simp) ?_
        refine AllReadyH.cons (o := ?oZ50) ?hiZ50 (fun K hK => ?stZ50) AllReadyH.nil
        case hiZ50 => (simp only [List.getElem?_toArray, List.getElem?_cons_succ, List.getElem?_cons_zero] <;> rfl)
        go_simp
        go_at_call 25
        refine (refIn_any sp f t k (hs[i]).ka (hs[i]).kn (hs[i]).kc _ (HSP.out.below HL.out.drew.ls.b) (HL.out.drew.ls.key i him him2 HE1.out).1).mono ?_
        rintro _ w6 ⟨rfl, hb6⟩
        have HL6 := Lib.hid (HL.out.drew.below hb6)
        rw [HIN.out]
        clear hb6
        go_simp
        refine hK.out _ _ ?_ (fun hHeld => ?_)
        · (first | exact ⟨HL6.out.box.three, (HL6.out.ls.cells hhl i him).2.1⟩ | exact ⟨HL.out.drew.box.three, (HL.out.drew.ls.cells hhl i him).2.1⟩)
        clear hK K
        (try simp only [Act.put, List.setIfInBounds_toArray, List.set_cons_zero, List.set_cons_succ])
        refine take_w (i := 7) (oi := ?oZ51) (v := ?vZ51) ?hiZ51 (by kernel_rfl) (by kernel_rfl) (by kernel_rfl) ?hQZ51 ?hwZ51 ?hyZ51 (by assumption) ?restZ51
        case hiZ51 => (simp only [List.getElem?_toArray, List.getElem?_cons_succ, List.getElem?_cons_zero] <;> rfl)
        case hQZ51 => exact (fun _ _ _ h => h)
        case hwZ51 => rfl
        case hyZ51 => (intro w hSw; (try dsimp only at hSw); go_simp; try with_reducible rfl)
        (try simp only [Act.put, List.setIfInBounds_toArray, List.set_cons_zero, List.set_cons_succ])
        refine wpAnyH_done (by kernel_rfl) ?_ _
        clear hHeld
        go_wp2_with fail
        exact ⟨⟨i + 1, ra, r, rc, rs, by omega, rfl, hrl, by go_num, HL6.out, by rw [filter_out HE4.out HIN.out]; exact HPIN.out⟩, by simp [intOf]; omega⟩
      | true =>
        have HIN := Lib.hid hin
        clear hin
        go_upto_region 6 with fail
        refine wp_region_held_drew (S := (fun W => (W.cell? ⟨(w.heap.size + 1), 0, none⟩ = some (.slice sp.ka sp.kn sp.kc) ∧ W.cell? ⟨(w.heap.size + 1), 1, none⟩ = some (.slice sp.va sp.vn sp.vc) ∧ W.cell? ⟨(w.heap.size + 1), 2, none⟩ = some (.bool sp.out)) ∧ W.cell? ⟨g, i * 5 + 1, none⟩ = some (.slice (hs[i]).ka (hs[i]).kn (hs[i]).kc))) (by kernel_rfl) ⟨HL.out.drew.box.three, (HL.out.drew.ls.cells hhl i him).2.1⟩ (fun hHeld => ?_)
        refine take_w (i := 0) (oi := ?oZ52) (v := ?vZ52) ?hiZ52 (by kernel_rfl) (by kernel_rfl) (by kernel_rfl) ?hQZ52 ?hwZ52 ?hyZ52 (by assumption) ?restZ52
        case hiZ52 => (simp only [List.getElem?_toArray, List.getElem?_cons_zero] <;> rfl)
        case hQZ52 => exact (fun _ _ _ h => h)
        case hwZ52 => rfl
        case hyZ52 => (intro w hSw; (try dsimp only at hSw); go_simp; try with_reducible rfl)
        (try simp only [Act.put, List.setIfInBounds_toArray, List.set_cons_zero, List.set_cons_succ])
        refine take_w (i := 1) (oi := ?oZ53) (v := ?vZ53) ?hiZ53 (by kernel_rfl) (by kernel_rfl) (by kernel_rfl) ?hQZ53 ?hwZ53 ?hyZ53 (by assumption) ?restZ53
        case hiZ53 => (simp only [List.getElem?_toArray, List.getElem?_cons_succ, List.getElem?_cons_zero] <;> rfl)
        case hQZ53 => exact (fun _ _ _ h => h)
        case hwZ53 => rfl
        case hyZ53 => (intro w hSw; (try dsimp only at hSw); go_simp; try with_reducible rfl)
        (try simp only [Act.put, List.setIfInBounds_toArray, List.set_cons_zero, List.set_cons_succ])
        refine take_w (i := 2) (oi := ?oZ54) (v := ?vZ54) ?hiZ54 (by kernel_rfl) (by kernel_rfl) (by kernel_rfl) ?hQZ54 ?hwZ54 ?hyZ54 (by assumption) ?restZ54
        case hiZ54 => (simp only [List.getElem?_toArray, List.getElem?_cons_succ, List.getElem?_cons_zero] <;> rfl)
        case hQZ54 => exact (fun _ _ _ h => h)
        case hwZ54 => rfl
        case hyZ54 => (intro w hSw; (try dsimp only at hSw); go_simp; try with_reducible rfl)
        (try simp only [Act.put, List.setIfInBounds_toArray, List.set_cons_zero, List.set_cons_succ])
        refine take_w (i := 3) (oi := ?oZ55) (v := ?vZ55) ?hiZ55 (by kernel_rfl) (by kernel_rfl) (by kernel_rfl) ?hQZ55 ?hwZ55 ?hyZ55 (by assumption) ?restZ55
        case hiZ55 => (simp only [List.getElem?_toArray, List.getElem?_cons_succ, List.getElem?_cons_zero] <;> rfl)
        case hQZ55 => exact (fun _ _ _ h => h)
        case hwZ55 => rfl
        case hyZ55 => (intro w hSw; (try dsimp only at hSw); go_simp; try with_reducible rfl)
        (try simp only [Act.put, List.setIfInBounds_toArray, List.set_cons_zero, List.set_cons_succ])
        refine take_w (i := 4) (oi := ?oZ56) (v := ?vZ56) ?hiZ56 (by kernel_rfl) (by kernel_rfl) (by kernel_rfl) ?hQZ56 ?hwZ56 ?hyZ56 (by assumption) ?restZ56
        case hiZ56 => (simp only [List.getElem?_toArray, List.getElem?_cons_succ, List.getElem?_cons_zero] <;> rfl)
        case hQZ56 => exact (fun _ _ _ h => h)
        case hwZ56 => rfl
        case hyZ56 => (intro w hSw; (try dsimp only at hSw); go_simp; try with_reducible rfl)
        (try simp only [Act.put, List.setIfInBounds_toArray, List.set_cons_zero, List.set_cons_succ])
        refine take_w (i := 5) (oi := ?oZ57) (v := ?vZ57) ?hiZ57 (by kernel_rfl) (by kernel_rfl) (by kernel_rfl) ?hQZ57 ?hwZ57 ?hyZ57 (by assumption) ?restZ57
        case hiZ57 => (simp only [List.getElem?_toArray, List.getElem?_cons_succ, List.getElem?_cons_zero] <;> rfl)
        case hQZ57 => exact (fun _ _ _ h => h)
        case hwZ57 => rfl
        case hyZ57 => (intro w hSw; (try dsimp only at hSw); go_simp; try with_reducible rfl)
        (try simp only [Act.put, List.setIfInBounds_toArray, List.set_cons_zero, List.set_cons_succ])
        refine wpAnyH_ready (rs := [6]) (by kernel_rfl) (by simp) ?_
        refine AllReadyH.cons (o := ?oZ58) ?hiZ58 (fun K hK => ?stZ58) AllReadyH.nil
        case hiZ58 => (simp only [List.getElem?_toArray, List.getElem?_cons_succ, List.getElem?_cons_zero] <;> rfl)
        go_simp
        go_at_call 25
        refine (refIn_any sp f t k (hs[i]).ka (hs[i]).kn (hs[i]).kc _ (HSP.out.below HL.out.drew.ls.b) (HL.out.drew.ls.key i him him2 HE1.out).1).mono ?_
        rintro _ w6 ⟨rfl, hb6⟩
        have HL6 := Lib.hid (HL.out.drew.below hb6)
        rw [HIN.out]
        clear hb6
        go_simp
        refine hK.out _ _ ?_ (fun hHeld => ?_)
        · (first | exact ⟨HL6.out.box.three, (HL6.out.ls.cells hhl i him).2.1⟩ | exact ⟨HL.out.drew.box.three, (HL.out.drew.ls.cells hhl i him).2.1⟩)
        clear hK K
        (try simp only [Act.put, List.setIfInBounds_toArray, List.set_cons_zero, List.set_cons_succ])
        refine take_w (i := 7) (oi := ?oZ59) (v := ?vZ59) ?hiZ59 (by kernel_rfl) (by kernel_rfl) (by kernel_rfl) ?hQZ59 ?hwZ59 ?hyZ59 (by assumption) ?restZ59
        case hiZ59 => (simp only [List.getElem?_toArray, List.getElem?_cons_succ, List.getElem?_cons_zero] <;> rfl)
        case hQZ59 => exact (fun _ _ _ h => h)
        case hwZ59 => rfl
        case hyZ59 => (intro w hSw; (try dsimp only at hSw); go_simp; try with_reducible rfl)
        (try simp only [Act.put, List.setIfInBounds_toArray, List.set_cons_zero, List.set_cons_succ])
        refine wpAnyH_done (by kernel_rfl) ?_ _
        clear hHeld
        go_upto_region 8 with fail
        refine wp_region_held_drew (S := (fun W => W.cell? ⟨g, i * 5 + 1, none⟩ = some (.slice (hs[i]).ka (hs[i]).kn (hs[i]).kc) ∧ W.cell? ⟨g, i * 5 + 2, none⟩ = some (.slice (hs[i]).va (hs[i]).vn (hs[i]).vc))) (by kernel_rfl) ⟨(HL6.out.drew.ls.cells hhl i him).2.1, (HL6.out.drew.ls.cells hhl i him).2.2.1⟩ (fun hHeld => ?_)
        refine take_w (i := 0) (oi := ?oZ29) (v := ?vZ29) ?hiZ29 (by kernel_rfl) (by kernel_rfl) (by kernel_rfl) ?hQZ29 ?hwZ29 ?hyZ29 (by assumption) ?restZ29
        case hiZ29 => (simp only [List.getElem?_toArray, List.getElem?_cons_zero] <;> rfl)
        case hQZ29 => exact (fun _ _ _ h => h)
        case hwZ29 => rfl
        case hyZ29 => (intro w hSw; (try dsimp only at hSw); go_simp; try with_reducible rfl)
        (try simp only [Act.put, List.setIfInBounds_toArray, List.set_cons_zero, List.set_cons_succ])
        refine take_w (i := 1) (oi := ?oZ30) (v := ?vZ30) ?hiZ30 (by kernel_rfl) (by kernel_rfl) (by kernel_rfl) ?hQZ30 ?hwZ30 ?hyZ30 (by assumption) ?restZ30
        case hiZ30 => (simp only [List.getElem?_toArray, List.getElem?_cons_succ, List.getElem?_cons_zero] <;> rfl)
        case hQZ30 => exact (fun _ _ _ h => h)
        case hwZ30 => rfl
        case hyZ30 => (intro w hSw; (try dsimp only at hSw); go_simp; try with_reducible rfl)
        (try simp only [Act.put, List.setIfInBounds_toArray, List.set_cons_zero, List.set_cons_succ])
        refine take_w (i := 2) (oi := ?oZ31) (v := ?vZ31) ?hiZ31 (by kernel_rfl) (by kernel_rfl) (by kernel_rfl) ?hQZ31 ?hwZ31 ?hyZ31 (by assumption) ?restZ31
        case hiZ31 => (simp only [List.getElem?_toArray, List.getElem?_cons_succ, List.getElem?_cons_zero] <;> rfl)
        case hQZ31 => exact (fun _ _ _ h => h)
        case hwZ31 => rfl
        case hyZ31 => (intro w hSw; (try dsimp only at hSw); go_simp; try with_reducible rfl)
        (try simp only [Act.put, List.setIfInBounds_toArray, List.set_cons_zero, List.set_cons_succ])
        refine take_w (i := 3) (oi := ?oZ32) (v := ?vZ32) ?hiZ32 (by kernel_rfl) (by kernel_rfl) (by kernel_rfl) ?hQZ32 ?hwZ32 ?hyZ32 (by assumption) ?restZ32
        case hiZ32 => (simp only [List.getElem?_toArray, List.getElem?_cons_succ, List.getElem?_cons_zero] <;> rfl)
        case hQZ32 => exact (fun _ _ _ h => h)
        case hwZ32 => rfl
        case hyZ32 => (intro w hSw; (try dsimp only at hSw); go_simp; try with_reducible rfl)
        (try simp only [Act.put, List.setIfInBounds_toArray, List.set_cons_zero, List.set_cons_succ])
        refine take_w (i := 4) (oi := ?oZ33) (v := ?vZ33) ?hiZ33 (by kernel_rfl) (by kernel_rfl) (by kernel_rfl) ?hQZ33 ?hwZ33 ?hyZ33 (by assumption) ?restZ33
        case hiZ33 => (simp only [List.getElem?_toArray, List.getElem?_cons_succ, List.getElem?_cons_zero] <;> rfl)
        case hQZ33 => exact (fun _ _ _ h => h)
        case hwZ33 => rfl
        case hyZ33 => (intro w hSw; (try dsimp only at hSw); go_simp; try with_reducible rfl)
        (try simp only [Act.put, List.setIfInBounds_toArray, List.set_cons_zero, List.set_cons_succ])
        refine take_w (i := 5) (oi := ?oZ34) (v := ?vZ34) ?hiZ34 (by kernel_rfl) (by kernel_rfl) (by kernel_rfl) ?hQZ34 ?hwZ34 ?hyZ34 (by assumption) ?restZ34
        case hiZ34 => (simp only [List.getElem?_toArray, List.getElem?_cons_succ, List.getElem?_cons_zero] <;> rfl)
        case hQZ34 => exact (fun _ _ _ h => h)
        case hwZ34 => rfl
        case hyZ34 => (intro w hSw; (try dsimp only at hSw); go_simp; try with_reducible rfl)
        (try simp only [Act.put, List.setIfInBounds_toArray, List.set_cons_zero, List.set_cons_succ])
        refine take_w (i := 6) (oi := ?oZ35) (v := ?vZ35) ?hiZ35 (by kernel_rfl) (by kernel_rfl) (by kernel_rfl) ?hQZ35 ?hwZ35 ?hyZ35 (by assumption) ?restZ35
        case hiZ35 => (simp only [List.getElem?_toArray, List.getElem?_cons_succ, List.getElem?_cons_zero] <;> rfl)
        case hQZ35 => exact (fun _ _ _ h => h)
        case hwZ35 => rfl
        case hyZ35 => (intro w hSw; (try dsimp only at hSw); go_simp; try with_reducible rfl)
        (try simp only [Act.put, List.setIfInBounds_toArray, List.set_cons_zero, List.set_cons_succ])
        refine take_w (i := 7) (oi := ?oZ36) (v := ?vZ36) ?hiZ36 (by kernel_rfl) (by kernel_rfl) (by kernel_rfl) ?hQZ36 ?hwZ36 ?hyZ36 (by assumption) ?restZ36
        case hiZ36 => (simp only [List.getElem?_toArray, List.getElem?_cons_succ, List.getElem?_cons_zero] <;> rfl)
        case hQZ36 => exact (fun _ _ _ h => h)
        case hwZ36 => rfl
        case hyZ36 => (intro w hSw; (try dsimp only at hSw); go_simp; try with_reducible rfl)
        (try simp only [Act.put, List.setIfInBounds_toArray, List.set_cons_zero, List.set_cons_succ])
        refine take_w (i := 8) (oi := ?oZ37) (v := ?vZ37) ?hiZ37 (by kernel_rfl) (by kernel_rfl) (by kernel_rfl) ?hQZ37 ?hwZ37 ?hyZ37 (by assumption) ?restZ37
        case hiZ37 => (simp only [List.getElem?_toArray, List.getElem?_cons_succ, List.getElem?_cons_zero] <;> rfl)
        case hQZ37 => exact (fun _ _ _ h => h)
        case hwZ37 => rfl
        case hyZ37 => (intro w hSw; (try dsimp only at hSw); go_simp; try with_reducible rfl)
        (try simp only [Act.put, List.setIfInBounds_toArray, List.set_cons_zero, List.set_cons_succ])
        refine take_w (i := 9) (oi := ?oZ38) (v := ?vZ38) ?hiZ38 (by kernel_rfl) (by kernel_rfl) (by kernel_rfl) ?hQZ38 ?hwZ38 ?hyZ38 (by assumption) ?restZ38
        case hiZ38 => (simp only [List.getElem?_toArray, List.getElem?_cons_succ, List.getElem?_cons_zero] <;> rfl)
        case hQZ38 => exact (fun _ _ _ h => h)
        case hwZ38 => rfl
        case hyZ38 => (intro w hSw; (try dsimp only at hSw); go_simp; try with_reducible rfl)
        (try simp only [Act.put, List.setIfInBounds_toArray, List.set_cons_zero, List.set_cons_succ])
        refine take_w (i := 10) (oi := ?oZ39) (v := ?vZ39) ?hiZ39 (by kernel_rfl) (by kernel_rfl) (by kernel_rfl) ?hQZ39 ?hwZ39 ?hyZ39 (by assumption) ?restZ39
        case hiZ39 => (simp only [List.getElem?_toArray, List.getElem?_cons_succ, List.getElem?_cons_zero] <;> rfl)
        case hQZ39 => exact (fun _ _ _ h => h)
        case hwZ39 => rfl
        case hyZ39 => (intro w hSw; (try dsimp only at hSw); go_simp; try with_reducible rfl)
        (try simp only [Act.put, List.setIfInBounds_toArray, List.set_cons_zero, List.set_cons_succ])
        refine take_w (i := 11) (oi := ?oZ40) (v := ?vZ40) ?hiZ40 (by kernel_rfl) (by kernel_rfl) (by kernel_rfl) ?hQZ40 ?hwZ40 ?hyZ40 (by assumption) ?restZ40
        case hiZ40 => (simp only [List.getElem?_toArray, List.getElem?_cons_succ, List.getElem?_cons_zero] <;> rfl)
        case hQZ40 => exact (fun _ _ _ h => h)
        case hwZ40 => rfl
        case hyZ40 => (intro w hSw; (try dsimp only at hSw); go_simp; try with_reducible rfl)
        (try simp only [Act.put, List.setIfInBounds_toArray, List.set_cons_zero, List.set_cons_succ])
        refine wpAnyH_ready (rs := [12]) (by kernel_rfl) (by simp) ?_
        refine AllReadyH.cons (o := ?oZ41) ?hiZ41 (fun K hK => ?stZ41) AllReadyH.nil
        case hiZ41 => (simp only [List.getElem?_toArray, List.getElem?_cons_succ, List.getElem?_cons_zero] <;> rfl)
        go_simp
        refine hK.out _ _ ?_ (fun hHeld => ?_)
        · (first | exact ⟨(HL9.out.ls.cells hhl i him).2.1, (HL9.out.ls.cells hhl i him).2.2.1⟩ | exact ⟨(HL6.out.drew.ls.cells hhl i him).2.1, (HL6.out.drew.ls.cells hhl i him).2.2.1⟩ | exact ⟨((HL6.out.drew.below ((Below.refl _ _).alloc (Nat.le_refl _) _)).ls.cells hhl i him).2.1, ((HL6.out.drew.below ((Below.refl _ _).alloc (Nat.le_refl _) _)).ls.cells hhl i him).2.2.1⟩)
        clear hK K
        (try simp only [Act.put, List.setIfInBounds_toArray, List.set_cons_zero, List.set_cons_succ])
        refine wpAnyH_ready (rs := [13]) (by kernel_rfl) (by simp) ?_
        refine AllReadyH.cons (o := ?oZ42) ?hiZ42 (fun K hK => ?stZ42) AllReadyH.nil
        case hiZ42 => (simp only [List.getElem?_toArray, List.getElem?_cons_succ, List.getElem?_cons_zero] <;> rfl)
        have qa : Below w6.drew.heap.size w6.drew (w6.drew.alloc (.cells #[.slice (hs[i]).ka (hs[i]).kn (hs[i]).kc, .slice (hs[i]).va (hs[i]).vn (hs[i]).vc] 51)) := (Below.refl _ _).alloc (Nat.le_refl _) _
        have HLA := Lib.hid (HL6.out.drew.below qa)
        refine step_append_rec _ rfl (.tmp 25) (.tmp 37) 45 rfl recP b3 51 ti _ 48 Tryd.underlying45 HTI.out.1 HTI.out.2.1 HTI.out.2.2.1 HTI.out.2.2.2 rfl (.slice ra r rc) rs rfl HLA.out.row w6.heap.size 1 (⟨(hs[i]).ka, (hs[i]).kn, (hs[i]).kc, (hs[i]).va, (hs[i]).vn, (hs[i]).vc⟩ : PH) rfl (RBox.cell (c := recP) (r := (⟨(hs[i]).ka, (hs[i]).kn, (hs[i]).kc, (hs[i]).va, (hs[i]).vn, (hs[i]).vc⟩ : PH)) (heap_alloc_new w6.drew _)) ?_ (by omega) HLA.out.rb ?_
        · rw [hrl]
          omega
        intro v9 w9 ho9 hg9 hw9 _
        obtain ⟨ra9, rc9, hv9⟩ := ho9.sl
        have hlen9 : (rs ++ [(⟨(hs[i]).ka, (hs[i]).kn, (hs[i]).kc, (hs[i]).va, (hs[i]).vn, (hs[i]).vc⟩ : PH)]).length = r + 1 := by simp [hrl]
        rw [hlen9] at hv9
        subst hv9
        have HL9 := Lib.hid (HLA.out.app hg9 ho9)
        have HLE9 := Lib.hid hlen9
        clear ho9 hg9 hlen9 qa
        refine hK.out _ _ ?_ (fun hHeld => ?_)
        · (first | exact ⟨(HL9.out.ls.cells hhl i him).2.1, (HL9.out.ls.cells hhl i him).2.2.1⟩ | exact ⟨(HL6.out.drew.ls.cells hhl i him).2.1, (HL6.out.drew.ls.cells hhl i him).2.2.1⟩ | exact ⟨((HL6.out.drew.below ((Below.refl _ _).alloc (Nat.le_refl _) _)).ls.cells hhl i him).2.1, ((HL6.out.drew.below ((Below.refl _ _).alloc (Nat.le_refl _) _)).ls.cells hhl i him).2.2.1⟩)
        clear hK K
        (try simp only [Act.put, List.setIfInBounds_toArray, List.set_cons_zero, List.set_cons_succ])
        refine take_w (i := 14) (oi := ?oZ43) (v := ?vZ43) ?hiZ43 (by kernel_rfl) (by kernel_rfl) (by kernel_rfl) ?hQZ43 ?hwZ43 ?hyZ43 (by assumption) ?restZ43
        case hiZ43 => (simp only [List.getElem?_toArray, List.getElem?_cons_succ, List.getElem?_cons_zero] <;> rfl)
        case hQZ43 => exact (fun _ _ _ h => h)
        case hwZ43 => rfl
        case hyZ43 => (intro w hSw; (try dsimp only at hSw); go_simp; try with_reducible rfl)
        (try simp only [Act.put, List.setIfInBounds_toArray, List.set_cons_zero, List.set_cons_succ])
        refine wpAnyH_done (by kernel_rfl) ?_ _
        clear hHeld
        go_wp2_with fail
        exact ⟨⟨i + 1, ra9, r + 1, rc9, _, by omega, rfl, HLE9.out, by go_num, HL9.out, by rw [filter_in HE4.out HIN.out]; exact HPIN.out.snoc HKV.out.1 HKV.out.2⟩, by simp [intOf]; omega⟩
    · obtain rfl : i = n := by omega
      have q1 : ¬ (i : Int) < (i : Int) := by omega
      go_wp2_with fail
      go_ret
      refine ⟨ra, r, rc, rs, rfl, hrg.row.weak (by have := hrg.wb; omega), hrl, ?_, hrg.b⟩
      have hp := HPIN.out
      rw [List.take_of_length_le (by have := HN.out.2; omega)] at hp
      exact hp
end Go.Proofs.YtkfjhegehhahcaaDoor

/- The walk of the law ProofShows. -/
namespace Go.Proofs.YtkfjhegehhahcaaDoor
open Go.RowKit
set_option linter.unusedVariables false

/-- A tree's box and a span's box. -/
structure PX7 (w W : World) (h : TH) (t : Tr) (sp : DH) (f tt : List Int) : Prop where
  tb : Box W 25 w.heap.size h
  ti : InTree W h t
  sb : RBox recD W 27 (w.heap.size + 1) sp
  s : SpanIn w sp f tt
  b : Below w.heap.size w W
/-- And a proof's box. -/
structure ZX (w W : World) (h : TH) (t : Tr) (sp : DH) (f tt : List Int) (g8 : Nat) (hp : TH) (p : Tr) : Prop where
  x : PX7 w W h t sp f tt
  pb : Box W 25 g8 hp
  pt : InTree W hp p
section
variable {w W W' : World} {h hp : TH} {t p : Tr} {sp : DH} {f tt : List Int} {g8 : Nat}
theorem PX7.below (x : PX7 w W h t sp f tt) (hb : Below W.heap.size W W') : PX7 w W' h t sp f tt := ⟨x.tb.below hb x.tb.lt, x.ti.lower hb, x.sb.below hb x.sb.lt, x.s, x.b.trans (hb.mono x.b.size)⟩
theorem PX7.spn (x : PX7 w W h t sp f tt) : SpanIn W sp f tt := x.s.below x.b
theorem ZX.below (z : ZX w W h t sp f tt g8 hp p) (hb : Below W.heap.size W W') : ZX w W' h t sp f tt g8 hp p := ⟨z.x.below hb, z.pb.below hb z.pb.lt, z.pt.lower hb⟩
theorem ZX.drew (z : ZX w W h t sp f tt g8 hp p) : ZX w W.drew h t sp f tt g8 hp p := z.below (Below.refl _ _).drew
theorem ZX.all (z : ZX w W h t sp f tt g8 hp p) : (W.cell? ⟨g8, 0, none⟩ = some (.int .i64 hp.k) ∧ W.cell? ⟨g8, 1, none⟩ = some (.slice hp.ka hp.kn hp.kc) ∧ W.cell? ⟨g8, 2, none⟩ = some (.slice hp.va hp.vn hp.vc) ∧ W.cell? ⟨g8, 3, none⟩ = some (.slice hp.da hp.dn hp.dc) ∧ W.cell? ⟨g8, 4, none⟩ = some (.slice hp.ta hp.tn hp.tc)) ∧ (W.cell? ⟨w.heap.size, 0, none⟩ = some (.int .i64 h.k) ∧ W.cell? ⟨w.heap.size, 1, none⟩ = some (.slice h.ka h.kn h.kc) ∧ W.cell? ⟨w.heap.size, 2, none⟩ = some (.slice h.va h.vn h.vc) ∧ W.cell? ⟨w.heap.size, 3, none⟩ = some (.slice h.da h.dn h.dc) ∧ W.cell? ⟨w.heap.size, 4, none⟩ = some (.slice h.ta h.tn h.tc)) ∧ (W.cell? ⟨w.heap.size + 1, 0, none⟩ = some (.slice sp.ka sp.kn sp.kc) ∧ W.cell? ⟨w.heap.size + 1, 1, none⟩ = some (.slice sp.va sp.vn sp.vc) ∧ W.cell? ⟨w.heap.size + 1, 2, none⟩ = some (.bool sp.out)) := ⟨z.pb.cells, z.x.tb.cells, z.x.sb.three⟩
end

set_option maxRecDepth 100000 in
set_option maxHeartbeats 8000000 in
theorem proofShows_law (x : Int) (t : Tr) (h : TH) (sp : DH) (f tt : List Int) (w : World) (ht : InTree w h t) (hs : SpanIn w sp f tt) (hT : TabLies w) (hx1 : -9223372036854775808 ≤ x) (hx2 : x ≤ 9223372036854775807) :
    Calls Tryd.prog 3 #[.int .i64 x, h.v, sp.v] w (Says w (.bool true)) := by
  have heq : ∀ (W : World) (p q : Int), (binOp .eql 31 (.iface 34 (.int .i64 p)) (.iface 34 (.int .i64 q))).run Tryd.prog W = .ok (.bool (p == q)) W := fun W p q => eql_code p q W
  have hcd1 : codeV 1 = .iface 34 (.int .i64 1) := rfl
  have hcd3 : codeV 3 = .iface 34 (.int .i64 3) := rfl
  unfold TH.v DH.v
  obtain ⟨e1, e2, e3, e4⟩ := enterS w h sp
  have HT := Lib.hid hT
  go_enter Tryd.func3, Tryd.ntmps3
  go_upto_region 1 with fail
  generalize ((w.alloc (.cells #[.int .i64 h.k, .slice h.ka h.kn h.kc, .slice h.va h.vn h.vc, .slice h.da h.dn h.dc, .slice h.ta h.tn h.tc] 25)).alloc (.cells #[.slice sp.ka sp.kn sp.kc, .slice sp.va sp.vn sp.vc, .bool sp.out] 27)) = w0 at *
  have HD0 : Hid (PX7 w w0 h t sp f tt) := Lib.hid ⟨e1, ht.lower e3, e2, hs, e3⟩
  clear e1 e2 e3 e4 ht hs hT
  go_upto_if 14 with (first
    | (go_at_call 6
       refine (up7_any _ (HT.out.below HD0.out.b (Nat.le_refl _))).mono ?_
       rintro _ w1 ⟨rfl, hb1⟩
       have HD1 := Lib.hid (HD0.out.below hb1)
       obtain ⟨x0, x1, x2, x3, x4⟩ := HD1.out.tb.cells
       clear hb1)
    | (go_at_call 7
       refine (light_any t h 200 100 _ HD1.out.ti (by omega) (by omega) (by omega) (by omega)).mono ?_
       rintro _ w2 ⟨r, rfl, hr1, hr2, hok, hb2⟩
       have HD2 := Lib.hid (HD1.out.below hb2)
       have HOK := Lib.hid hok
       clear hb2 hok x0 x1 x2 x3 x4))
  by_cases hr : r < 0
  · go_wp2_with fail
    go_ret
    exact ⟨rfl, HD2.out.b⟩
  have hcn : countT t ≤ 200 := by
    have := (HOK.out (by omega)).2
    omega
  clear HOK
  obtain ⟨x0, x1, x2, x3, x4⟩ := HD2.out.tb.cells
  obtain ⟨y0, y1, y2⟩ := HD2.out.sb.three
  by_cases hx : 1 ≤ x ∧ x ≤ 32
  rotate_left
  · have HXX := Lib.hid hx
    go_upto_region 5 with (first
    | (go_at_call 8
       refine (prove_arg x t h sp f tt _ HD2.out.ti HD2.out.spn hx1 hx2 HXX.out).mono ?_
       rintro _ w4 ⟨h4, rfl, hi4, hb4⟩
       rw [hcd1]
       have HD4 := Lib.hid (HD2.out.below hb4)
       have HI4 := Lib.hid hi4
       clear hi4 hb4 x0 x1 x2 x3 x4 y0 y1 y2)
    | (refine wpList_store_box rfl 25 (.tmp 8) (.tmp 21) rfl w4.heap.size hZ h4 rfl rfl 25 (Box.new w4 25 hZ) infoTree5 ?_
       intro w4b hbx hg
       have qq : Below w4.heap.size w4 w4b := ((Below.refl w4.heap.size w4).alloc (Nat.le_refl _) _).grown hg (by simp) (fun j hj => by injection hj; omega)
       have HZ5 : Hid (ZX w w4b h t sp f tt w4.heap.size h4 tNil) := Lib.hid ⟨HD4.out.below qq, hbx, HI4.out.lower qq⟩
       clear hbx hg qq))
    obtain ⟨x0, x1, x2, x3, x4⟩ := HZ5.out.pb.cells
    by_cases hx0 : x < 1
    · go_wp2_with (first
      | (go_at_call 9
         refine (refSame_any tNil h4 hZ _ HZ5.out.pt (inTree_nil _)).mono ?_
         rintro _ w6 ⟨rfl, hb6⟩
         have HD6 := Lib.hid (HZ5.out.x.below hb6)
         clear hb6))
      go_ret
      exact ⟨rfl, HD6.out.b⟩
    · have hx' : (32 : Int) < x := by omega
      go_wp2_with (first
      | (go_at_call 9
         refine (refSame_any tNil h4 hZ _ HZ5.out.pt (inTree_nil _)).mono ?_
         rintro _ w6 ⟨rfl, hb6⟩
         have HD6 := Lib.hid (HZ5.out.x.below hb6)
         clear hb6))
      go_ret
      exact ⟨rfl, HD6.out.b⟩
  obtain ⟨k, rfl⟩ : ∃ k : Nat, x = (k : Int) := ⟨x.toNat, by omega⟩
  have hk1 : 1 ≤ k := by omega
  have hk2 : k ≤ 32 := by omega
  have hk3 : ¬ (k : Int) < 1 := by omega
  have hk4 : ¬ (32 : Int) < (k : Int) := by omega
  clear hx
  cases hi : isT t with
  | false =>
    have HI := Lib.hid hi
    clear hi
    go_upto_region 5 with (first
    | (go_at_call 8
       refine (prove_form k hk1 hk2 t h sp f tt _ HD2.out.ti HD2.out.spn HI.out).mono ?_
       rintro _ w4 ⟨h4, rfl, hi4, hb4⟩
       rw [hcd3]
       have HD4 := Lib.hid (HD2.out.below hb4)
       have HI4 := Lib.hid hi4
       clear hi4 hb4 x0 x1 x2 x3 x4 y0 y1 y2)
    | (refine wpList_store_box rfl 25 (.tmp 8) (.tmp 21) rfl w4.heap.size hZ h4 rfl rfl 25 (Box.new w4 25 hZ) infoTree5 ?_
       intro w4b hbx hg
       have qq : Below w4.heap.size w4 w4b := ((Below.refl w4.heap.size w4).alloc (Nat.le_refl _) _).grown hg (by simp) (fun j hj => by injection hj; omega)
       have HZ5 : Hid (ZX w w4b h t sp f tt w4.heap.size h4 tNil) := Lib.hid ⟨HD4.out.below qq, hbx, HI4.out.lower qq⟩
       clear hbx hg qq))
    obtain ⟨x0, x1, x2, x3, x4⟩ := HZ5.out.x.tb.cells
    go_wp2_with (first
    | (go_at_call 10
       refine (refIs_any t h _ HZ5.out.x.ti (by omega)).mono ?_
       rw [HI.out]
       rintro _ w5 ⟨rfl, hb5⟩
       have HZ6 := Lib.hid (HZ5.out.below hb5)
       clear hb5 x0 x1 x2 x3 x4
       obtain ⟨x0, x1, x2, x3, x4⟩ := HZ6.out.pb.cells)
    | (go_at_call 9
       refine (refSame_any tNil h4 hZ _ HZ6.out.pt (inTree_nil _)).mono ?_
       rintro _ w6 ⟨rfl, hb6⟩
       have HD6 := Lib.hid (HZ6.out.x.below hb6)
       clear hb6))
    go_ret
    exact ⟨rfl, HD6.out.b⟩
  | true =>
    obtain ⟨a, rfl, -, -, hlim, -⟩ := (isT_iff t).1 hi
    have HI := Lib.hid (And.intro hi hlim)
    clear hi hlim
    go_upto_region 5 with (first
    | (go_at_call 8
       refine (prove_ok k hk1 hk2 a h sp f tt _ HD2.out.ti HD2.out.spn HI.out.1 (by omega) (HT.out.below HD2.out.b (Nat.le_refl _))).mono ?_
       rintro _ w4 ⟨h4, rfl, hf4, hb4⟩
       have HD4 := Lib.hid (HD2.out.below hb4)
       have HI4 := Lib.hid (hf4.self (Nat.le_refl _))
       clear hf4 hb4 x0 x1 x2 x3 x4 y0 y1 y2)
    | (refine wpList_store_box rfl 25 (.tmp 8) (.tmp 21) rfl w4.heap.size hZ h4 rfl rfl 25 (Box.new w4 25 hZ) infoTree5 ?_
       intro w4b hbx hg
       have qq : Below w4.heap.size w4 w4b := ((Below.refl w4.heap.size w4).alloc (Nat.le_refl _) _).grown hg (by simp) (fun j hj => by injection hj; omega)
       have HZ5 : Hid (ZX w w4b h a.tr sp f tt w4.heap.size h4 (showA k f tt sp.out a)) := Lib.hid ⟨HD4.out.below qq, hbx, HI4.out.lower qq⟩
       clear hbx hg qq))
    generalize w4.heap.size = g8 at *
    obtain ⟨x0, x1, x2, x3, x4⟩ := HZ5.out.x.tb.cells
    go_upto_region 10 with (first
    | (go_at_call 10
       refine (refIs_any a.tr h _ HZ5.out.x.ti (by omega)).mono ?_
       rw [HI.out.1]
       rintro _ w5 ⟨rfl, hb5⟩
       have HZ6 := Lib.hid (HZ5.out.below hb5)
       clear hb5 x0 x1 x2 x3 x4))
    have HZD := Lib.hid HZ6.out.drew
    refine wp_region_held_drew (S := (fun W => (W.cell? ⟨g8, 0, none⟩ = some (.int .i64 h4.k) ∧ W.cell? ⟨g8, 1, none⟩ = some (.slice h4.ka h4.kn h4.kc) ∧ W.cell? ⟨g8, 2, none⟩ = some (.slice h4.va h4.vn h4.vc) ∧ W.cell? ⟨g8, 3, none⟩ = some (.slice h4.da h4.dn h4.dc) ∧ W.cell? ⟨g8, 4, none⟩ = some (.slice h4.ta h4.tn h4.tc)) ∧ (W.cell? ⟨w.heap.size, 0, none⟩ = some (.int .i64 h.k) ∧ W.cell? ⟨w.heap.size, 1, none⟩ = some (.slice h.ka h.kn h.kc) ∧ W.cell? ⟨w.heap.size, 2, none⟩ = some (.slice h.va h.vn h.vc) ∧ W.cell? ⟨w.heap.size, 3, none⟩ = some (.slice h.da h.dn h.dc) ∧ W.cell? ⟨w.heap.size, 4, none⟩ = some (.slice h.ta h.tn h.tc)) ∧ (W.cell? ⟨w.heap.size + 1, 0, none⟩ = some (.slice sp.ka sp.kn sp.kc) ∧ W.cell? ⟨w.heap.size + 1, 1, none⟩ = some (.slice sp.va sp.vn sp.vc) ∧ W.cell? ⟨w.heap.size + 1, 2, none⟩ = some (.bool sp.out)))) (by kernel_rfl) HZD.out.all (fun hHeld => ?_)
    refine take_w (i := 0) (oi := ?oZ1) (v := ?vZ1) ?hiZ1 (by kernel_rfl) (by kernel_rfl) (by kernel_rfl) ?hQZ1 ?hwZ1 ?hyZ1 (by assumption) ?restZ1
    case hiZ1 => (simp only [List.getElem?_toArray, List.getElem?_cons_zero] <;> rfl)
    case hQZ1 => exact (fun _ _ _ h => h)
    case hwZ1 => rfl
    case hyZ1 => (intro w hSw; (try dsimp only at hSw); go_simp; try with_reducible rfl)
    (try simp only [Act.put, List.setIfInBounds_toArray, List.set_cons_zero, List.set_cons_succ])
    refine take_w (i := 1) (oi := ?oZ2) (v := ?vZ2) ?hiZ2 (by kernel_rfl) (by kernel_rfl) (by kernel_rfl) ?hQZ2 ?hwZ2 ?hyZ2 (by assumption) ?restZ2
    case hiZ2 => (simp only [List.getElem?_toArray, List.getElem?_cons_succ, List.getElem?_cons_zero] <;> rfl)
    case hQZ2 => exact (fun _ _ _ h => h)
    case hwZ2 => rfl
    case hyZ2 => (intro w hSw; (try dsimp only at hSw); go_simp; try with_reducible rfl)
    (try simp only [Act.put, List.setIfInBounds_toArray, List.set_cons_zero, List.set_cons_succ])
    refine take_w (i := 2) (oi := ?oZ3) (v := ?vZ3) ?hiZ3 (by kernel_rfl) (by kernel_rfl) (by kernel_rfl) ?hQZ3 ?hwZ3 ?hyZ3 (by assumption) ?restZ3
    case hiZ3 => (simp only [List.getElem?_toArray, List.getElem?_cons_succ, List.getElem?_cons_zero] <;> rfl)
    case hQZ3 => exact (fun _ _ _ h => h)
    case hwZ3 => rfl
    case hyZ3 => (intro w hSw; (try dsimp only at hSw); go_simp; try with_reducible rfl)
    (try simp only [Act.put, List.setIfInBounds_toArray, List.set_cons_zero, List.set_cons_succ])
    refine take_w (i := 3) (oi := ?oZ4) (v := ?vZ4) ?hiZ4 (by kernel_rfl) (by kernel_rfl) (by kernel_rfl) ?hQZ4 ?hwZ4 ?hyZ4 (by assumption) ?restZ4
    case hiZ4 => (simp only [List.getElem?_toArray, List.getElem?_cons_succ, List.getElem?_cons_zero] <;> rfl)
    case hQZ4 => exact (fun _ _ _ h => h)
    case hwZ4 => rfl
    case hyZ4 => (intro w hSw; (try dsimp only at hSw); go_simp; try with_reducible rfl)
    (try simp only [Act.put, List.setIfInBounds_toArray, List.set_cons_zero, List.set_cons_succ])
    refine take_w (i := 4) (oi := ?oZ5) (v := ?vZ5) ?hiZ5 (by kernel_rfl) (by kernel_rfl) (by kernel_rfl) ?hQZ5 ?hwZ5 ?hyZ5 (by assumption) ?restZ5
    case hiZ5 => (simp only [List.getElem?_toArray, List.getElem?_cons_succ, List.getElem?_cons_zero] <;> rfl)
    case hQZ5 => exact (fun _ _ _ h => h)
    case hwZ5 => rfl
    case hyZ5 => (intro w hSw; (try dsimp only at hSw); go_simp; try with_reducible rfl)
    (try simp only [Act.put, List.setIfInBounds_toArray, List.set_cons_zero, List.set_cons_succ])
    refine take_w (i := 5) (oi := ?oZ6) (v := ?vZ6) ?hiZ6 (by kernel_rfl) (by kernel_rfl) (by kernel_rfl) ?hQZ6 ?hwZ6 ?hyZ6 (by assumption) ?restZ6
    case hiZ6 => (simp only [List.getElem?_toArray, List.getElem?_cons_succ, List.getElem?_cons_zero] <;> rfl)
    case hQZ6 => exact (fun _ _ _ h => h)
    case hwZ6 => rfl
    case hyZ6 => (intro w hSw; (try dsimp only at hSw); go_simp; try with_reducible rfl)
    (try simp only [Act.put, List.setIfInBounds_toArray, List.set_cons_zero, List.set_cons_succ])
    refine take_w (i := 6) (oi := ?oZ7) (v := ?vZ7) ?hiZ7 (by kernel_rfl) (by kernel_rfl) (by kernel_rfl) ?hQZ7 ?hwZ7 ?hyZ7 (by assumption) ?restZ7
    case hiZ7 => (simp only [List.getElem?_toArray, List.getElem?_cons_succ, List.getElem?_cons_zero] <;> rfl)
    case hQZ7 => exact (fun _ _ _ h => h)
    case hwZ7 => rfl
    case hyZ7 => (intro w hSw; (try dsimp only at hSw); go_simp; try with_reducible rfl)
    (try simp only [Act.put, List.setIfInBounds_toArray, List.set_cons_zero, List.set_cons_succ])
    refine take_w (i := 8) (oi := ?oZ8) (v := ?vZ8) ?hiZ8 (by kernel_rfl) (by kernel_rfl) (by kernel_rfl) ?hQZ8 ?hwZ8 ?hyZ8 (by assumption) ?restZ8
    case hiZ8 => (simp only [List.getElem?_toArray, List.getElem?_cons_succ, List.getElem?_cons_zero] <;> rfl)
    case hQZ8 => exact (fun _ _ _ h => h)
    case hwZ8 => rfl
    case hyZ8 => (intro w hSw; (try dsimp only at hSw); go_simp; try with_reducible rfl)
    (try simp only [Act.put, List.setIfInBounds_toArray, List.set_cons_zero, List.set_cons_succ])
    refine take_w (i := 9) (oi := ?oZ9) (v := ?vZ9) ?hiZ9 (by kernel_rfl) (by kernel_rfl) (by kernel_rfl) ?hQZ9 ?hwZ9 ?hyZ9 (by assumption) ?restZ9
    case hiZ9 => (simp only [List.getElem?_toArray, List.getElem?_cons_succ, List.getElem?_cons_zero] <;> rfl)
    case hQZ9 => exact (fun _ _ _ h => h)
    case hwZ9 => rfl
    case hyZ9 => (intro w hSw; (try dsimp only at hSw); go_simp; try with_reducible rfl)
    (try simp only [Act.put, List.setIfInBounds_toArray, List.set_cons_zero, List.set_cons_succ])
    refine take_w (i := 10) (oi := ?oZ10) (v := ?vZ10) ?hiZ10 (by kernel_rfl) (by kernel_rfl) (by kernel_rfl) ?hQZ10 ?hwZ10 ?hyZ10 (by assumption) ?restZ10
    case hiZ10 => (simp only [List.getElem?_toArray, List.getElem?_cons_succ, List.getElem?_cons_zero] <;> rfl)
    case hQZ10 => exact (fun _ _ _ h => h)
    case hwZ10 => rfl
    case hyZ10 => (intro w hSw; (try dsimp only at hSw); go_simp; try with_reducible rfl)
    (try simp only [Act.put, List.setIfInBounds_toArray, List.set_cons_zero, List.set_cons_succ])
    refine wpAnyH_ready (rs := [7]) (by kernel_rfl) (by simp) ?_
    refine AllReadyH.cons (o := ?oZ11) ?hiZ11 (fun K hK => ?stZ11) AllReadyH.nil
    case hiZ11 => (simp only [List.getElem?_toArray, List.getElem?_cons_succ, List.getElem?_cons_zero] <;> rfl)
    go_simp
    go_at_call 12
    refine (made_any _).mono ?_
    rintro _ w7 ⟨gk, ck, rfl, ho7, hb7⟩
    have HO7 := Lib.hid (own_seg ho7)
    have hgk := (ho7.lt gk rfl).2
    have HZ7 := Lib.hid (HZD.out.below hb7)
    clear ho7 hb7
    go_simp
    refine hK.out _ _ ?_ (fun hHeld => ?_)
    · (first | exact HZ10.out.all | exact HZ9.out.all | exact HZ7.out.all | exact HZD.out.all)
    clear hK K
    (try simp only [Act.put, List.setIfInBounds_toArray, List.set_cons_zero, List.set_cons_succ])
    refine wpAnyH_ready (rs := [11]) (by kernel_rfl) (by simp) ?_
    refine AllReadyH.cons (o := ?oZ12) ?hiZ12 (fun K hK => ?stZ12) AllReadyH.nil
    case hiZ12 => (simp only [List.getElem?_toArray, List.getElem?_cons_succ, List.getElem?_cons_zero] <;> rfl)
    go_simp
    go_at_call 11
    refine (refShow_any k hk1 hk2 gk ck sp f tt a h _ HZ7.out.x.ti HI.out.2 HZ7.out.x.spn HO7.out hgk).mono ?_
    rintro _ w9 ⟨h9, rfl, hi9, hb9⟩
    unfold TH.v
    have HZ9 := Lib.hid (HZ7.out.below hb9)
    have HI9 := Lib.hid hi9
    clear hi9 hb9
    go_simp
    refine hK.out _ _ ?_ (fun hHeld => ?_)
    · (first | exact HZ10.out.all | exact HZ9.out.all | exact HZ7.out.all | exact HZD.out.all)
    clear hK K
    (try simp only [Act.put, List.setIfInBounds_toArray, List.set_cons_zero, List.set_cons_succ])
    refine wpAnyH_ready (rs := [12]) (by kernel_rfl) (by simp) ?_
    refine AllReadyH.cons (o := ?oZ13) ?hiZ13 (fun K hK => ?stZ13) AllReadyH.nil
    case hiZ13 => (simp only [List.getElem?_toArray, List.getElem?_cons_succ, List.getElem?_cons_zero] <;> rfl)
    go_simp
    go_at_call 9
    refine (refSame_any (showA k f tt sp.out a) h4 h9 _ HZ9.out.pt HI9.out).mono ?_
    rintro _ w10 ⟨rfl, hb10⟩
    have HZ10 := Lib.hid (HZ9.out.below hb10)
    clear hb10
    go_simp
    refine hK.out _ _ ?_ (fun hHeld => ?_)
    · (first | exact HZ10.out.all | exact HZ9.out.all | exact HZ7.out.all | exact HZD.out.all)
    clear hK K
    (try simp only [Act.put, List.setIfInBounds_toArray, List.set_cons_zero, List.set_cons_succ])
    refine take_w (i := 13) (oi := ?oZ14) (v := ?vZ14) ?hiZ14 (by kernel_rfl) (by kernel_rfl) (by kernel_rfl) ?hQZ14 ?hwZ14 ?hyZ14 (by assumption) ?restZ14
    case hiZ14 => (simp only [List.getElem?_toArray, List.getElem?_cons_succ, List.getElem?_cons_zero] <;> rfl)
    case hQZ14 => exact (fun _ _ _ h => h)
    case hwZ14 => rfl
    case hyZ14 => (intro w hSw; (try dsimp only at hSw); go_simp; try with_reducible rfl)
    (try simp only [Act.put, List.setIfInBounds_toArray, List.set_cons_zero, List.set_cons_succ])
    refine take_w (i := 14) (oi := ?oZ15) (v := ?vZ15) ?hiZ15 (by kernel_rfl) (by kernel_rfl) (by kernel_rfl) ?hQZ15 ?hwZ15 ?hyZ15 (by assumption) ?restZ15
    case hiZ15 => (simp only [List.getElem?_toArray, List.getElem?_cons_succ, List.getElem?_cons_zero] <;> rfl)
    case hQZ15 => exact (fun _ _ _ h => h)
    case hwZ15 => rfl
    case hyZ15 => (intro w hSw; (try dsimp only at hSw); go_simp; try with_reducible rfl)
    (try simp only [Act.put, List.setIfInBounds_toArray, List.set_cons_zero, List.set_cons_succ])
    refine wpAnyH_done (by kernel_rfl) ?_ _
    clear hHeld
    go_wp2_with fail
    go_ret
    exact ⟨rfl, HZ10.out.x.b⟩
end Go.Proofs.YtkfjhegehhahcaaDoor

/- What the rows' condition on the two listed tables gives the walks; a start that meets it. -/
namespace Go.Proofs.YtkfjhegehhahcaaDoor
open Go.ChangeShapes Go.WideShapes Go.ChangeAt Go.RowKit
set_option linter.unusedVariables false

theorem own : ownKnob Tryd.prog.godebug = none := by kernel_rfl
theorem laidOut : laidOutB Tryd.prog = true := by kernel_rfl
theorem gK : Tryd.prog.globalNamed "heartwood/sha.roundConstants" = some 2 := by kernel_rfl
theorem gH : Tryd.prog.globalNamed "heartwood/sha.initialState" = some 1 := by kernel_rfl
theorem tK : (Tryd.prog.globals[2]?).map (·.type) = some 99 := by kernel_rfl
theorem tH : (Tryd.prog.globals[1]?).map (·.type) = some 40 := by kernel_rfl
theorem cK : Tryd.prog.cellsOf 99 = 64 := by kernel_rfl
theorem cH : Tryd.prog.cellsOf 40 = 8 := by kernel_rfl
theorem cU : Tryd.prog.cellsOf 39 = 1 := by kernel_rfl

abbrev tabs : List (String × DataW Unit) := [("heartwood/sha.roundConstants", Rows.laid_heartwood_sha_roundConstants), ("heartwood/sha.initialState", Rows.laid_heartwood_sha_initialState)]

theorem of_laid {W : World} (h : laidMetH Tryd.prog tabs W) : TabLies W := by
  rw [MakeChecks.laidMetH_plain _ _ _ (by kernel_rfl)] at h
  obtain ⟨ps, ⟨g0, t0, cs0, f0, p0, q0, hg0, ht0, hv0, hd0, ⟨g1, t1, cs1, f1, p1, q1, hg1, ht1, hv1, hd1, _, _⟩, _⟩, _, _⟩ := h
  obtain rfl := Option.some.inj (gK.symm.trans hg0)
  obtain rfl := Option.some.inj (gH.symm.trans hg1)
  obtain rfl := Option.some.inj (tK.symm.trans ht0)
  obtain rfl := Option.some.inj (tH.symm.trans ht1)
  have e0 : cs0.toList = kTab.map (Value.int .u32) := ints_of_trod (zs := kTab) Tryd.underlying99 Tryd.underlying39 cU cK rfl hd0
  have e1 : cs1.toList = hTab.map (Value.int .u32) := ints_of_trod (zs := hTab) Tryd.underlying40 Tryd.underlying39 cU cH rfl hd1
  constructor
  · simp only [World.var?, gK, Option.bind_some] at hv0
    split at hv0
    · rename_i cs t fr hh
      injection hv0 with hv0
      subst hv0
      refine ⟨t, fr, ?_⟩
      rw [hh, ← e0]
    · cases hv0
  · simp only [World.var?, gH, Option.bind_some] at hv1
    split at hv1
    · rename_i cs t fr hh
      injection hv1 with hv1
      subst hv1
      refine ⟨t, fr, ?_⟩
      rw [hh, ← e1]
    · cases hv1

/-- The door's own heap meets the condition. -/
theorem door_met (os : Os) (args : Array Value) : laidMetH Tryd.prog tabs ((World.doorLaid Tryd.prog 400 os).forCall (fun _ _ => 0) ⟨#[], args, []⟩).memory :=
  laidMetH_of_parts3 (fuel := 8) (laidMet_of_run' 8 (by kernel_rfl) (by kernel_rfl)) (by kernel_rfl) (by kernel_rfl)
end Go.Proofs.YtkfjhegehhahcaaDoor

/- A tree that is an argument of the program. -/
namespace Go.Proofs.YtkfjhegehhahcaaDoor
open Go.ChangeShapes Go.WideShapes Go.RowKit Go.Deep
set_option linter.unusedVariables false

set_option maxRecDepth 100000 in
theorem open_tree {H : Type} {enc : TypeId × Value → H} {w : World} {base : Nat} {spare : Nat → Bool} {held : Bool} {r : Reach} {b0 : Nat} {v : Value} {d : DataW H} {p : List MemPlace}
    (hv : Value.okWide Tryd.prog w r b0 25 v) (h : DataW.Trod enc Tryd.prog w base spare held 25 v d p) : ∃ hd t, v = TH.v hd ∧ InTree w hd t := by
  obtain ⟨cs, rfl, hs⟩ := okWide_struct Tryd.underlying25 hv
  obtain ⟨fuel, hf⟩ := h
  obtain ⟨hd, t, e, ht⟩ := trod_tree Tryd.underlying25 (by kernel_rfl) rfl rfl rfl rfl rfl (by kernel_rfl) (by kernel_rfl) (by kernel_rfl) (by kernel_rfl) (by kernel_rfl)
    Tryd.underlying3 Tryd.underlying22 Tryd.underlying22 Tryd.underlying22 Tryd.underlying23 Tryd.underlying5 (by kernel_rfl) fuel _ _ hf
  refine ⟨hd, t, ?_, ht⟩
  have e2 : cs = hd.cells.toArray := by
    simp only [Value.cells] at e
    rw [← e]
  rw [e2]
  rfl
end Go.Proofs.YtkfjhegehhahcaaDoor

/- Spans, and lists of pairs, that are arguments. -/
namespace Go.Proofs.YtkfjhegehhahcaaDoor
open Go.ChangeShapes Go.WideShapes Go.RowKit Go.Deep
set_option linter.unusedVariables false

set_option maxRecDepth 100000 in
theorem open_span {H : Type} {enc : TypeId × Value → H} {w : World} {base : Nat} {spare : Nat → Bool} {held : Bool} {r : Reach} {b0 : Nat} {v : Value} {d : DataW H} {p : List MemPlace}
    (hv : Value.okWide Tryd.prog w r b0 27 v) (h : DataW.Trod enc Tryd.prog w base spare held 27 v d p) : ∃ hd f t, v = DH.v hd ∧ SpanIn w hd f t := by
  obtain ⟨cs, rfl, hs⟩ := okWide_struct Tryd.underlying27 hv
  obtain ⟨fuel, hf⟩ := h
  obtain ⟨hd, e, key, val, h1, h2⟩ := trod_deed Tryd.underlying27 (by kernel_rfl) rfl rfl rfl (by kernel_rfl) (by kernel_rfl) (by kernel_rfl) Tryd.underlying22 Tryd.underlying22 Tryd.underlying4 Tryd.underlying5 (by kernel_rfl) fuel _ _ hf
  refine ⟨hd, key, val, ?_, h1, h2⟩
  have e2 : cs = (recD.cells hd).toArray := by
    simp only [Value.cells] at e
    rw [← e]
  rw [e2]
  rfl
section
variable {H : Type} {enc : TypeId × Value → H} {P : Program} {w : World} {base : Nat} {spare : Nat → Bool} {held : Bool}
theorem trod_pair {T B : TypeId} {f0 f1 : Field} (he : P.underlying T = some (.struct #[f0, f1])) (hc : P.cellsOf T = 2)
    (o0 : f0.offset = 0) (o1 : f1.offset = 1) (c0 : P.cellsOf f0.type = 1) (c1 : P.cellsOf f1.type = 1)
    (u0 : P.underlying f0.type = some (.slice B)) (u1 : P.underlying f1.type = some (.slice B)) (hB : P.underlying B = some (.int .u8)) (hcB : P.cellsOf B = 1)
    (fuel : Nat) (cs : List Value) (x : DataW H × List MemPlace) (hx : DataW.trod enc P w base spare held fuel T cs = some x) :
    ∃ r : PH, cs = recP.cells r ∧ ∃ key val, InBytes w r.ka r.kn r.kc key ∧ InBytes w r.va r.vn r.vc val := by
  obtain ⟨xs, n, hn, _, hl, hxl, hf⟩ := DataW.trod_struct he hx
  rw [hc] at hl
  obtain ⟨v0, v1, rfl⟩ : ∃ v0 v1, cs = [v0, v1] := by
    rcases cs with _ | ⟨v0, _ | ⟨v1, _ | ⟨y, r⟩⟩⟩ <;> simp at hl
    exact ⟨_, _, rfl⟩
  have hxs : xs.length = 2 := by simpa using hxl
  have g0 := hf 0 f0 rfl
  have g1 := hf 1 f1 rfl
  rw [o0, c0, List.getElem?_eq_getElem (by omega)] at g0
  rw [o1, c1, List.getElem?_eq_getElem (by omega)] at g1
  replace g0 : DataW.trod enc P w base spare held n f0.type [v0] = some xs[0] := g0
  replace g1 : DataW.trod enc P w base spare held n f1.type [v1] = some xs[1] := g1
  obtain ⟨a0, n0, k0, rfl⟩ := slice_form u0 g0
  obtain ⟨a1, n1, k1, rfl⟩ := slice_form u1 g1
  obtain ⟨key, hkey⟩ := open_bytes (d := xs[0].1) (p := xs[0].2) u0 hB hcB ⟨n, g0⟩
  obtain ⟨val, hval⟩ := open_bytes (d := xs[1].1) (p := xs[1].2) u1 hB hcB ⟨n, g1⟩
  exact ⟨⟨a0, n0, k0, a1, n1, k1⟩, rfl, key, val, hkey, hval⟩
end
set_option maxRecDepth 100000 in
theorem open_pairs {H : Type} {enc : TypeId × Value → H} {w : World} {base : Nat} {spare : Nat → Bool} {held : Bool} {a : Option Addr} {n cap : Nat} {d : DataW H} {p : List MemPlace}
    (h : DataW.Trod enc Tryd.prog w base spare held 45 (.slice a n cap) d p) : ∃ D : Nat → PH, InRec recP w a n cap D ∧ ∀ i, i < n → ∃ key val, InBytes w (D i).ka (D i).kn (D i).kc key ∧ InBytes w (D i).va (D i).vn (D i).vc val :=
  open_rec recP (fun r => ∃ key val, InBytes w r.ka r.kn r.kc key ∧ InBytes w r.va r.vn r.vc val) pZ Tryd.underlying45 (by kernel_rfl)
    (fun fuel cs x hx => trod_pair Tryd.underlying51 (by kernel_rfl) rfl rfl (by kernel_rfl) (by kernel_rfl) Tryd.underlying22 Tryd.underlying22 Tryd.underlying5 (by kernel_rfl) fuel cs x hx) h
end Go.Proofs.YtkfjhegehhahcaaDoor
