/- The contracts of the document's nodes and turns of AVL trees. -/
import Derived.Test.YtpjojhmdgeejmaaTreeBox
import Derived.Test.YtpjojhmdgeejmaaRefList
import Derived.Test.YtpjojhmdgeejmaaTake
namespace Go.Proofs.Ytpjojhmdgeejmaa
open Go.RowKit
set_option linter.unusedVariables false

set_option maxRecDepth 100000 in
set_option maxHeartbeats 4000000 in
theorem refNode_any (a b : AT) (hl hr : TH) (ka va : Option Addr) (kn kc vn vc : Nat) (key val : List Int) (w : World) (ha : InTree w hl a.tr) (hb : InTree w hr b.tr) (hk : InBytes w ka kn kc key) (hv : InBytes w va vn vc val) :
    Calls Try.prog 43 #[hl.v, .slice ka kn kc, .slice va vn vc, hr.v] w (Tells w (AT.node a key val b)) := by
  unfold TH.v
  have q1 : Below w.heap.size w (w.alloc (.cells #[.int .i64 hl.k, .slice hl.ka hl.kn hl.kc, .slice hl.va hl.vn hl.vc, .slice hl.da hl.dn hl.dc, .slice hl.ta hl.tn hl.tc] 33)) := (Below.refl _ _).alloc (Nat.le_refl _) _
  have s1 : (w.alloc (.cells #[.int .i64 hl.k, .slice hl.ka hl.kn hl.kc, .slice hl.va hl.vn hl.vc, .slice hl.da hl.dn hl.dc, .slice hl.ta hl.tn hl.tc] 33)).heap.size = w.heap.size + 1 := by simp
  have q2 : Below w.heap.size w ((w.alloc (.cells #[.int .i64 hl.k, .slice hl.ka hl.kn hl.kc, .slice hl.va hl.vn hl.vc, .slice hl.da hl.dn hl.dc, .slice hl.ta hl.tn hl.tc] 33)).alloc (.cells #[.int .i64 hr.k, .slice hr.ka hr.kn hr.kc, .slice hr.va hr.vn hr.vc, .slice hr.da hr.dn hr.dc, .slice hr.ta hr.tn hr.tc] 33)) := q1.alloc (by rw [s1]; omega) _
  have s2 : ((w.alloc (.cells #[.int .i64 hl.k, .slice hl.ka hl.kn hl.kc, .slice hl.va hl.vn hl.vc, .slice hl.da hl.dn hl.dc, .slice hl.ta hl.tn hl.tc] 33)).alloc (.cells #[.int .i64 hr.k, .slice hr.ka hr.kn hr.kc, .slice hr.va hr.vn hr.vc, .slice hr.da hr.dn hr.dc, .slice hr.ta hr.tn hr.tc] 33)).heap.size = w.heap.size + 2 := by simp
  have q3 : Below w.heap.size w (((w.alloc (.cells #[.int .i64 hl.k, .slice hl.ka hl.kn hl.kc, .slice hl.va hl.vn hl.vc, .slice hl.da hl.dn hl.dc, .slice hl.ta hl.tn hl.tc] 33)).alloc (.cells #[.int .i64 hr.k, .slice hr.ka hr.kn hr.kc, .slice hr.va hr.vn hr.vc, .slice hr.da hr.dn hr.dc, .slice hr.ta hr.tn hr.tc] 33)).alloc (.cells #[.int .i64 0, .slice none 0 0, .slice none 0 0, .slice none 0 0, .slice none 0 0] 33)) := q2.alloc (by rw [s2]; omega) _
  have x1 := Box.new w 33 hl
  have x1' := x1.below ((Below.refl _ _).alloc (Nat.le_refl _) (.cells #[.int .i64 hr.k, .slice hr.ka hr.kn hr.kc, .slice hr.va hr.vn hr.vc, .slice hr.da hr.dn hr.dc, .slice hr.ta hr.tn hr.tc] 33)) x1.lt
  have x1'' := x1'.below ((Below.refl _ _).alloc (Nat.le_refl _) (.cells #[.int .i64 0, .slice none 0 0, .slice none 0 0, .slice none 0 0, .slice none 0 0] 33)) x1'.lt
  have x2 := Box.new (w.alloc (.cells #[.int .i64 hl.k, .slice hl.ka hl.kn hl.kc, .slice hl.va hl.vn hl.vc, .slice hl.da hl.dn hl.dc, .slice hl.ta hl.tn hl.tc] 33)) 33 hr
  have x2' := x2.below ((Below.refl _ _).alloc (Nat.le_refl _) (.cells #[.int .i64 0, .slice none 0 0, .slice none 0 0, .slice none 0 0, .slice none 0 0] 33)) x2.lt
  have x3 : Box (((w.alloc (.cells #[.int .i64 hl.k, .slice hl.ka hl.kn hl.kc, .slice hl.va hl.vn hl.vc, .slice hl.da hl.dn hl.dc, .slice hl.ta hl.tn hl.tc] 33)).alloc (.cells #[.int .i64 hr.k, .slice hr.ka hr.kn hr.kc, .slice hr.va hr.vn hr.vc, .slice hr.da hr.dn hr.dc, .slice hr.ta hr.tn hr.tc] 33)).alloc (.cells #[.int .i64 0, .slice none 0 0, .slice none 0 0, .slice none 0 0, .slice none 0 0] 33)) 33 ((w.alloc (.cells #[.int .i64 hl.k, .slice hl.ka hl.kn hl.kc, .slice hl.va hl.vn hl.vc, .slice hl.da hl.dn hl.dc, .slice hl.ta hl.tn hl.tc] 33)).alloc (.cells #[.int .i64 hr.k, .slice hr.ka hr.kn hr.kc, .slice hr.va hr.vn hr.vc, .slice hr.da hr.dn hr.dc, .slice hr.ta hr.tn hr.tc] 33)).heap.size hZ := Box.new ((w.alloc (.cells #[.int .i64 hl.k, .slice hl.ka hl.kn hl.kc, .slice hl.va hl.vn hl.vc, .slice hl.da hl.dn hl.dc, .slice hl.ta hl.tn hl.tc] 33)).alloc (.cells #[.int .i64 hr.k, .slice hr.ka hr.kn hr.kc, .slice hr.va hr.vn hr.vc, .slice hr.da hr.dn hr.dc, .slice hr.ta hr.tn hr.tc] 33)) 33 hZ
  rw [s1] at x2'
  rw [s2] at x3
  clear q1 s1 q2 s2 x1 x1' x2
  go_enter Try.func43, Try.ntmps43
  go_upto_region 1 with fail
  generalize (((w.alloc (.cells #[.int .i64 hl.k, .slice hl.ka hl.kn hl.kc, .slice hl.va hl.vn hl.vc, .slice hl.da hl.dn hl.dc, .slice hl.ta hl.tn hl.tc] 33)).alloc (.cells #[.int .i64 hr.k, .slice hr.ka hr.kn hr.kc, .slice hr.va hr.vn hr.vc, .slice hr.da hr.dn hr.dc, .slice hr.ta hr.tn hr.tc] 33)).alloc (.cells #[.int .i64 0, .slice none 0 0, .slice none 0 0, .slice none 0 0, .slice none 0 0] 33)) = w0 at *
  obtain ⟨l0, l1, l2, l3, l4⟩ := x1''.cells
  obtain ⟨r0, r1, r2, r3, r4⟩ := x2'.cells
  have hb1 : Below w0.heap.size w0 (w0.alloc (.cells #[.int .i64 hl.k, .slice hl.ka hl.kn hl.kc, .slice hl.va hl.vn hl.vc, .slice hl.da hl.dn hl.dc, .slice hl.ta hl.tn hl.tc, .int .i64 hr.k, .slice hr.ka hr.kn hr.kc, .slice hr.va hr.vn hr.vc, .slice hr.da hr.dn hr.dc, .slice hr.ta hr.tn hr.tc] 33)) := (Below.refl _ _).alloc (Nat.le_refl _) _
  have HX := Lib.hid (x3.below hb1 x3.lt)
  have HB := Lib.hid (q3.trans (hb1.mono q3.size))
  have HT : Hid (Two5 (w0.alloc (.cells #[.int .i64 hl.k, .slice hl.ka hl.kn hl.kc, .slice hl.va hl.vn hl.vc, .slice hl.da hl.dn hl.dc, .slice hl.ta hl.tn hl.tc, .int .i64 hr.k, .slice hr.ka hr.kn hr.kc, .slice hr.va hr.vn hr.vc, .slice hr.da hr.dn hr.dc, .slice hr.ta hr.tn hr.tc] 33)) 33 w0.heap.size hl hr) := Lib.hid (Two5.new w0 33 hl hr)
  have HI := Lib.hid (And.intro (And.intro ha hb) (And.intro hk hv))
  have hlt : w.heap.size + 2 < w0.heap.size := x3.lt
  clear x1'' x2' x3 q3 hb1 ha hb hk hv
  go_wp2_with (first
    | (refine wpList_store_box rfl 33 (.tmp 8) (.tmp 14) rfl (w.heap.size + 2) hZ ⟨1, ka, kn, kc, va, vn, vc, none, 0, 0, some ⟨w0.heap.size, 0, none⟩, 2, 2⟩ rfl rfl 33 HX.out infoTree5 ?_
       intro w2 hbx2 hg2
       have HX2 := Lib.hid hbx2
       have hb2 : Below w.heap.size w w2 := HB.out.grown hg2 HB.out.size (fun j hj => by injection hj; omega)
       have HT2 : Hid (Two5 w2 33 w0.heap.size hl hr) := Lib.hid ((hg2.block _ HT.out.lt (fun q => by injection q; omega)).trans HT.out)
       have HB2 := Lib.hid hb2
       clear hbx2 hg2 hb2))
  exact bodyPost_ret (v := TH.v ⟨1, ka, kn, kc, va, vn, vc, none, 0, 0, some ⟨w0.heap.size, 0, none⟩, 2, 2⟩) (result_tree Try.results43 _ HX2.out rfl Try.underlying33 infoTree5) rfl ⟨_, rfl, AT.inNode HT2.out (HI.out.1.1.lower HB2.out) (HI.out.1.2.lower HB2.out) (HI.out.2.1.below HB2.out) (HI.out.2.2.below HB2.out), HB2.out⟩

/-- The depth of a full tree. -/
theorem refDepthA_any (a : AT) (h : TH) (w : World) (ht : InTree w h a.tr) (hl : Lim a.pairs) (hd : a.depth ≤ 64) : Calls Try.prog 32 #[h.v] w (Says w (.int .i64 a.depth)) := by
  have := refDepth_any a.tr h 64 w ht ((AT.tr_formed a).2 hl) (by rw [AT.tr_deep a 64 (by omega), decide_eq_false_iff_not]; omega) (by omega) (by omega)
  rw [AT.tr_depth] at this
  exact this
set_option maxRecDepth 100000 in
set_option maxHeartbeats 4000000 in
theorem refTilt_any (a : AT) (key val : List Int) (b : AT) (h : TH) (w : World) (ht : InTree w h (AT.node a key val b).tr) (hlim : Lim (AT.node a key val b).pairs) (hda : a.depth ≤ 64) (hdb : b.depth ≤ 64) :
    Calls Try.prog 50 #[h.v] w (Says w (.int .i64 ((a.depth : Int) - (b.depth : Int)))) := by
  unfold TH.v
  obtain ⟨H, hp⟩ := ht.parts
  have ht1 : (1 : Int) < (h.tn : Int) := by have h2 : h.tn = 2 := hp.len.symm; omega
  have ht0 : 0 < h.tn := by omega
  have l0 : 0 < (AT.node a key val b).tr.kids.length := by rw [AT.tr_kids]; simp
  have l1 : 1 < (AT.node a key val b).tr.kids.length := by rw [AT.tr_kids]; simp
  have HP := Lib.hid hp
  have HL := Lib.hid hlim.node
  have hd1 := BW.new w ht
  have HD1 := Lib.hid hd1
  clear hp ht hlim hd1
  go_enter Try.func50, Try.ntmps50
  go_upto_region 1 with fail
  obtain ⟨g, off, hta, hg, -⟩ := (HP.out.below HD1.out.b).place (by omega)
  have HTA := Lib.hid hta
  rw [hta]
  generalize hw0 : w.alloc (.cells #[.int .i64 h.k, .slice h.ka h.kn h.kc, .slice h.va h.vn h.vc, .slice h.da h.dn h.dc, .slice (some ⟨g, off, none⟩) h.tn h.tc] 33) = w0
  have hw1 : w.alloc (.cells #[.int .i64 h.k, .slice h.ka h.kn h.kc, .slice h.va h.vn h.vc, .slice h.da h.dn h.dc, .slice h.ta h.tn h.tc] 33) = w0 := by rw [hta]; exact hw0
  rw [hw1] at HD1
  clear hta hg hw0 hw1
  refine wp_region_held_drew (S := (fun W => W.cell? ⟨w.heap.size, 4, none⟩ = some (.slice (some ⟨g, off, none⟩) h.tn h.tc) ∧ W.cell? ⟨g, off, none⟩ = some (.int .i64 (H 0).k) ∧ W.cell? ⟨g, off + 1, none⟩ = some (.slice (H 0).ka (H 0).kn (H 0).kc) ∧ W.cell? ⟨g, off + 2, none⟩ = some (.slice (H 0).va (H 0).vn (H 0).vc) ∧ W.cell? ⟨g, off + 3, none⟩ = some (.slice (H 0).da (H 0).dn (H 0).dc) ∧ W.cell? ⟨g, off + 4, none⟩ = some (.slice (H 0).ta (H 0).tn (H 0).tc) ∧ (W.cell? ⟨g, off + 5, none⟩ = some (.int .i64 (H 1).k) ∧ W.cell? ⟨g, off + 5 + 1, none⟩ = some (.slice (H 1).ka (H 1).kn (H 1).kc) ∧ W.cell? ⟨g, off + 5 + 2, none⟩ = some (.slice (H 1).va (H 1).vn (H 1).vc) ∧ W.cell? ⟨g, off + 5 + 3, none⟩ = some (.slice (H 1).da (H 1).dn (H 1).dc) ∧ W.cell? ⟨g, off + 5 + 4, none⟩ = some (.slice (H 1).ta (H 1).tn (H 1).tc)))) (by kernel_rfl) ⟨(HD1.out.drew.box.cells.2.2.2.2).trans (by rw [HTA.out]), ((HP.out.below HD1.out.drew.b).kid0 HTA.out (by omega)).1, ((HP.out.below HD1.out.drew.b).kid0 HTA.out (by omega)).2.1, ((HP.out.below HD1.out.drew.b).kid0 HTA.out (by omega)).2.2.1, ((HP.out.below HD1.out.drew.b).kid0 HTA.out (by omega)).2.2.2.1, ((HP.out.below HD1.out.drew.b).kid0 HTA.out (by omega)).2.2.2.2, (HP.out.below HD1.out.drew.b).kid1 HTA.out (by omega)⟩ (fun hHeld => ?_)
  refine take_w (i := 0) (oi := ?oZ1) (v := ?vZ1) ?hiZ1 (by kernel_rfl) (by kernel_rfl) (by kernel_rfl) ?hQZ1 ?hwZ1 ?hyZ1 (by assumption) ?restZ1
  case hiZ1 => (simp only [List.getElem?_toArray, List.getElem?_cons_zero] <;> rfl)
  case hQZ1 => exact (fun _ _ _ h => h)
  case hwZ1 => rfl
  case hyZ1 => (intro w hSw; (try dsimp only at hSw); go_simp; try with_reducible rfl)
  (try simp only [Act.put, List.setIfInBounds_toArray, List.set_cons_zero, List.set_cons_succ])
  refine take_w (i := 1) (oi := ?oZ2) (v := ?vZ2) ?hiZ2 (by kernel_rfl) (by kernel_rfl) (by kernel_rfl) ?hQZ2 ?hwZ2 ?hyZ2 (by assumption) ?restZ2
  case hiZ2 => (simp only [List.getElem?_toArray, List.getElem?_cons_succ, List.getElem?_cons_zero] <;> rfl)
  case hQZ2 => exact (fun _ _ _ h => h)
  case hwZ2 => rfl
  case hyZ2 => (intro w hSw; (try dsimp only at hSw); go_simp; try with_reducible rfl)
  (try simp only [Act.put, List.setIfInBounds_toArray, List.set_cons_zero, List.set_cons_succ])
  refine take_w (i := 2) (oi := ?oZ3) (v := ?vZ3) ?hiZ3 (by kernel_rfl) (by kernel_rfl) (by kernel_rfl) ?hQZ3 ?hwZ3 ?hyZ3 (by assumption) ?restZ3
  case hiZ3 => (simp only [List.getElem?_toArray, List.getElem?_cons_succ, List.getElem?_cons_zero] <;> rfl)
  case hQZ3 => exact (fun _ _ _ h => h)
  case hwZ3 => rfl
  case hyZ3 => (intro w hSw; (try dsimp only at hSw); go_simp; try with_reducible rfl)
  (try simp only [Act.put, List.setIfInBounds_toArray, List.set_cons_zero, List.set_cons_succ])
  refine take_w (i := 3) (oi := ?oZ4) (v := ?vZ4) ?hiZ4 (by kernel_rfl) (by kernel_rfl) (by kernel_rfl) ?hQZ4 ?hwZ4 ?hyZ4 (by assumption) ?restZ4
  case hiZ4 => (simp only [List.getElem?_toArray, List.getElem?_cons_succ, List.getElem?_cons_zero] <;> rfl)
  case hQZ4 => exact (fun _ _ _ h => h)
  case hwZ4 => rfl
  case hyZ4 => (intro w hSw; (try dsimp only at hSw); go_simp; try with_reducible rfl)
  (try simp only [Act.put, List.setIfInBounds_toArray, List.set_cons_zero, List.set_cons_succ])
  refine take_w (i := 5) (oi := ?oZ5) (v := ?vZ5) ?hiZ5 (by kernel_rfl) (by kernel_rfl) (by kernel_rfl) ?hQZ5 ?hwZ5 ?hyZ5 (by assumption) ?restZ5
  case hiZ5 => (simp only [List.getElem?_toArray, List.getElem?_cons_succ, List.getElem?_cons_zero] <;> rfl)
  case hQZ5 => exact (fun _ _ _ h => h)
  case hwZ5 => rfl
  case hyZ5 => (intro w hSw; (try dsimp only at hSw); go_simp; try with_reducible rfl)
  (try simp only [Act.put, List.setIfInBounds_toArray, List.set_cons_zero, List.set_cons_succ])
  refine take_w (i := 6) (oi := ?oZ6) (v := ?vZ6) ?hiZ6 (by kernel_rfl) (by kernel_rfl) (by kernel_rfl) ?hQZ6 ?hwZ6 ?hyZ6 (by assumption) ?restZ6
  case hiZ6 => (simp only [List.getElem?_toArray, List.getElem?_cons_succ, List.getElem?_cons_zero] <;> rfl)
  case hQZ6 => exact (fun _ _ _ h => h)
  case hwZ6 => rfl
  case hyZ6 => (intro w hSw; (try dsimp only at hSw); go_simp; try with_reducible rfl)
  (try simp only [Act.put, List.setIfInBounds_toArray, List.set_cons_zero, List.set_cons_succ])
  refine take_w (i := 7) (oi := ?oZ7) (v := ?vZ7) ?hiZ7 (by kernel_rfl) (by kernel_rfl) (by kernel_rfl) ?hQZ7 ?hwZ7 ?hyZ7 (by assumption) ?restZ7
  case hiZ7 => (simp only [List.getElem?_toArray, List.getElem?_cons_succ, List.getElem?_cons_zero] <;> rfl)
  case hQZ7 => exact (fun _ _ _ h => h)
  case hwZ7 => rfl
  case hyZ7 => (intro w hSw; (try dsimp only at hSw); go_simp; try with_reducible rfl)
  (try simp only [Act.put, List.setIfInBounds_toArray, List.set_cons_zero, List.set_cons_succ])
  refine take_w (i := 8) (oi := ?oZ8) (v := ?vZ8) ?hiZ8 (by kernel_rfl) (by kernel_rfl) (by kernel_rfl) ?hQZ8 ?hwZ8 ?hyZ8 (by assumption) ?restZ8
  case hiZ8 => (simp only [List.getElem?_toArray, List.getElem?_cons_succ, List.getElem?_cons_zero] <;> rfl)
  case hQZ8 => exact (fun _ _ _ h => h)
  case hwZ8 => rfl
  case hyZ8 => (intro w hSw; (try dsimp only at hSw); go_simp; try with_reducible rfl)
  (try simp only [Act.put, List.setIfInBounds_toArray, List.set_cons_zero, List.set_cons_succ])
  refine wpAnyH_ready (rs := [4]) (by kernel_rfl) (by simp) ?_
  refine AllReadyH.cons (o := ?oZ9) ?hiZ9 (fun K hK => ?stZ9) AllReadyH.nil
  case hiZ9 => (simp only [List.getElem?_toArray, List.getElem?_cons_succ, List.getElem?_cons_zero] <;> rfl)
  go_simp
  go_at_call 32
  refine (refDepthA_any a (H 0) _ ((HP.out.below HD1.out.drew.b).kids 0 l0) HL.out.1 (by omega)).mono ?_
  rintro _ w2 ⟨rfl, hb2⟩
  have HD2 := Lib.hid (HD1.out.drew.below hb2)
  clear hb2
  go_simp
  refine hK.out _ _ ?_ (fun hHeld => ?_)
  · (first | exact ⟨(HD3.out.box.cells.2.2.2.2).trans (by rw [HTA.out]), ((HP.out.below HD3.out.b).kid0 HTA.out (by omega)).1, ((HP.out.below HD3.out.b).kid0 HTA.out (by omega)).2.1, ((HP.out.below HD3.out.b).kid0 HTA.out (by omega)).2.2.1, ((HP.out.below HD3.out.b).kid0 HTA.out (by omega)).2.2.2.1, ((HP.out.below HD3.out.b).kid0 HTA.out (by omega)).2.2.2.2, (HP.out.below HD3.out.b).kid1 HTA.out (by omega)⟩ | exact ⟨(HD2.out.box.cells.2.2.2.2).trans (by rw [HTA.out]), ((HP.out.below HD2.out.b).kid0 HTA.out (by omega)).1, ((HP.out.below HD2.out.b).kid0 HTA.out (by omega)).2.1, ((HP.out.below HD2.out.b).kid0 HTA.out (by omega)).2.2.1, ((HP.out.below HD2.out.b).kid0 HTA.out (by omega)).2.2.2.1, ((HP.out.below HD2.out.b).kid0 HTA.out (by omega)).2.2.2.2, (HP.out.below HD2.out.b).kid1 HTA.out (by omega)⟩ | exact ⟨(HD1.out.drew.box.cells.2.2.2.2).trans (by rw [HTA.out]), ((HP.out.below HD1.out.drew.b).kid0 HTA.out (by omega)).1, ((HP.out.below HD1.out.drew.b).kid0 HTA.out (by omega)).2.1, ((HP.out.below HD1.out.drew.b).kid0 HTA.out (by omega)).2.2.1, ((HP.out.below HD1.out.drew.b).kid0 HTA.out (by omega)).2.2.2.1, ((HP.out.below HD1.out.drew.b).kid0 HTA.out (by omega)).2.2.2.2, (HP.out.below HD1.out.drew.b).kid1 HTA.out (by omega)⟩)
  clear hK K
  (try simp only [Act.put, List.setIfInBounds_toArray, List.set_cons_zero, List.set_cons_succ])
  refine wpAnyH_ready (rs := [9]) (by kernel_rfl) (by simp) ?_
  refine AllReadyH.cons (o := ?oZ10) ?hiZ10 (fun K hK => ?stZ10) AllReadyH.nil
  case hiZ10 => (simp only [List.getElem?_toArray, List.getElem?_cons_succ, List.getElem?_cons_zero] <;> rfl)
  go_simp
  go_at_call 32
  refine (refDepthA_any b (H 1) _ ((HP.out.below HD2.out.b).kids 1 l1) HL.out.2.2.2 (by omega)).mono ?_
  rintro _ w3 ⟨rfl, hb3⟩
  have HD3 := Lib.hid (HD2.out.below hb3)
  clear hb3
  go_simp
  refine hK.out _ _ ?_ (fun hHeld => ?_)
  · (first | exact ⟨(HD3.out.box.cells.2.2.2.2).trans (by rw [HTA.out]), ((HP.out.below HD3.out.b).kid0 HTA.out (by omega)).1, ((HP.out.below HD3.out.b).kid0 HTA.out (by omega)).2.1, ((HP.out.below HD3.out.b).kid0 HTA.out (by omega)).2.2.1, ((HP.out.below HD3.out.b).kid0 HTA.out (by omega)).2.2.2.1, ((HP.out.below HD3.out.b).kid0 HTA.out (by omega)).2.2.2.2, (HP.out.below HD3.out.b).kid1 HTA.out (by omega)⟩ | exact ⟨(HD2.out.box.cells.2.2.2.2).trans (by rw [HTA.out]), ((HP.out.below HD2.out.b).kid0 HTA.out (by omega)).1, ((HP.out.below HD2.out.b).kid0 HTA.out (by omega)).2.1, ((HP.out.below HD2.out.b).kid0 HTA.out (by omega)).2.2.1, ((HP.out.below HD2.out.b).kid0 HTA.out (by omega)).2.2.2.1, ((HP.out.below HD2.out.b).kid0 HTA.out (by omega)).2.2.2.2, (HP.out.below HD2.out.b).kid1 HTA.out (by omega)⟩ | exact ⟨(HD1.out.drew.box.cells.2.2.2.2).trans (by rw [HTA.out]), ((HP.out.below HD1.out.drew.b).kid0 HTA.out (by omega)).1, ((HP.out.below HD1.out.drew.b).kid0 HTA.out (by omega)).2.1, ((HP.out.below HD1.out.drew.b).kid0 HTA.out (by omega)).2.2.1, ((HP.out.below HD1.out.drew.b).kid0 HTA.out (by omega)).2.2.2.1, ((HP.out.below HD1.out.drew.b).kid0 HTA.out (by omega)).2.2.2.2, (HP.out.below HD1.out.drew.b).kid1 HTA.out (by omega)⟩)
  clear hK K
  (try simp only [Act.put, List.setIfInBounds_toArray, List.set_cons_zero, List.set_cons_succ])
  refine take_w (i := 10) (oi := ?oZ11) (v := ?vZ11) ?hiZ11 (by kernel_rfl) (by kernel_rfl) (by kernel_rfl) ?hQZ11 ?hwZ11 ?hyZ11 (by assumption) ?restZ11
  case hiZ11 => (simp only [List.getElem?_toArray, List.getElem?_cons_succ, List.getElem?_cons_zero] <;> rfl)
  case hQZ11 => exact (fun _ _ _ h => h)
  case hwZ11 => rfl
  case hyZ11 => (intro w hSw; (try dsimp only at hSw); go_simp; try with_reducible rfl)
  (try simp only [Act.put, List.setIfInBounds_toArray, List.set_cons_zero, List.set_cons_succ])
  refine take_w (i := 11) (oi := ?oZ12) (v := ?vZ12) ?hiZ12 (by kernel_rfl) (by kernel_rfl) (by kernel_rfl) ?hQZ12 ?hwZ12 ?hyZ12 (by assumption) ?restZ12
  case hiZ12 => (simp only [List.getElem?_toArray, List.getElem?_cons_succ, List.getElem?_cons_zero] <;> rfl)
  case hQZ12 => exact (fun _ _ _ h => h)
  case hwZ12 => rfl
  case hyZ12 => (intro w hSw; (try dsimp only at hSw); go_simp; try with_reducible rfl)
  (try simp only [Act.put, List.setIfInBounds_toArray, List.set_cons_zero, List.set_cons_succ])
  refine wpAnyH_done (by kernel_rfl) ?_ _
  
  go_wp2_with fail
  go_ret
  refine ⟨?_, HD3.out.b⟩
  have e : IntKind.i64.wrap ((a.depth : Int) - (b.depth : Int)) = (a.depth : Int) - (b.depth : Int) := IntWalk.i64_in _ (by omega)
  exact congrArg (fun z => Ending.returned (Value.int .i64 z)) e

set_option maxRecDepth 100000 in
set_option maxHeartbeats 4000000 in
theorem refRight_any (ll : AT) (lk lv : List Int) (lr : AT) (k v : List Int) (r : AT) (h : TH) (w : World) (ht : InTree w h (AT.node (AT.node ll lk lv lr) k v r).tr) :
    Calls Try.prog 52 #[h.v] w (Tells w (AT.node ll lk lv (AT.node lr k v r))) := by
  unfold TH.v
  obtain ⟨H, hp⟩ := ht.parts
  have l0 : 0 < (AT.node (AT.node ll lk lv lr) k v r).tr.kids.length := by rw [AT.tr_kids]; simp
  have l1 : 1 < (AT.node (AT.node ll lk lv lr) k v r).tr.kids.length := by rw [AT.tr_kids]; simp
  have m0 : 0 < (AT.node ll lk lv lr).tr.kids.length := by rw [AT.tr_kids]; simp
  have m1 : 1 < (AT.node ll lk lv lr).tr.kids.length := by rw [AT.tr_kids]; simp
  have hkt : InTree w (H 0) (AT.node ll lk lv lr).tr := hp.kids 0 l0
  obtain ⟨HH, hq⟩ := hkt.parts
  have ht1 : (1 : Int) < (h.tn : Int) := by have h2 : h.tn = 2 := hp.len.symm; omega
  have ht0 : 0 < h.tn := by omega
  have hs1 : (1 : Int) < ((H 0).tn : Int) := by have h2 : (H 0).tn = 2 := hq.len.symm; omega
  have hs0 : 0 < (H 0).tn := by omega
  have HP := Lib.hid hp
  have HQ := Lib.hid hq
  obtain ⟨g, off, hta, -, -⟩ := hp.place (by omega)
  obtain ⟨g', off', htk, -, -⟩ := hq.place (by omega)
  have HTA := Lib.hid hta
  have HTK := Lib.hid htk
  obtain ⟨e1, e2, e3, e4⟩ := enter2 w h
  clear hp ht hkt hq hta htk
  go_enter Try.func52, Try.ntmps52
  go_upto_region 1 with fail
  generalize ((w.alloc (.cells #[.int .i64 h.k, .slice h.ka h.kn h.kc, .slice h.va h.vn h.vc, .slice h.da h.dn h.dc, .slice h.ta h.tn h.tc] 33)).alloc (.cells #[.int .i64 0, .slice none 0 0, .slice none 0 0, .slice none 0 0, .slice none 0 0] 33)) = w0 at *
  have HE := Lib.hid (And.intro e1 (And.intro e2 e3))
  have HE4 := Lib.hid e4
  have x4 := (e1.cells.2.2.2.2).trans (by rw [HTA.out])
  obtain ⟨k0, k1, k2, k3, k4⟩ := (HP.out.below e3).kid0 HTA.out (by omega)
  clear e1 e2 e3 e4
  rw [HTA.out]
  go_upto_region 2 with fail
  clear x4 k0 k1 k2 k3 k4
  have hb1 : Below w0.heap.size w0 (w0.alloc (.cells #[.int .i64 (H 0).k, .slice (H 0).ka (H 0).kn (H 0).kc, .slice (H 0).va (H 0).vn (H 0).vc, .slice (H 0).da (H 0).dn (H 0).dc, .slice (H 0).ta (H 0).tn (H 0).tc] 33)) := (Below.refl _ _).alloc (Nat.le_refl _) _
  have hbx1 := Box.new w0 33 (H 0)
  rw [HE4.out] at hbx1
  have hr1 : RX w (w0.alloc (.cells #[.int .i64 (H 0).k, .slice (H 0).ka (H 0).kn (H 0).kc, .slice (H 0).va (H 0).vn (H 0).vc, .slice (H 0).da (H 0).dn (H 0).dc, .slice (H 0).ta (H 0).tn (H 0).tc] 33)) h (H 0) := ⟨HE.out.1.below hb1 HE.out.1.lt, HE.out.2.1.below hb1 HE.out.2.1.lt, hbx1, HE.out.2.2.trans (hb1.mono HE.out.2.2.size)⟩
  rw [HTK.out, HE4.out]
  rw [HTK.out] at hr1
  generalize hw1 : w0.alloc (.cells #[.int .i64 (H 0).k, .slice (H 0).ka (H 0).kn (H 0).kc, .slice (H 0).va (H 0).vn (H 0).vc, .slice (H 0).da (H 0).dn (H 0).dc, .slice (some ⟨g', off', none⟩) (H 0).tn (H 0).tc] 33) = w1 at *
  have HR1 := Lib.hid hr1
  clear hb1 hbx1 hr1 hw1
  refine wp_region_held_drew (S := (fun W => W.cell? ⟨w.heap.size, 1, none⟩ = some (.slice h.ka h.kn h.kc) ∧ W.cell? ⟨w.heap.size, 2, none⟩ = some (.slice h.va h.vn h.vc) ∧ W.cell? ⟨w.heap.size, 4, none⟩ = some (.slice (some ⟨g, off, none⟩) h.tn h.tc) ∧ W.cell? ⟨w.heap.size + 2, 1, none⟩ = some (.slice (H 0).ka (H 0).kn (H 0).kc) ∧ W.cell? ⟨w.heap.size + 2, 2, none⟩ = some (.slice (H 0).va (H 0).vn (H 0).vc) ∧ W.cell? ⟨w.heap.size + 2, 4, none⟩ = some (.slice (some ⟨g', off', none⟩) (H 0).tn (H 0).tc) ∧ (W.cell? ⟨g, off + 5, none⟩ = some (.int .i64 (H 1).k) ∧ W.cell? ⟨g, off + 5 + 1, none⟩ = some (.slice (H 1).ka (H 1).kn (H 1).kc) ∧ W.cell? ⟨g, off + 5 + 2, none⟩ = some (.slice (H 1).va (H 1).vn (H 1).vc) ∧ W.cell? ⟨g, off + 5 + 3, none⟩ = some (.slice (H 1).da (H 1).dn (H 1).dc) ∧ W.cell? ⟨g, off + 5 + 4, none⟩ = some (.slice (H 1).ta (H 1).tn (H 1).tc)) ∧ (W.cell? ⟨g', off', none⟩ = some (.int .i64 (HH 0).k) ∧ W.cell? ⟨g', off' + 1, none⟩ = some (.slice (HH 0).ka (HH 0).kn (HH 0).kc) ∧ W.cell? ⟨g', off' + 2, none⟩ = some (.slice (HH 0).va (HH 0).vn (HH 0).vc) ∧ W.cell? ⟨g', off' + 3, none⟩ = some (.slice (HH 0).da (HH 0).dn (HH 0).dc) ∧ W.cell? ⟨g', off' + 4, none⟩ = some (.slice (HH 0).ta (HH 0).tn (HH 0).tc)) ∧ (W.cell? ⟨g', off' + 5, none⟩ = some (.int .i64 (HH 1).k) ∧ W.cell? ⟨g', off' + 5 + 1, none⟩ = some (.slice (HH 1).ka (HH 1).kn (HH 1).kc) ∧ W.cell? ⟨g', off' + 5 + 2, none⟩ = some (.slice (HH 1).va (HH 1).vn (HH 1).vc) ∧ W.cell? ⟨g', off' + 5 + 3, none⟩ = some (.slice (HH 1).da (HH 1).dn (HH 1).dc) ∧ W.cell? ⟨g', off' + 5 + 4, none⟩ = some (.slice (HH 1).ta (HH 1).tn (HH 1).tc)))) (by kernel_rfl) ⟨HR1.out.drew.box.cells.2.1, HR1.out.drew.box.cells.2.2.1, (HR1.out.drew.box.cells.2.2.2.2).trans (by rw [HTA.out]), HR1.out.drew.kb.cells.2.1, HR1.out.drew.kb.cells.2.2.1, (HR1.out.drew.kb.cells.2.2.2.2).trans (by rw [HTK.out]), (HP.out.below HR1.out.drew.b).kid1 HTA.out (by omega), (HQ.out.below HR1.out.drew.b).kid0 HTK.out (by omega), (HQ.out.below HR1.out.drew.b).kid1 HTK.out (by omega)⟩ (fun hHeld => ?_)
  refine take_w (i := 0) (oi := ?oZ13) (v := ?vZ13) ?hiZ13 (by kernel_rfl) (by kernel_rfl) (by kernel_rfl) ?hQZ13 ?hwZ13 ?hyZ13 (by assumption) ?restZ13
  case hiZ13 => (simp only [List.getElem?_toArray, List.getElem?_cons_zero] <;> rfl)
  case hQZ13 => exact (fun _ _ _ h => h)
  case hwZ13 => rfl
  case hyZ13 => (intro w hSw; (try dsimp only at hSw); go_simp; try with_reducible rfl)
  (try simp only [Act.put, List.setIfInBounds_toArray, List.set_cons_zero, List.set_cons_succ])
  refine take_w (i := 1) (oi := ?oZ14) (v := ?vZ14) ?hiZ14 (by kernel_rfl) (by kernel_rfl) (by kernel_rfl) ?hQZ14 ?hwZ14 ?hyZ14 (by assumption) ?restZ14
  case hiZ14 => (simp only [List.getElem?_toArray, List.getElem?_cons_succ, List.getElem?_cons_zero] <;> rfl)
  case hQZ14 => exact (fun _ _ _ h => h)
  case hwZ14 => rfl
  case hyZ14 => (intro w hSw; (try dsimp only at hSw); go_simp; try with_reducible rfl)
  (try simp only [Act.put, List.setIfInBounds_toArray, List.set_cons_zero, List.set_cons_succ])
  refine take_w (i := 2) (oi := ?oZ15) (v := ?vZ15) ?hiZ15 (by kernel_rfl) (by kernel_rfl) (by kernel_rfl) ?hQZ15 ?hwZ15 ?hyZ15 (by assumption) ?restZ15
  case hiZ15 => (simp only [List.getElem?_toArray, List.getElem?_cons_succ, List.getElem?_cons_zero] <;> rfl)
  case hQZ15 => exact (fun _ _ _ h => h)
  case hwZ15 => rfl
  case hyZ15 => (intro w hSw; (try dsimp only at hSw); go_simp; try with_reducible rfl)
  (try simp only [Act.put, List.setIfInBounds_toArray, List.set_cons_zero, List.set_cons_succ])
  refine take_w (i := 3) (oi := ?oZ16) (v := ?vZ16) ?hiZ16 (by kernel_rfl) (by kernel_rfl) (by kernel_rfl) ?hQZ16 ?hwZ16 ?hyZ16 (by assumption) ?restZ16
  case hiZ16 => (simp only [List.getElem?_toArray, List.getElem?_cons_succ, List.getElem?_cons_zero] <;> rfl)
  case hQZ16 => exact (fun _ _ _ h => h)
  case hwZ16 => rfl
  case hyZ16 => (intro w hSw; (try dsimp only at hSw); go_simp; try with_reducible rfl)
  (try simp only [Act.put, List.setIfInBounds_toArray, List.set_cons_zero, List.set_cons_succ])
  refine take_w (i := 4) (oi := ?oZ17) (v := ?vZ17) ?hiZ17 (by kernel_rfl) (by kernel_rfl) (by kernel_rfl) ?hQZ17 ?hwZ17 ?hyZ17 (by assumption) ?restZ17
  case hiZ17 => (simp only [List.getElem?_toArray, List.getElem?_cons_succ, List.getElem?_cons_zero] <;> rfl)
  case hQZ17 => exact (fun _ _ _ h => h)
  case hwZ17 => rfl
  case hyZ17 => (intro w hSw; (try dsimp only at hSw); go_simp; try with_reducible rfl)
  (try simp only [Act.put, List.setIfInBounds_toArray, List.set_cons_zero, List.set_cons_succ])
  refine take_w (i := 5) (oi := ?oZ18) (v := ?vZ18) ?hiZ18 (by kernel_rfl) (by kernel_rfl) (by kernel_rfl) ?hQZ18 ?hwZ18 ?hyZ18 (by assumption) ?restZ18
  case hiZ18 => (simp only [List.getElem?_toArray, List.getElem?_cons_succ, List.getElem?_cons_zero] <;> rfl)
  case hQZ18 => exact (fun _ _ _ h => h)
  case hwZ18 => rfl
  case hyZ18 => (intro w hSw; (try dsimp only at hSw); go_simp; try with_reducible rfl)
  (try simp only [Act.put, List.setIfInBounds_toArray, List.set_cons_zero, List.set_cons_succ])
  refine take_w (i := 6) (oi := ?oZ19) (v := ?vZ19) ?hiZ19 (by kernel_rfl) (by kernel_rfl) (by kernel_rfl) ?hQZ19 ?hwZ19 ?hyZ19 (by assumption) ?restZ19
  case hiZ19 => (simp only [List.getElem?_toArray, List.getElem?_cons_succ, List.getElem?_cons_zero] <;> rfl)
  case hQZ19 => exact (fun _ _ _ h => h)
  case hwZ19 => rfl
  case hyZ19 => (intro w hSw; (try dsimp only at hSw); go_simp; try with_reducible rfl)
  (try simp only [Act.put, List.setIfInBounds_toArray, List.set_cons_zero, List.set_cons_succ])
  refine take_w (i := 7) (oi := ?oZ20) (v := ?vZ20) ?hiZ20 (by kernel_rfl) (by kernel_rfl) (by kernel_rfl) ?hQZ20 ?hwZ20 ?hyZ20 (by assumption) ?restZ20
  case hiZ20 => (simp only [List.getElem?_toArray, List.getElem?_cons_succ, List.getElem?_cons_zero] <;> rfl)
  case hQZ20 => exact (fun _ _ _ h => h)
  case hwZ20 => rfl
  case hyZ20 => (intro w hSw; (try dsimp only at hSw); go_simp; try with_reducible rfl)
  (try simp only [Act.put, List.setIfInBounds_toArray, List.set_cons_zero, List.set_cons_succ])
  refine take_w (i := 8) (oi := ?oZ21) (v := ?vZ21) ?hiZ21 (by kernel_rfl) (by kernel_rfl) (by kernel_rfl) ?hQZ21 ?hwZ21 ?hyZ21 (by assumption) ?restZ21
  case hiZ21 => (simp only [List.getElem?_toArray, List.getElem?_cons_succ, List.getElem?_cons_zero] <;> rfl)
  case hQZ21 => exact (fun _ _ _ h => h)
  case hwZ21 => rfl
  case hyZ21 => (intro w hSw; (try dsimp only at hSw); go_simp; try with_reducible rfl)
  (try simp only [Act.put, List.setIfInBounds_toArray, List.set_cons_zero, List.set_cons_succ])
  refine take_w (i := 9) (oi := ?oZ22) (v := ?vZ22) ?hiZ22 (by kernel_rfl) (by kernel_rfl) (by kernel_rfl) ?hQZ22 ?hwZ22 ?hyZ22 (by assumption) ?restZ22
  case hiZ22 => (simp only [List.getElem?_toArray, List.getElem?_cons_succ, List.getElem?_cons_zero] <;> rfl)
  case hQZ22 => exact (fun _ _ _ h => h)
  case hwZ22 => rfl
  case hyZ22 => (intro w hSw; (try dsimp only at hSw); go_simp; try with_reducible rfl)
  (try simp only [Act.put, List.setIfInBounds_toArray, List.set_cons_zero, List.set_cons_succ])
  refine take_w (i := 10) (oi := ?oZ23) (v := ?vZ23) ?hiZ23 (by kernel_rfl) (by kernel_rfl) (by kernel_rfl) ?hQZ23 ?hwZ23 ?hyZ23 (by assumption) ?restZ23
  case hiZ23 => (simp only [List.getElem?_toArray, List.getElem?_cons_succ, List.getElem?_cons_zero] <;> rfl)
  case hQZ23 => exact (fun _ _ _ h => h)
  case hwZ23 => rfl
  case hyZ23 => (intro w hSw; (try dsimp only at hSw); go_simp; try with_reducible rfl)
  (try simp only [Act.put, List.setIfInBounds_toArray, List.set_cons_zero, List.set_cons_succ])
  refine take_w (i := 11) (oi := ?oZ24) (v := ?vZ24) ?hiZ24 (by kernel_rfl) (by kernel_rfl) (by kernel_rfl) ?hQZ24 ?hwZ24 ?hyZ24 (by assumption) ?restZ24
  case hiZ24 => (simp only [List.getElem?_toArray, List.getElem?_cons_succ, List.getElem?_cons_zero] <;> rfl)
  case hQZ24 => exact (fun _ _ _ h => h)
  case hwZ24 => rfl
  case hyZ24 => (intro w hSw; (try dsimp only at hSw); go_simp; try with_reducible rfl)
  (try simp only [Act.put, List.setIfInBounds_toArray, List.set_cons_zero, List.set_cons_succ])
  refine take_w (i := 12) (oi := ?oZ25) (v := ?vZ25) ?hiZ25 (by kernel_rfl) (by kernel_rfl) (by kernel_rfl) ?hQZ25 ?hwZ25 ?hyZ25 (by assumption) ?restZ25
  case hiZ25 => (simp only [List.getElem?_toArray, List.getElem?_cons_succ, List.getElem?_cons_zero] <;> rfl)
  case hQZ25 => exact (fun _ _ _ h => h)
  case hwZ25 => rfl
  case hyZ25 => (intro w hSw; (try dsimp only at hSw); go_simp; try with_reducible rfl)
  (try simp only [Act.put, List.setIfInBounds_toArray, List.set_cons_zero, List.set_cons_succ])
  refine take_w (i := 13) (oi := ?oZ26) (v := ?vZ26) ?hiZ26 (by kernel_rfl) (by kernel_rfl) (by kernel_rfl) ?hQZ26 ?hwZ26 ?hyZ26 (by assumption) ?restZ26
  case hiZ26 => (simp only [List.getElem?_toArray, List.getElem?_cons_succ, List.getElem?_cons_zero] <;> rfl)
  case hQZ26 => exact (fun _ _ _ h => h)
  case hwZ26 => rfl
  case hyZ26 => (intro w hSw; (try dsimp only at hSw); go_simp; try with_reducible rfl)
  (try simp only [Act.put, List.setIfInBounds_toArray, List.set_cons_zero, List.set_cons_succ])
  refine take_w (i := 14) (oi := ?oZ27) (v := ?vZ27) ?hiZ27 (by kernel_rfl) (by kernel_rfl) (by kernel_rfl) ?hQZ27 ?hwZ27 ?hyZ27 (by assumption) ?restZ27
  case hiZ27 => (simp only [List.getElem?_toArray, List.getElem?_cons_succ, List.getElem?_cons_zero] <;> rfl)
  case hQZ27 => exact (fun _ _ _ h => h)
  case hwZ27 => rfl
  case hyZ27 => (intro w hSw; (try dsimp only at hSw); go_simp; try with_reducible rfl)
  (try simp only [Act.put, List.setIfInBounds_toArray, List.set_cons_zero, List.set_cons_succ])
  refine take_w (i := 15) (oi := ?oZ28) (v := ?vZ28) ?hiZ28 (by kernel_rfl) (by kernel_rfl) (by kernel_rfl) ?hQZ28 ?hwZ28 ?hyZ28 (by assumption) ?restZ28
  case hiZ28 => (simp only [List.getElem?_toArray, List.getElem?_cons_succ, List.getElem?_cons_zero] <;> rfl)
  case hQZ28 => exact (fun _ _ _ h => h)
  case hwZ28 => rfl
  case hyZ28 => (intro w hSw; (try dsimp only at hSw); go_simp; try with_reducible rfl)
  (try simp only [Act.put, List.setIfInBounds_toArray, List.set_cons_zero, List.set_cons_succ])
  refine take_w (i := 16) (oi := ?oZ29) (v := ?vZ29) ?hiZ29 (by kernel_rfl) (by kernel_rfl) (by kernel_rfl) ?hQZ29 ?hwZ29 ?hyZ29 (by assumption) ?restZ29
  case hiZ29 => (simp only [List.getElem?_toArray, List.getElem?_cons_succ, List.getElem?_cons_zero] <;> rfl)
  case hQZ29 => exact (fun _ _ _ h => h)
  case hwZ29 => rfl
  case hyZ29 => (intro w hSw; (try dsimp only at hSw); go_simp; try with_reducible rfl)
  (try simp only [Act.put, List.setIfInBounds_toArray, List.set_cons_zero, List.set_cons_succ])
  refine take_w (i := 17) (oi := ?oZ30) (v := ?vZ30) ?hiZ30 (by kernel_rfl) (by kernel_rfl) (by kernel_rfl) ?hQZ30 ?hwZ30 ?hyZ30 (by assumption) ?restZ30
  case hiZ30 => (simp only [List.getElem?_toArray, List.getElem?_cons_succ, List.getElem?_cons_zero] <;> rfl)
  case hQZ30 => exact (fun _ _ _ h => h)
  case hwZ30 => rfl
  case hyZ30 => (intro w hSw; (try dsimp only at hSw); go_simp; try with_reducible rfl)
  (try simp only [Act.put, List.setIfInBounds_toArray, List.set_cons_zero, List.set_cons_succ])
  refine take_w (i := 18) (oi := ?oZ31) (v := ?vZ31) ?hiZ31 (by kernel_rfl) (by kernel_rfl) (by kernel_rfl) ?hQZ31 ?hwZ31 ?hyZ31 (by assumption) ?restZ31
  case hiZ31 => (simp only [List.getElem?_toArray, List.getElem?_cons_succ, List.getElem?_cons_zero] <;> rfl)
  case hQZ31 => exact (fun _ _ _ h => h)
  case hwZ31 => rfl
  case hyZ31 => (intro w hSw; (try dsimp only at hSw); go_simp; try with_reducible rfl)
  (try simp only [Act.put, List.setIfInBounds_toArray, List.set_cons_zero, List.set_cons_succ])
  refine take_w (i := 19) (oi := ?oZ32) (v := ?vZ32) ?hiZ32 (by kernel_rfl) (by kernel_rfl) (by kernel_rfl) ?hQZ32 ?hwZ32 ?hyZ32 (by assumption) ?restZ32
  case hiZ32 => (simp only [List.getElem?_toArray, List.getElem?_cons_succ, List.getElem?_cons_zero] <;> rfl)
  case hQZ32 => exact (fun _ _ _ h => h)
  case hwZ32 => rfl
  case hyZ32 => (intro w hSw; (try dsimp only at hSw); go_simp; try with_reducible rfl)
  (try simp only [Act.put, List.setIfInBounds_toArray, List.set_cons_zero, List.set_cons_succ])
  refine wpAnyH_ready (rs := [20]) (by kernel_rfl) (by simp) ?_
  refine AllReadyH.cons (o := ?oZ33) ?hiZ33 (fun K hK => ?stZ33) AllReadyH.nil
  case hiZ33 => (simp only [List.getElem?_toArray, List.getElem?_cons_succ, List.getElem?_cons_zero] <;> rfl)
  go_simp
  go_at_call 43
  refine (refNode_any lr r (HH 1) (H 1) h.ka h.va h.kn h.kc h.vn h.vc k v _ ((HQ.out.below HR1.out.drew.b).kids 1 m1) ((HP.out.below HR1.out.drew.b).kids 1 l1) (HP.out.below HR1.out.drew.b).key (HP.out.below HR1.out.drew.b).val).mono ?_
  rintro _ w2 ⟨h2, rfl, hi2, hb2⟩
  unfold TH.v
  have HR2 := Lib.hid (HR1.out.drew.below hb2)
  have HI2 := Lib.hid hi2
  clear hi2 hb2
  go_simp
  refine hK.out _ _ ?_ (fun hHeld => ?_)
  · (first | exact ⟨HRX4.out.1.cells.2.1, HRX4.out.1.cells.2.2.1, (HRX4.out.1.cells.2.2.2.2).trans (by rw [HTA.out]), HRX4.out.2.cells.2.1, HRX4.out.2.cells.2.2.1, (HRX4.out.2.cells.2.2.2.2).trans (by rw [HTK.out]), (HP.out.below HB4.out).kid1 HTA.out (by omega), (HQ.out.below HB4.out).kid0 HTK.out (by omega), (HQ.out.below HB4.out).kid1 HTK.out (by omega)⟩ | exact ⟨HR3.out.box.cells.2.1, HR3.out.box.cells.2.2.1, (HR3.out.box.cells.2.2.2.2).trans (by rw [HTA.out]), HR3.out.kb.cells.2.1, HR3.out.kb.cells.2.2.1, (HR3.out.kb.cells.2.2.2.2).trans (by rw [HTK.out]), (HP.out.below HR3.out.b).kid1 HTA.out (by omega), (HQ.out.below HR3.out.b).kid0 HTK.out (by omega), (HQ.out.below HR3.out.b).kid1 HTK.out (by omega)⟩ | exact ⟨HR2.out.box.cells.2.1, HR2.out.box.cells.2.2.1, (HR2.out.box.cells.2.2.2.2).trans (by rw [HTA.out]), HR2.out.kb.cells.2.1, HR2.out.kb.cells.2.2.1, (HR2.out.kb.cells.2.2.2.2).trans (by rw [HTK.out]), (HP.out.below HR2.out.b).kid1 HTA.out (by omega), (HQ.out.below HR2.out.b).kid0 HTK.out (by omega), (HQ.out.below HR2.out.b).kid1 HTK.out (by omega)⟩ | exact ⟨HR1.out.drew.box.cells.2.1, HR1.out.drew.box.cells.2.2.1, (HR1.out.drew.box.cells.2.2.2.2).trans (by rw [HTA.out]), HR1.out.drew.kb.cells.2.1, HR1.out.drew.kb.cells.2.2.1, (HR1.out.drew.kb.cells.2.2.2.2).trans (by rw [HTK.out]), (HP.out.below HR1.out.drew.b).kid1 HTA.out (by omega), (HQ.out.below HR1.out.drew.b).kid0 HTK.out (by omega), (HQ.out.below HR1.out.drew.b).kid1 HTK.out (by omega)⟩)
  clear hK K
  (try simp only [Act.put, List.setIfInBounds_toArray, List.set_cons_zero, List.set_cons_succ])
  refine wpAnyH_ready (rs := [21]) (by kernel_rfl) (by simp) ?_
  refine AllReadyH.cons (o := ?oZ34) ?hiZ34 (fun K hK => ?stZ34) AllReadyH.nil
  case hiZ34 => (simp only [List.getElem?_toArray, List.getElem?_cons_succ, List.getElem?_cons_zero] <;> rfl)
  go_simp
  go_at_call 43
  refine (refNode_any ll (AT.node lr k v r) (HH 0) h2 (H 0).ka (H 0).va (H 0).kn (H 0).kc (H 0).vn (H 0).vc lk lv _ ((HQ.out.below HR2.out.b).kids 0 m0) HI2.out (HQ.out.below HR2.out.b).key (HQ.out.below HR2.out.b).val).mono ?_
  rintro _ w3 ⟨h3, rfl, hi3, hb3⟩
  unfold TH.v
  have HR3 := Lib.hid (HR2.out.below hb3)
  have HI3 := Lib.hid hi3
  clear hi3 hb3
  go_simp
  refine hK.out _ _ ?_ (fun hHeld => ?_)
  · (first | exact ⟨HRX4.out.1.cells.2.1, HRX4.out.1.cells.2.2.1, (HRX4.out.1.cells.2.2.2.2).trans (by rw [HTA.out]), HRX4.out.2.cells.2.1, HRX4.out.2.cells.2.2.1, (HRX4.out.2.cells.2.2.2.2).trans (by rw [HTK.out]), (HP.out.below HB4.out).kid1 HTA.out (by omega), (HQ.out.below HB4.out).kid0 HTK.out (by omega), (HQ.out.below HB4.out).kid1 HTK.out (by omega)⟩ | exact ⟨HR3.out.box.cells.2.1, HR3.out.box.cells.2.2.1, (HR3.out.box.cells.2.2.2.2).trans (by rw [HTA.out]), HR3.out.kb.cells.2.1, HR3.out.kb.cells.2.2.1, (HR3.out.kb.cells.2.2.2.2).trans (by rw [HTK.out]), (HP.out.below HR3.out.b).kid1 HTA.out (by omega), (HQ.out.below HR3.out.b).kid0 HTK.out (by omega), (HQ.out.below HR3.out.b).kid1 HTK.out (by omega)⟩ | exact ⟨HR2.out.box.cells.2.1, HR2.out.box.cells.2.2.1, (HR2.out.box.cells.2.2.2.2).trans (by rw [HTA.out]), HR2.out.kb.cells.2.1, HR2.out.kb.cells.2.2.1, (HR2.out.kb.cells.2.2.2.2).trans (by rw [HTK.out]), (HP.out.below HR2.out.b).kid1 HTA.out (by omega), (HQ.out.below HR2.out.b).kid0 HTK.out (by omega), (HQ.out.below HR2.out.b).kid1 HTK.out (by omega)⟩ | exact ⟨HR1.out.drew.box.cells.2.1, HR1.out.drew.box.cells.2.2.1, (HR1.out.drew.box.cells.2.2.2.2).trans (by rw [HTA.out]), HR1.out.drew.kb.cells.2.1, HR1.out.drew.kb.cells.2.2.1, (HR1.out.drew.kb.cells.2.2.2.2).trans (by rw [HTK.out]), (HP.out.below HR1.out.drew.b).kid1 HTA.out (by omega), (HQ.out.below HR1.out.drew.b).kid0 HTK.out (by omega), (HQ.out.below HR1.out.drew.b).kid1 HTK.out (by omega)⟩)
  clear hK K
  (try simp only [Act.put, List.setIfInBounds_toArray, List.set_cons_zero, List.set_cons_succ])
  refine wpAnyH_ready (rs := [22]) (by kernel_rfl) (by simp) ?_
  refine AllReadyH.cons (o := ?oZ35) ?hiZ35 (fun K hK => ?stZ35) AllReadyH.nil
  case hiZ35 => (simp only [List.getElem?_toArray, List.getElem?_cons_succ, List.getElem?_cons_zero] <;> rfl)
  refine step_store_box rfl 33 (.tmp 2) (.tmp 29) rfl (w.heap.size + 1) hZ h3 rfl rfl 33 HR3.out.res infoTree5 ?_
  intro w4 hbx4 hg4
  have HX4 := Lib.hid hbx4
  have HI4 := Lib.hid (AT.outBox HR3.out.res hg4 _ _ HI3.out)
  have HB4 : Hid (Below w.heap.size w w4) := Lib.hid (HR3.out.b.grown hg4 HR3.out.b.size (fun j hj => by injection hj; omega))
  have HRX4 : Hid (Box w4 33 w.heap.size h ∧ Box w4 33 (w.heap.size + 2) (H 0)) := Lib.hid ⟨HR3.out.box.grown hg4 (fun q => by injection q; omega), HR3.out.kb.grown hg4 (fun q => by injection q; omega)⟩
  clear hbx4 hg4
  refine hK.out _ _ ?_ (fun hHeld => ?_)
  · (first | exact ⟨HRX4.out.1.cells.2.1, HRX4.out.1.cells.2.2.1, (HRX4.out.1.cells.2.2.2.2).trans (by rw [HTA.out]), HRX4.out.2.cells.2.1, HRX4.out.2.cells.2.2.1, (HRX4.out.2.cells.2.2.2.2).trans (by rw [HTK.out]), (HP.out.below HB4.out).kid1 HTA.out (by omega), (HQ.out.below HB4.out).kid0 HTK.out (by omega), (HQ.out.below HB4.out).kid1 HTK.out (by omega)⟩ | exact ⟨HR3.out.box.cells.2.1, HR3.out.box.cells.2.2.1, (HR3.out.box.cells.2.2.2.2).trans (by rw [HTA.out]), HR3.out.kb.cells.2.1, HR3.out.kb.cells.2.2.1, (HR3.out.kb.cells.2.2.2.2).trans (by rw [HTK.out]), (HP.out.below HR3.out.b).kid1 HTA.out (by omega), (HQ.out.below HR3.out.b).kid0 HTK.out (by omega), (HQ.out.below HR3.out.b).kid1 HTK.out (by omega)⟩ | exact ⟨HR2.out.box.cells.2.1, HR2.out.box.cells.2.2.1, (HR2.out.box.cells.2.2.2.2).trans (by rw [HTA.out]), HR2.out.kb.cells.2.1, HR2.out.kb.cells.2.2.1, (HR2.out.kb.cells.2.2.2.2).trans (by rw [HTK.out]), (HP.out.below HR2.out.b).kid1 HTA.out (by omega), (HQ.out.below HR2.out.b).kid0 HTK.out (by omega), (HQ.out.below HR2.out.b).kid1 HTK.out (by omega)⟩ | exact ⟨HR1.out.drew.box.cells.2.1, HR1.out.drew.box.cells.2.2.1, (HR1.out.drew.box.cells.2.2.2.2).trans (by rw [HTA.out]), HR1.out.drew.kb.cells.2.1, HR1.out.drew.kb.cells.2.2.1, (HR1.out.drew.kb.cells.2.2.2.2).trans (by rw [HTK.out]), (HP.out.below HR1.out.drew.b).kid1 HTA.out (by omega), (HQ.out.below HR1.out.drew.b).kid0 HTK.out (by omega), (HQ.out.below HR1.out.drew.b).kid1 HTK.out (by omega)⟩)
  clear hK K
  (try simp only [Act.put])
  refine wpAnyH_done (by kernel_rfl) ?_ _
  
  go_wp2_with fail
  exact bodyPost_ret (v := h3.v) (result_tree Try.results52 _ HX4.out rfl Try.underlying33 infoTree5) rfl ⟨_, rfl, HI4.out, HB4.out⟩

set_option maxRecDepth 100000 in
set_option maxHeartbeats 4000000 in
theorem refLeft_any (l : AT) (k v : List Int) (rl : AT) (rk rv : List Int) (rr : AT) (h : TH) (w : World) (ht : InTree w h (AT.node l k v (AT.node rl rk rv rr)).tr) :
    Calls Try.prog 51 #[h.v] w (Tells w (AT.node (AT.node l k v rl) rk rv rr)) := by
  unfold TH.v
  obtain ⟨H, hp⟩ := ht.parts
  have l0 : 0 < (AT.node l k v (AT.node rl rk rv rr)).tr.kids.length := by rw [AT.tr_kids]; simp
  have l1 : 1 < (AT.node l k v (AT.node rl rk rv rr)).tr.kids.length := by rw [AT.tr_kids]; simp
  have m0 : 0 < (AT.node rl rk rv rr).tr.kids.length := by rw [AT.tr_kids]; simp
  have m1 : 1 < (AT.node rl rk rv rr).tr.kids.length := by rw [AT.tr_kids]; simp
  have hkt : InTree w (H 1) (AT.node rl rk rv rr).tr := hp.kids 1 l1
  obtain ⟨HH, hq⟩ := hkt.parts
  have ht1 : (1 : Int) < (h.tn : Int) := by have h2 : h.tn = 2 := hp.len.symm; omega
  have ht0 : 0 < h.tn := by omega
  have hs1 : (1 : Int) < ((H 1).tn : Int) := by have h2 : (H 1).tn = 2 := hq.len.symm; omega
  have hs0 : 0 < (H 1).tn := by omega
  have HP := Lib.hid hp
  have HQ := Lib.hid hq
  obtain ⟨g, off, hta, -, -⟩ := hp.place (by omega)
  obtain ⟨g', off', htk, -, -⟩ := hq.place (by omega)
  have HTA := Lib.hid hta
  have HTK := Lib.hid htk
  obtain ⟨e1, e2, e3, e4⟩ := enter2 w h
  clear hp ht hkt hq hta htk
  go_enter Try.func51, Try.ntmps51
  go_upto_region 1 with fail
  generalize ((w.alloc (.cells #[.int .i64 h.k, .slice h.ka h.kn h.kc, .slice h.va h.vn h.vc, .slice h.da h.dn h.dc, .slice h.ta h.tn h.tc] 33)).alloc (.cells #[.int .i64 0, .slice none 0 0, .slice none 0 0, .slice none 0 0, .slice none 0 0] 33)) = w0 at *
  have HE := Lib.hid (And.intro e1 (And.intro e2 e3))
  have HE4 := Lib.hid e4
  have x4 := (e1.cells.2.2.2.2).trans (by rw [HTA.out])
  obtain ⟨k0, k1, k2, k3, k4⟩ := (HP.out.below e3).kid1 HTA.out (by omega)
  clear e1 e2 e3 e4
  rw [HTA.out]
  go_upto_region 2 with fail
  clear x4 k0 k1 k2 k3 k4
  have hb1 : Below w0.heap.size w0 (w0.alloc (.cells #[.int .i64 (H 1).k, .slice (H 1).ka (H 1).kn (H 1).kc, .slice (H 1).va (H 1).vn (H 1).vc, .slice (H 1).da (H 1).dn (H 1).dc, .slice (H 1).ta (H 1).tn (H 1).tc] 33)) := (Below.refl _ _).alloc (Nat.le_refl _) _
  have hbx1 := Box.new w0 33 (H 1)
  rw [HE4.out] at hbx1
  have hr1 : RX w (w0.alloc (.cells #[.int .i64 (H 1).k, .slice (H 1).ka (H 1).kn (H 1).kc, .slice (H 1).va (H 1).vn (H 1).vc, .slice (H 1).da (H 1).dn (H 1).dc, .slice (H 1).ta (H 1).tn (H 1).tc] 33)) h (H 1) := ⟨HE.out.1.below hb1 HE.out.1.lt, HE.out.2.1.below hb1 HE.out.2.1.lt, hbx1, HE.out.2.2.trans (hb1.mono HE.out.2.2.size)⟩
  rw [HTK.out, HE4.out]
  rw [HTK.out] at hr1
  generalize hw1 : w0.alloc (.cells #[.int .i64 (H 1).k, .slice (H 1).ka (H 1).kn (H 1).kc, .slice (H 1).va (H 1).vn (H 1).vc, .slice (H 1).da (H 1).dn (H 1).dc, .slice (some ⟨g', off', none⟩) (H 1).tn (H 1).tc] 33) = w1 at *
  have HR1 := Lib.hid hr1
  clear hb1 hbx1 hr1 hw1
  refine wp_region_held_drew (S := (fun W => W.cell? ⟨w.heap.size, 1, none⟩ = some (.slice h.ka h.kn h.kc) ∧ W.cell? ⟨w.heap.size, 2, none⟩ = some (.slice h.va h.vn h.vc) ∧ W.cell? ⟨w.heap.size, 4, none⟩ = some (.slice (some ⟨g, off, none⟩) h.tn h.tc) ∧ W.cell? ⟨w.heap.size + 2, 1, none⟩ = some (.slice (H 1).ka (H 1).kn (H 1).kc) ∧ W.cell? ⟨w.heap.size + 2, 2, none⟩ = some (.slice (H 1).va (H 1).vn (H 1).vc) ∧ W.cell? ⟨w.heap.size + 2, 4, none⟩ = some (.slice (some ⟨g', off', none⟩) (H 1).tn (H 1).tc) ∧ (W.cell? ⟨g, off, none⟩ = some (.int .i64 (H 0).k) ∧ W.cell? ⟨g, off + 1, none⟩ = some (.slice (H 0).ka (H 0).kn (H 0).kc) ∧ W.cell? ⟨g, off + 2, none⟩ = some (.slice (H 0).va (H 0).vn (H 0).vc) ∧ W.cell? ⟨g, off + 3, none⟩ = some (.slice (H 0).da (H 0).dn (H 0).dc) ∧ W.cell? ⟨g, off + 4, none⟩ = some (.slice (H 0).ta (H 0).tn (H 0).tc)) ∧ (W.cell? ⟨g', off', none⟩ = some (.int .i64 (HH 0).k) ∧ W.cell? ⟨g', off' + 1, none⟩ = some (.slice (HH 0).ka (HH 0).kn (HH 0).kc) ∧ W.cell? ⟨g', off' + 2, none⟩ = some (.slice (HH 0).va (HH 0).vn (HH 0).vc) ∧ W.cell? ⟨g', off' + 3, none⟩ = some (.slice (HH 0).da (HH 0).dn (HH 0).dc) ∧ W.cell? ⟨g', off' + 4, none⟩ = some (.slice (HH 0).ta (HH 0).tn (HH 0).tc)) ∧ (W.cell? ⟨g', off' + 5, none⟩ = some (.int .i64 (HH 1).k) ∧ W.cell? ⟨g', off' + 5 + 1, none⟩ = some (.slice (HH 1).ka (HH 1).kn (HH 1).kc) ∧ W.cell? ⟨g', off' + 5 + 2, none⟩ = some (.slice (HH 1).va (HH 1).vn (HH 1).vc) ∧ W.cell? ⟨g', off' + 5 + 3, none⟩ = some (.slice (HH 1).da (HH 1).dn (HH 1).dc) ∧ W.cell? ⟨g', off' + 5 + 4, none⟩ = some (.slice (HH 1).ta (HH 1).tn (HH 1).tc)))) (by kernel_rfl) ⟨HR1.out.drew.box.cells.2.1, HR1.out.drew.box.cells.2.2.1, (HR1.out.drew.box.cells.2.2.2.2).trans (by rw [HTA.out]), HR1.out.drew.kb.cells.2.1, HR1.out.drew.kb.cells.2.2.1, (HR1.out.drew.kb.cells.2.2.2.2).trans (by rw [HTK.out]), (HP.out.below HR1.out.drew.b).kid0 HTA.out (by omega), (HQ.out.below HR1.out.drew.b).kid0 HTK.out (by omega), (HQ.out.below HR1.out.drew.b).kid1 HTK.out (by omega)⟩ (fun hHeld => ?_)
  refine take_w (i := 0) (oi := ?oZ36) (v := ?vZ36) ?hiZ36 (by kernel_rfl) (by kernel_rfl) (by kernel_rfl) ?hQZ36 ?hwZ36 ?hyZ36 (by assumption) ?restZ36
  case hiZ36 => (simp only [List.getElem?_toArray, List.getElem?_cons_zero] <;> rfl)
  case hQZ36 => exact (fun _ _ _ h => h)
  case hwZ36 => rfl
  case hyZ36 => (intro w hSw; (try dsimp only at hSw); go_simp; try with_reducible rfl)
  (try simp only [Act.put, List.setIfInBounds_toArray, List.set_cons_zero, List.set_cons_succ])
  refine take_w (i := 1) (oi := ?oZ37) (v := ?vZ37) ?hiZ37 (by kernel_rfl) (by kernel_rfl) (by kernel_rfl) ?hQZ37 ?hwZ37 ?hyZ37 (by assumption) ?restZ37
  case hiZ37 => (simp only [List.getElem?_toArray, List.getElem?_cons_succ, List.getElem?_cons_zero] <;> rfl)
  case hQZ37 => exact (fun _ _ _ h => h)
  case hwZ37 => rfl
  case hyZ37 => (intro w hSw; (try dsimp only at hSw); go_simp; try with_reducible rfl)
  (try simp only [Act.put, List.setIfInBounds_toArray, List.set_cons_zero, List.set_cons_succ])
  refine take_w (i := 2) (oi := ?oZ38) (v := ?vZ38) ?hiZ38 (by kernel_rfl) (by kernel_rfl) (by kernel_rfl) ?hQZ38 ?hwZ38 ?hyZ38 (by assumption) ?restZ38
  case hiZ38 => (simp only [List.getElem?_toArray, List.getElem?_cons_succ, List.getElem?_cons_zero] <;> rfl)
  case hQZ38 => exact (fun _ _ _ h => h)
  case hwZ38 => rfl
  case hyZ38 => (intro w hSw; (try dsimp only at hSw); go_simp; try with_reducible rfl)
  (try simp only [Act.put, List.setIfInBounds_toArray, List.set_cons_zero, List.set_cons_succ])
  refine take_w (i := 3) (oi := ?oZ39) (v := ?vZ39) ?hiZ39 (by kernel_rfl) (by kernel_rfl) (by kernel_rfl) ?hQZ39 ?hwZ39 ?hyZ39 (by assumption) ?restZ39
  case hiZ39 => (simp only [List.getElem?_toArray, List.getElem?_cons_succ, List.getElem?_cons_zero] <;> rfl)
  case hQZ39 => exact (fun _ _ _ h => h)
  case hwZ39 => rfl
  case hyZ39 => (intro w hSw; (try dsimp only at hSw); go_simp; try with_reducible rfl)
  (try simp only [Act.put, List.setIfInBounds_toArray, List.set_cons_zero, List.set_cons_succ])
  refine take_w (i := 4) (oi := ?oZ40) (v := ?vZ40) ?hiZ40 (by kernel_rfl) (by kernel_rfl) (by kernel_rfl) ?hQZ40 ?hwZ40 ?hyZ40 (by assumption) ?restZ40
  case hiZ40 => (simp only [List.getElem?_toArray, List.getElem?_cons_succ, List.getElem?_cons_zero] <;> rfl)
  case hQZ40 => exact (fun _ _ _ h => h)
  case hwZ40 => rfl
  case hyZ40 => (intro w hSw; (try dsimp only at hSw); go_simp; try with_reducible rfl)
  (try simp only [Act.put, List.setIfInBounds_toArray, List.set_cons_zero, List.set_cons_succ])
  refine take_w (i := 5) (oi := ?oZ41) (v := ?vZ41) ?hiZ41 (by kernel_rfl) (by kernel_rfl) (by kernel_rfl) ?hQZ41 ?hwZ41 ?hyZ41 (by assumption) ?restZ41
  case hiZ41 => (simp only [List.getElem?_toArray, List.getElem?_cons_succ, List.getElem?_cons_zero] <;> rfl)
  case hQZ41 => exact (fun _ _ _ h => h)
  case hwZ41 => rfl
  case hyZ41 => (intro w hSw; (try dsimp only at hSw); go_simp; try with_reducible rfl)
  (try simp only [Act.put, List.setIfInBounds_toArray, List.set_cons_zero, List.set_cons_succ])
  refine take_w (i := 6) (oi := ?oZ42) (v := ?vZ42) ?hiZ42 (by kernel_rfl) (by kernel_rfl) (by kernel_rfl) ?hQZ42 ?hwZ42 ?hyZ42 (by assumption) ?restZ42
  case hiZ42 => (simp only [List.getElem?_toArray, List.getElem?_cons_succ, List.getElem?_cons_zero] <;> rfl)
  case hQZ42 => exact (fun _ _ _ h => h)
  case hwZ42 => rfl
  case hyZ42 => (intro w hSw; (try dsimp only at hSw); go_simp; try with_reducible rfl)
  (try simp only [Act.put, List.setIfInBounds_toArray, List.set_cons_zero, List.set_cons_succ])
  refine take_w (i := 7) (oi := ?oZ43) (v := ?vZ43) ?hiZ43 (by kernel_rfl) (by kernel_rfl) (by kernel_rfl) ?hQZ43 ?hwZ43 ?hyZ43 (by assumption) ?restZ43
  case hiZ43 => (simp only [List.getElem?_toArray, List.getElem?_cons_succ, List.getElem?_cons_zero] <;> rfl)
  case hQZ43 => exact (fun _ _ _ h => h)
  case hwZ43 => rfl
  case hyZ43 => (intro w hSw; (try dsimp only at hSw); go_simp; try with_reducible rfl)
  (try simp only [Act.put, List.setIfInBounds_toArray, List.set_cons_zero, List.set_cons_succ])
  refine take_w (i := 8) (oi := ?oZ44) (v := ?vZ44) ?hiZ44 (by kernel_rfl) (by kernel_rfl) (by kernel_rfl) ?hQZ44 ?hwZ44 ?hyZ44 (by assumption) ?restZ44
  case hiZ44 => (simp only [List.getElem?_toArray, List.getElem?_cons_succ, List.getElem?_cons_zero] <;> rfl)
  case hQZ44 => exact (fun _ _ _ h => h)
  case hwZ44 => rfl
  case hyZ44 => (intro w hSw; (try dsimp only at hSw); go_simp; try with_reducible rfl)
  (try simp only [Act.put, List.setIfInBounds_toArray, List.set_cons_zero, List.set_cons_succ])
  refine take_w (i := 9) (oi := ?oZ45) (v := ?vZ45) ?hiZ45 (by kernel_rfl) (by kernel_rfl) (by kernel_rfl) ?hQZ45 ?hwZ45 ?hyZ45 (by assumption) ?restZ45
  case hiZ45 => (simp only [List.getElem?_toArray, List.getElem?_cons_succ, List.getElem?_cons_zero] <;> rfl)
  case hQZ45 => exact (fun _ _ _ h => h)
  case hwZ45 => rfl
  case hyZ45 => (intro w hSw; (try dsimp only at hSw); go_simp; try with_reducible rfl)
  (try simp only [Act.put, List.setIfInBounds_toArray, List.set_cons_zero, List.set_cons_succ])
  refine take_w (i := 10) (oi := ?oZ46) (v := ?vZ46) ?hiZ46 (by kernel_rfl) (by kernel_rfl) (by kernel_rfl) ?hQZ46 ?hwZ46 ?hyZ46 (by assumption) ?restZ46
  case hiZ46 => (simp only [List.getElem?_toArray, List.getElem?_cons_succ, List.getElem?_cons_zero] <;> rfl)
  case hQZ46 => exact (fun _ _ _ h => h)
  case hwZ46 => rfl
  case hyZ46 => (intro w hSw; (try dsimp only at hSw); go_simp; try with_reducible rfl)
  (try simp only [Act.put, List.setIfInBounds_toArray, List.set_cons_zero, List.set_cons_succ])
  refine take_w (i := 11) (oi := ?oZ47) (v := ?vZ47) ?hiZ47 (by kernel_rfl) (by kernel_rfl) (by kernel_rfl) ?hQZ47 ?hwZ47 ?hyZ47 (by assumption) ?restZ47
  case hiZ47 => (simp only [List.getElem?_toArray, List.getElem?_cons_succ, List.getElem?_cons_zero] <;> rfl)
  case hQZ47 => exact (fun _ _ _ h => h)
  case hwZ47 => rfl
  case hyZ47 => (intro w hSw; (try dsimp only at hSw); go_simp; try with_reducible rfl)
  (try simp only [Act.put, List.setIfInBounds_toArray, List.set_cons_zero, List.set_cons_succ])
  refine take_w (i := 13) (oi := ?oZ48) (v := ?vZ48) ?hiZ48 (by kernel_rfl) (by kernel_rfl) (by kernel_rfl) ?hQZ48 ?hwZ48 ?hyZ48 (by assumption) ?restZ48
  case hiZ48 => (simp only [List.getElem?_toArray, List.getElem?_cons_succ, List.getElem?_cons_zero] <;> rfl)
  case hQZ48 => exact (fun _ _ _ h => h)
  case hwZ48 => rfl
  case hyZ48 => (intro w hSw; (try dsimp only at hSw); go_simp; try with_reducible rfl)
  (try simp only [Act.put, List.setIfInBounds_toArray, List.set_cons_zero, List.set_cons_succ])
  refine take_w (i := 14) (oi := ?oZ49) (v := ?vZ49) ?hiZ49 (by kernel_rfl) (by kernel_rfl) (by kernel_rfl) ?hQZ49 ?hwZ49 ?hyZ49 (by assumption) ?restZ49
  case hiZ49 => (simp only [List.getElem?_toArray, List.getElem?_cons_succ, List.getElem?_cons_zero] <;> rfl)
  case hQZ49 => exact (fun _ _ _ h => h)
  case hwZ49 => rfl
  case hyZ49 => (intro w hSw; (try dsimp only at hSw); go_simp; try with_reducible rfl)
  (try simp only [Act.put, List.setIfInBounds_toArray, List.set_cons_zero, List.set_cons_succ])
  refine take_w (i := 15) (oi := ?oZ50) (v := ?vZ50) ?hiZ50 (by kernel_rfl) (by kernel_rfl) (by kernel_rfl) ?hQZ50 ?hwZ50 ?hyZ50 (by assumption) ?restZ50
  case hiZ50 => (simp only [List.getElem?_toArray, List.getElem?_cons_succ, List.getElem?_cons_zero] <;> rfl)
  case hQZ50 => exact (fun _ _ _ h => h)
  case hwZ50 => rfl
  case hyZ50 => (intro w hSw; (try dsimp only at hSw); go_simp; try with_reducible rfl)
  (try simp only [Act.put, List.setIfInBounds_toArray, List.set_cons_zero, List.set_cons_succ])
  refine take_w (i := 16) (oi := ?oZ51) (v := ?vZ51) ?hiZ51 (by kernel_rfl) (by kernel_rfl) (by kernel_rfl) ?hQZ51 ?hwZ51 ?hyZ51 (by assumption) ?restZ51
  case hiZ51 => (simp only [List.getElem?_toArray, List.getElem?_cons_succ, List.getElem?_cons_zero] <;> rfl)
  case hQZ51 => exact (fun _ _ _ h => h)
  case hwZ51 => rfl
  case hyZ51 => (intro w hSw; (try dsimp only at hSw); go_simp; try with_reducible rfl)
  (try simp only [Act.put, List.setIfInBounds_toArray, List.set_cons_zero, List.set_cons_succ])
  refine take_w (i := 17) (oi := ?oZ52) (v := ?vZ52) ?hiZ52 (by kernel_rfl) (by kernel_rfl) (by kernel_rfl) ?hQZ52 ?hwZ52 ?hyZ52 (by assumption) ?restZ52
  case hiZ52 => (simp only [List.getElem?_toArray, List.getElem?_cons_succ, List.getElem?_cons_zero] <;> rfl)
  case hQZ52 => exact (fun _ _ _ h => h)
  case hwZ52 => rfl
  case hyZ52 => (intro w hSw; (try dsimp only at hSw); go_simp; try with_reducible rfl)
  (try simp only [Act.put, List.setIfInBounds_toArray, List.set_cons_zero, List.set_cons_succ])
  refine take_w (i := 18) (oi := ?oZ53) (v := ?vZ53) ?hiZ53 (by kernel_rfl) (by kernel_rfl) (by kernel_rfl) ?hQZ53 ?hwZ53 ?hyZ53 (by assumption) ?restZ53
  case hiZ53 => (simp only [List.getElem?_toArray, List.getElem?_cons_succ, List.getElem?_cons_zero] <;> rfl)
  case hQZ53 => exact (fun _ _ _ h => h)
  case hwZ53 => rfl
  case hyZ53 => (intro w hSw; (try dsimp only at hSw); go_simp; try with_reducible rfl)
  (try simp only [Act.put, List.setIfInBounds_toArray, List.set_cons_zero, List.set_cons_succ])
  refine take_w (i := 19) (oi := ?oZ54) (v := ?vZ54) ?hiZ54 (by kernel_rfl) (by kernel_rfl) (by kernel_rfl) ?hQZ54 ?hwZ54 ?hyZ54 (by assumption) ?restZ54
  case hiZ54 => (simp only [List.getElem?_toArray, List.getElem?_cons_succ, List.getElem?_cons_zero] <;> rfl)
  case hQZ54 => exact (fun _ _ _ h => h)
  case hwZ54 => rfl
  case hyZ54 => (intro w hSw; (try dsimp only at hSw); go_simp; try with_reducible rfl)
  (try simp only [Act.put, List.setIfInBounds_toArray, List.set_cons_zero, List.set_cons_succ])
  refine take_w (i := 20) (oi := ?oZ55) (v := ?vZ55) ?hiZ55 (by kernel_rfl) (by kernel_rfl) (by kernel_rfl) ?hQZ55 ?hwZ55 ?hyZ55 (by assumption) ?restZ55
  case hiZ55 => (simp only [List.getElem?_toArray, List.getElem?_cons_succ, List.getElem?_cons_zero] <;> rfl)
  case hQZ55 => exact (fun _ _ _ h => h)
  case hwZ55 => rfl
  case hyZ55 => (intro w hSw; (try dsimp only at hSw); go_simp; try with_reducible rfl)
  (try simp only [Act.put, List.setIfInBounds_toArray, List.set_cons_zero, List.set_cons_succ])
  refine wpAnyH_ready (rs := [12]) (by kernel_rfl) (by simp) ?_
  refine AllReadyH.cons (o := ?oZ56) ?hiZ56 (fun K hK => ?stZ56) AllReadyH.nil
  case hiZ56 => (simp only [List.getElem?_toArray, List.getElem?_cons_succ, List.getElem?_cons_zero] <;> rfl)
  go_simp
  go_at_call 43
  refine (refNode_any l rl (H 0) (HH 0) h.ka h.va h.kn h.kc h.vn h.vc k v _ ((HP.out.below HR1.out.drew.b).kids 0 l0) ((HQ.out.below HR1.out.drew.b).kids 0 m0) (HP.out.below HR1.out.drew.b).key (HP.out.below HR1.out.drew.b).val).mono ?_
  rintro _ w2 ⟨h2, rfl, hi2, hb2⟩
  unfold TH.v
  have HR2 := Lib.hid (HR1.out.drew.below hb2)
  have HI2 := Lib.hid hi2
  clear hi2 hb2
  go_simp
  refine hK.out _ _ ?_ (fun hHeld => ?_)
  · (first | exact ⟨HRX4.out.1.cells.2.1, HRX4.out.1.cells.2.2.1, (HRX4.out.1.cells.2.2.2.2).trans (by rw [HTA.out]), HRX4.out.2.cells.2.1, HRX4.out.2.cells.2.2.1, (HRX4.out.2.cells.2.2.2.2).trans (by rw [HTK.out]), (HP.out.below HB4.out).kid0 HTA.out (by omega), (HQ.out.below HB4.out).kid0 HTK.out (by omega), (HQ.out.below HB4.out).kid1 HTK.out (by omega)⟩ | exact ⟨HR3.out.box.cells.2.1, HR3.out.box.cells.2.2.1, (HR3.out.box.cells.2.2.2.2).trans (by rw [HTA.out]), HR3.out.kb.cells.2.1, HR3.out.kb.cells.2.2.1, (HR3.out.kb.cells.2.2.2.2).trans (by rw [HTK.out]), (HP.out.below HR3.out.b).kid0 HTA.out (by omega), (HQ.out.below HR3.out.b).kid0 HTK.out (by omega), (HQ.out.below HR3.out.b).kid1 HTK.out (by omega)⟩ | exact ⟨HR2.out.box.cells.2.1, HR2.out.box.cells.2.2.1, (HR2.out.box.cells.2.2.2.2).trans (by rw [HTA.out]), HR2.out.kb.cells.2.1, HR2.out.kb.cells.2.2.1, (HR2.out.kb.cells.2.2.2.2).trans (by rw [HTK.out]), (HP.out.below HR2.out.b).kid0 HTA.out (by omega), (HQ.out.below HR2.out.b).kid0 HTK.out (by omega), (HQ.out.below HR2.out.b).kid1 HTK.out (by omega)⟩ | exact ⟨HR1.out.drew.box.cells.2.1, HR1.out.drew.box.cells.2.2.1, (HR1.out.drew.box.cells.2.2.2.2).trans (by rw [HTA.out]), HR1.out.drew.kb.cells.2.1, HR1.out.drew.kb.cells.2.2.1, (HR1.out.drew.kb.cells.2.2.2.2).trans (by rw [HTK.out]), (HP.out.below HR1.out.drew.b).kid0 HTA.out (by omega), (HQ.out.below HR1.out.drew.b).kid0 HTK.out (by omega), (HQ.out.below HR1.out.drew.b).kid1 HTK.out (by omega)⟩)
  clear hK K
  (try simp only [Act.put, List.setIfInBounds_toArray, List.set_cons_zero, List.set_cons_succ])
  refine wpAnyH_ready (rs := [21]) (by kernel_rfl) (by simp) ?_
  refine AllReadyH.cons (o := ?oZ57) ?hiZ57 (fun K hK => ?stZ57) AllReadyH.nil
  case hiZ57 => (simp only [List.getElem?_toArray, List.getElem?_cons_succ, List.getElem?_cons_zero] <;> rfl)
  go_simp
  go_at_call 43
  refine (refNode_any (AT.node l k v rl) rr h2 (HH 1) (H 1).ka (H 1).va (H 1).kn (H 1).kc (H 1).vn (H 1).vc rk rv _ HI2.out ((HQ.out.below HR2.out.b).kids 1 m1) (HQ.out.below HR2.out.b).key (HQ.out.below HR2.out.b).val).mono ?_
  rintro _ w3 ⟨h3, rfl, hi3, hb3⟩
  unfold TH.v
  have HR3 := Lib.hid (HR2.out.below hb3)
  have HI3 := Lib.hid hi3
  clear hi3 hb3
  go_simp
  refine hK.out _ _ ?_ (fun hHeld => ?_)
  · (first | exact ⟨HRX4.out.1.cells.2.1, HRX4.out.1.cells.2.2.1, (HRX4.out.1.cells.2.2.2.2).trans (by rw [HTA.out]), HRX4.out.2.cells.2.1, HRX4.out.2.cells.2.2.1, (HRX4.out.2.cells.2.2.2.2).trans (by rw [HTK.out]), (HP.out.below HB4.out).kid0 HTA.out (by omega), (HQ.out.below HB4.out).kid0 HTK.out (by omega), (HQ.out.below HB4.out).kid1 HTK.out (by omega)⟩ | exact ⟨HR3.out.box.cells.2.1, HR3.out.box.cells.2.2.1, (HR3.out.box.cells.2.2.2.2).trans (by rw [HTA.out]), HR3.out.kb.cells.2.1, HR3.out.kb.cells.2.2.1, (HR3.out.kb.cells.2.2.2.2).trans (by rw [HTK.out]), (HP.out.below HR3.out.b).kid0 HTA.out (by omega), (HQ.out.below HR3.out.b).kid0 HTK.out (by omega), (HQ.out.below HR3.out.b).kid1 HTK.out (by omega)⟩ | exact ⟨HR2.out.box.cells.2.1, HR2.out.box.cells.2.2.1, (HR2.out.box.cells.2.2.2.2).trans (by rw [HTA.out]), HR2.out.kb.cells.2.1, HR2.out.kb.cells.2.2.1, (HR2.out.kb.cells.2.2.2.2).trans (by rw [HTK.out]), (HP.out.below HR2.out.b).kid0 HTA.out (by omega), (HQ.out.below HR2.out.b).kid0 HTK.out (by omega), (HQ.out.below HR2.out.b).kid1 HTK.out (by omega)⟩ | exact ⟨HR1.out.drew.box.cells.2.1, HR1.out.drew.box.cells.2.2.1, (HR1.out.drew.box.cells.2.2.2.2).trans (by rw [HTA.out]), HR1.out.drew.kb.cells.2.1, HR1.out.drew.kb.cells.2.2.1, (HR1.out.drew.kb.cells.2.2.2.2).trans (by rw [HTK.out]), (HP.out.below HR1.out.drew.b).kid0 HTA.out (by omega), (HQ.out.below HR1.out.drew.b).kid0 HTK.out (by omega), (HQ.out.below HR1.out.drew.b).kid1 HTK.out (by omega)⟩)
  clear hK K
  (try simp only [Act.put, List.setIfInBounds_toArray, List.set_cons_zero, List.set_cons_succ])
  refine wpAnyH_ready (rs := [22]) (by kernel_rfl) (by simp) ?_
  refine AllReadyH.cons (o := ?oZ58) ?hiZ58 (fun K hK => ?stZ58) AllReadyH.nil
  case hiZ58 => (simp only [List.getElem?_toArray, List.getElem?_cons_succ, List.getElem?_cons_zero] <;> rfl)
  refine step_store_box rfl 33 (.tmp 2) (.tmp 29) rfl (w.heap.size + 1) hZ h3 rfl rfl 33 HR3.out.res infoTree5 ?_
  intro w4 hbx4 hg4
  have HX4 := Lib.hid hbx4
  have HI4 := Lib.hid (AT.outBox HR3.out.res hg4 _ _ HI3.out)
  have HB4 : Hid (Below w.heap.size w w4) := Lib.hid (HR3.out.b.grown hg4 HR3.out.b.size (fun j hj => by injection hj; omega))
  have HRX4 : Hid (Box w4 33 w.heap.size h ∧ Box w4 33 (w.heap.size + 2) (H 1)) := Lib.hid ⟨HR3.out.box.grown hg4 (fun q => by injection q; omega), HR3.out.kb.grown hg4 (fun q => by injection q; omega)⟩
  clear hbx4 hg4
  refine hK.out _ _ ?_ (fun hHeld => ?_)
  · (first | exact ⟨HRX4.out.1.cells.2.1, HRX4.out.1.cells.2.2.1, (HRX4.out.1.cells.2.2.2.2).trans (by rw [HTA.out]), HRX4.out.2.cells.2.1, HRX4.out.2.cells.2.2.1, (HRX4.out.2.cells.2.2.2.2).trans (by rw [HTK.out]), (HP.out.below HB4.out).kid0 HTA.out (by omega), (HQ.out.below HB4.out).kid0 HTK.out (by omega), (HQ.out.below HB4.out).kid1 HTK.out (by omega)⟩ | exact ⟨HR3.out.box.cells.2.1, HR3.out.box.cells.2.2.1, (HR3.out.box.cells.2.2.2.2).trans (by rw [HTA.out]), HR3.out.kb.cells.2.1, HR3.out.kb.cells.2.2.1, (HR3.out.kb.cells.2.2.2.2).trans (by rw [HTK.out]), (HP.out.below HR3.out.b).kid0 HTA.out (by omega), (HQ.out.below HR3.out.b).kid0 HTK.out (by omega), (HQ.out.below HR3.out.b).kid1 HTK.out (by omega)⟩ | exact ⟨HR2.out.box.cells.2.1, HR2.out.box.cells.2.2.1, (HR2.out.box.cells.2.2.2.2).trans (by rw [HTA.out]), HR2.out.kb.cells.2.1, HR2.out.kb.cells.2.2.1, (HR2.out.kb.cells.2.2.2.2).trans (by rw [HTK.out]), (HP.out.below HR2.out.b).kid0 HTA.out (by omega), (HQ.out.below HR2.out.b).kid0 HTK.out (by omega), (HQ.out.below HR2.out.b).kid1 HTK.out (by omega)⟩ | exact ⟨HR1.out.drew.box.cells.2.1, HR1.out.drew.box.cells.2.2.1, (HR1.out.drew.box.cells.2.2.2.2).trans (by rw [HTA.out]), HR1.out.drew.kb.cells.2.1, HR1.out.drew.kb.cells.2.2.1, (HR1.out.drew.kb.cells.2.2.2.2).trans (by rw [HTK.out]), (HP.out.below HR1.out.drew.b).kid0 HTA.out (by omega), (HQ.out.below HR1.out.drew.b).kid0 HTK.out (by omega), (HQ.out.below HR1.out.drew.b).kid1 HTK.out (by omega)⟩)
  clear hK K
  (try simp only [Act.put])
  refine wpAnyH_done (by kernel_rfl) ?_ _
  
  go_wp2_with fail
  exact bodyPost_ret (v := h3.v) (result_tree Try.results51 _ HX4.out rfl Try.underlying33 infoTree5) rfl ⟨_, rfl, HI4.out, HB4.out⟩
end Go.Proofs.Ytpjojhmdgeejmaa
