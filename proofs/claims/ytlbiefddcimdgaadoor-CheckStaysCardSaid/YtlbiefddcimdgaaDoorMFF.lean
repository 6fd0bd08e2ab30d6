/- The contracts of the document's nodes and turns of AVL trees. The contract of the document's leveling of AVL trees. The contract of the document's insertion into AVL trees. Trees that are balanced, whose keys rise, within their bounds: they stay so. No program is named here. The contract of the document's tree into which pairs were put. Two rows of pairs that hold the same ones. A tree of sixty pairs at most has few parts. Values of one's own that are written. The contract of the document's comparison of trees: of one and the same tree. A region that draws its order, by an invariant; bytes appended to an empty row. No program is named here. -/
import Derived.Test.YtlbiefddcimdgaaDoorMAB
import Derived.Test.YtlbiefddcimdgaaDoorMFE
import Derived.Test.YtlbiefddcimdgaaDoorMAA
import Derived.Test.YtlbiefddcimdgaaDoorMFD
import Derived.Test.YtlbiefddcimdgaaDoorMAC
import Derived.Deep.RegionHeld3
/- The contracts of the document's nodes and turns of AVL trees. -/
namespace Go.Proofs.YtlbiefddcimdgaaDoor
open Go.RowKit
set_option linter.unusedVariables false

set_option maxRecDepth 100000 in
set_option maxHeartbeats 4000000 in
theorem refNode_any (a b : AT) (hl hr : TH) (ka va : Option Addr) (kn kc vn vc : Nat) (key val : List Int) (w : World) (ha : InTree w hl a.tr) (hb : InTree w hr b.tr) (hk : InBytes w ka kn kc key) (hv : InBytes w va vn vc val) :
    Calls Tryd.prog 72 #[hl.v, .slice ka kn kc, .slice va vn vc, hr.v] w (Tells w (AT.node a key val b)) := by
  unfold TH.v
  have q1 : Below w.heap.size w (w.alloc (.cells #[.int .i64 hl.k, .slice hl.ka hl.kn hl.kc, .slice hl.va hl.vn hl.vc, .slice hl.da hl.dn hl.dc, .slice hl.ta hl.tn hl.tc] 27)) := (Below.refl _ _).alloc (Nat.le_refl _) _
  have s1 : (w.alloc (.cells #[.int .i64 hl.k, .slice hl.ka hl.kn hl.kc, .slice hl.va hl.vn hl.vc, .slice hl.da hl.dn hl.dc, .slice hl.ta hl.tn hl.tc] 27)).heap.size = w.heap.size + 1 := by simp
  have q2 : Below w.heap.size w ((w.alloc (.cells #[.int .i64 hl.k, .slice hl.ka hl.kn hl.kc, .slice hl.va hl.vn hl.vc, .slice hl.da hl.dn hl.dc, .slice hl.ta hl.tn hl.tc] 27)).alloc (.cells #[.int .i64 hr.k, .slice hr.ka hr.kn hr.kc, .slice hr.va hr.vn hr.vc, .slice hr.da hr.dn hr.dc, .slice hr.ta hr.tn hr.tc] 27)) := q1.alloc (by rw [s1]; omega) _
  have s2 : ((w.alloc (.cells #[.int .i64 hl.k, .slice hl.ka hl.kn hl.kc, .slice hl.va hl.vn hl.vc, .slice hl.da hl.dn hl.dc, .slice hl.ta hl.tn hl.tc] 27)).alloc (.cells #[.int .i64 hr.k, .slice hr.ka hr.kn hr.kc, .slice hr.va hr.vn hr.vc, .slice hr.da hr.dn hr.dc, .slice hr.ta hr.tn hr.tc] 27)).heap.size = w.heap.size + 2 := by simp
  have q3 : Below w.heap.size w (((w.alloc (.cells #[.int .i64 hl.k, .slice hl.ka hl.kn hl.kc, .slice hl.va hl.vn hl.vc, .slice hl.da hl.dn hl.dc, .slice hl.ta hl.tn hl.tc] 27)).alloc (.cells #[.int .i64 hr.k, .slice hr.ka hr.kn hr.kc, .slice hr.va hr.vn hr.vc, .slice hr.da hr.dn hr.dc, .slice hr.ta hr.tn hr.tc] 27)).alloc (.cells #[.int .i64 0, .slice none 0 0, .slice none 0 0, .slice none 0 0, .slice none 0 0] 27)) := q2.alloc (by rw [s2]; omega) _
  have x1 := Box.new w 27 hl
  have x1' := x1.below ((Below.refl _ _).alloc (Nat.le_refl _) (.cells #[.int .i64 hr.k, .slice hr.ka hr.kn hr.kc, .slice hr.va hr.vn hr.vc, .slice hr.da hr.dn hr.dc, .slice hr.ta hr.tn hr.tc] 27)) x1.lt
  have x1'' := x1'.below ((Below.refl _ _).alloc (Nat.le_refl _) (.cells #[.int .i64 0, .slice none 0 0, .slice none 0 0, .slice none 0 0, .slice none 0 0] 27)) x1'.lt
  have x2 := Box.new (w.alloc (.cells #[.int .i64 hl.k, .slice hl.ka hl.kn hl.kc, .slice hl.va hl.vn hl.vc, .slice hl.da hl.dn hl.dc, .slice hl.ta hl.tn hl.tc] 27)) 27 hr
  have x2' := x2.below ((Below.refl _ _).alloc (Nat.le_refl _) (.cells #[.int .i64 0, .slice none 0 0, .slice none 0 0, .slice none 0 0, .slice none 0 0] 27)) x2.lt
  have x3 : Box (((w.alloc (.cells #[.int .i64 hl.k, .slice hl.ka hl.kn hl.kc, .slice hl.va hl.vn hl.vc, .slice hl.da hl.dn hl.dc, .slice hl.ta hl.tn hl.tc] 27)).alloc (.cells #[.int .i64 hr.k, .slice hr.ka hr.kn hr.kc, .slice hr.va hr.vn hr.vc, .slice hr.da hr.dn hr.dc, .slice hr.ta hr.tn hr.tc] 27)).alloc (.cells #[.int .i64 0, .slice none 0 0, .slice none 0 0, .slice none 0 0, .slice none 0 0] 27)) 27 ((w.alloc (.cells #[.int .i64 hl.k, .slice hl.ka hl.kn hl.kc, .slice hl.va hl.vn hl.vc, .slice hl.da hl.dn hl.dc, .slice hl.ta hl.tn hl.tc] 27)).alloc (.cells #[.int .i64 hr.k, .slice hr.ka hr.kn hr.kc, .slice hr.va hr.vn hr.vc, .slice hr.da hr.dn hr.dc, .slice hr.ta hr.tn hr.tc] 27)).heap.size hZ := Box.new ((w.alloc (.cells #[.int .i64 hl.k, .slice hl.ka hl.kn hl.kc, .slice hl.va hl.vn hl.vc, .slice hl.da hl.dn hl.dc, .slice hl.ta hl.tn hl.tc] 27)).alloc (.cells #[.int .i64 hr.k, .slice hr.ka hr.kn hr.kc, .slice hr.va hr.vn hr.vc, .slice hr.da hr.dn hr.dc, .slice hr.ta hr.tn hr.tc] 27)) 27 hZ
  rw [s1] at x2'
  rw [s2] at x3
  clear q1 s1 q2 s2 x1 x1' x2
  go_enter Tryd.func72, Tryd.ntmps72
  go_upto_region 1 with fail
  generalize (((w.alloc (.cells #[.int .i64 hl.k, .slice hl.ka hl.kn hl.kc, .slice hl.va hl.vn hl.vc, .slice hl.da hl.dn hl.dc, .slice hl.ta hl.tn hl.tc] 27)).alloc (.cells #[.int .i64 hr.k, .slice hr.ka hr.kn hr.kc, .slice hr.va hr.vn hr.vc, .slice hr.da hr.dn hr.dc, .slice hr.ta hr.tn hr.tc] 27)).alloc (.cells #[.int .i64 0, .slice none 0 0, .slice none 0 0, .slice none 0 0, .slice none 0 0] 27)) = w0 at *
  obtain ⟨l0, l1, l2, l3, l4⟩ := x1''.cells
  obtain ⟨r0, r1, r2, r3, r4⟩ := x2'.cells
  have hb1 : Below w0.heap.size w0 (w0.alloc (.cells #[.int .i64 hl.k, .slice hl.ka hl.kn hl.kc, .slice hl.va hl.vn hl.vc, .slice hl.da hl.dn hl.dc, .slice hl.ta hl.tn hl.tc, .int .i64 hr.k, .slice hr.ka hr.kn hr.kc, .slice hr.va hr.vn hr.vc, .slice hr.da hr.dn hr.dc, .slice hr.ta hr.tn hr.tc] 27)) := (Below.refl _ _).alloc (Nat.le_refl _) _
  have HX := Lib.hid (x3.below hb1 x3.lt)
  have HB := Lib.hid (q3.trans (hb1.mono q3.size))
  have HT : Hid (Two5 (w0.alloc (.cells #[.int .i64 hl.k, .slice hl.ka hl.kn hl.kc, .slice hl.va hl.vn hl.vc, .slice hl.da hl.dn hl.dc, .slice hl.ta hl.tn hl.tc, .int .i64 hr.k, .slice hr.ka hr.kn hr.kc, .slice hr.va hr.vn hr.vc, .slice hr.da hr.dn hr.dc, .slice hr.ta hr.tn hr.tc] 27)) 27 w0.heap.size hl hr) := Lib.hid (Two5.new w0 27 hl hr)
  have HI := Lib.hid (And.intro (And.intro ha hb) (And.intro hk hv))
  have hlt : w.heap.size + 2 < w0.heap.size := x3.lt
  clear x1'' x2' x3 q3 hb1 ha hb hk hv
  go_wp2_with (first
    | (refine wpList_store_box rfl 27 (.tmp 8) (.tmp 14) rfl (w.heap.size + 2) hZ ⟨1, ka, kn, kc, va, vn, vc, none, 0, 0, some ⟨w0.heap.size, 0, none⟩, 2, 2⟩ rfl rfl 27 HX.out infoTree5 ?_
       intro w2 hbx2 hg2
       have HX2 := Lib.hid hbx2
       have hb2 : Below w.heap.size w w2 := HB.out.grown hg2 HB.out.size (fun j hj => by injection hj; omega)
       have HT2 : Hid (Two5 w2 27 w0.heap.size hl hr) := Lib.hid ((hg2.block _ HT.out.lt (fun q => by injection q; omega)).trans HT.out)
       have HB2 := Lib.hid hb2
       clear hbx2 hg2 hb2))
  exact bodyPost_ret (v := TH.v ⟨1, ka, kn, kc, va, vn, vc, none, 0, 0, some ⟨w0.heap.size, 0, none⟩, 2, 2⟩) (result_tree Tryd.results72 _ HX2.out rfl Tryd.underlying27 infoTree5) rfl ⟨_, rfl, AT.inNode HT2.out (HI.out.1.1.lower HB2.out) (HI.out.1.2.lower HB2.out) (HI.out.2.1.below HB2.out) (HI.out.2.2.below HB2.out), HB2.out⟩

/-- The depth of a full tree. -/
theorem refDepthA_any (a : AT) (h : TH) (w : World) (ht : InTree w h a.tr) (hl : Lim a.pairs) (hd : a.depth ≤ 64) : Calls Tryd.prog 104 #[h.v] w (Says w (.int .i64 a.depth)) := by
  have := refDepth_any a.tr h 64 w ht ((AT.tr_formed a).2 hl) (by rw [AT.tr_deep a 64 (by omega), decide_eq_false_iff_not]; omega) (by omega) (by omega)
  rw [AT.tr_depth] at this
  exact this
set_option maxRecDepth 100000 in
set_option maxHeartbeats 4000000 in
theorem refTilt_any (a : AT) (key val : List Int) (b : AT) (h : TH) (w : World) (ht : InTree w h (AT.node a key val b).tr) (hlim : Lim (AT.node a key val b).pairs) (hda : a.depth ≤ 64) (hdb : b.depth ≤ 64) :
    Calls Tryd.prog 93 #[h.v] w (Says w (.int .i64 ((a.depth : Int) - (b.depth : Int)))) := by
  unfold TH.v
  obtain ⟨H, hp⟩ := ht.parts
  have ht1 : (1 : Int) < (h.tn : Int) := by have h2 : h.tn = 2 := hp.len.symm; omega
  have ht0 : 0 < h.tn := by omega
  have l0 : 0 < (AT.node a key val b).tr.kids.length := by rw [AT.tr_kids]; simp
  have l1 : 1 < (AT.node a key val b).tr.kids.length := by rw [AT.tr_kids]; simp
  have HP := Lib.hid hp
  have HL := Lib.hid hlim.node
  have hd1 := BW.new w ht
  have HD1 := Lib.hid hd1
  clear hp ht hlim hd1
  go_enter Tryd.func93, Tryd.ntmps93
  go_upto_region 1 with fail
  obtain ⟨g, off, hta, hg, -⟩ := (HP.out.below HD1.out.b).place (by omega)
  have HTA := Lib.hid hta
  rw [hta]
  generalize hw0 : w.alloc (.cells #[.int .i64 h.k, .slice h.ka h.kn h.kc, .slice h.va h.vn h.vc, .slice h.da h.dn h.dc, .slice (some ⟨g, off, none⟩) h.tn h.tc] 27) = w0
  have hw1 : w.alloc (.cells #[.int .i64 h.k, .slice h.ka h.kn h.kc, .slice h.va h.vn h.vc, .slice h.da h.dn h.dc, .slice h.ta h.tn h.tc] 27) = w0 := by rw [hta]; exact hw0
  rw [hw1] at HD1
  clear hta hg hw0 hw1
  refine wp_region_held_drew (S := (fun W => W.cell? ⟨w.heap.size, 4, none⟩ = some (.slice (some ⟨g, off, none⟩) h.tn h.tc) ∧ W.cell? ⟨g, off, none⟩ = some (.int .i64 (H 0).k) ∧ W.cell? ⟨g, off + 1, none⟩ = some (.slice (H 0).ka (H 0).kn (H 0).kc) ∧ W.cell? ⟨g, off + 2, none⟩ = some (.slice (H 0).va (H 0).vn (H 0).vc) ∧ W.cell? ⟨g, off + 3, none⟩ = some (.slice (H 0).da (H 0).dn (H 0).dc) ∧ W.cell? ⟨g, off + 4, none⟩ = some (.slice (H 0).ta (H 0).tn (H 0).tc) ∧ (W.cell? ⟨g, off + 5, none⟩ = some (.int .i64 (H 1).k) ∧ W.cell? ⟨g, off + 5 + 1, none⟩ = some (.slice (H 1).ka (H 1).kn (H 1).kc) ∧ W.cell? ⟨g, off + 5 + 2, none⟩ = some (.slice (H 1).va (H 1).vn (H 1).vc) ∧ W.cell? ⟨g, off + 5 + 3, none⟩ = some (.slice (H 1).da (H 1).dn (H 1).dc) ∧ W.cell? ⟨g, off + 5 + 4, none⟩ = some (.slice (H 1).ta (H 1).tn (H 1).tc)))) (by kernel_rfl) ⟨(HD1.out.drew.box.cells.2.2.2.2).trans (by rw [HTA.out]), ((HP.out.below HD1.out.drew.b).kid0 HTA.out (by omega)).1, ((HP.out.below HD1.out.drew.b).kid0 HTA.out (by omega)).2.1, ((HP.out.below HD1.out.drew.b).kid0 HTA.out (by omega)).2.2.1, ((HP.out.below HD1.out.drew.b).kid0 HTA.out (by omega)).2.2.2.1, ((HP.out.below HD1.out.drew.b).kid0 HTA.out (by omega)).2.2.2.2, (HP.out.below HD1.out.drew.b).kid1 HTA.out (by omega)⟩ (fun hHeld => ?_)
  refine take_w (i := 0) (oi := ?oZ1) (v := ?vZ1) ?hiZ1 (by kernel_rfl) (by kernel_rfl) (by kernel_rfl) ?hQZ1 ?hwZ1 ?hyZ1 (by assumption) ?restZ1
  case hiZ1 => (simp only [List.getElem?_toArray, List.getElem?_cons_zero] <;> rfl)
  case hQZ1 => exact (fun _ _ _ h => h)
  case hwZ1 => rfl
  case hyZ1 => (intro w hSw; (try dsimp only at hSw); go_simp; try with_reducible rfl)
  (try simp only [Act.put, List.setIfInBounds_toArray, List.set_cons_zero, List.set_cons_succ])
  refine take_w (i := 1) (oi := ?oZ2) (v := ?vZ2) ?hiZ2 (by kernel_rfl) (by kernel_rfl) (by kernel_rfl) ?hQZ2 ?hwZ2 ?hyZ2 (by assumption) ?restZ2
  case hiZ2 => (simp only [List.getElem?_toArray, List.getElem?_cons_succ, List.getElem?_cons_zero] <;> rfl)
  case hQZ2 => exact (fun _ _ _ h => h)
  case hwZ2 => rfl
  case hyZ2 => (intro w hSw; (try dsimp only at hSw); go_simp; try with_reducible rfl)
  (try simp only [Act.put, List.setIfInBounds_toArray, List.set_cons_zero, List.set_cons_succ])
  refine take_w (i := 2) (oi := ?oZ3) (v := ?vZ3) ?hiZ3 (by kernel_rfl) (by kernel_rfl) (by kernel_rfl) ?hQZ3 ?hwZ3 ?hyZ3 (by assumption) ?restZ3
  case hiZ3 => (simp only [List.getElem?_toArray, List.getElem?_cons_succ, List.getElem?_cons_zero] <;> rfl)
  case hQZ3 => exact (fun _ _ _ h => h)
  case hwZ3 => rfl
  case hyZ3 => (intro w hSw; (try dsimp only at hSw); go_simp; try with_reducible rfl)
  (try simp only [Act.put, List.setIfInBounds_toArray, List.set_cons_zero, List.set_cons_succ])
  refine take_w (i := 3) (oi := ?oZ4) (v := ?vZ4) ?hiZ4 (by kernel_rfl) (by kernel_rfl) (by kernel_rfl) ?hQZ4 ?hwZ4 ?hyZ4 (by assumption) ?restZ4
  case hiZ4 => (simp only [List.getElem?_toArray, List.getElem?_cons_succ, List.getElem?_cons_zero] <;> rfl)
  case hQZ4 => exact (fun _ _ _ h => h)
  case hwZ4 => rfl
  case hyZ4 => (intro w hSw; (try dsimp only at hSw); go_simp; try with_reducible rfl)
  (try simp only [Act.put, List.setIfInBounds_toArray, List.set_cons_zero, List.set_cons_succ])
  refine take_w (i := 5) (oi := ?oZ5) (v := ?vZ5) ?hiZ5 (by kernel_rfl) (by kernel_rfl) (by kernel_rfl) ?hQZ5 ?hwZ5 ?hyZ5 (by assumption) ?restZ5
  case hiZ5 => (simp only [List.getElem?_toArray, List.getElem?_cons_succ, List.getElem?_cons_zero] <;> rfl)
  case hQZ5 => exact (fun _ _ _ h => h)
  case hwZ5 => rfl
  case hyZ5 => (intro w hSw; (try dsimp only at hSw); go_simp; try with_reducible rfl)
  (try simp only [Act.put, List.setIfInBounds_toArray, List.set_cons_zero, List.set_cons_succ])
  refine take_w (i := 6) (oi := ?oZ6) (v := ?vZ6) ?hiZ6 (by kernel_rfl) (by kernel_rfl) (by kernel_rfl) ?hQZ6 ?hwZ6 ?hyZ6 (by assumption) ?restZ6
  case hiZ6 => (simp only [List.getElem?_toArray, List.getElem?_cons_succ, List.getElem?_cons_zero] <;> rfl)
  case hQZ6 => exact (fun _ _ _ h => h)
  case hwZ6 => rfl
  case hyZ6 => (intro w hSw; (try dsimp only at hSw); go_simp; try with_reducible rfl)
  (try simp only [Act.put, List.setIfInBounds_toArray, List.set_cons_zero, List.set_cons_succ])
  refine take_w (i := 7) (oi := ?oZ7) (v := ?vZ7) ?hiZ7 (by kernel_rfl) (by kernel_rfl) (by kernel_rfl) ?hQZ7 ?hwZ7 ?hyZ7 (by assumption) ?restZ7
  case hiZ7 => (simp only [List.getElem?_toArray, List.getElem?_cons_succ, List.getElem?_cons_zero] <;> rfl)
  case hQZ7 => exact (fun _ _ _ h => h)
  case hwZ7 => rfl
  case hyZ7 => (intro w hSw; (try dsimp only at hSw); go_simp; try with_reducible rfl)
  (try simp only [Act.put, List.setIfInBounds_toArray, List.set_cons_zero, List.set_cons_succ])
  refine take_w (i := 8) (oi := ?oZ8) (v := ?vZ8) ?hiZ8 (by kernel_rfl) (by kernel_rfl) (by kernel_rfl) ?hQZ8 ?hwZ8 ?hyZ8 (by assumption) ?restZ8
  case hiZ8 => (simp only [List.getElem?_toArray, List.getElem?_cons_succ, List.getElem?_cons_zero] <;> rfl)
  case hQZ8 => exact (fun _ _ _ h => h)
  case hwZ8 => rfl
  case hyZ8 => (intro w hSw; (try dsimp only at hSw); go_simp; try with_reducible rfl)
  (try simp only [Act.put, List.setIfInBounds_toArray, List.set_cons_zero, List.set_cons_succ])
  refine wpAnyH_ready (rs := [4]) (by kernel_rfl) (by simp) ?_
  refine AllReadyH.cons (o := ?oZ9) ?hiZ9 (fun K hK => ?stZ9) AllReadyH.nil
  case hiZ9 => (simp only [List.getElem?_toArray, List.getElem?_cons_succ, List.getElem?_cons_zero] <;> rfl)
  go_simp
  go_at_call 104
  refine (refDepthA_any a (H 0) _ ((HP.out.below HD1.out.drew.b).kids 0 l0) HL.out.1 (by omega)).mono ?_
  rintro _ w2 ⟨rfl, hb2⟩
  have HD2 := Lib.hid (HD1.out.drew.below hb2)
  clear hb2
  go_simp
  refine hK.out _ _ ?_ (fun hHeld => ?_)
  · (first | exact ⟨(HD3.out.box.cells.2.2.2.2).trans (by rw [HTA.out]), ((HP.out.below HD3.out.b).kid0 HTA.out (by omega)).1, ((HP.out.below HD3.out.b).kid0 HTA.out (by omega)).2.1, ((HP.out.below HD3.out.b).kid0 HTA.out (by omega)).2.2.1, ((HP.out.below HD3.out.b).kid0 HTA.out (by omega)).2.2.2.1, ((HP.out.below HD3.out.b).kid0 HTA.out (by omega)).2.2.2.2, (HP.out.below HD3.out.b).kid1 HTA.out (by omega)⟩ | exact ⟨(HD2.out.box.cells.2.2.2.2).trans (by rw [HTA.out]), ((HP.out.below HD2.out.b).kid0 HTA.out (by omega)).1, ((HP.out.below HD2.out.b).kid0 HTA.out (by omega)).2.1, ((HP.out.below HD2.out.b).kid0 HTA.out (by omega)).2.2.1, ((HP.out.below HD2.out.b).kid0 HTA.out (by omega)).2.2.2.1, ((HP.out.below HD2.out.b).kid0 HTA.out (by omega)).2.2.2.2, (HP.out.below HD2.out.b).kid1 HTA.out (by omega)⟩ | exact ⟨(HD1.out.drew.box.cells.2.2.2.2).trans (by rw [HTA.out]), ((HP.out.below HD1.out.drew.b).kid0 HTA.out (by omega)).1, ((HP.out.below HD1.out.drew.b).kid0 HTA.out (by omega)).2.1, ((HP.out.below HD1.out.drew.b).kid0 HTA.out (by omega)).2.2.1, ((HP.out.below HD1.out.drew.b).kid0 HTA.out (by omega)).2.2.2.1, ((HP.out.below HD1.out.drew.b).kid0 HTA.out (by omega)).2.2.2.2, (HP.out.below HD1.out.drew.b).kid1 HTA.out (by omega)⟩)
  clear hK K
  (try simp only [Act.put, List.setIfInBounds_toArray, List.set_cons_zero, List.set_cons_succ])
  refine wpAnyH_ready (rs := [9]) (by kernel_rfl) (by simp) ?_
  refine AllReadyH.cons (o := ?oZ10) ?hiZ10 (fun K hK => ?stZ10) AllReadyH.nil
  case hiZ10 => (simp only [List.getElem?_toArray, List.getElem?_cons_succ, List.getElem?_cons_zero] <;> rfl)
  go_simp
  go_at_call 104
  refine (refDepthA_any b (H 1) _ ((HP.out.below HD2.out.b).kids 1 l1) HL.out.2.2.2 (by omega)).mono ?_
  rintro _ w3 ⟨rfl, hb3⟩
  have HD3 := Lib.hid (HD2.out.below hb3)
  clear hb3
  go_simp
  refine hK.out _ _ ?_ (fun hHeld => ?_)
  · (first | exact ⟨(HD3.out.box.cells.2.2.2.2).trans (by rw [HTA.out]), ((HP.out.below HD3.out.b).kid0 HTA.out (by omega)).1, ((HP.out.below HD3.out.b).kid0 HTA.out (by omega)).2.1, ((HP.out.below HD3.out.b).kid0 HTA.out (by omega)).2.2.1, ((HP.out.below HD3.out.b).kid0 HTA.out (by omega)).2.2.2.1, ((HP.out.below HD3.out.b).kid0 HTA.out (by omega)).2.2.2.2, (HP.out.below HD3.out.b).kid1 HTA.out (by omega)⟩ | exact ⟨(HD2.out.box.cells.2.2.2.2).trans (by rw [HTA.out]), ((HP.out.below HD2.out.b).kid0 HTA.out (by omega)).1, ((HP.out.below HD2.out.b).kid0 HTA.out (by omega)).2.1, ((HP.out.below HD2.out.b).kid0 HTA.out (by omega)).2.2.1, ((HP.out.below HD2.out.b).kid0 HTA.out (by omega)).2.2.2.1, ((HP.out.below HD2.out.b).kid0 HTA.out (by omega)).2.2.2.2, (HP.out.below HD2.out.b).kid1 HTA.out (by omega)⟩ | exact ⟨(HD1.out.drew.box.cells.2.2.2.2).trans (by rw [HTA.out]), ((HP.out.below HD1.out.drew.b).kid0 HTA.out (by omega)).1, ((HP.out.below HD1.out.drew.b).kid0 HTA.out (by omega)).2.1, ((HP.out.below HD1.out.drew.b).kid0 HTA.out (by omega)).2.2.1, ((HP.out.below HD1.out.drew.b).kid0 HTA.out (by omega)).2.2.2.1, ((HP.out.below HD1.out.drew.b).kid0 HTA.out (by omega)).2.2.2.2, (HP.out.below HD1.out.drew.b).kid1 HTA.out (by omega)⟩)
  clear hK K
  (try simp only [Act.put, List.setIfInBounds_toArray, List.set_cons_zero, List.set_cons_succ])
  refine take_w (i := 10) (oi := ?oZ11) (v := ?vZ11) ?hiZ11 (by kernel_rfl) (by kernel_rfl) (by kernel_rfl) ?hQZ11 ?hwZ11 ?hyZ11 (by assumption) ?restZ11
  case hiZ11 => (simp only [List.getElem?_toArray, List.getElem?_cons_succ, List.getElem?_cons_zero] <;> rfl)
  case hQZ11 => exact (fun _ _ _ h => h)
  case hwZ11 => rfl
  case hyZ11 => (intro w hSw; (try dsimp only at hSw); go_simp; try with_reducible rfl)
  (try simp only [Act.put, List.setIfInBounds_toArray, List.set_cons_zero, List.set_cons_succ])
  refine take_w (i := 11) (oi := ?oZ12) (v := ?vZ12) ?hiZ12 (by kernel_rfl) (by kernel_rfl) (by kernel_rfl) ?hQZ12 ?hwZ12 ?hyZ12 (by assumption) ?restZ12
  case hiZ12 => (simp only [List.getElem?_toArray, List.getElem?_cons_succ, List.getElem?_cons_zero] <;> rfl)
  case hQZ12 => exact (fun _ _ _ h => h)
  case hwZ12 => rfl
  case hyZ12 => (intro w hSw; (try dsimp only at hSw); go_simp; try with_reducible rfl)
  (try simp only [Act.put, List.setIfInBounds_toArray, List.set_cons_zero, List.set_cons_succ])
  refine wpAnyH_done (by kernel_rfl) ?_ _
  
  go_wp2_with fail
  go_ret
  refine ⟨?_, HD3.out.b⟩
  have e : IntKind.i64.wrap ((a.depth : Int) - (b.depth : Int)) = (a.depth : Int) - (b.depth : Int) := IntWalk.i64_in _ (by omega)
  exact congrArg (fun z => Ending.returned (Value.int .i64 z)) e

set_option maxRecDepth 100000 in
set_option maxHeartbeats 4000000 in
theorem refRight_any (ll : AT) (lk lv : List Int) (lr : AT) (k v : List Int) (r : AT) (h : TH) (w : World) (ht : InTree w h (AT.node (AT.node ll lk lv lr) k v r).tr) :
    Calls Tryd.prog 95 #[h.v] w (Tells w (AT.node ll lk lv (AT.node lr k v r))) := by
  unfold TH.v
  obtain ⟨H, hp⟩ := ht.parts
  have l0 : 0 < (AT.node (AT.node ll lk lv lr) k v r).tr.kids.length := by rw [AT.tr_kids]; simp
  have l1 : 1 < (AT.node (AT.node ll lk lv lr) k v r).tr.kids.length := by rw [AT.tr_kids]; simp
  have m0 : 0 < (AT.node ll lk lv lr).tr.kids.length := by rw [AT.tr_kids]; simp
  have m1 : 1 < (AT.node ll lk lv lr).tr.kids.length := by rw [AT.tr_kids]; simp
  have hkt : InTree w (H 0) (AT.node ll lk lv lr).tr := hp.kids 0 l0
  obtain ⟨HH, hq⟩ := hkt.parts
  have ht1 : (1 : Int) < (h.tn : Int) := by have h2 : h.tn = 2 := hp.len.symm; omega
  have ht0 : 0 < h.tn := by omega
  have hs1 : (1 : Int) < ((H 0).tn : Int) := by have h2 : (H 0).tn = 2 := hq.len.symm; omega
  have hs0 : 0 < (H 0).tn := by omega
  have HP := Lib.hid hp
  have HQ := Lib.hid hq
  obtain ⟨g, off, hta, -, -⟩ := hp.place (by omega)
  obtain ⟨g', off', htk, -, -⟩ := hq.place (by omega)
  have HTA := Lib.hid hta
  have HTK := Lib.hid htk
  obtain ⟨e1, e2, e3, e4⟩ := enter2 w h
  clear hp ht hkt hq hta htk
  go_enter Tryd.func95, Tryd.ntmps95
  go_upto_region 1 with fail
  generalize ((w.alloc (.cells #[.int .i64 h.k, .slice h.ka h.kn h.kc, .slice h.va h.vn h.vc, .slice h.da h.dn h.dc, .slice h.ta h.tn h.tc] 27)).alloc (.cells #[.int .i64 0, .slice none 0 0, .slice none 0 0, .slice none 0 0, .slice none 0 0] 27)) = w0 at *
  have HE := Lib.hid (And.intro e1 (And.intro e2 e3))
  have HE4 := Lib.hid e4
  have x4 := (e1.cells.2.2.2.2).trans (by rw [HTA.out])
  obtain ⟨k0, k1, k2, k3, k4⟩ := (HP.out.below e3).kid0 HTA.out (by omega)
  clear e1 e2 e3 e4
  rw [HTA.out]
  go_upto_region 2 with fail
  clear x4 k0 k1 k2 k3 k4
  have hb1 : Below w0.heap.size w0 (w0.alloc (.cells #[.int .i64 (H 0).k, .slice (H 0).ka (H 0).kn (H 0).kc, .slice (H 0).va (H 0).vn (H 0).vc, .slice (H 0).da (H 0).dn (H 0).dc, .slice (H 0).ta (H 0).tn (H 0).tc] 27)) := (Below.refl _ _).alloc (Nat.le_refl _) _
  have hbx1 := Box.new w0 27 (H 0)
  rw [HE4.out] at hbx1
  have hr1 : RX w (w0.alloc (.cells #[.int .i64 (H 0).k, .slice (H 0).ka (H 0).kn (H 0).kc, .slice (H 0).va (H 0).vn (H 0).vc, .slice (H 0).da (H 0).dn (H 0).dc, .slice (H 0).ta (H 0).tn (H 0).tc] 27)) h (H 0) := ⟨HE.out.1.below hb1 HE.out.1.lt, HE.out.2.1.below hb1 HE.out.2.1.lt, hbx1, HE.out.2.2.trans (hb1.mono HE.out.2.2.size)⟩
  rw [HTK.out, HE4.out]
  rw [HTK.out] at hr1
  generalize hw1 : w0.alloc (.cells #[.int .i64 (H 0).k, .slice (H 0).ka (H 0).kn (H 0).kc, .slice (H 0).va (H 0).vn (H 0).vc, .slice (H 0).da (H 0).dn (H 0).dc, .slice (some ⟨g', off', none⟩) (H 0).tn (H 0).tc] 27) = w1 at *
  have HR1 := Lib.hid hr1
  clear hb1 hbx1 hr1 hw1
  refine wp_region_held_drew (S := (fun W => W.cell? ⟨w.heap.size, 1, none⟩ = some (.slice h.ka h.kn h.kc) ∧ W.cell? ⟨w.heap.size, 2, none⟩ = some (.slice h.va h.vn h.vc) ∧ W.cell? ⟨w.heap.size, 4, none⟩ = some (.slice (some ⟨g, off, none⟩) h.tn h.tc) ∧ W.cell? ⟨w.heap.size + 2, 1, none⟩ = some (.slice (H 0).ka (H 0).kn (H 0).kc) ∧ W.cell? ⟨w.heap.size + 2, 2, none⟩ = some (.slice (H 0).va (H 0).vn (H 0).vc) ∧ W.cell? ⟨w.heap.size + 2, 4, none⟩ = some (.slice (some ⟨g', off', none⟩) (H 0).tn (H 0).tc) ∧ (W.cell? ⟨g, off + 5, none⟩ = some (.int .i64 (H 1).k) ∧ W.cell? ⟨g, off + 5 + 1, none⟩ = some (.slice (H 1).ka (H 1).kn (H 1).kc) ∧ W.cell? ⟨g, off + 5 + 2, none⟩ = some (.slice (H 1).va (H 1).vn (H 1).vc) ∧ W.cell? ⟨g, off + 5 + 3, none⟩ = some (.slice (H 1).da (H 1).dn (H 1).dc) ∧ W.cell? ⟨g, off + 5 + 4, none⟩ = some (.slice (H 1).ta (H 1).tn (H 1).tc)) ∧ (W.cell? ⟨g', off', none⟩ = some (.int .i64 (HH 0).k) ∧ W.cell? ⟨g', off' + 1, none⟩ = some (.slice (HH 0).ka (HH 0).kn (HH 0).kc) ∧ W.cell? ⟨g', off' + 2, none⟩ = some (.slice (HH 0).va (HH 0).vn (HH 0).vc) ∧ W.cell? ⟨g', off' + 3, none⟩ = some (.slice (HH 0).da (HH 0).dn (HH 0).dc) ∧ W.cell? ⟨g', off' + 4, none⟩ = some (.slice (HH 0).ta (HH 0).tn (HH 0).tc)) ∧ (W.cell? ⟨g', off' + 5, none⟩ = some (.int .i64 (HH 1).k) ∧ W.cell? ⟨g', off' + 5 + 1, none⟩ = some (.slice (HH 1).ka (HH 1).kn (HH 1).kc) ∧ W.cell? ⟨g', off' + 5 + 2, none⟩ = some (.slice (HH 1).va (HH 1).vn (HH 1).vc) ∧ W.cell? ⟨g', off' + 5 + 3, none⟩ = some (.slice (HH 1).da (HH 1).dn (HH 1).dc) ∧ W.cell? ⟨g', off' + 5 + 4, none⟩ = some (.slice (HH 1).ta (HH 1).tn (HH 1).tc)))) (by kernel_rfl) ⟨HR1.out.drew.box.cells.2.1, HR1.out.drew.box.cells.2.2.1, (HR1.out.drew.box.cells.2.2.2.2).trans (by rw [HTA.out]), HR1.out.drew.kb.cells.2.1, HR1.out.drew.kb.cells.2.2.1, (HR1.out.drew.kb.cells.2.2.2.2).trans (by rw [HTK.out]), (HP.out.below HR1.out.drew.b).kid1 HTA.out (by omega), (HQ.out.below HR1.out.drew.b).kid0 HTK.out (by omega), (HQ.out.below HR1.out.drew.b).kid1 HTK.out (by omega)⟩ (fun hHeld => ?_)
  refine take_w (i := 0) (oi := ?oZ13) (v := ?vZ13) ?hiZ13 (by kernel_rfl) (by kernel_rfl) (by kernel_rfl) ?hQZ13 ?hwZ13 ?hyZ13 (by assumption) ?restZ13
  case hiZ13 => (simp only [List.getElem?_toArray, List.getElem?_cons_zero] <;> rfl)
  case hQZ13 => exact (fun _ _ _ h => h)
  case hwZ13 => rfl
  case hyZ13 => (intro w hSw; (try dsimp only at hSw); go_simp; try with_reducible rfl)
  (try simp only [Act.put, List.setIfInBounds_toArray, List.set_cons_zero, List.set_cons_succ])
  refine take_w (i := 1) (oi := ?oZ14) (v := ?vZ14) ?hiZ14 (by kernel_rfl) (by kernel_rfl) (by kernel_rfl) ?hQZ14 ?hwZ14 ?hyZ14 (by assumption) ?restZ14
  case hiZ14 => (simp only [List.getElem?_toArray, List.getElem?_cons_succ, List.getElem?_cons_zero] <;> rfl)
  case hQZ14 => exact (fun _ _ _ h => h)
  case hwZ14 => rfl
  case hyZ14 => (intro w hSw; (try dsimp only at hSw); go_simp; try with_reducible rfl)
  (try simp only [Act.put, List.setIfInBounds_toArray, List.set_cons_zero, List.set_cons_succ])
  refine take_w (i := 2) (oi := ?oZ15) (v := ?vZ15) ?hiZ15 (by kernel_rfl) (by kernel_rfl) (by kernel_rfl) ?hQZ15 ?hwZ15 ?hyZ15 (by assumption) ?restZ15
  case hiZ15 => (simp only [List.getElem?_toArray, List.getElem?_cons_succ, List.getElem?_cons_zero] <;> rfl)
  case hQZ15 => exact (fun _ _ _ h => h)
  case hwZ15 => rfl
  case hyZ15 => (intro w hSw; (try dsimp only at hSw); go_simp; try with_reducible rfl)
  (try simp only [Act.put, List.setIfInBounds_toArray, List.set_cons_zero, List.set_cons_succ])
  refine take_w (i := 3) (oi := ?oZ16) (v := ?vZ16) ?hiZ16 (by kernel_rfl) (by kernel_rfl) (by kernel_rfl) ?hQZ16 ?hwZ16 ?hyZ16 (by assumption) ?restZ16
  case hiZ16 => (simp only [List.getElem?_toArray, List.getElem?_cons_succ, List.getElem?_cons_zero] <;> rfl)
  case hQZ16 => exact (fun _ _ _ h => h)
  case hwZ16 => rfl
  case hyZ16 => (intro w hSw; (try dsimp only at hSw); go_simp; try with_reducible rfl)
  (try simp only [Act.put, List.setIfInBounds_toArray, List.set_cons_zero, List.set_cons_succ])
  refine take_w (i := 4) (oi := ?oZ17) (v := ?vZ17) ?hiZ17 (by kernel_rfl) (by kernel_rfl) (by kernel_rfl) ?hQZ17 ?hwZ17 ?hyZ17 (by assumption) ?restZ17
  case hiZ17 => (simp only [List.getElem?_toArray, List.getElem?_cons_succ, List.getElem?_cons_zero] <;> rfl)
  case hQZ17 => exact (fun _ _ _ h => h)
  case hwZ17 => rfl
  case hyZ17 => (intro w hSw; (try dsimp only at hSw); go_simp; try with_reducible rfl)
  (try simp only [Act.put, List.setIfInBounds_toArray, List.set_cons_zero, List.set_cons_succ])
  refine take_w (i := 5) (oi := ?oZ18) (v := ?vZ18) ?hiZ18 (by kernel_rfl) (by kernel_rfl) (by kernel_rfl) ?hQZ18 ?hwZ18 ?hyZ18 (by assumption) ?restZ18
  case hiZ18 => (simp only [List.getElem?_toArray, List.getElem?_cons_succ, List.getElem?_cons_zero] <;> rfl)
  case hQZ18 => exact (fun _ _ _ h => h)
  case hwZ18 => rfl
  case hyZ18 => (intro w hSw; (try dsimp only at hSw); go_simp; try with_reducible rfl)
  (try simp only [Act.put, List.setIfInBounds_toArray, List.set_cons_zero, List.set_cons_succ])
  refine take_w (i := 6) (oi := ?oZ19) (v := ?vZ19) ?hiZ19 (by kernel_rfl) (by kernel_rfl) (by kernel_rfl) ?hQZ19 ?hwZ19 ?hyZ19 (by assumption) ?restZ19
  case hiZ19 => (simp only [List.getElem?_toArray, List.getElem?_cons_succ, List.getElem?_cons_zero] <;> rfl)
  case hQZ19 => exact (fun _ _ _ h => h)
  case hwZ19 => rfl
  case hyZ19 => (intro w hSw; (try dsimp only at hSw); go_simp; try with_reducible rfl)
  (try simp only [Act.put, List.setIfInBounds_toArray, List.set_cons_zero, List.set_cons_succ])
  refine take_w (i := 7) (oi := ?oZ20) (v := ?vZ20) ?hiZ20 (by kernel_rfl) (by kernel_rfl) (by kernel_rfl) ?hQZ20 ?hwZ20 ?hyZ20 (by assumption) ?restZ20
  case hiZ20 => (simp only [List.getElem?_toArray, List.getElem?_cons_succ, List.getElem?_cons_zero] <;> rfl)
  case hQZ20 => exact (fun _ _ _ h => h)
  case hwZ20 => rfl
  case hyZ20 => (intro w hSw; (try dsimp only at hSw); go_simp; try with_reducible rfl)
  (try simp only [Act.put, List.setIfInBounds_toArray, List.set_cons_zero, List.set_cons_succ])
  refine take_w (i := 8) (oi := ?oZ21) (v := ?vZ21) ?hiZ21 (by kernel_rfl) (by kernel_rfl) (by kernel_rfl) ?hQZ21 ?hwZ21 ?hyZ21 (by assumption) ?restZ21
  case hiZ21 => (simp only [List.getElem?_toArray, List.getElem?_cons_succ, List.getElem?_cons_zero] <;> rfl)
  case hQZ21 => exact (fun _ _ _ h => h)
  case hwZ21 => rfl
  case hyZ21 => (intro w hSw; (try dsimp only at hSw); go_simp; try with_reducible rfl)
  (try simp only [Act.put, List.setIfInBounds_toArray, List.set_cons_zero, List.set_cons_succ])
  refine take_w (i := 9) (oi := ?oZ22) (v := ?vZ22) ?hiZ22 (by kernel_rfl) (by kernel_rfl) (by kernel_rfl) ?hQZ22 ?hwZ22 ?hyZ22 (by assumption) ?restZ22
  case hiZ22 => (simp only [List.getElem?_toArray, List.getElem?_cons_succ, List.getElem?_cons_zero] <;> rfl)
  case hQZ22 => exact (fun _ _ _ h => h)
  case hwZ22 => rfl
  case hyZ22 => (intro w hSw; (try dsimp only at hSw); go_simp; try with_reducible rfl)
  (try simp only [Act.put, List.setIfInBounds_toArray, List.set_cons_zero, List.set_cons_succ])
  refine take_w (i := 10) (oi := ?oZ23) (v := ?vZ23) ?hiZ23 (by kernel_rfl) (by kernel_rfl) (by kernel_rfl) ?hQZ23 ?hwZ23 ?hyZ23 (by assumption) ?restZ23
  case hiZ23 => (simp only [List.getElem?_toArray, List.getElem?_cons_succ, List.getElem?_cons_zero] <;> rfl)
  case hQZ23 => exact (fun _ _ _ h => h)
  case hwZ23 => rfl
  case hyZ23 => (intro w hSw; (try dsimp only at hSw); go_simp; try with_reducible rfl)
  (try simp only [Act.put, List.setIfInBounds_toArray, List.set_cons_zero, List.set_cons_succ])
  refine take_w (i := 11) (oi := ?oZ24) (v := ?vZ24) ?hiZ24 (by kernel_rfl) (by kernel_rfl) (by kernel_rfl) ?hQZ24 ?hwZ24 ?hyZ24 (by assumption) ?restZ24
  case hiZ24 => (simp only [List.getElem?_toArray, List.getElem?_cons_succ, List.getElem?_cons_zero] <;> rfl)
  case hQZ24 => exact (fun _ _ _ h => h)
  case hwZ24 => rfl
  case hyZ24 => (intro w hSw; (try dsimp only at hSw); go_simp; try with_reducible rfl)
  (try simp only [Act.put, List.setIfInBounds_toArray, List.set_cons_zero, List.set_cons_succ])
  refine take_w (i := 12) (oi := ?oZ25) (v := ?vZ25) ?hiZ25 (by kernel_rfl) (by kernel_rfl) (by kernel_rfl) ?hQZ25 ?hwZ25 ?hyZ25 (by assumption) ?restZ25
  case hiZ25 => (simp only [List.getElem?_toArray, List.getElem?_cons_succ, List.getElem?_cons_zero] <;> rfl)
  case hQZ25 => exact (fun _ _ _ h => h)
  case hwZ25 => rfl
  case hyZ25 => (intro w hSw; (try dsimp only at hSw); go_simp; try with_reducible rfl)
  (try simp only [Act.put, List.setIfInBounds_toArray, List.set_cons_zero, List.set_cons_succ])
  refine take_w (i := 13) (oi := ?oZ26) (v := ?vZ26) ?hiZ26 (by kernel_rfl) (by kernel_rfl) (by kernel_rfl) ?hQZ26 ?hwZ26 ?hyZ26 (by assumption) ?restZ26
  case hiZ26 => (simp only [List.getElem?_toArray, List.getElem?_cons_succ, List.getElem?_cons_zero] <;> rfl)
  case hQZ26 => exact (fun _ _ _ h => h)
  case hwZ26 => rfl
  case hyZ26 => (intro w hSw; (try dsimp only at hSw); go_simp; try with_reducible rfl)
  (try simp only [Act.put, List.setIfInBounds_toArray, List.set_cons_zero, List.set_cons_succ])
  refine take_w (i := 14) (oi := ?oZ27) (v := ?vZ27) ?hiZ27 (by kernel_rfl) (by kernel_rfl) (by kernel_rfl) ?hQZ27 ?hwZ27 ?hyZ27 (by assumption) ?restZ27
  case hiZ27 => (simp only [List.getElem?_toArray, List.getElem?_cons_succ, List.getElem?_cons_zero] <;> rfl)
  case hQZ27 => exact (fun _ _ _ h => h)
  case hwZ27 => rfl
  case hyZ27 => (intro w hSw; (try dsimp only at hSw); go_simp; try with_reducible rfl)
  (try simp only [Act.put, List.setIfInBounds_toArray, List.set_cons_zero, List.set_cons_succ])
  refine take_w (i := 15) (oi := ?oZ28) (v := ?vZ28) ?hiZ28 (by kernel_rfl) (by kernel_rfl) (by kernel_rfl) ?hQZ28 ?hwZ28 ?hyZ28 (by assumption) ?restZ28
  case hiZ28 => (simp only [List.getElem?_toArray, List.getElem?_cons_succ, List.getElem?_cons_zero] <;> rfl)
  case hQZ28 => exact (fun _ _ _ h => h)
  case hwZ28 => rfl
  case hyZ28 => (intro w hSw; (try dsimp only at hSw); go_simp; try with_reducible rfl)
  (try simp only [Act.put, List.setIfInBounds_toArray, List.set_cons_zero, List.set_cons_succ])
  refine take_w (i := 16) (oi := ?oZ29) (v := ?vZ29) ?hiZ29 (by kernel_rfl) (by kernel_rfl) (by kernel_rfl) ?hQZ29 ?hwZ29 ?hyZ29 (by assumption) ?restZ29
  case hiZ29 => (simp only [List.getElem?_toArray, List.getElem?_cons_succ, List.getElem?_cons_zero] <;> rfl)
  case hQZ29 => exact (fun _ _ _ h => h)
  case hwZ29 => rfl
  case hyZ29 => (intro w hSw; (try dsimp only at hSw); go_simp; try with_reducible rfl)
  (try simp only [Act.put, List.setIfInBounds_toArray, List.set_cons_zero, List.set_cons_succ])
  refine take_w (i := 17) (oi := ?oZ30) (v := ?vZ30) ?hiZ30 (by kernel_rfl) (by kernel_rfl) (by kernel_rfl) ?hQZ30 ?hwZ30 ?hyZ30 (by assumption) ?restZ30
  case hiZ30 => (simp only [List.getElem?_toArray, List.getElem?_cons_succ, List.getElem?_cons_zero] <;> rfl)
  case hQZ30 => exact (fun _ _ _ h => h)
  case hwZ30 => rfl
  case hyZ30 => (intro w hSw; (try dsimp only at hSw); go_simp; try with_reducible rfl)
  (try simp only [Act.put, List.setIfInBounds_toArray, List.set_cons_zero, List.set_cons_succ])
  refine take_w (i := 18) (oi := ?oZ31) (v := ?vZ31) ?hiZ31 (by kernel_rfl) (by kernel_rfl) (by kernel_rfl) ?hQZ31 ?hwZ31 ?hyZ31 (by assumption) ?restZ31
  case hiZ31 => (simp only [List.getElem?_toArray, List.getElem?_cons_succ, List.getElem?_cons_zero] <;> rfl)
  case hQZ31 => exact (fun _ _ _ h => h)
  case hwZ31 => rfl
  case hyZ31 => (intro w hSw; (try dsimp only at hSw); go_simp; try with_reducible rfl)
  (try simp only [Act.put, List.setIfInBounds_toArray, List.set_cons_zero, List.set_cons_succ])
  refine take_w (i := 19) (oi := ?oZ32) (v := ?vZ32) ?hiZ32 (by kernel_rfl) (by kernel_rfl) (by kernel_rfl) ?hQZ32 ?hwZ32 ?hyZ32 (by assumption) ?restZ32
  case hiZ32 => (simp only [List.getElem?_toArray, List.getElem?_cons_succ, List.getElem?_cons_zero] <;> rfl)
  case hQZ32 => exact (fun _ _ _ h => h)
  case hwZ32 => rfl
  case hyZ32 => (intro w hSw; (try dsimp only at hSw); go_simp; try with_reducible rfl)
  (try simp only [Act.put, List.setIfInBounds_toArray, List.set_cons_zero, List.set_cons_succ])
  refine wpAnyH_ready (rs := [20]) (by kernel_rfl) (by simp) ?_
  refine AllReadyH.cons (o := ?oZ33) ?hiZ33 (fun K hK => ?stZ33) AllReadyH.nil
  case hiZ33 => (simp only [List.getElem?_toArray, List.getElem?_cons_succ, List.getElem?_cons_zero] <;> rfl)
  go_simp
  go_at_call 72
  refine (refNode_any lr r (HH 1) (H 1) h.ka h.va h.kn h.kc h.vn h.vc k v _ ((HQ.out.below HR1.out.drew.b).kids 1 m1) ((HP.out.below HR1.out.drew.b).kids 1 l1) (HP.out.below HR1.out.drew.b).key (HP.out.below HR1.out.drew.b).val).mono ?_
  rintro _ w2 ⟨h2, rfl, hi2, hb2⟩
  unfold TH.v
  have HR2 := Lib.hid (HR1.out.drew.below hb2)
  have HI2 := Lib.hid hi2
  clear hi2 hb2
  go_simp
  refine hK.out _ _ ?_ (fun hHeld => ?_)
  · (first | exact ⟨HRX4.out.1.cells.2.1, HRX4.out.1.cells.2.2.1, (HRX4.out.1.cells.2.2.2.2).trans (by rw [HTA.out]), HRX4.out.2.cells.2.1, HRX4.out.2.cells.2.2.1, (HRX4.out.2.cells.2.2.2.2).trans (by rw [HTK.out]), (HP.out.below HB4.out).kid1 HTA.out (by omega), (HQ.out.below HB4.out).kid0 HTK.out (by omega), (HQ.out.below HB4.out).kid1 HTK.out (by omega)⟩ | exact ⟨HR3.out.box.cells.2.1, HR3.out.box.cells.2.2.1, (HR3.out.box.cells.2.2.2.2).trans (by rw [HTA.out]), HR3.out.kb.cells.2.1, HR3.out.kb.cells.2.2.1, (HR3.out.kb.cells.2.2.2.2).trans (by rw [HTK.out]), (HP.out.below HR3.out.b).kid1 HTA.out (by omega), (HQ.out.below HR3.out.b).kid0 HTK.out (by omega), (HQ.out.below HR3.out.b).kid1 HTK.out (by omega)⟩ | exact ⟨HR2.out.box.cells.2.1, HR2.out.box.cells.2.2.1, (HR2.out.box.cells.2.2.2.2).trans (by rw [HTA.out]), HR2.out.kb.cells.2.1, HR2.out.kb.cells.2.2.1, (HR2.out.kb.cells.2.2.2.2).trans (by rw [HTK.out]), (HP.out.below HR2.out.b).kid1 HTA.out (by omega), (HQ.out.below HR2.out.b).kid0 HTK.out (by omega), (HQ.out.below HR2.out.b).kid1 HTK.out (by omega)⟩ | exact ⟨HR1.out.drew.box.cells.2.1, HR1.out.drew.box.cells.2.2.1, (HR1.out.drew.box.cells.2.2.2.2).trans (by rw [HTA.out]), HR1.out.drew.kb.cells.2.1, HR1.out.drew.kb.cells.2.2.1, (HR1.out.drew.kb.cells.2.2.2.2).trans (by rw [HTK.out]), (HP.out.below HR1.out.drew.b).kid1 HTA.out (by omega), (HQ.out.below HR1.out.drew.b).kid0 HTK.out (by omega), (HQ.out.below HR1.out.drew.b).kid1 HTK.out (by omega)⟩)
  clear hK K
  (try simp only [Act.put, List.setIfInBounds_toArray, List.set_cons_zero, List.set_cons_succ])
  refine wpAnyH_ready (rs := [21]) (by kernel_rfl) (by simp) ?_
  refine AllReadyH.cons (o := ?oZ34) ?hiZ34 (fun K hK => ?stZ34) AllReadyH.nil
  case hiZ34 => (simp only [List.getElem?_toArray, List.getElem?_cons_succ, List.getElem?_cons_zero] <;> rfl)
  go_simp
  go_at_call 72
  refine (refNode_any ll (AT.node lr k v r) (HH 0) h2 (H 0).ka (H 0).va (H 0).kn (H 0).kc (H 0).vn (H 0).vc lk lv _ ((HQ.out.below HR2.out.b).kids 0 m0) HI2.out (HQ.out.below HR2.out.b).key (HQ.out.below HR2.out.b).val).mono ?_
  rintro _ w3 ⟨h3, rfl, hi3, hb3⟩
  unfold TH.v
  have HR3 := Lib.hid (HR2.out.below hb3)
  have HI3 := Lib.hid hi3
  clear hi3 hb3
  go_simp
  refine hK.out _ _ ?_ (fun hHeld => ?_)
  · (first | exact ⟨HRX4.out.1.cells.2.1, HRX4.out.1.cells.2.2.1, (HRX4.out.1.cells.2.2.2.2).trans (by rw [HTA.out]), HRX4.out.2.cells.2.1, HRX4.out.2.cells.2.2.1, (HRX4.out.2.cells.2.2.2.2).trans (by rw [HTK.out]), (HP.out.below HB4.out).kid1 HTA.out (by omega), (HQ.out.below HB4.out).kid0 HTK.out (by omega), (HQ.out.below HB4.out).kid1 HTK.out (by omega)⟩ | exact ⟨HR3.out.box.cells.2.1, HR3.out.box.cells.2.2.1, (HR3.out.box.cells.2.2.2.2).trans (by rw [HTA.out]), HR3.out.kb.cells.2.1, HR3.out.kb.cells.2.2.1, (HR3.out.kb.cells.2.2.2.2).trans (by rw [HTK.out]), (HP.out.below HR3.out.b).kid1 HTA.out (by omega), (HQ.out.below HR3.out.b).kid0 HTK.out (by omega), (HQ.out.below HR3.out.b).kid1 HTK.out (by omega)⟩ | exact ⟨HR2.out.box.cells.2.1, HR2.out.box.cells.2.2.1, (HR2.out.box.cells.2.2.2.2).trans (by rw [HTA.out]), HR2.out.kb.cells.2.1, HR2.out.kb.cells.2.2.1, (HR2.out.kb.cells.2.2.2.2).trans (by rw [HTK.out]), (HP.out.below HR2.out.b).kid1 HTA.out (by omega), (HQ.out.below HR2.out.b).kid0 HTK.out (by omega), (HQ.out.below HR2.out.b).kid1 HTK.out (by omega)⟩ | exact ⟨HR1.out.drew.box.cells.2.1, HR1.out.drew.box.cells.2.2.1, (HR1.out.drew.box.cells.2.2.2.2).trans (by rw [HTA.out]), HR1.out.drew.kb.cells.2.1, HR1.out.drew.kb.cells.2.2.1, (HR1.out.drew.kb.cells.2.2.2.2).trans (by rw [HTK.out]), (HP.out.below HR1.out.drew.b).kid1 HTA.out (by omega), (HQ.out.below HR1.out.drew.b).kid0 HTK.out (by omega), (HQ.out.below HR1.out.drew.b).kid1 HTK.out (by omega)⟩)
  clear hK K
  (try simp only [Act.put, List.setIfInBounds_toArray, List.set_cons_zero, List.set_cons_succ])
  refine wpAnyH_ready (rs := [22]) (by kernel_rfl) (by simp) ?_
  refine AllReadyH.cons (o := ?oZ35) ?hiZ35 (fun K hK => ?stZ35) AllReadyH.nil
  case hiZ35 => (simp only [List.getElem?_toArray, List.getElem?_cons_succ, List.getElem?_cons_zero] <;> rfl)
  refine step_store_box rfl 27 (.tmp 2) (.tmp 29) rfl (w.heap.size + 1) hZ h3 rfl rfl 27 HR3.out.res infoTree5 ?_
  intro w4 hbx4 hg4
  have HX4 := Lib.hid hbx4
  have HI4 := Lib.hid (AT.outBox HR3.out.res hg4 _ _ HI3.out)
  have HB4 : Hid (Below w.heap.size w w4) := Lib.hid (HR3.out.b.grown hg4 HR3.out.b.size (fun j hj => by injection hj; omega))
  have HRX4 : Hid (Box w4 27 w.heap.size h ∧ Box w4 27 (w.heap.size + 2) (H 0)) := Lib.hid ⟨HR3.out.box.grown hg4 (fun q => by injection q; omega), HR3.out.kb.grown hg4 (fun q => by injection q; omega)⟩
  clear hbx4 hg4
  refine hK.out _ _ ?_ (fun hHeld => ?_)
  · (first | exact ⟨HRX4.out.1.cells.2.1, HRX4.out.1.cells.2.2.1, (HRX4.out.1.cells.2.2.2.2).trans (by rw [HTA.out]), HRX4.out.2.cells.2.1, HRX4.out.2.cells.2.2.1, (HRX4.out.2.cells.2.2.2.2).trans (by rw [HTK.out]), (HP.out.below HB4.out).kid1 HTA.out (by omega), (HQ.out.below HB4.out).kid0 HTK.out (by omega), (HQ.out.below HB4.out).kid1 HTK.out (by omega)⟩ | exact ⟨HR3.out.box.cells.2.1, HR3.out.box.cells.2.2.1, (HR3.out.box.cells.2.2.2.2).trans (by rw [HTA.out]), HR3.out.kb.cells.2.1, HR3.out.kb.cells.2.2.1, (HR3.out.kb.cells.2.2.2.2).trans (by rw [HTK.out]), (HP.out.below HR3.out.b).kid1 HTA.out (by omega), (HQ.out.below HR3.out.b).kid0 HTK.out (by omega), (HQ.out.below HR3.out.b).kid1 HTK.out (by omega)⟩ | exact ⟨HR2.out.box.cells.2.1, HR2.out.box.cells.2.2.1, (HR2.out.box.cells.2.2.2.2).trans (by rw [HTA.out]), HR2.out.kb.cells.2.1, HR2.out.kb.cells.2.2.1, (HR2.out.kb.cells.2.2.2.2).trans (by rw [HTK.out]), (HP.out.below HR2.out.b).kid1 HTA.out (by omega), (HQ.out.below HR2.out.b).kid0 HTK.out (by omega), (HQ.out.below HR2.out.b).kid1 HTK.out (by omega)⟩ | exact ⟨HR1.out.drew.box.cells.2.1, HR1.out.drew.box.cells.2.2.1, (HR1.out.drew.box.cells.2.2.2.2).trans (by rw [HTA.out]), HR1.out.drew.kb.cells.2.1, HR1.out.drew.kb.cells.2.2.1, (HR1.out.drew.kb.cells.2.2.2.2).trans (by rw [HTK.out]), (HP.out.below HR1.out.drew.b).kid1 HTA.out (by omega), (HQ.out.below HR1.out.drew.b).kid0 HTK.out (by omega), (HQ.out.below HR1.out.drew.b).kid1 HTK.out (by omega)⟩)
  clear hK K
  (try simp only [Act.put])
  refine wpAnyH_done (by kernel_rfl) ?_ _
  
  go_wp2_with fail
  exact bodyPost_ret (v := h3.v) (result_tree Tryd.results95 _ HX4.out rfl Tryd.underlying27 infoTree5) rfl ⟨_, rfl, HI4.out, HB4.out⟩

set_option maxRecDepth 100000 in
set_option maxHeartbeats 4000000 in
theorem refLeft_any (l : AT) (k v : List Int) (rl : AT) (rk rv : List Int) (rr : AT) (h : TH) (w : World) (ht : InTree w h (AT.node l k v (AT.node rl rk rv rr)).tr) :
    Calls Tryd.prog 94 #[h.v] w (Tells w (AT.node (AT.node l k v rl) rk rv rr)) := by
  unfold TH.v
  obtain ⟨H, hp⟩ := ht.parts
  have l0 : 0 < (AT.node l k v (AT.node rl rk rv rr)).tr.kids.length := by rw [AT.tr_kids]; simp
  have l1 : 1 < (AT.node l k v (AT.node rl rk rv rr)).tr.kids.length := by rw [AT.tr_kids]; simp
  have m0 : 0 < (AT.node rl rk rv rr).tr.kids.length := by rw [AT.tr_kids]; simp
  have m1 : 1 < (AT.node rl rk rv rr).tr.kids.length := by rw [AT.tr_kids]; simp
  have hkt : InTree w (H 1) (AT.node rl rk rv rr).tr := hp.kids 1 l1
  obtain ⟨HH, hq⟩ := hkt.parts
  have ht1 : (1 : Int) < (h.tn : Int) := by have h2 : h.tn = 2 := hp.len.symm; omega
  have ht0 : 0 < h.tn := by omega
  have hs1 : (1 : Int) < ((H 1).tn : Int) := by have h2 : (H 1).tn = 2 := hq.len.symm; omega
  have hs0 : 0 < (H 1).tn := by omega
  have HP := Lib.hid hp
  have HQ := Lib.hid hq
  obtain ⟨g, off, hta, -, -⟩ := hp.place (by omega)
  obtain ⟨g', off', htk, -, -⟩ := hq.place (by omega)
  have HTA := Lib.hid hta
  have HTK := Lib.hid htk
  obtain ⟨e1, e2, e3, e4⟩ := enter2 w h
  clear hp ht hkt hq hta htk
  go_enter Tryd.func94, Tryd.ntmps94
  go_upto_region 1 with fail
  generalize ((w.alloc (.cells #[.int .i64 h.k, .slice h.ka h.kn h.kc, .slice h.va h.vn h.vc, .slice h.da h.dn h.dc, .slice h.ta h.tn h.tc] 27)).alloc (.cells #[.int .i64 0, .slice none 0 0, .slice none 0 0, .slice none 0 0, .slice none 0 0] 27)) = w0 at *
  have HE := Lib.hid (And.intro e1 (And.intro e2 e3))
  have HE4 := Lib.hid e4
  have x4 := (e1.cells.2.2.2.2).trans (by rw [HTA.out])
  obtain ⟨k0, k1, k2, k3, k4⟩ := (HP.out.below e3).kid1 HTA.out (by omega)
  clear e1 e2 e3 e4
  rw [HTA.out]
  go_upto_region 2 with fail
  clear x4 k0 k1 k2 k3 k4
  have hb1 : Below w0.heap.size w0 (w0.alloc (.cells #[.int .i64 (H 1).k, .slice (H 1).ka (H 1).kn (H 1).kc, .slice (H 1).va (H 1).vn (H 1).vc, .slice (H 1).da (H 1).dn (H 1).dc, .slice (H 1).ta (H 1).tn (H 1).tc] 27)) := (Below.refl _ _).alloc (Nat.le_refl _) _
  have hbx1 := Box.new w0 27 (H 1)
  rw [HE4.out] at hbx1
  have hr1 : RX w (w0.alloc (.cells #[.int .i64 (H 1).k, .slice (H 1).ka (H 1).kn (H 1).kc, .slice (H 1).va (H 1).vn (H 1).vc, .slice (H 1).da (H 1).dn (H 1).dc, .slice (H 1).ta (H 1).tn (H 1).tc] 27)) h (H 1) := ⟨HE.out.1.below hb1 HE.out.1.lt, HE.out.2.1.below hb1 HE.out.2.1.lt, hbx1, HE.out.2.2.trans (hb1.mono HE.out.2.2.size)⟩
  rw [HTK.out, HE4.out]
  rw [HTK.out] at hr1
  generalize hw1 : w0.alloc (.cells #[.int .i64 (H 1).k, .slice (H 1).ka (H 1).kn (H 1).kc, .slice (H 1).va (H 1).vn (H 1).vc, .slice (H 1).da (H 1).dn (H 1).dc, .slice (some ⟨g', off', none⟩) (H 1).tn (H 1).tc] 27) = w1 at *
  have HR1 := Lib.hid hr1
  clear hb1 hbx1 hr1 hw1
  refine wp_region_held_drew (S := (fun W => W.cell? ⟨w.heap.size, 1, none⟩ = some (.slice h.ka h.kn h.kc) ∧ W.cell? ⟨w.heap.size, 2, none⟩ = some (.slice h.va h.vn h.vc) ∧ W.cell? ⟨w.heap.size, 4, none⟩ = some (.slice (some ⟨g, off, none⟩) h.tn h.tc) ∧ W.cell? ⟨w.heap.size + 2, 1, none⟩ = some (.slice (H 1).ka (H 1).kn (H 1).kc) ∧ W.cell? ⟨w.heap.size + 2, 2, none⟩ = some (.slice (H 1).va (H 1).vn (H 1).vc) ∧ W.cell? ⟨w.heap.size + 2, 4, none⟩ = some (.slice (some ⟨g', off', none⟩) (H 1).tn (H 1).tc) ∧ (W.cell? ⟨g, off, none⟩ = some (.int .i64 (H 0).k) ∧ W.cell? ⟨g, off + 1, none⟩ = some (.slice (H 0).ka (H 0).kn (H 0).kc) ∧ W.cell? ⟨g, off + 2, none⟩ = some (.slice (H 0).va (H 0).vn (H 0).vc) ∧ W.cell? ⟨g, off + 3, none⟩ = some (.slice (H 0).da (H 0).dn (H 0).dc) ∧ W.cell? ⟨g, off + 4, none⟩ = some (.slice (H 0).ta (H 0).tn (H 0).tc)) ∧ (W.cell? ⟨g', off', none⟩ = some (.int .i64 (HH 0).k) ∧ W.cell? ⟨g', off' + 1, none⟩ = some (.slice (HH 0).ka (HH 0).kn (HH 0).kc) ∧ W.cell? ⟨g', off' + 2, none⟩ = some (.slice (HH 0).va (HH 0).vn (HH 0).vc) ∧ W.cell? ⟨g', off' + 3, none⟩ = some (.slice (HH 0).da (HH 0).dn (HH 0).dc) ∧ W.cell? ⟨g', off' + 4, none⟩ = some (.slice (HH 0).ta (HH 0).tn (HH 0).tc)) ∧ (W.cell? ⟨g', off' + 5, none⟩ = some (.int .i64 (HH 1).k) ∧ W.cell? ⟨g', off' + 5 + 1, none⟩ = some (.slice (HH 1).ka (HH 1).kn (HH 1).kc) ∧ W.cell? ⟨g', off' + 5 + 2, none⟩ = some (.slice (HH 1).va (HH 1).vn (HH 1).vc) ∧ W.cell? ⟨g', off' + 5 + 3, none⟩ = some (.slice (HH 1).da (HH 1).dn (HH 1).dc) ∧ W.cell? ⟨g', off' + 5 + 4, none⟩ = some (.slice (HH 1).ta (HH 1).tn (HH 1).tc)))) (by kernel_rfl) ⟨HR1.out.drew.box.cells.2.1, HR1.out.drew.box.cells.2.2.1, (HR1.out.drew.box.cells.2.2.2.2).trans (by rw [HTA.out]), HR1.out.drew.kb.cells.2.1, HR1.out.drew.kb.cells.2.2.1, (HR1.out.drew.kb.cells.2.2.2.2).trans (by rw [HTK.out]), (HP.out.below HR1.out.drew.b).kid0 HTA.out (by omega), (HQ.out.below HR1.out.drew.b).kid0 HTK.out (by omega), (HQ.out.below HR1.out.drew.b).kid1 HTK.out (by omega)⟩ (fun hHeld => ?_)
  refine take_w (i := 0) (oi := ?oZ36) (v := ?vZ36) ?hiZ36 (by kernel_rfl) (by kernel_rfl) (by kernel_rfl) ?hQZ36 ?hwZ36 ?hyZ36 (by assumption) ?restZ36
  case hiZ36 => (simp only [List.getElem?_toArray, List.getElem?_cons_zero] <;> rfl)
  case hQZ36 => exact (fun _ _ _ h => h)
  case hwZ36 => rfl
  case hyZ36 => (intro w hSw; (try dsimp only at hSw); go_simp; try with_reducible rfl)
  (try simp only [Act.put, List.setIfInBounds_toArray, List.set_cons_zero, List.set_cons_succ])
  refine take_w (i := 1) (oi := ?oZ37) (v := ?vZ37) ?hiZ37 (by kernel_rfl) (by kernel_rfl) (by kernel_rfl) ?hQZ37 ?hwZ37 ?hyZ37 (by assumption) ?restZ37
  case hiZ37 => (simp only [List.getElem?_toArray, List.getElem?_cons_succ, List.getElem?_cons_zero] <;> rfl)
  case hQZ37 => exact (fun _ _ _ h => h)
  case hwZ37 => rfl
  case hyZ37 => (intro w hSw; (try dsimp only at hSw); go_simp; try with_reducible rfl)
  (try simp only [Act.put, List.setIfInBounds_toArray, List.set_cons_zero, List.set_cons_succ])
  refine take_w (i := 2) (oi := ?oZ38) (v := ?vZ38) ?hiZ38 (by kernel_rfl) (by kernel_rfl) (by kernel_rfl) ?hQZ38 ?hwZ38 ?hyZ38 (by assumption) ?restZ38
  case hiZ38 => (simp only [List.getElem?_toArray, List.getElem?_cons_succ, List.getElem?_cons_zero] <;> rfl)
  case hQZ38 => exact (fun _ _ _ h => h)
  case hwZ38 => rfl
  case hyZ38 => (intro w hSw; (try dsimp only at hSw); go_simp; try with_reducible rfl)
  (try simp only [Act.put, List.setIfInBounds_toArray, List.set_cons_zero, List.set_cons_succ])
  refine take_w (i := 3) (oi := ?oZ39) (v := ?vZ39) ?hiZ39 (by kernel_rfl) (by kernel_rfl) (by kernel_rfl) ?hQZ39 ?hwZ39 ?hyZ39 (by assumption) ?restZ39
  case hiZ39 => (simp only [List.getElem?_toArray, List.getElem?_cons_succ, List.getElem?_cons_zero] <;> rfl)
  case hQZ39 => exact (fun _ _ _ h => h)
  case hwZ39 => rfl
  case hyZ39 => (intro w hSw; (try dsimp only at hSw); go_simp; try with_reducible rfl)
  (try simp only [Act.put, List.setIfInBounds_toArray, List.set_cons_zero, List.set_cons_succ])
  refine take_w (i := 4) (oi := ?oZ40) (v := ?vZ40) ?hiZ40 (by kernel_rfl) (by kernel_rfl) (by kernel_rfl) ?hQZ40 ?hwZ40 ?hyZ40 (by assumption) ?restZ40
  case hiZ40 => (simp only [List.getElem?_toArray, List.getElem?_cons_succ, List.getElem?_cons_zero] <;> rfl)
  case hQZ40 => exact (fun _ _ _ h => h)
  case hwZ40 => rfl
  case hyZ40 => (intro w hSw; (try dsimp only at hSw); go_simp; try with_reducible rfl)
  (try simp only [Act.put, List.setIfInBounds_toArray, List.set_cons_zero, List.set_cons_succ])
  refine take_w (i := 5) (oi := ?oZ41) (v := ?vZ41) ?hiZ41 (by kernel_rfl) (by kernel_rfl) (by kernel_rfl) ?hQZ41 ?hwZ41 ?hyZ41 (by assumption) ?restZ41
  case hiZ41 => (simp only [List.getElem?_toArray, List.getElem?_cons_succ, List.getElem?_cons_zero] <;> rfl)
  case hQZ41 => exact (fun _ _ _ h => h)
  case hwZ41 => rfl
  case hyZ41 => (intro w hSw; (try dsimp only at hSw); go_simp; try with_reducible rfl)
  (try simp only [Act.put, List.setIfInBounds_toArray, List.set_cons_zero, List.set_cons_succ])
  refine take_w (i := 6) (oi := ?oZ42) (v := ?vZ42) ?hiZ42 (by kernel_rfl) (by kernel_rfl) (by kernel_rfl) ?hQZ42 ?hwZ42 ?hyZ42 (by assumption) ?restZ42
  case hiZ42 => (simp only [List.getElem?_toArray, List.getElem?_cons_succ, List.getElem?_cons_zero] <;> rfl)
  case hQZ42 => exact (fun _ _ _ h => h)
  case hwZ42 => rfl
  case hyZ42 => (intro w hSw; (try dsimp only at hSw); go_simp; try with_reducible rfl)
  (try simp only [Act.put, List.setIfInBounds_toArray, List.set_cons_zero, List.set_cons_succ])
  refine take_w (i := 7) (oi := ?oZ43) (v := ?vZ43) ?hiZ43 (by kernel_rfl) (by kernel_rfl) (by kernel_rfl) ?hQZ43 ?hwZ43 ?hyZ43 (by assumption) ?restZ43
  case hiZ43 => (simp only [List.getElem?_toArray, List.getElem?_cons_succ, List.getElem?_cons_zero] <;> rfl)
  case hQZ43 => exact (fun _ _ _ h => h)
  case hwZ43 => rfl
  case hyZ43 => (intro w hSw; (try dsimp only at hSw); go_simp; try with_reducible rfl)
  (try simp only [Act.put, List.setIfInBounds_toArray, List.set_cons_zero, List.set_cons_succ])
  refine take_w (i := 8) (oi := ?oZ44) (v := ?vZ44) ?hiZ44 (by kernel_rfl) (by kernel_rfl) (by kernel_rfl) ?hQZ44 ?hwZ44 ?hyZ44 (by assumption) ?restZ44
  case hiZ44 => (simp only [List.getElem?_toArray, List.getElem?_cons_succ, List.getElem?_cons_zero] <;> rfl)
  case hQZ44 => exact (fun _ _ _ h => h)
  case hwZ44 => rfl
  case hyZ44 => (intro w hSw; (try dsimp only at hSw); go_simp; try with_reducible rfl)
  (try simp only [Act.put, List.setIfInBounds_toArray, List.set_cons_zero, List.set_cons_succ])
  refine take_w (i := 9) (oi := ?oZ45) (v := ?vZ45) ?hiZ45 (by kernel_rfl) (by kernel_rfl) (by kernel_rfl) ?hQZ45 ?hwZ45 ?hyZ45 (by assumption) ?restZ45
  case hiZ45 => (simp only [List.getElem?_toArray, List.getElem?_cons_succ, List.getElem?_cons_zero] <;> rfl)
  case hQZ45 => exact (fun _ _ _ h => h)
  case hwZ45 => rfl
  case hyZ45 => (intro w hSw; (try dsimp only at hSw); go_simp; try with_reducible rfl)
  (try simp only [Act.put, List.setIfInBounds_toArray, List.set_cons_zero, List.set_cons_succ])
  refine take_w (i := 10) (oi := ?oZ46) (v := ?vZ46) ?hiZ46 (by kernel_rfl) (by kernel_rfl) (by kernel_rfl) ?hQZ46 ?hwZ46 ?hyZ46 (by assumption) ?restZ46
  case hiZ46 => (simp only [List.getElem?_toArray, List.getElem?_cons_succ, List.getElem?_cons_zero] <;> rfl)
  case hQZ46 => exact (fun _ _ _ h => h)
  case hwZ46 => rfl
  case hyZ46 => (intro w hSw; (try dsimp only at hSw); go_simp; try with_reducible rfl)
  (try simp only [Act.put, List.setIfInBounds_toArray, List.set_cons_zero, List.set_cons_succ])
  refine take_w (i := 11) (oi := ?oZ47) (v := ?vZ47) ?hiZ47 (by kernel_rfl) (by kernel_rfl) (by kernel_rfl) ?hQZ47 ?hwZ47 ?hyZ47 (by assumption) ?restZ47
  case hiZ47 => (simp only [List.getElem?_toArray, List.getElem?_cons_succ, List.getElem?_cons_zero] <;> rfl)
  case hQZ47 => exact (fun _ _ _ h => h)
  case hwZ47 => rfl
  case hyZ47 => (intro w hSw; (try dsimp only at hSw); go_simp; try with_reducible rfl)
  (try simp only [Act.put, List.setIfInBounds_toArray, List.set_cons_zero, List.set_cons_succ])
  refine take_w (i := 13) (oi := ?oZ48) (v := ?vZ48) ?hiZ48 (by kernel_rfl) (by kernel_rfl) (by kernel_rfl) ?hQZ48 ?hwZ48 ?hyZ48 (by assumption) ?restZ48
  case hiZ48 => (simp only [List.getElem?_toArray, List.getElem?_cons_succ, List.getElem?_cons_zero] <;> rfl)
  case hQZ48 => exact (fun _ _ _ h => h)
  case hwZ48 => rfl
  case hyZ48 => (intro w hSw; (try dsimp only at hSw); go_simp; try with_reducible rfl)
  (try simp only [Act.put, List.setIfInBounds_toArray, List.set_cons_zero, List.set_cons_succ])
  refine take_w (i := 14) (oi := ?oZ49) (v := ?vZ49) ?hiZ49 (by kernel_rfl) (by kernel_rfl) (by kernel_rfl) ?hQZ49 ?hwZ49 ?hyZ49 (by assumption) ?restZ49
  case hiZ49 => (simp only [List.getElem?_toArray, List.getElem?_cons_succ, List.getElem?_cons_zero] <;> rfl)
  case hQZ49 => exact (fun _ _ _ h => h)
  case hwZ49 => rfl
  case hyZ49 => (intro w hSw; (try dsimp only at hSw); go_simp; try with_reducible rfl)
  (try simp only [Act.put, List.setIfInBounds_toArray, List.set_cons_zero, List.set_cons_succ])
  refine take_w (i := 15) (oi := ?oZ50) (v := ?vZ50) ?hiZ50 (by kernel_rfl) (by kernel_rfl) (by kernel_rfl) ?hQZ50 ?hwZ50 ?hyZ50 (by assumption) ?restZ50
  case hiZ50 => (simp only [List.getElem?_toArray, List.getElem?_cons_succ, List.getElem?_cons_zero] <;> rfl)
  case hQZ50 => exact (fun _ _ _ h => h)
  case hwZ50 => rfl
  case hyZ50 => (intro w hSw; (try dsimp only at hSw); go_simp; try with_reducible rfl)
  (try simp only [Act.put, List.setIfInBounds_toArray, List.set_cons_zero, List.set_cons_succ])
  refine take_w (i := 16) (oi := ?oZ51) (v := ?vZ51) ?hiZ51 (by kernel_rfl) (by kernel_rfl) (by kernel_rfl) ?hQZ51 ?hwZ51 ?hyZ51 (by assumption) ?restZ51
  case hiZ51 => (simp only [List.getElem?_toArray, List.getElem?_cons_succ, List.getElem?_cons_zero] <;> rfl)
  case hQZ51 => exact (fun _ _ _ h => h)
  case hwZ51 => rfl
  case hyZ51 => (intro w hSw; (try dsimp only at hSw); go_simp; try with_reducible rfl)
  (try simp only [Act.put, List.setIfInBounds_toArray, List.set_cons_zero, List.set_cons_succ])
  refine take_w (i := 17) (oi := ?oZ52) (v := ?vZ52) ?hiZ52 (by kernel_rfl) (by kernel_rfl) (by kernel_rfl) ?hQZ52 ?hwZ52 ?hyZ52 (by assumption) ?restZ52
  case hiZ52 => (simp only [List.getElem?_toArray, List.getElem?_cons_succ, List.getElem?_cons_zero] <;> rfl)
  case hQZ52 => exact (fun _ _ _ h => h)
  case hwZ52 => rfl
  case hyZ52 => (intro w hSw; (try dsimp only at hSw); go_simp; try with_reducible rfl)
  (try simp only [Act.put, List.setIfInBounds_toArray, List.set_cons_zero, List.set_cons_succ])
  refine take_w (i := 18) (oi := ?oZ53) (v := ?vZ53) ?hiZ53 (by kernel_rfl) (by kernel_rfl) (by kernel_rfl) ?hQZ53 ?hwZ53 ?hyZ53 (by assumption) ?restZ53
  case hiZ53 => (simp only [List.getElem?_toArray, List.getElem?_cons_succ, List.getElem?_cons_zero] <;> rfl)
  case hQZ53 => exact (fun _ _ _ h => h)
  case hwZ53 => rfl
  case hyZ53 => (intro w hSw; (try dsimp only at hSw); go_simp; try with_reducible rfl)
  (try simp only [Act.put, List.setIfInBounds_toArray, List.set_cons_zero, List.set_cons_succ])
  refine take_w (i := 19) (oi := ?oZ54) (v := ?vZ54) ?hiZ54 (by kernel_rfl) (by kernel_rfl) (by kernel_rfl) ?hQZ54 ?hwZ54 ?hyZ54 (by assumption) ?restZ54
  case hiZ54 => (simp only [List.getElem?_toArray, List.getElem?_cons_succ, List.getElem?_cons_zero] <;> rfl)
  case hQZ54 => exact (fun _ _ _ h => h)
  case hwZ54 => rfl
  case hyZ54 => (intro w hSw; (try dsimp only at hSw); go_simp; try with_reducible rfl)
  (try simp only [Act.put, List.setIfInBounds_toArray, List.set_cons_zero, List.set_cons_succ])
  refine take_w (i := 20) (oi := ?oZ55) (v := ?vZ55) ?hiZ55 (by kernel_rfl) (by kernel_rfl) (by kernel_rfl) ?hQZ55 ?hwZ55 ?hyZ55 (by assumption) ?restZ55
  case hiZ55 => (simp only [List.getElem?_toArray, List.getElem?_cons_succ, List.getElem?_cons_zero] <;> rfl)
  case hQZ55 => exact (fun _ _ _ h => h)
  case hwZ55 => rfl
  case hyZ55 => (intro w hSw; (try dsimp only at hSw); go_simp; try with_reducible rfl)
  (try simp only [Act.put, List.setIfInBounds_toArray, List.set_cons_zero, List.set_cons_succ])
  refine wpAnyH_ready (rs := [12]) (by kernel_rfl) (by simp) ?_
  refine AllReadyH.cons (o := ?oZ56) ?hiZ56 (fun K hK => ?stZ56) AllReadyH.nil
  case hiZ56 => (simp only [List.getElem?_toArray, List.getElem?_cons_succ, List.getElem?_cons_zero] <;> rfl)
  go_simp
  go_at_call 72
  refine (refNode_any l rl (H 0) (HH 0) h.ka h.va h.kn h.kc h.vn h.vc k v _ ((HP.out.below HR1.out.drew.b).kids 0 l0) ((HQ.out.below HR1.out.drew.b).kids 0 m0) (HP.out.below HR1.out.drew.b).key (HP.out.below HR1.out.drew.b).val).mono ?_
  rintro _ w2 ⟨h2, rfl, hi2, hb2⟩
  unfold TH.v
  have HR2 := Lib.hid (HR1.out.drew.below hb2)
  have HI2 := Lib.hid hi2
  clear hi2 hb2
  go_simp
  refine hK.out _ _ ?_ (fun hHeld => ?_)
  · (first | exact ⟨HRX4.out.1.cells.2.1, HRX4.out.1.cells.2.2.1, (HRX4.out.1.cells.2.2.2.2).trans (by rw [HTA.out]), HRX4.out.2.cells.2.1, HRX4.out.2.cells.2.2.1, (HRX4.out.2.cells.2.2.2.2).trans (by rw [HTK.out]), (HP.out.below HB4.out).kid0 HTA.out (by omega), (HQ.out.below HB4.out).kid0 HTK.out (by omega), (HQ.out.below HB4.out).kid1 HTK.out (by omega)⟩ | exact ⟨HR3.out.box.cells.2.1, HR3.out.box.cells.2.2.1, (HR3.out.box.cells.2.2.2.2).trans (by rw [HTA.out]), HR3.out.kb.cells.2.1, HR3.out.kb.cells.2.2.1, (HR3.out.kb.cells.2.2.2.2).trans (by rw [HTK.out]), (HP.out.below HR3.out.b).kid0 HTA.out (by omega), (HQ.out.below HR3.out.b).kid0 HTK.out (by omega), (HQ.out.below HR3.out.b).kid1 HTK.out (by omega)⟩ | exact ⟨HR2.out.box.cells.2.1, HR2.out.box.cells.2.2.1, (HR2.out.box.cells.2.2.2.2).trans (by rw [HTA.out]), HR2.out.kb.cells.2.1, HR2.out.kb.cells.2.2.1, (HR2.out.kb.cells.2.2.2.2).trans (by rw [HTK.out]), (HP.out.below HR2.out.b).kid0 HTA.out (by omega), (HQ.out.below HR2.out.b).kid0 HTK.out (by omega), (HQ.out.below HR2.out.b).kid1 HTK.out (by omega)⟩ | exact ⟨HR1.out.drew.box.cells.2.1, HR1.out.drew.box.cells.2.2.1, (HR1.out.drew.box.cells.2.2.2.2).trans (by rw [HTA.out]), HR1.out.drew.kb.cells.2.1, HR1.out.drew.kb.cells.2.2.1, (HR1.out.drew.kb.cells.2.2.2.2).trans (by rw [HTK.out]), (HP.out.below HR1.out.drew.b).kid0 HTA.out (by omega), (HQ.out.below HR1.out.drew.b).kid0 HTK.out (by omega), (HQ.out.below HR1.out.drew.b).kid1 HTK.out (by omega)⟩)
  clear hK K
  (try simp only [Act.put, List.setIfInBounds_toArray, List.set_cons_zero, List.set_cons_succ])
  refine wpAnyH_ready (rs := [21]) (by kernel_rfl) (by simp) ?_
  refine AllReadyH.cons (o := ?oZ57) ?hiZ57 (fun K hK => ?stZ57) AllReadyH.nil
  case hiZ57 => (simp only [List.getElem?_toArray, List.getElem?_cons_succ, List.getElem?_cons_zero] <;> rfl)
  go_simp
  go_at_call 72
  refine (refNode_any (AT.node l k v rl) rr h2 (HH 1) (H 1).ka (H 1).va (H 1).kn (H 1).kc (H 1).vn (H 1).vc rk rv _ HI2.out ((HQ.out.below HR2.out.b).kids 1 m1) (HQ.out.below HR2.out.b).key (HQ.out.below HR2.out.b).val).mono ?_
  rintro _ w3 ⟨h3, rfl, hi3, hb3⟩
  unfold TH.v
  have HR3 := Lib.hid (HR2.out.below hb3)
  have HI3 := Lib.hid hi3
  clear hi3 hb3
  go_simp
  refine hK.out _ _ ?_ (fun hHeld => ?_)
  · (first | exact ⟨HRX4.out.1.cells.2.1, HRX4.out.1.cells.2.2.1, (HRX4.out.1.cells.2.2.2.2).trans (by rw [HTA.out]), HRX4.out.2.cells.2.1, HRX4.out.2.cells.2.2.1, (HRX4.out.2.cells.2.2.2.2).trans (by rw [HTK.out]), (HP.out.below HB4.out).kid0 HTA.out (by omega), (HQ.out.below HB4.out).kid0 HTK.out (by omega), (HQ.out.below HB4.out).kid1 HTK.out (by omega)⟩ | exact ⟨HR3.out.box.cells.2.1, HR3.out.box.cells.2.2.1, (HR3.out.box.cells.2.2.2.2).trans (by rw [HTA.out]), HR3.out.kb.cells.2.1, HR3.out.kb.cells.2.2.1, (HR3.out.kb.cells.2.2.2.2).trans (by rw [HTK.out]), (HP.out.below HR3.out.b).kid0 HTA.out (by omega), (HQ.out.below HR3.out.b).kid0 HTK.out (by omega), (HQ.out.below HR3.out.b).kid1 HTK.out (by omega)⟩ | exact ⟨HR2.out.box.cells.2.1, HR2.out.box.cells.2.2.1, (HR2.out.box.cells.2.2.2.2).trans (by rw [HTA.out]), HR2.out.kb.cells.2.1, HR2.out.kb.cells.2.2.1, (HR2.out.kb.cells.2.2.2.2).trans (by rw [HTK.out]), (HP.out.below HR2.out.b).kid0 HTA.out (by omega), (HQ.out.below HR2.out.b).kid0 HTK.out (by omega), (HQ.out.below HR2.out.b).kid1 HTK.out (by omega)⟩ | exact ⟨HR1.out.drew.box.cells.2.1, HR1.out.drew.box.cells.2.2.1, (HR1.out.drew.box.cells.2.2.2.2).trans (by rw [HTA.out]), HR1.out.drew.kb.cells.2.1, HR1.out.drew.kb.cells.2.2.1, (HR1.out.drew.kb.cells.2.2.2.2).trans (by rw [HTK.out]), (HP.out.below HR1.out.drew.b).kid0 HTA.out (by omega), (HQ.out.below HR1.out.drew.b).kid0 HTK.out (by omega), (HQ.out.below HR1.out.drew.b).kid1 HTK.out (by omega)⟩)
  clear hK K
  (try simp only [Act.put, List.setIfInBounds_toArray, List.set_cons_zero, List.set_cons_succ])
  refine wpAnyH_ready (rs := [22]) (by kernel_rfl) (by simp) ?_
  refine AllReadyH.cons (o := ?oZ58) ?hiZ58 (fun K hK => ?stZ58) AllReadyH.nil
  case hiZ58 => (simp only [List.getElem?_toArray, List.getElem?_cons_succ, List.getElem?_cons_zero] <;> rfl)
  refine step_store_box rfl 27 (.tmp 2) (.tmp 29) rfl (w.heap.size + 1) hZ h3 rfl rfl 27 HR3.out.res infoTree5 ?_
  intro w4 hbx4 hg4
  have HX4 := Lib.hid hbx4
  have HI4 := Lib.hid (AT.outBox HR3.out.res hg4 _ _ HI3.out)
  have HB4 : Hid (Below w.heap.size w w4) := Lib.hid (HR3.out.b.grown hg4 HR3.out.b.size (fun j hj => by injection hj; omega))
  have HRX4 : Hid (Box w4 27 w.heap.size h ∧ Box w4 27 (w.heap.size + 2) (H 1)) := Lib.hid ⟨HR3.out.box.grown hg4 (fun q => by injection q; omega), HR3.out.kb.grown hg4 (fun q => by injection q; omega)⟩
  clear hbx4 hg4
  refine hK.out _ _ ?_ (fun hHeld => ?_)
  · (first | exact ⟨HRX4.out.1.cells.2.1, HRX4.out.1.cells.2.2.1, (HRX4.out.1.cells.2.2.2.2).trans (by rw [HTA.out]), HRX4.out.2.cells.2.1, HRX4.out.2.cells.2.2.1, (HRX4.out.2.cells.2.2.2.2).trans (by rw [HTK.out]), (HP.out.below HB4.out).kid0 HTA.out (by omega), (HQ.out.below HB4.out).kid0 HTK.out (by omega), (HQ.out.below HB4.out).kid1 HTK.out (by omega)⟩ | exact ⟨HR3.out.box.cells.2.1, HR3.out.box.cells.2.2.1, (HR3.out.box.cells.2.2.2.2).trans (by rw [HTA.out]), HR3.out.kb.cells.2.1, HR3.out.kb.cells.2.2.1, (HR3.out.kb.cells.2.2.2.2).trans (by rw [HTK.out]), (HP.out.below HR3.out.b).kid0 HTA.out (by omega), (HQ.out.below HR3.out.b).kid0 HTK.out (by omega), (HQ.out.below HR3.out.b).kid1 HTK.out (by omega)⟩ | exact ⟨HR2.out.box.cells.2.1, HR2.out.box.cells.2.2.1, (HR2.out.box.cells.2.2.2.2).trans (by rw [HTA.out]), HR2.out.kb.cells.2.1, HR2.out.kb.cells.2.2.1, (HR2.out.kb.cells.2.2.2.2).trans (by rw [HTK.out]), (HP.out.below HR2.out.b).kid0 HTA.out (by omega), (HQ.out.below HR2.out.b).kid0 HTK.out (by omega), (HQ.out.below HR2.out.b).kid1 HTK.out (by omega)⟩ | exact ⟨HR1.out.drew.box.cells.2.1, HR1.out.drew.box.cells.2.2.1, (HR1.out.drew.box.cells.2.2.2.2).trans (by rw [HTA.out]), HR1.out.drew.kb.cells.2.1, HR1.out.drew.kb.cells.2.2.1, (HR1.out.drew.kb.cells.2.2.2.2).trans (by rw [HTK.out]), (HP.out.below HR1.out.drew.b).kid0 HTA.out (by omega), (HQ.out.below HR1.out.drew.b).kid0 HTK.out (by omega), (HQ.out.below HR1.out.drew.b).kid1 HTK.out (by omega)⟩)
  clear hK K
  (try simp only [Act.put])
  refine wpAnyH_done (by kernel_rfl) ?_ _
  
  go_wp2_with fail
  exact bodyPost_ret (v := h3.v) (result_tree Tryd.results94 _ HX4.out rfl Tryd.underlying27 infoTree5) rfl ⟨_, rfl, HI4.out, HB4.out⟩
end Go.Proofs.YtlbiefddcimdgaaDoor

/- The contract of the document's leveling of AVL trees. -/
namespace Go.Proofs.YtlbiefddcimdgaaDoor
open Go.RowKit
set_option linter.unusedVariables false

set_option maxRecDepth 100000 in
set_option maxHeartbeats 4000000 in
theorem refLevel_any (l : AT) (k v : List Int) (r : AT) (h : TH) (w : World) (ht : InTree w h (AT.node l k v r).tr) (hlim : Lim (AT.node l k v r).pairs) (hdl : l.depth ≤ 64) (hdr : r.depth ≤ 64) :
    Calls Tryd.prog 73 #[h.v] w (Tells w (AT.node l k v r).level) := by
  unfold TH.v
  obtain ⟨H, hp⟩ := ht.parts
  have l0 : 0 < (AT.node l k v r).tr.kids.length := by rw [AT.tr_kids]; simp
  have l1 : 1 < (AT.node l k v r).tr.kids.length := by rw [AT.tr_kids]; simp
  have ht1 : (1 : Int) < (h.tn : Int) := by have h2 : h.tn = 2 := hp.len.symm; omega
  have ht0 : 0 < h.tn := by omega
  have HP := Lib.hid hp
  have HL := Lib.hid hlim
  obtain ⟨g, off, hta, -, -⟩ := hp.place (by omega)
  have HTA := Lib.hid hta
  obtain ⟨e1, e2, e3, e4⟩ := enter2 w h
  clear hp hta hlim
  go_enter Tryd.func73, Tryd.ntmps73
  go_upto_region 1 with fail
  generalize ((w.alloc (.cells #[.int .i64 h.k, .slice h.ka h.kn h.kc, .slice h.va h.vn h.vc, .slice h.da h.dn h.dc, .slice h.ta h.tn h.tc] 27)).alloc (.cells #[.int .i64 0, .slice none 0 0, .slice none 0 0, .slice none 0 0, .slice none 0 0] 27)) = w0 at *
  have HX0 : Hid (LX w w0 h (AT.node l k v r).tr) := Lib.hid ⟨e1, e2, ht.lower e3, e3⟩
  obtain ⟨x0, x1, x2, x3, x4⟩ := e1.cells
  clear e1 e2 e3 e4 ht
  have hlv := AT.level_node l k v r
  have HLV0 := Lib.hid hlv
  clear hlv
  go_upto_if 7 with (first
    | (go_at_call 93
       refine (refTilt_any l k v r h _ HX0.out.ti HL.out hdl hdr).mono ?_
       rintro _ w1 ⟨rfl, hb1⟩
       have HX1 := Lib.hid (HX0.out.below hb1)
       clear hb1))
  clear x0 x1 x2 x3 x4
  generalize hx : (l.depth : Int) - (r.depth : Int) = x
  have HXX := Lib.hid hx
  clear hx
  obtain ⟨x0, x1, x2, x3, x4⟩ := HX1.out.box.cells
  by_cases c1 : x = 2
  · subst c1
    cases l with
    | nil => exact absurd HXX.out (by simp [AT.depth]; omega)
    | node ll lk lv lr =>
      have x4' := x4.trans (by rw [HTA.out])
      obtain ⟨k0, k1, k2, k3, k4⟩ := (HP.out.below HX1.out.b).kid0 HTA.out (by omega)
      clear x4
      rw [HTA.out]
      go_upto_if 13 with (first
    | (go_at_call 93
       refine (refTilt_any ll lk lv lr (H 0) _ ((HP.out.below HX1.out.b).kids 0 l0) HL.out.node.1 (by simp only [AT.depth] at *; omega) (by simp only [AT.depth] at *; omega)).mono ?_
       rintro _ w2 ⟨rfl, hb2⟩
       have HX2 := Lib.hid (HX1.out.below hb2)
       clear hb2))
      clear x0 x1 x2 x3 x4' k0 k1 k2 k3 k4
      generalize hy : (ll.depth : Int) - (lr.depth : Int) = y
      have HYY := Lib.hid hy
      clear hy
      by_cases c2 : y < 0
      · cases lr with
        | nil => exact absurd HYY.out (by simp only [AT.depth]; omega)
        | node a b c d =>
        have HLV : Hid ((AT.node (AT.node ll lk lv (AT.node a b c d)) k v r).level = AT.node (AT.node ll lk lv a) b c (AT.node d k v r)) := Lib.hid (by
          rw [HLV0.out, if_pos HXX.out, if_pos (show (AT.node ll lk lv (AT.node a b c d)).tilt < 0 by simp only [AT.tilt]; rw [HYY.out]; exact c2)]
          rfl)
        clear HLV0
        go_upto_region 4 with fail
        refine region_l (S := (fun W => W.cell? ⟨w.heap.size, 1, none⟩ = some (.slice h.ka h.kn h.kc) ∧ W.cell? ⟨w.heap.size, 2, none⟩ = some (.slice h.va h.vn h.vc) ∧ W.cell? ⟨w.heap.size, 4, none⟩ = some (.slice (some ⟨g, off, none⟩) h.tn h.tc) ∧ (W.cell? ⟨g, off, none⟩ = some (.int .i64 (H 0).k) ∧ W.cell? ⟨g, off + 1, none⟩ = some (.slice (H 0).ka (H 0).kn (H 0).kc) ∧ W.cell? ⟨g, off + 2, none⟩ = some (.slice (H 0).va (H 0).vn (H 0).vc) ∧ W.cell? ⟨g, off + 3, none⟩ = some (.slice (H 0).da (H 0).dn (H 0).dc) ∧ W.cell? ⟨g, off + 4, none⟩ = some (.slice (H 0).ta (H 0).tn (H 0).tc)) ∧ W.cell? ⟨g, off + 5, none⟩ = some (.int .i64 (H 1).k) ∧ W.cell? ⟨g, off + 5 + 1, none⟩ = some (.slice (H 1).ka (H 1).kn (H 1).kc) ∧ W.cell? ⟨g, off + 5 + 2, none⟩ = some (.slice (H 1).va (H 1).vn (H 1).vc) ∧ W.cell? ⟨g, off + 5 + 3, none⟩ = some (.slice (H 1).da (H 1).dn (H 1).dc) ∧ W.cell? ⟨g, off + 5 + 4, none⟩ = some (.slice (H 1).ta (H 1).tn (H 1).tc))) 14 (by kernel_rfl) ⟨HX2.out.drew.box.cells.2.1, HX2.out.drew.box.cells.2.2.1, (HX2.out.drew.box.cells.2.2.2.2).trans (by rw [HTA.out]), (HP.out.below HX2.out.drew.b).kid0 HTA.out (by omega), (HP.out.below HX2.out.drew.b).kid1 HTA.out (by omega)⟩ (fun hHeld => ?_)
        refine take_l (i := 0) (oi := ?oZ59) (v := ?vZ59) ?hiZ59 (by kernel_rfl) (by kernel_rfl) (by kernel_rfl) (by kernel_rfl) ?hQZ59 ?hwZ59 ?hyZ59 (by assumption) ?restZ59
        case hiZ59 => (simp only [List.getElem?_toArray, List.getElem?_cons_zero] <;> rfl)
        case hQZ59 => exact (fun _ _ _ h => h)
        case hwZ59 => rfl
        case hyZ59 => (intro w hSw; (try dsimp only at hSw); go_simp; try with_reducible rfl)
        (try simp only [Act.put, List.setIfInBounds_toArray, List.set_cons_zero, List.set_cons_succ])
        refine take_l (i := 1) (oi := ?oZ60) (v := ?vZ60) ?hiZ60 (by kernel_rfl) (by kernel_rfl) (by kernel_rfl) (by kernel_rfl) ?hQZ60 ?hwZ60 ?hyZ60 (by assumption) ?restZ60
        case hiZ60 => (simp only [List.getElem?_toArray, List.getElem?_cons_succ, List.getElem?_cons_zero] <;> rfl)
        case hQZ60 => exact (fun _ _ _ h => h)
        case hwZ60 => rfl
        case hyZ60 => (intro w hSw; (try dsimp only at hSw); go_simp; try with_reducible rfl)
        (try simp only [Act.put, List.setIfInBounds_toArray, List.set_cons_zero, List.set_cons_succ])
        refine take_l (i := 2) (oi := ?oZ61) (v := ?vZ61) ?hiZ61 (by kernel_rfl) (by kernel_rfl) (by kernel_rfl) (by kernel_rfl) ?hQZ61 ?hwZ61 ?hyZ61 (by assumption) ?restZ61
        case hiZ61 => (simp only [List.getElem?_toArray, List.getElem?_cons_succ, List.getElem?_cons_zero] <;> rfl)
        case hQZ61 => exact (fun _ _ _ h => h)
        case hwZ61 => rfl
        case hyZ61 => (intro w hSw; (try dsimp only at hSw); go_simp; try with_reducible rfl)
        (try simp only [Act.put, List.setIfInBounds_toArray, List.set_cons_zero, List.set_cons_succ])
        refine take_l (i := 3) (oi := ?oZ62) (v := ?vZ62) ?hiZ62 (by kernel_rfl) (by kernel_rfl) (by kernel_rfl) (by kernel_rfl) ?hQZ62 ?hwZ62 ?hyZ62 (by assumption) ?restZ62
        case hiZ62 => (simp only [List.getElem?_toArray, List.getElem?_cons_succ, List.getElem?_cons_zero] <;> rfl)
        case hQZ62 => exact (fun _ _ _ h => h)
        case hwZ62 => rfl
        case hyZ62 => (intro w hSw; (try dsimp only at hSw); go_simp; try with_reducible rfl)
        (try simp only [Act.put, List.setIfInBounds_toArray, List.set_cons_zero, List.set_cons_succ])
        refine take_l (i := 5) (oi := ?oZ63) (v := ?vZ63) ?hiZ63 (by kernel_rfl) (by kernel_rfl) (by kernel_rfl) (by kernel_rfl) ?hQZ63 ?hwZ63 ?hyZ63 (by assumption) ?restZ63
        case hiZ63 => (simp only [List.getElem?_toArray, List.getElem?_cons_succ, List.getElem?_cons_zero] <;> rfl)
        case hQZ63 => exact (fun _ _ _ h => h)
        case hwZ63 => rfl
        case hyZ63 => (intro w hSw; (try dsimp only at hSw); go_simp; try with_reducible rfl)
        (try simp only [Act.put, List.setIfInBounds_toArray, List.set_cons_zero, List.set_cons_succ])
        refine take_l (i := 6) (oi := ?oZ64) (v := ?vZ64) ?hiZ64 (by kernel_rfl) (by kernel_rfl) (by kernel_rfl) (by kernel_rfl) ?hQZ64 ?hwZ64 ?hyZ64 (by assumption) ?restZ64
        case hiZ64 => (simp only [List.getElem?_toArray, List.getElem?_cons_succ, List.getElem?_cons_zero] <;> rfl)
        case hQZ64 => exact (fun _ _ _ h => h)
        case hwZ64 => rfl
        case hyZ64 => (intro w hSw; (try dsimp only at hSw); go_simp; try with_reducible rfl)
        (try simp only [Act.put, List.setIfInBounds_toArray, List.set_cons_zero, List.set_cons_succ])
        refine take_l (i := 7) (oi := ?oZ65) (v := ?vZ65) ?hiZ65 (by kernel_rfl) (by kernel_rfl) (by kernel_rfl) (by kernel_rfl) ?hQZ65 ?hwZ65 ?hyZ65 (by assumption) ?restZ65
        case hiZ65 => (simp only [List.getElem?_toArray, List.getElem?_cons_succ, List.getElem?_cons_zero] <;> rfl)
        case hQZ65 => exact (fun _ _ _ h => h)
        case hwZ65 => rfl
        case hyZ65 => (intro w hSw; (try dsimp only at hSw); go_simp; try with_reducible rfl)
        (try simp only [Act.put, List.setIfInBounds_toArray, List.set_cons_zero, List.set_cons_succ])
        refine take_l (i := 8) (oi := ?oZ66) (v := ?vZ66) ?hiZ66 (by kernel_rfl) (by kernel_rfl) (by kernel_rfl) (by kernel_rfl) ?hQZ66 ?hwZ66 ?hyZ66 (by assumption) ?restZ66
        case hiZ66 => (simp only [List.getElem?_toArray, List.getElem?_cons_succ, List.getElem?_cons_zero] <;> rfl)
        case hQZ66 => exact (fun _ _ _ h => h)
        case hwZ66 => rfl
        case hyZ66 => (intro w hSw; (try dsimp only at hSw); go_simp; try with_reducible rfl)
        (try simp only [Act.put, List.setIfInBounds_toArray, List.set_cons_zero, List.set_cons_succ])
        refine take_l (i := 9) (oi := ?oZ67) (v := ?vZ67) ?hiZ67 (by kernel_rfl) (by kernel_rfl) (by kernel_rfl) (by kernel_rfl) ?hQZ67 ?hwZ67 ?hyZ67 (by assumption) ?restZ67
        case hiZ67 => (simp only [List.getElem?_toArray, List.getElem?_cons_succ, List.getElem?_cons_zero] <;> rfl)
        case hQZ67 => exact (fun _ _ _ h => h)
        case hwZ67 => rfl
        case hyZ67 => (intro w hSw; (try dsimp only at hSw); go_simp; try with_reducible rfl)
        (try simp only [Act.put, List.setIfInBounds_toArray, List.set_cons_zero, List.set_cons_succ])
        refine take_l (i := 10) (oi := ?oZ68) (v := ?vZ68) ?hiZ68 (by kernel_rfl) (by kernel_rfl) (by kernel_rfl) (by kernel_rfl) ?hQZ68 ?hwZ68 ?hyZ68 (by assumption) ?restZ68
        case hiZ68 => (simp only [List.getElem?_toArray, List.getElem?_cons_succ, List.getElem?_cons_zero] <;> rfl)
        case hQZ68 => exact (fun _ _ _ h => h)
        case hwZ68 => rfl
        case hyZ68 => (intro w hSw; (try dsimp only at hSw); go_simp; try with_reducible rfl)
        (try simp only [Act.put, List.setIfInBounds_toArray, List.set_cons_zero, List.set_cons_succ])
        refine take_l (i := 11) (oi := ?oZ69) (v := ?vZ69) ?hiZ69 (by kernel_rfl) (by kernel_rfl) (by kernel_rfl) (by kernel_rfl) ?hQZ69 ?hwZ69 ?hyZ69 (by assumption) ?restZ69
        case hiZ69 => (simp only [List.getElem?_toArray, List.getElem?_cons_succ, List.getElem?_cons_zero] <;> rfl)
        case hQZ69 => exact (fun _ _ _ h => h)
        case hwZ69 => rfl
        case hyZ69 => (intro w hSw; (try dsimp only at hSw); go_simp; try with_reducible rfl)
        (try simp only [Act.put, List.setIfInBounds_toArray, List.set_cons_zero, List.set_cons_succ])
        refine take_l (i := 12) (oi := ?oZ70) (v := ?vZ70) ?hiZ70 (by kernel_rfl) (by kernel_rfl) (by kernel_rfl) (by kernel_rfl) ?hQZ70 ?hwZ70 ?hyZ70 (by assumption) ?restZ70
        case hiZ70 => (simp only [List.getElem?_toArray, List.getElem?_cons_succ, List.getElem?_cons_zero] <;> rfl)
        case hQZ70 => exact (fun _ _ _ h => h)
        case hwZ70 => rfl
        case hyZ70 => (intro w hSw; (try dsimp only at hSw); go_simp; try with_reducible rfl)
        (try simp only [Act.put, List.setIfInBounds_toArray, List.set_cons_zero, List.set_cons_succ])
        refine one_l (i := 4) (o := ?oZ71) (by kernel_rfl) ?hiZ71 (fun K hK => ?stZ71)
        case hiZ71 => (simp only [List.getElem?_toArray, List.getElem?_cons_succ, List.getElem?_cons_zero] <;> rfl)
        go_simp
        go_at_call 94
        refine (refLeft_any ll lk lv a b c d (H 0) _ ((HP.out.below HX2.out.drew.b).kids 0 l0)).mono ?_
        rintro _ w3 ⟨h3, rfl, hi3, hb3⟩
        unfold TH.v
        have HX3 := Lib.hid (HX2.out.drew.below hb3)
        have HI3 := Lib.hid hi3
        clear hi3 hb3
        go_simp
        refine hK.out _ _ ?_ (fun hHeld => ?_)
        · (first | exact ⟨HX4.out.box.cells.2.1, HX4.out.box.cells.2.2.1, (HX4.out.box.cells.2.2.2.2).trans (by rw [HTA.out]), (HP.out.below HX4.out.b).kid0 HTA.out (by omega), (HP.out.below HX4.out.b).kid1 HTA.out (by omega)⟩ | exact ⟨HX3.out.box.cells.2.1, HX3.out.box.cells.2.2.1, (HX3.out.box.cells.2.2.2.2).trans (by rw [HTA.out]), (HP.out.below HX3.out.b).kid0 HTA.out (by omega), (HP.out.below HX3.out.b).kid1 HTA.out (by omega)⟩ | exact ⟨HX2.out.drew.box.cells.2.1, HX2.out.drew.box.cells.2.2.1, (HX2.out.drew.box.cells.2.2.2.2).trans (by rw [HTA.out]), (HP.out.below HX2.out.drew.b).kid0 HTA.out (by omega), (HP.out.below HX2.out.drew.b).kid1 HTA.out (by omega)⟩)
        clear hK K
        (try simp only [Act.put, List.setIfInBounds_toArray, List.set_cons_zero, List.set_cons_succ])
        refine one_l (i := 13) (o := ?oZ72) (by kernel_rfl) ?hiZ72 (fun K hK => ?stZ72)
        case hiZ72 => (simp only [List.getElem?_toArray, List.getElem?_cons_succ, List.getElem?_cons_zero] <;> rfl)
        go_simp
        go_at_call 72
        refine (refNode_any (AT.node (AT.node ll lk lv a) b c d) r h3 (H 1) h.ka h.va h.kn h.kc h.vn h.vc k v _ HI3.out ((HP.out.below HX3.out.b).kids 1 l1) (HP.out.below HX3.out.b).key (HP.out.below HX3.out.b).val).mono ?_
        rintro _ w4 ⟨h4, rfl, hi4, hb4⟩
        unfold TH.v
        have HX4 := Lib.hid (HX3.out.below hb4)
        have HI4 := Lib.hid hi4
        clear hi4 hb4
        go_simp
        refine hK.out _ _ ?_ (fun hHeld => ?_)
        · (first | exact ⟨HX4.out.box.cells.2.1, HX4.out.box.cells.2.2.1, (HX4.out.box.cells.2.2.2.2).trans (by rw [HTA.out]), (HP.out.below HX4.out.b).kid0 HTA.out (by omega), (HP.out.below HX4.out.b).kid1 HTA.out (by omega)⟩ | exact ⟨HX3.out.box.cells.2.1, HX3.out.box.cells.2.2.1, (HX3.out.box.cells.2.2.2.2).trans (by rw [HTA.out]), (HP.out.below HX3.out.b).kid0 HTA.out (by omega), (HP.out.below HX3.out.b).kid1 HTA.out (by omega)⟩ | exact ⟨HX2.out.drew.box.cells.2.1, HX2.out.drew.box.cells.2.2.1, (HX2.out.drew.box.cells.2.2.2.2).trans (by rw [HTA.out]), (HP.out.below HX2.out.drew.b).kid0 HTA.out (by omega), (HP.out.below HX2.out.drew.b).kid1 HTA.out (by omega)⟩)
        clear hK K
        (try simp only [Act.put, List.setIfInBounds_toArray, List.set_cons_zero, List.set_cons_succ])
        refine last_l (o := ?oZ73) (by kernel_rfl) ?hiZ73 (by kernel_rfl) (fun K hK => ?stZ73)
        case hiZ73 => (simp only [List.getElem?_toArray, List.getElem?_cons_succ, List.getElem?_cons_zero] <;> rfl)
        refine step_store_box rfl 27 (.tmp 1) (.tmp 27) rfl w.heap.size h h4 rfl rfl 27 HX4.out.box infoTree5 ?_
        intro w5 hbx5 hg5
        have HX5 : Hid (LX w w5 h4 _) := Lib.hid ⟨hbx5, HX4.out.res.grown hg5 (fun q => by injection q; omega), AT.outBox HX4.out.box hg5 _ _ HI4.out, HX4.out.b.grown hg5 HX4.out.b.size (fun j hj => by injection hj; omega)⟩
        clear hbx5 hg5
        refine hK.out _ _ ?_
        clear hK K
        (try simp only [Act.put])
        
        clear hHeld
        obtain ⟨x0, x1, x2, x3, x4⟩ := HX5.out.box.cells
        go_wp2_with (first
          | (go_at_call 95
             refine (refRight_any (AT.node ll lk lv a) b c d k v r h4 _ HX5.out.ti).mono ?_
             rintro _ w8 ⟨h8, rfl, hi8, hb8⟩
             unfold TH.v
             have HX8 := Lib.hid (HX5.out.below hb8)
             have HI8 := Lib.hid hi8
             clear hi8 hb8)
          | (refine wpList_store_box rfl 27 (.tmp 2) (.tmp 29) rfl (w.heap.size + 1) hZ h8 rfl rfl 27 HX8.out.res infoTree5 ?_
             intro w9 hbx9 hg9
             have HX9 := Lib.hid hbx9
             have HI9 := Lib.hid (AT.outBox HX8.out.res hg9 _ _ HI8.out)
             have HB9 : Hid (Below w.heap.size w w9) := Lib.hid (HX8.out.b.grown hg9 HX8.out.b.size (fun j hj => by injection hj; omega))
             clear hbx9 hg9))
        refine bodyPost_ret (v := h8.v) (result_tree Tryd.results73 _ HX9.out rfl Tryd.underlying27 infoTree5) rfl ⟨_, rfl, ?_, HB9.out⟩
        rw [HLV.out]
        exact HI9.out

      · have HLV : Hid ((AT.node (AT.node ll lk lv lr) k v r).level = AT.node ll lk lv (AT.node lr k v r)) := Lib.hid (by
          rw [HLV0.out, if_pos HXX.out, if_neg (show ¬ (AT.node ll lk lv lr).tilt < 0 by simp only [AT.tilt]; rw [HYY.out]; exact c2)]
          rfl)
        clear HLV0
        obtain ⟨x0, x1, x2, x3, x4⟩ := HX2.out.box.cells
        go_wp2_with (first
          | (go_at_call 95
             refine (refRight_any ll lk lv lr k v r h _ HX2.out.ti).mono ?_
             rintro _ w8 ⟨h8, rfl, hi8, hb8⟩
             unfold TH.v
             have HX8 := Lib.hid (HX2.out.below hb8)
             have HI8 := Lib.hid hi8
             clear hi8 hb8)
          | (refine wpList_store_box rfl 27 (.tmp 2) (.tmp 29) rfl (w.heap.size + 1) hZ h8 rfl rfl 27 HX8.out.res infoTree5 ?_
             intro w9 hbx9 hg9
             have HX9 := Lib.hid hbx9
             have HI9 := Lib.hid (AT.outBox HX8.out.res hg9 _ _ HI8.out)
             have HB9 : Hid (Below w.heap.size w w9) := Lib.hid (HX8.out.b.grown hg9 HX8.out.b.size (fun j hj => by injection hj; omega))
             clear hbx9 hg9))
        refine bodyPost_ret (v := h8.v) (result_tree Tryd.results73 _ HX9.out rfl Tryd.underlying27 infoTree5) rfl ⟨_, rfl, ?_, HB9.out⟩
        rw [HLV.out]
        exact HI9.out

  have c1b : (x == 2) = false := by simp [c1]
  rw [c1b]
  by_cases c3 : x = -2
  · subst c3
    cases r with
    | nil => exact absurd HXX.out (by simp only [AT.depth]; omega)
    | node rl rk rv rr =>
      have x4' := x4.trans (by rw [HTA.out])
      obtain ⟨k0, k1, k2, k3, k4⟩ := (HP.out.below HX1.out.b).kid1 HTA.out (by omega)
      clear x4
      rw [HTA.out]
      go_upto_if 37 with (first
    | (go_at_call 93
       refine (refTilt_any rl rk rv rr (H 1) _ ((HP.out.below HX1.out.b).kids 1 l1) HL.out.node.2.2.2 (by simp only [AT.depth] at *; omega) (by simp only [AT.depth] at *; omega)).mono ?_
       rintro _ w2 ⟨rfl, hb2⟩
       have HX2 := Lib.hid (HX1.out.below hb2)
       clear hb2))
      clear x0 x1 x2 x3 x4' k0 k1 k2 k3 k4
      generalize hy : (rl.depth : Int) - (rr.depth : Int) = y
      have HYY := Lib.hid hy
      clear hy
      by_cases c2 : 0 < y
      · cases rl with
        | nil => exact absurd HYY.out (by simp only [AT.depth]; omega)
        | node a b c d =>
        have HLV : Hid ((AT.node l k v (AT.node (AT.node a b c d) rk rv rr)).level = AT.node (AT.node l k v a) b c (AT.node d rk rv rr)) := Lib.hid (by
          rw [HLV0.out, if_neg (by rw [HXX.out]; omega), if_pos HXX.out, if_pos (show 0 < (AT.node (AT.node a b c d) rk rv rr).tilt by simp only [AT.tilt]; rw [HYY.out]; exact c2)]
          rfl)
        clear HLV0
        have hqn : rr.depth < (AT.node a b c d).depth := by have := HYY.out; omega
        go_upto_region 8 with fail
        clear hqn
        refine region_l (S := (fun W => W.cell? ⟨w.heap.size, 1, none⟩ = some (.slice h.ka h.kn h.kc) ∧ W.cell? ⟨w.heap.size, 2, none⟩ = some (.slice h.va h.vn h.vc) ∧ W.cell? ⟨w.heap.size, 4, none⟩ = some (.slice (some ⟨g, off, none⟩) h.tn h.tc) ∧ (W.cell? ⟨g, off, none⟩ = some (.int .i64 (H 0).k) ∧ W.cell? ⟨g, off + 1, none⟩ = some (.slice (H 0).ka (H 0).kn (H 0).kc) ∧ W.cell? ⟨g, off + 2, none⟩ = some (.slice (H 0).va (H 0).vn (H 0).vc) ∧ W.cell? ⟨g, off + 3, none⟩ = some (.slice (H 0).da (H 0).dn (H 0).dc) ∧ W.cell? ⟨g, off + 4, none⟩ = some (.slice (H 0).ta (H 0).tn (H 0).tc)) ∧ W.cell? ⟨g, off + 5, none⟩ = some (.int .i64 (H 1).k) ∧ W.cell? ⟨g, off + 5 + 1, none⟩ = some (.slice (H 1).ka (H 1).kn (H 1).kc) ∧ W.cell? ⟨g, off + 5 + 2, none⟩ = some (.slice (H 1).va (H 1).vn (H 1).vc) ∧ W.cell? ⟨g, off + 5 + 3, none⟩ = some (.slice (H 1).da (H 1).dn (H 1).dc) ∧ W.cell? ⟨g, off + 5 + 4, none⟩ = some (.slice (H 1).ta (H 1).tn (H 1).tc))) 14 (by kernel_rfl) ⟨HX2.out.drew.box.cells.2.1, HX2.out.drew.box.cells.2.2.1, (HX2.out.drew.box.cells.2.2.2.2).trans (by rw [HTA.out]), (HP.out.below HX2.out.drew.b).kid0 HTA.out (by omega), (HP.out.below HX2.out.drew.b).kid1 HTA.out (by omega)⟩ (fun hHeld => ?_)
        refine take_l (i := 0) (oi := ?oZ74) (v := ?vZ74) ?hiZ74 (by kernel_rfl) (by kernel_rfl) (by kernel_rfl) (by kernel_rfl) ?hQZ74 ?hwZ74 ?hyZ74 (by assumption) ?restZ74
        case hiZ74 => (simp only [List.getElem?_toArray, List.getElem?_cons_zero] <;> rfl)
        case hQZ74 => exact (fun _ _ _ h => h)
        case hwZ74 => rfl
        case hyZ74 => (intro w hSw; (try dsimp only at hSw); go_simp; try with_reducible rfl)
        (try simp only [Act.put, List.setIfInBounds_toArray, List.set_cons_zero, List.set_cons_succ])
        refine take_l (i := 1) (oi := ?oZ75) (v := ?vZ75) ?hiZ75 (by kernel_rfl) (by kernel_rfl) (by kernel_rfl) (by kernel_rfl) ?hQZ75 ?hwZ75 ?hyZ75 (by assumption) ?restZ75
        case hiZ75 => (simp only [List.getElem?_toArray, List.getElem?_cons_succ, List.getElem?_cons_zero] <;> rfl)
        case hQZ75 => exact (fun _ _ _ h => h)
        case hwZ75 => rfl
        case hyZ75 => (intro w hSw; (try dsimp only at hSw); go_simp; try with_reducible rfl)
        (try simp only [Act.put, List.setIfInBounds_toArray, List.set_cons_zero, List.set_cons_succ])
        refine take_l (i := 2) (oi := ?oZ76) (v := ?vZ76) ?hiZ76 (by kernel_rfl) (by kernel_rfl) (by kernel_rfl) (by kernel_rfl) ?hQZ76 ?hwZ76 ?hyZ76 (by assumption) ?restZ76
        case hiZ76 => (simp only [List.getElem?_toArray, List.getElem?_cons_succ, List.getElem?_cons_zero] <;> rfl)
        case hQZ76 => exact (fun _ _ _ h => h)
        case hwZ76 => rfl
        case hyZ76 => (intro w hSw; (try dsimp only at hSw); go_simp; try with_reducible rfl)
        (try simp only [Act.put, List.setIfInBounds_toArray, List.set_cons_zero, List.set_cons_succ])
        refine take_l (i := 3) (oi := ?oZ77) (v := ?vZ77) ?hiZ77 (by kernel_rfl) (by kernel_rfl) (by kernel_rfl) (by kernel_rfl) ?hQZ77 ?hwZ77 ?hyZ77 (by assumption) ?restZ77
        case hiZ77 => (simp only [List.getElem?_toArray, List.getElem?_cons_succ, List.getElem?_cons_zero] <;> rfl)
        case hQZ77 => exact (fun _ _ _ h => h)
        case hwZ77 => rfl
        case hyZ77 => (intro w hSw; (try dsimp only at hSw); go_simp; try with_reducible rfl)
        (try simp only [Act.put, List.setIfInBounds_toArray, List.set_cons_zero, List.set_cons_succ])
        refine take_l (i := 4) (oi := ?oZ78) (v := ?vZ78) ?hiZ78 (by kernel_rfl) (by kernel_rfl) (by kernel_rfl) (by kernel_rfl) ?hQZ78 ?hwZ78 ?hyZ78 (by assumption) ?restZ78
        case hiZ78 => (simp only [List.getElem?_toArray, List.getElem?_cons_succ, List.getElem?_cons_zero] <;> rfl)
        case hQZ78 => exact (fun _ _ _ h => h)
        case hwZ78 => rfl
        case hyZ78 => (intro w hSw; (try dsimp only at hSw); go_simp; try with_reducible rfl)
        (try simp only [Act.put, List.setIfInBounds_toArray, List.set_cons_zero, List.set_cons_succ])
        refine take_l (i := 5) (oi := ?oZ79) (v := ?vZ79) ?hiZ79 (by kernel_rfl) (by kernel_rfl) (by kernel_rfl) (by kernel_rfl) ?hQZ79 ?hwZ79 ?hyZ79 (by assumption) ?restZ79
        case hiZ79 => (simp only [List.getElem?_toArray, List.getElem?_cons_succ, List.getElem?_cons_zero] <;> rfl)
        case hQZ79 => exact (fun _ _ _ h => h)
        case hwZ79 => rfl
        case hyZ79 => (intro w hSw; (try dsimp only at hSw); go_simp; try with_reducible rfl)
        (try simp only [Act.put, List.setIfInBounds_toArray, List.set_cons_zero, List.set_cons_succ])
        refine take_l (i := 6) (oi := ?oZ80) (v := ?vZ80) ?hiZ80 (by kernel_rfl) (by kernel_rfl) (by kernel_rfl) (by kernel_rfl) ?hQZ80 ?hwZ80 ?hyZ80 (by assumption) ?restZ80
        case hiZ80 => (simp only [List.getElem?_toArray, List.getElem?_cons_succ, List.getElem?_cons_zero] <;> rfl)
        case hQZ80 => exact (fun _ _ _ h => h)
        case hwZ80 => rfl
        case hyZ80 => (intro w hSw; (try dsimp only at hSw); go_simp; try with_reducible rfl)
        (try simp only [Act.put, List.setIfInBounds_toArray, List.set_cons_zero, List.set_cons_succ])
        refine take_l (i := 7) (oi := ?oZ81) (v := ?vZ81) ?hiZ81 (by kernel_rfl) (by kernel_rfl) (by kernel_rfl) (by kernel_rfl) ?hQZ81 ?hwZ81 ?hyZ81 (by assumption) ?restZ81
        case hiZ81 => (simp only [List.getElem?_toArray, List.getElem?_cons_succ, List.getElem?_cons_zero] <;> rfl)
        case hQZ81 => exact (fun _ _ _ h => h)
        case hwZ81 => rfl
        case hyZ81 => (intro w hSw; (try dsimp only at hSw); go_simp; try with_reducible rfl)
        (try simp only [Act.put, List.setIfInBounds_toArray, List.set_cons_zero, List.set_cons_succ])
        refine take_l (i := 8) (oi := ?oZ82) (v := ?vZ82) ?hiZ82 (by kernel_rfl) (by kernel_rfl) (by kernel_rfl) (by kernel_rfl) ?hQZ82 ?hwZ82 ?hyZ82 (by assumption) ?restZ82
        case hiZ82 => (simp only [List.getElem?_toArray, List.getElem?_cons_succ, List.getElem?_cons_zero] <;> rfl)
        case hQZ82 => exact (fun _ _ _ h => h)
        case hwZ82 => rfl
        case hyZ82 => (intro w hSw; (try dsimp only at hSw); go_simp; try with_reducible rfl)
        (try simp only [Act.put, List.setIfInBounds_toArray, List.set_cons_zero, List.set_cons_succ])
        refine take_l (i := 9) (oi := ?oZ83) (v := ?vZ83) ?hiZ83 (by kernel_rfl) (by kernel_rfl) (by kernel_rfl) (by kernel_rfl) ?hQZ83 ?hwZ83 ?hyZ83 (by assumption) ?restZ83
        case hiZ83 => (simp only [List.getElem?_toArray, List.getElem?_cons_succ, List.getElem?_cons_zero] <;> rfl)
        case hQZ83 => exact (fun _ _ _ h => h)
        case hwZ83 => rfl
        case hyZ83 => (intro w hSw; (try dsimp only at hSw); go_simp; try with_reducible rfl)
        (try simp only [Act.put, List.setIfInBounds_toArray, List.set_cons_zero, List.set_cons_succ])
        refine take_l (i := 10) (oi := ?oZ84) (v := ?vZ84) ?hiZ84 (by kernel_rfl) (by kernel_rfl) (by kernel_rfl) (by kernel_rfl) ?hQZ84 ?hwZ84 ?hyZ84 (by assumption) ?restZ84
        case hiZ84 => (simp only [List.getElem?_toArray, List.getElem?_cons_succ, List.getElem?_cons_zero] <;> rfl)
        case hQZ84 => exact (fun _ _ _ h => h)
        case hwZ84 => rfl
        case hyZ84 => (intro w hSw; (try dsimp only at hSw); go_simp; try with_reducible rfl)
        (try simp only [Act.put, List.setIfInBounds_toArray, List.set_cons_zero, List.set_cons_succ])
        refine take_l (i := 11) (oi := ?oZ85) (v := ?vZ85) ?hiZ85 (by kernel_rfl) (by kernel_rfl) (by kernel_rfl) (by kernel_rfl) ?hQZ85 ?hwZ85 ?hyZ85 (by assumption) ?restZ85
        case hiZ85 => (simp only [List.getElem?_toArray, List.getElem?_cons_succ, List.getElem?_cons_zero] <;> rfl)
        case hQZ85 => exact (fun _ _ _ h => h)
        case hwZ85 => rfl
        case hyZ85 => (intro w hSw; (try dsimp only at hSw); go_simp; try with_reducible rfl)
        (try simp only [Act.put, List.setIfInBounds_toArray, List.set_cons_zero, List.set_cons_succ])
        refine one_l (i := 12) (o := ?oZ86) (by kernel_rfl) ?hiZ86 (fun K hK => ?stZ86)
        case hiZ86 => (simp only [List.getElem?_toArray, List.getElem?_cons_succ, List.getElem?_cons_zero] <;> rfl)
        go_simp
        go_at_call 95
        refine (refRight_any a b c d rk rv rr (H 1) _ ((HP.out.below HX2.out.drew.b).kids 1 l1)).mono ?_
        rintro _ w3 ⟨h3, rfl, hi3, hb3⟩
        unfold TH.v
        have HX3 := Lib.hid (HX2.out.drew.below hb3)
        have HI3 := Lib.hid hi3
        clear hi3 hb3
        go_simp
        refine hK.out _ _ ?_ (fun hHeld => ?_)
        · (first | exact ⟨HX4.out.box.cells.2.1, HX4.out.box.cells.2.2.1, (HX4.out.box.cells.2.2.2.2).trans (by rw [HTA.out]), (HP.out.below HX4.out.b).kid0 HTA.out (by omega), (HP.out.below HX4.out.b).kid1 HTA.out (by omega)⟩ | exact ⟨HX3.out.box.cells.2.1, HX3.out.box.cells.2.2.1, (HX3.out.box.cells.2.2.2.2).trans (by rw [HTA.out]), (HP.out.below HX3.out.b).kid0 HTA.out (by omega), (HP.out.below HX3.out.b).kid1 HTA.out (by omega)⟩ | exact ⟨HX2.out.drew.box.cells.2.1, HX2.out.drew.box.cells.2.2.1, (HX2.out.drew.box.cells.2.2.2.2).trans (by rw [HTA.out]), (HP.out.below HX2.out.drew.b).kid0 HTA.out (by omega), (HP.out.below HX2.out.drew.b).kid1 HTA.out (by omega)⟩)
        clear hK K
        (try simp only [Act.put, List.setIfInBounds_toArray, List.set_cons_zero, List.set_cons_succ])
        refine one_l (i := 13) (o := ?oZ87) (by kernel_rfl) ?hiZ87 (fun K hK => ?stZ87)
        case hiZ87 => (simp only [List.getElem?_toArray, List.getElem?_cons_succ, List.getElem?_cons_zero] <;> rfl)
        go_simp
        go_at_call 72
        refine (refNode_any l (AT.node a b c (AT.node d rk rv rr)) (H 0) h3 h.ka h.va h.kn h.kc h.vn h.vc k v _ ((HP.out.below HX3.out.b).kids 0 l0) HI3.out (HP.out.below HX3.out.b).key (HP.out.below HX3.out.b).val).mono ?_
        rintro _ w4 ⟨h4, rfl, hi4, hb4⟩
        unfold TH.v
        have HX4 := Lib.hid (HX3.out.below hb4)
        have HI4 := Lib.hid hi4
        clear hi4 hb4
        go_simp
        refine hK.out _ _ ?_ (fun hHeld => ?_)
        · (first | exact ⟨HX4.out.box.cells.2.1, HX4.out.box.cells.2.2.1, (HX4.out.box.cells.2.2.2.2).trans (by rw [HTA.out]), (HP.out.below HX4.out.b).kid0 HTA.out (by omega), (HP.out.below HX4.out.b).kid1 HTA.out (by omega)⟩ | exact ⟨HX3.out.box.cells.2.1, HX3.out.box.cells.2.2.1, (HX3.out.box.cells.2.2.2.2).trans (by rw [HTA.out]), (HP.out.below HX3.out.b).kid0 HTA.out (by omega), (HP.out.below HX3.out.b).kid1 HTA.out (by omega)⟩ | exact ⟨HX2.out.drew.box.cells.2.1, HX2.out.drew.box.cells.2.2.1, (HX2.out.drew.box.cells.2.2.2.2).trans (by rw [HTA.out]), (HP.out.below HX2.out.drew.b).kid0 HTA.out (by omega), (HP.out.below HX2.out.drew.b).kid1 HTA.out (by omega)⟩)
        clear hK K
        (try simp only [Act.put, List.setIfInBounds_toArray, List.set_cons_zero, List.set_cons_succ])
        refine last_l (o := ?oZ88) (by kernel_rfl) ?hiZ88 (by kernel_rfl) (fun K hK => ?stZ88)
        case hiZ88 => (simp only [List.getElem?_toArray, List.getElem?_cons_succ, List.getElem?_cons_zero] <;> rfl)
        refine step_store_box rfl 27 (.tmp 1) (.tmp 51) rfl w.heap.size h h4 rfl rfl 27 HX4.out.box infoTree5 ?_
        intro w5 hbx5 hg5
        have HX5 : Hid (LX w w5 h4 _) := Lib.hid ⟨hbx5, HX4.out.res.grown hg5 (fun q => by injection q; omega), AT.outBox HX4.out.box hg5 _ _ HI4.out, HX4.out.b.grown hg5 HX4.out.b.size (fun j hj => by injection hj; omega)⟩
        clear hbx5 hg5
        refine hK.out _ _ ?_
        clear hK K
        (try simp only [Act.put])
        
        clear hHeld
        obtain ⟨x0, x1, x2, x3, x4⟩ := HX5.out.box.cells
        go_wp2_with (first
          | (go_at_call 94
             refine (refLeft_any l k v a b c (AT.node d rk rv rr) h4 _ HX5.out.ti).mono ?_
             rintro _ w8 ⟨h8, rfl, hi8, hb8⟩
             unfold TH.v
             have HX8 := Lib.hid (HX5.out.below hb8)
             have HI8 := Lib.hid hi8
             clear hi8 hb8)
          | (refine wpList_store_box rfl 27 (.tmp 2) (.tmp 53) rfl (w.heap.size + 1) hZ h8 rfl rfl 27 HX8.out.res infoTree5 ?_
             intro w9 hbx9 hg9
             have HX9 := Lib.hid hbx9
             have HI9 := Lib.hid (AT.outBox HX8.out.res hg9 _ _ HI8.out)
             have HB9 : Hid (Below w.heap.size w w9) := Lib.hid (HX8.out.b.grown hg9 HX8.out.b.size (fun j hj => by injection hj; omega))
             clear hbx9 hg9))
        refine bodyPost_ret (v := h8.v) (result_tree Tryd.results73 _ HX9.out rfl Tryd.underlying27 infoTree5) rfl ⟨_, rfl, ?_, HB9.out⟩
        rw [HLV.out]
        exact HI9.out

      · have HLV : Hid ((AT.node l k v (AT.node rl rk rv rr)).level = AT.node (AT.node l k v rl) rk rv rr) := Lib.hid (by
          rw [HLV0.out, if_neg (by rw [HXX.out]; omega), if_pos HXX.out, if_neg (show ¬ 0 < (AT.node rl rk rv rr).tilt by simp only [AT.tilt]; rw [HYY.out]; exact c2)]
          rfl)
        clear HLV0
        have hqn : ¬ rr.depth < rl.depth := by have := HYY.out; omega
        obtain ⟨x0, x1, x2, x3, x4⟩ := HX2.out.box.cells
        go_wp2_with (first
          | (go_at_call 94
             refine (refLeft_any l k v rl rk rv rr h _ HX2.out.ti).mono ?_
             rintro _ w8 ⟨h8, rfl, hi8, hb8⟩
             unfold TH.v
             have HX8 := Lib.hid (HX2.out.below hb8)
             have HI8 := Lib.hid hi8
             clear hi8 hb8)
          | (refine wpList_store_box rfl 27 (.tmp 2) (.tmp 53) rfl (w.heap.size + 1) hZ h8 rfl rfl 27 HX8.out.res infoTree5 ?_
             intro w9 hbx9 hg9
             have HX9 := Lib.hid hbx9
             have HI9 := Lib.hid (AT.outBox HX8.out.res hg9 _ _ HI8.out)
             have HB9 : Hid (Below w.heap.size w w9) := Lib.hid (HX8.out.b.grown hg9 HX8.out.b.size (fun j hj => by injection hj; omega))
             clear hbx9 hg9))
        refine bodyPost_ret (v := h8.v) (result_tree Tryd.results73 _ HX9.out rfl Tryd.underlying27 infoTree5) rfl ⟨_, rfl, ?_, HB9.out⟩
        rw [HLV.out]
        exact HI9.out

  have c3b : (x == -2) = false := by simp [c3]
  have HLV : Hid ((AT.node l k v r).level = AT.node l k v r) := Lib.hid (by rw [HLV0.out, if_neg (by rw [HXX.out]; exact c1), if_neg (by rw [HXX.out]; exact c3)])
  clear HLV0
  go_wp2_with (first
  | (refine wpList_store_box rfl 27 (.tmp 2) (.tmp 54) rfl (w.heap.size + 1) hZ h rfl rfl 27 HX1.out.res infoTree5 ?_
     intro w9 hbx9 hg9
     have HX9 := Lib.hid hbx9
     have HI9 := Lib.hid (AT.outBox HX1.out.res hg9 _ _ HX1.out.ti)
     have HB9 : Hid (Below w.heap.size w w9) := Lib.hid (HX1.out.b.grown hg9 HX1.out.b.size (fun j hj => by injection hj; omega))
     clear hbx9 hg9))
  refine bodyPost_ret (v := h.v) (result_tree Tryd.results73 _ HX9.out rfl Tryd.underlying27 infoTree5) rfl ⟨_, rfl, ?_, HB9.out⟩
  rw [HLV.out]
  exact HI9.out
end Go.Proofs.YtlbiefddcimdgaaDoor

/- The contract of the document's insertion into AVL trees. -/
namespace Go.Proofs.YtlbiefddcimdgaaDoor
open Go.RowKit
set_option linter.unusedVariables false

theorem AT.put_mem (key val : List Int) : ∀ (a : AT) (p : KV), p ∈ (a.put key val).pairs → p = (key, val) ∨ p ∈ a.pairs := by
  intro a
  induction a with
  | nil =>
    intro p hp
    simp [AT.put, AT.pairs] at hp
    exact .inl hp
  | node l k v r ihl ihr =>
    intro p hp
    rw [AT.put_node] at hp
    simp only [AT.pairs, List.mem_append, List.mem_cons]
    split at hp
    · simp only [AT.pairs, List.mem_append, List.mem_cons] at hp
      rcases hp with hp | hp | hp
      · exact .inr (.inl hp)
      · exact .inl hp
      · exact .inr (.inr (.inr hp))
    · split at hp
      · rw [AT.level_pairs] at hp
        simp only [AT.pairs, List.mem_append, List.mem_cons] at hp
        rcases hp with hp | hp | hp
        · rcases ihl p hp with q | q
          · exact .inl q
          · exact .inr (.inl q)
        · exact .inr (.inr (.inl hp))
        · exact .inr (.inr (.inr hp))
      · rw [AT.level_pairs] at hp
        simp only [AT.pairs, List.mem_append, List.mem_cons] at hp
        rcases hp with hp | hp | hp
        · exact .inr (.inl hp)
        · exact .inr (.inr (.inl hp))
        · rcases ihr p hp with q | q
          · exact .inl q
          · exact .inr (.inr (.inr q))
theorem AT.put_lim {key val : List Int} (hk : key.length ≤ 80) (hv : val.length ≤ 1024) {a : AT} (h : Lim a.pairs) : Lim (a.put key val).pairs := fun p hp => by
  rcases AT.put_mem key val a p hp with rfl | q
  · exact ⟨hk, hv⟩
  · exact h p q
theorem Lim.mk {l : AT} {k v : List Int} {r : AT} (h1 : Lim l.pairs) (h2 : k.length ≤ 80) (h3 : v.length ≤ 1024) (h4 : Lim r.pairs) : Lim (AT.node l k v r).pairs := fun p hp => by
  simp only [AT.pairs, List.mem_append, List.mem_cons] at hp
  rcases hp with hp | rfl | hp
  · exact h1 p hp
  · exact ⟨h2, h3⟩
  · exact h4 p hp

set_option maxRecDepth 100000 in
set_option maxHeartbeats 4000000 in
theorem refPut_any (key val : List Int) (ka va : Option Addr) (kn kc vn vc : Nat) (hkl : key.length ≤ 80) (hvl : val.length ≤ 1024) : ∀ (a : AT) (h : TH) (w : World), InTree w h a.tr → Lim a.pairs → a.bal → a.depth ≤ 60 → InBytes w ka kn kc key → InBytes w va vn vc val →
    Calls Tryd.prog 49 #[h.v, .slice ka kn kc, .slice va vn vc] w (Tells w (a.put key val)) := by
  intro a
  induction a with
  | nil =>
    intro h w ht _ _ _ hkb hvb
    unfold TH.v
    obtain ⟨H, hp⟩ := ht.parts
    have h0 : ((h.tn : Int) == 0) = true := by have h2 : h.tn = 0 := hp.len.symm; simp [h2]
    obtain ⟨e1, e2, e3, e4⟩ := enter2 w h
    have HK := Lib.hid (And.intro hkb hvb)
    clear hp hkb hvb
    go_enter Tryd.func49, Tryd.ntmps49
    go_upto_region 1 with fail
    generalize ((w.alloc (.cells #[.int .i64 h.k, .slice h.ka h.kn h.kc, .slice h.va h.vn h.vc, .slice h.da h.dn h.dc, .slice h.ta h.tn h.tc] 27)).alloc (.cells #[.int .i64 0, .slice none 0 0, .slice none 0 0, .slice none 0 0, .slice none 0 0] 27)) = w0 at *
    have HX0 : Hid (LX w w0 h AT.nil.tr) := Lib.hid ⟨e1, e2, ht.lower e3, e3⟩
    have x4 := e1.cells.2.2.2.2
    clear e1 e2 e3 e4 ht
    go_wp2_with (first
      | (go_at_call 72
         refine (refNode_any .nil .nil hZ hZ ka va kn kc vn vc key val _ (inTree_nil _) (inTree_nil _) (HK.out.1.below HX0.out.b) (HK.out.2.below HX0.out.b)).mono ?_
         rintro _ w2 ⟨h2, rfl, hi2, hb2⟩
         unfold TH.v
         have HX2 := Lib.hid (HX0.out.below hb2)
         have HI2 := Lib.hid hi2
         clear hi2 hb2)
      | (refine wpList_store_box rfl 27 (.tmp 6) (.tmp 15) rfl (w.heap.size + 1) hZ h2 rfl rfl 27 HX2.out.res infoTree5 ?_
         intro w9 hbx9 hg9
         have HX9 := Lib.hid hbx9
         have HI9 := Lib.hid (AT.outBox HX2.out.res hg9 _ _ HI2.out)
         have HB9 : Hid (Below w.heap.size w w9) := Lib.hid (HX2.out.b.grown hg9 HX2.out.b.size (fun j hj => by injection hj; omega))
         clear hbx9 hg9))
    exact bodyPost_ret (v := h2.v) (result_tree Tryd.results49 _ HX9.out rfl Tryd.underlying27 infoTree5) rfl ⟨_, rfl, HI9.out, HB9.out⟩
  | node l k v r ihl ihr =>
    intro h w ht hlim hbal hd hkb hvb
    unfold TH.v
    obtain ⟨H, hp⟩ := ht.parts
    have l0 : 0 < (AT.node l k v r).tr.kids.length := by rw [AT.tr_kids]; simp
    have l1 : 1 < (AT.node l k v r).tr.kids.length := by rw [AT.tr_kids]; simp
    have ht1 : (1 : Int) < (h.tn : Int) := by have h2 : h.tn = 2 := hp.len.symm; omega
    have ht0 : 0 < h.tn := by omega
    have h0 : ((h.tn : Int) == 0) = false := by rw [beq_eq_false_iff_ne]; omega
    have HP := Lib.hid hp
    have HL := Lib.hid hlim.node
    have HBL : Hid (l.bal ∧ r.bal ∧ l.depth ≤ r.depth + 1 ∧ r.depth ≤ l.depth + 1) := Lib.hid hbal
    have HK := Lib.hid (And.intro hkb hvb)
    have IHL := Lib.hid ihl
    have IHR := Lib.hid ihr
    have HPN := Lib.hid (AT.put_node key val l k v r)
    obtain ⟨g, off, hta, -, -⟩ := hp.place (by omega)
    have HTA := Lib.hid hta
    obtain ⟨e1, e2, e3, e4⟩ := enter2 w h
    have HKB := Lib.hid (And.intro hkb.bytes hp.key.bytes)
    clear hp hta hlim hbal hkb hvb ihl ihr
    go_enter Tryd.func49, Tryd.ntmps49
    go_upto_region 1 with fail
    generalize ((w.alloc (.cells #[.int .i64 h.k, .slice h.ka h.kn h.kc, .slice h.va h.vn h.vc, .slice h.da h.dn h.dc, .slice h.ta h.tn h.tc] 27)).alloc (.cells #[.int .i64 0, .slice none 0 0, .slice none 0 0, .slice none 0 0, .slice none 0 0] 27)) = w0 at *
    have HX0 : Hid (LX w w0 h (AT.node l k v r).tr) := Lib.hid ⟨e1, e2, ht.lower e3, e3⟩
    obtain ⟨x0, x1, x2, x3, x4⟩ := e1.cells
    have cv1 := conv_key (HK.out.1.below e3)
    have cv2 : (convert 22 9 (.slice h.ka h.kn h.kc)).run Tryd.prog w0 = .ok (.string (strOfNums k)) w0 := conv_key (HP.out.below e3).key
    clear e1 e2 e3 e4 ht
    have he : ((strOfNums key).toList == (strOfNums k).toList) = (key == k) := str_eq HKB.out.1 HKB.out.2
    have hlt : Op.bytesLess (strOfNums key).toList (strOfNums k).toList = ltL key k := str_lt HKB.out.1 HKB.out.2
    go_upto_if 21 with fail
    clear he
    by_cases ce : key = k
    · have ce2 : (key == k) = true := by simp [ce]
      have HPN2 := Lib.hid (HPN.out.trans (if_pos ce))
      clear HPN
      have HPN := HPN2
      rw [ce2]
      clear ce ce2 hlt cv1 cv2 x0 x1 x2 x3 x4
      go_upto_region 4 with fail
      refine region_l (S := (fun W => W.cell? ⟨w.heap.size, 1, none⟩ = some (.slice h.ka h.kn h.kc) ∧ W.cell? ⟨w.heap.size, 2, none⟩ = some (.slice h.va h.vn h.vc) ∧ W.cell? ⟨w.heap.size, 4, none⟩ = some (.slice (some ⟨g, off, none⟩) h.tn h.tc) ∧ (W.cell? ⟨g, off, none⟩ = some (.int .i64 (H 0).k) ∧ W.cell? ⟨g, off + 1, none⟩ = some (.slice (H 0).ka (H 0).kn (H 0).kc) ∧ W.cell? ⟨g, off + 2, none⟩ = some (.slice (H 0).va (H 0).vn (H 0).vc) ∧ W.cell? ⟨g, off + 3, none⟩ = some (.slice (H 0).da (H 0).dn (H 0).dc) ∧ W.cell? ⟨g, off + 4, none⟩ = some (.slice (H 0).ta (H 0).tn (H 0).tc)) ∧ W.cell? ⟨g, off + 5, none⟩ = some (.int .i64 (H 1).k) ∧ W.cell? ⟨g, off + 5 + 1, none⟩ = some (.slice (H 1).ka (H 1).kn (H 1).kc) ∧ W.cell? ⟨g, off + 5 + 2, none⟩ = some (.slice (H 1).va (H 1).vn (H 1).vc) ∧ W.cell? ⟨g, off + 5 + 3, none⟩ = some (.slice (H 1).da (H 1).dn (H 1).dc) ∧ W.cell? ⟨g, off + 5 + 4, none⟩ = some (.slice (H 1).ta (H 1).tn (H 1).tc))) 11 (by kernel_rfl) ⟨HX0.out.drew.box.cells.2.1, HX0.out.drew.box.cells.2.2.1, (HX0.out.drew.box.cells.2.2.2.2).trans (by rw [HTA.out]), (HP.out.below HX0.out.drew.b).kid0 HTA.out (by omega), (HP.out.below HX0.out.drew.b).kid1 HTA.out (by omega)⟩ (fun hHeld => ?_)
      refine take_l (i := 0) (oi := ?oZ1) (v := ?vZ1) ?hiZ1 (by kernel_rfl) (by kernel_rfl) (by kernel_rfl) (by kernel_rfl) ?hQZ1 ?hwZ1 ?hyZ1 (by assumption) ?restZ1
      case hiZ1 => (simp only [List.getElem?_toArray, List.getElem?_cons_zero] <;> rfl)
      case hQZ1 => exact (fun _ _ _ h => h)
      case hwZ1 => rfl
      case hyZ1 => (intro w hSw; (try dsimp only at hSw); go_simp; try with_reducible rfl)
      (try simp only [Act.put, List.setIfInBounds_toArray, List.set_cons_zero, List.set_cons_succ])
      refine take_l (i := 1) (oi := ?oZ2) (v := ?vZ2) ?hiZ2 (by kernel_rfl) (by kernel_rfl) (by kernel_rfl) (by kernel_rfl) ?hQZ2 ?hwZ2 ?hyZ2 (by assumption) ?restZ2
      case hiZ2 => (simp only [List.getElem?_toArray, List.getElem?_cons_succ, List.getElem?_cons_zero] <;> rfl)
      case hQZ2 => exact (fun _ _ _ h => h)
      case hwZ2 => rfl
      case hyZ2 => (intro w hSw; (try dsimp only at hSw); go_simp; try with_reducible rfl)
      (try simp only [Act.put, List.setIfInBounds_toArray, List.set_cons_zero, List.set_cons_succ])
      refine take_l (i := 2) (oi := ?oZ3) (v := ?vZ3) ?hiZ3 (by kernel_rfl) (by kernel_rfl) (by kernel_rfl) (by kernel_rfl) ?hQZ3 ?hwZ3 ?hyZ3 (by assumption) ?restZ3
      case hiZ3 => (simp only [List.getElem?_toArray, List.getElem?_cons_succ, List.getElem?_cons_zero] <;> rfl)
      case hQZ3 => exact (fun _ _ _ h => h)
      case hwZ3 => rfl
      case hyZ3 => (intro w hSw; (try dsimp only at hSw); go_simp; try with_reducible rfl)
      (try simp only [Act.put, List.setIfInBounds_toArray, List.set_cons_zero, List.set_cons_succ])
      refine take_l (i := 3) (oi := ?oZ4) (v := ?vZ4) ?hiZ4 (by kernel_rfl) (by kernel_rfl) (by kernel_rfl) (by kernel_rfl) ?hQZ4 ?hwZ4 ?hyZ4 (by assumption) ?restZ4
      case hiZ4 => (simp only [List.getElem?_toArray, List.getElem?_cons_succ, List.getElem?_cons_zero] <;> rfl)
      case hQZ4 => exact (fun _ _ _ h => h)
      case hwZ4 => rfl
      case hyZ4 => (intro w hSw; (try dsimp only at hSw); go_simp; try with_reducible rfl)
      (try simp only [Act.put, List.setIfInBounds_toArray, List.set_cons_zero, List.set_cons_succ])
      refine take_l (i := 4) (oi := ?oZ5) (v := ?vZ5) ?hiZ5 (by kernel_rfl) (by kernel_rfl) (by kernel_rfl) (by kernel_rfl) ?hQZ5 ?hwZ5 ?hyZ5 (by assumption) ?restZ5
      case hiZ5 => (simp only [List.getElem?_toArray, List.getElem?_cons_succ, List.getElem?_cons_zero] <;> rfl)
      case hQZ5 => exact (fun _ _ _ h => h)
      case hwZ5 => rfl
      case hyZ5 => (intro w hSw; (try dsimp only at hSw); go_simp; try with_reducible rfl)
      (try simp only [Act.put, List.setIfInBounds_toArray, List.set_cons_zero, List.set_cons_succ])
      refine take_l (i := 5) (oi := ?oZ6) (v := ?vZ6) ?hiZ6 (by kernel_rfl) (by kernel_rfl) (by kernel_rfl) (by kernel_rfl) ?hQZ6 ?hwZ6 ?hyZ6 (by assumption) ?restZ6
      case hiZ6 => (simp only [List.getElem?_toArray, List.getElem?_cons_succ, List.getElem?_cons_zero] <;> rfl)
      case hQZ6 => exact (fun _ _ _ h => h)
      case hwZ6 => rfl
      case hyZ6 => (intro w hSw; (try dsimp only at hSw); go_simp; try with_reducible rfl)
      (try simp only [Act.put, List.setIfInBounds_toArray, List.set_cons_zero, List.set_cons_succ])
      refine take_l (i := 6) (oi := ?oZ7) (v := ?vZ7) ?hiZ7 (by kernel_rfl) (by kernel_rfl) (by kernel_rfl) (by kernel_rfl) ?hQZ7 ?hwZ7 ?hyZ7 (by assumption) ?restZ7
      case hiZ7 => (simp only [List.getElem?_toArray, List.getElem?_cons_succ, List.getElem?_cons_zero] <;> rfl)
      case hQZ7 => exact (fun _ _ _ h => h)
      case hwZ7 => rfl
      case hyZ7 => (intro w hSw; (try dsimp only at hSw); go_simp; try with_reducible rfl)
      (try simp only [Act.put, List.setIfInBounds_toArray, List.set_cons_zero, List.set_cons_succ])
      refine take_l (i := 7) (oi := ?oZ8) (v := ?vZ8) ?hiZ8 (by kernel_rfl) (by kernel_rfl) (by kernel_rfl) (by kernel_rfl) ?hQZ8 ?hwZ8 ?hyZ8 (by assumption) ?restZ8
      case hiZ8 => (simp only [List.getElem?_toArray, List.getElem?_cons_succ, List.getElem?_cons_zero] <;> rfl)
      case hQZ8 => exact (fun _ _ _ h => h)
      case hwZ8 => rfl
      case hyZ8 => (intro w hSw; (try dsimp only at hSw); go_simp; try with_reducible rfl)
      (try simp only [Act.put, List.setIfInBounds_toArray, List.set_cons_zero, List.set_cons_succ])
      refine take_l (i := 8) (oi := ?oZ9) (v := ?vZ9) ?hiZ9 (by kernel_rfl) (by kernel_rfl) (by kernel_rfl) (by kernel_rfl) ?hQZ9 ?hwZ9 ?hyZ9 (by assumption) ?restZ9
      case hiZ9 => (simp only [List.getElem?_toArray, List.getElem?_cons_succ, List.getElem?_cons_zero] <;> rfl)
      case hQZ9 => exact (fun _ _ _ h => h)
      case hwZ9 => rfl
      case hyZ9 => (intro w hSw; (try dsimp only at hSw); go_simp; try with_reducible rfl)
      (try simp only [Act.put, List.setIfInBounds_toArray, List.set_cons_zero, List.set_cons_succ])
      refine take_l (i := 9) (oi := ?oZ10) (v := ?vZ10) ?hiZ10 (by kernel_rfl) (by kernel_rfl) (by kernel_rfl) (by kernel_rfl) ?hQZ10 ?hwZ10 ?hyZ10 (by assumption) ?restZ10
      case hiZ10 => (simp only [List.getElem?_toArray, List.getElem?_cons_succ, List.getElem?_cons_zero] <;> rfl)
      case hQZ10 => exact (fun _ _ _ h => h)
      case hwZ10 => rfl
      case hyZ10 => (intro w hSw; (try dsimp only at hSw); go_simp; try with_reducible rfl)
      (try simp only [Act.put, List.setIfInBounds_toArray, List.set_cons_zero, List.set_cons_succ])
      refine one_l (i := 10) (o := ?oZ11) (by kernel_rfl) ?hiZ11 (fun K hK => ?stZ11)
      case hiZ11 => (simp only [List.getElem?_toArray, List.getElem?_cons_succ, List.getElem?_cons_zero] <;> rfl)
      go_simp
      go_at_call 72
      refine (refNode_any l r (H 0) (H 1) ka va kn kc vn vc key val _ ((HP.out.below HX0.out.drew.b).kids 0 l0) ((HP.out.below HX0.out.drew.b).kids 1 l1) (HK.out.1.below HX0.out.drew.b) (HK.out.2.below HX0.out.drew.b)).mono ?_
      rintro _ w2 ⟨h2, rfl, hi2, hb2⟩
      unfold TH.v
      have HX2 := Lib.hid (HX0.out.drew.below hb2)
      have HI2 := Lib.hid hi2
      clear hi2 hb2
      go_simp
      refine hK.out _ _ ?_ (fun hHeld => ?_)
      · (first | exact ⟨HX4.out.box.cells.2.1, HX4.out.box.cells.2.2.1, (HX4.out.box.cells.2.2.2.2).trans (by rw [HTA.out]), (HP.out.below HX4.out.b).kid0 HTA.out (by omega), (HP.out.below HX4.out.b).kid1 HTA.out (by omega)⟩ | exact ⟨HX3.out.box.cells.2.1, HX3.out.box.cells.2.2.1, (HX3.out.box.cells.2.2.2.2).trans (by rw [HTA.out]), (HP.out.below HX3.out.b).kid0 HTA.out (by omega), (HP.out.below HX3.out.b).kid1 HTA.out (by omega)⟩ | exact ⟨HX2.out.box.cells.2.1, HX2.out.box.cells.2.2.1, (HX2.out.box.cells.2.2.2.2).trans (by rw [HTA.out]), (HP.out.below HX2.out.b).kid0 HTA.out (by omega), (HP.out.below HX2.out.b).kid1 HTA.out (by omega)⟩ | exact ⟨HX0.out.drew.box.cells.2.1, HX0.out.drew.box.cells.2.2.1, (HX0.out.drew.box.cells.2.2.2.2).trans (by rw [HTA.out]), (HP.out.below HX0.out.drew.b).kid0 HTA.out (by omega), (HP.out.below HX0.out.drew.b).kid1 HTA.out (by omega)⟩)
      clear hK K
      (try simp only [Act.put, List.setIfInBounds_toArray, List.set_cons_zero, List.set_cons_succ])
      refine last_l (o := ?oZ12) (by kernel_rfl) ?hiZ12 (by kernel_rfl) (fun K hK => ?stZ12)
      case hiZ12 => (simp only [List.getElem?_toArray, List.getElem?_cons_succ, List.getElem?_cons_zero] <;> rfl)
      refine step_store_box rfl 27 (.tmp 6) (.tmp 32) rfl (w.heap.size + 1) hZ h2 rfl rfl 27 HX2.out.res infoTree5 ?_
      intro w9 hbx9 hg9
      have HX9 := Lib.hid hbx9
      have HI9 := Lib.hid (AT.outBox HX2.out.res hg9 _ _ HI2.out)
      have HB9 : Hid (Below w.heap.size w w9) := Lib.hid (HX2.out.b.grown hg9 HX2.out.b.size (fun j hj => by injection hj; omega))
      clear hbx9 hg9
      refine hK.out _ _ ?_
      clear hK K
      (try simp only [Act.put])
      
      clear hHeld
      go_wp2_with fail
      refine bodyPost_ret (v := h2.v) (result_tree Tryd.results49 _ HX9.out rfl Tryd.underlying27 infoTree5) rfl ⟨_, rfl, ?_, HB9.out⟩
      rw [HPN.out]
      exact HI9.out
    have ce2 : (key == k) = false := by simp [ce]
    have HPN1 := Lib.hid (HPN.out.trans (if_neg ce))
    rw [ce2]
    go_upto_if 38 with fail
    cases cl : ltL key k
    · have HPN2 := Lib.hid (HPN1.out.trans (if_neg (by rw [cl]; simp)))
      clear HPN HPN1
      have HPN := HPN2
      clear ce ce2 hlt cv1 cv2 x0 x1 x2 x3 x4 cl
      go_upto_region 7 with fail
      refine region_l (S := (fun W => W.cell? ⟨w.heap.size, 1, none⟩ = some (.slice h.ka h.kn h.kc) ∧ W.cell? ⟨w.heap.size, 2, none⟩ = some (.slice h.va h.vn h.vc) ∧ W.cell? ⟨w.heap.size, 4, none⟩ = some (.slice (some ⟨g, off, none⟩) h.tn h.tc) ∧ (W.cell? ⟨g, off, none⟩ = some (.int .i64 (H 0).k) ∧ W.cell? ⟨g, off + 1, none⟩ = some (.slice (H 0).ka (H 0).kn (H 0).kc) ∧ W.cell? ⟨g, off + 2, none⟩ = some (.slice (H 0).va (H 0).vn (H 0).vc) ∧ W.cell? ⟨g, off + 3, none⟩ = some (.slice (H 0).da (H 0).dn (H 0).dc) ∧ W.cell? ⟨g, off + 4, none⟩ = some (.slice (H 0).ta (H 0).tn (H 0).tc)) ∧ W.cell? ⟨g, off + 5, none⟩ = some (.int .i64 (H 1).k) ∧ W.cell? ⟨g, off + 5 + 1, none⟩ = some (.slice (H 1).ka (H 1).kn (H 1).kc) ∧ W.cell? ⟨g, off + 5 + 2, none⟩ = some (.slice (H 1).va (H 1).vn (H 1).vc) ∧ W.cell? ⟨g, off + 5 + 3, none⟩ = some (.slice (H 1).da (H 1).dn (H 1).dc) ∧ W.cell? ⟨g, off + 5 + 4, none⟩ = some (.slice (H 1).ta (H 1).tn (H 1).tc))) 17 (by kernel_rfl) ⟨HX0.out.drew.box.cells.2.1, HX0.out.drew.box.cells.2.2.1, (HX0.out.drew.box.cells.2.2.2.2).trans (by rw [HTA.out]), (HP.out.below HX0.out.drew.b).kid0 HTA.out (by omega), (HP.out.below HX0.out.drew.b).kid1 HTA.out (by omega)⟩ (fun hHeld => ?_)
      refine take_l (i := 0) (oi := ?oZ31) (v := ?vZ31) ?hiZ31 (by kernel_rfl) (by kernel_rfl) (by kernel_rfl) (by kernel_rfl) ?hQZ31 ?hwZ31 ?hyZ31 (by assumption) ?restZ31
      case hiZ31 => (simp only [List.getElem?_toArray, List.getElem?_cons_zero] <;> rfl)
      case hQZ31 => exact (fun _ _ _ h => h)
      case hwZ31 => rfl
      case hyZ31 => (intro w hSw; (try dsimp only at hSw); go_simp; try with_reducible rfl)
      (try simp only [Act.put, List.setIfInBounds_toArray, List.set_cons_zero, List.set_cons_succ])
      refine take_l (i := 1) (oi := ?oZ32) (v := ?vZ32) ?hiZ32 (by kernel_rfl) (by kernel_rfl) (by kernel_rfl) (by kernel_rfl) ?hQZ32 ?hwZ32 ?hyZ32 (by assumption) ?restZ32
      case hiZ32 => (simp only [List.getElem?_toArray, List.getElem?_cons_succ, List.getElem?_cons_zero] <;> rfl)
      case hQZ32 => exact (fun _ _ _ h => h)
      case hwZ32 => rfl
      case hyZ32 => (intro w hSw; (try dsimp only at hSw); go_simp; try with_reducible rfl)
      (try simp only [Act.put, List.setIfInBounds_toArray, List.set_cons_zero, List.set_cons_succ])
      refine take_l (i := 2) (oi := ?oZ33) (v := ?vZ33) ?hiZ33 (by kernel_rfl) (by kernel_rfl) (by kernel_rfl) (by kernel_rfl) ?hQZ33 ?hwZ33 ?hyZ33 (by assumption) ?restZ33
      case hiZ33 => (simp only [List.getElem?_toArray, List.getElem?_cons_succ, List.getElem?_cons_zero] <;> rfl)
      case hQZ33 => exact (fun _ _ _ h => h)
      case hwZ33 => rfl
      case hyZ33 => (intro w hSw; (try dsimp only at hSw); go_simp; try with_reducible rfl)
      (try simp only [Act.put, List.setIfInBounds_toArray, List.set_cons_zero, List.set_cons_succ])
      refine take_l (i := 3) (oi := ?oZ34) (v := ?vZ34) ?hiZ34 (by kernel_rfl) (by kernel_rfl) (by kernel_rfl) (by kernel_rfl) ?hQZ34 ?hwZ34 ?hyZ34 (by assumption) ?restZ34
      case hiZ34 => (simp only [List.getElem?_toArray, List.getElem?_cons_succ, List.getElem?_cons_zero] <;> rfl)
      case hQZ34 => exact (fun _ _ _ h => h)
      case hwZ34 => rfl
      case hyZ34 => (intro w hSw; (try dsimp only at hSw); go_simp; try with_reducible rfl)
      (try simp only [Act.put, List.setIfInBounds_toArray, List.set_cons_zero, List.set_cons_succ])
      refine take_l (i := 4) (oi := ?oZ35) (v := ?vZ35) ?hiZ35 (by kernel_rfl) (by kernel_rfl) (by kernel_rfl) (by kernel_rfl) ?hQZ35 ?hwZ35 ?hyZ35 (by assumption) ?restZ35
      case hiZ35 => (simp only [List.getElem?_toArray, List.getElem?_cons_succ, List.getElem?_cons_zero] <;> rfl)
      case hQZ35 => exact (fun _ _ _ h => h)
      case hwZ35 => rfl
      case hyZ35 => (intro w hSw; (try dsimp only at hSw); go_simp; try with_reducible rfl)
      (try simp only [Act.put, List.setIfInBounds_toArray, List.set_cons_zero, List.set_cons_succ])
      refine take_l (i := 5) (oi := ?oZ36) (v := ?vZ36) ?hiZ36 (by kernel_rfl) (by kernel_rfl) (by kernel_rfl) (by kernel_rfl) ?hQZ36 ?hwZ36 ?hyZ36 (by assumption) ?restZ36
      case hiZ36 => (simp only [List.getElem?_toArray, List.getElem?_cons_succ, List.getElem?_cons_zero] <;> rfl)
      case hQZ36 => exact (fun _ _ _ h => h)
      case hwZ36 => rfl
      case hyZ36 => (intro w hSw; (try dsimp only at hSw); go_simp; try with_reducible rfl)
      (try simp only [Act.put, List.setIfInBounds_toArray, List.set_cons_zero, List.set_cons_succ])
      refine take_l (i := 6) (oi := ?oZ37) (v := ?vZ37) ?hiZ37 (by kernel_rfl) (by kernel_rfl) (by kernel_rfl) (by kernel_rfl) ?hQZ37 ?hwZ37 ?hyZ37 (by assumption) ?restZ37
      case hiZ37 => (simp only [List.getElem?_toArray, List.getElem?_cons_succ, List.getElem?_cons_zero] <;> rfl)
      case hQZ37 => exact (fun _ _ _ h => h)
      case hwZ37 => rfl
      case hyZ37 => (intro w hSw; (try dsimp only at hSw); go_simp; try with_reducible rfl)
      (try simp only [Act.put, List.setIfInBounds_toArray, List.set_cons_zero, List.set_cons_succ])
      refine take_l (i := 7) (oi := ?oZ38) (v := ?vZ38) ?hiZ38 (by kernel_rfl) (by kernel_rfl) (by kernel_rfl) (by kernel_rfl) ?hQZ38 ?hwZ38 ?hyZ38 (by assumption) ?restZ38
      case hiZ38 => (simp only [List.getElem?_toArray, List.getElem?_cons_succ, List.getElem?_cons_zero] <;> rfl)
      case hQZ38 => exact (fun _ _ _ h => h)
      case hwZ38 => rfl
      case hyZ38 => (intro w hSw; (try dsimp only at hSw); go_simp; try with_reducible rfl)
      (try simp only [Act.put, List.setIfInBounds_toArray, List.set_cons_zero, List.set_cons_succ])
      refine take_l (i := 8) (oi := ?oZ39) (v := ?vZ39) ?hiZ39 (by kernel_rfl) (by kernel_rfl) (by kernel_rfl) (by kernel_rfl) ?hQZ39 ?hwZ39 ?hyZ39 (by assumption) ?restZ39
      case hiZ39 => (simp only [List.getElem?_toArray, List.getElem?_cons_succ, List.getElem?_cons_zero] <;> rfl)
      case hQZ39 => exact (fun _ _ _ h => h)
      case hwZ39 => rfl
      case hyZ39 => (intro w hSw; (try dsimp only at hSw); go_simp; try with_reducible rfl)
      (try simp only [Act.put, List.setIfInBounds_toArray, List.set_cons_zero, List.set_cons_succ])
      refine take_l (i := 9) (oi := ?oZ40) (v := ?vZ40) ?hiZ40 (by kernel_rfl) (by kernel_rfl) (by kernel_rfl) (by kernel_rfl) ?hQZ40 ?hwZ40 ?hyZ40 (by assumption) ?restZ40
      case hiZ40 => (simp only [List.getElem?_toArray, List.getElem?_cons_succ, List.getElem?_cons_zero] <;> rfl)
      case hQZ40 => exact (fun _ _ _ h => h)
      case hwZ40 => rfl
      case hyZ40 => (intro w hSw; (try dsimp only at hSw); go_simp; try with_reducible rfl)
      (try simp only [Act.put, List.setIfInBounds_toArray, List.set_cons_zero, List.set_cons_succ])
      refine take_l (i := 10) (oi := ?oZ41) (v := ?vZ41) ?hiZ41 (by kernel_rfl) (by kernel_rfl) (by kernel_rfl) (by kernel_rfl) ?hQZ41 ?hwZ41 ?hyZ41 (by assumption) ?restZ41
      case hiZ41 => (simp only [List.getElem?_toArray, List.getElem?_cons_succ, List.getElem?_cons_zero] <;> rfl)
      case hQZ41 => exact (fun _ _ _ h => h)
      case hwZ41 => rfl
      case hyZ41 => (intro w hSw; (try dsimp only at hSw); go_simp; try with_reducible rfl)
      (try simp only [Act.put, List.setIfInBounds_toArray, List.set_cons_zero, List.set_cons_succ])
      refine take_l (i := 11) (oi := ?oZ42) (v := ?vZ42) ?hiZ42 (by kernel_rfl) (by kernel_rfl) (by kernel_rfl) (by kernel_rfl) ?hQZ42 ?hwZ42 ?hyZ42 (by assumption) ?restZ42
      case hiZ42 => (simp only [List.getElem?_toArray, List.getElem?_cons_succ, List.getElem?_cons_zero] <;> rfl)
      case hQZ42 => exact (fun _ _ _ h => h)
      case hwZ42 => rfl
      case hyZ42 => (intro w hSw; (try dsimp only at hSw); go_simp; try with_reducible rfl)
      (try simp only [Act.put, List.setIfInBounds_toArray, List.set_cons_zero, List.set_cons_succ])
      refine take_l (i := 12) (oi := ?oZ43) (v := ?vZ43) ?hiZ43 (by kernel_rfl) (by kernel_rfl) (by kernel_rfl) (by kernel_rfl) ?hQZ43 ?hwZ43 ?hyZ43 (by assumption) ?restZ43
      case hiZ43 => (simp only [List.getElem?_toArray, List.getElem?_cons_succ, List.getElem?_cons_zero] <;> rfl)
      case hQZ43 => exact (fun _ _ _ h => h)
      case hwZ43 => rfl
      case hyZ43 => (intro w hSw; (try dsimp only at hSw); go_simp; try with_reducible rfl)
      (try simp only [Act.put, List.setIfInBounds_toArray, List.set_cons_zero, List.set_cons_succ])
      refine take_l (i := 13) (oi := ?oZ44) (v := ?vZ44) ?hiZ44 (by kernel_rfl) (by kernel_rfl) (by kernel_rfl) (by kernel_rfl) ?hQZ44 ?hwZ44 ?hyZ44 (by assumption) ?restZ44
      case hiZ44 => (simp only [List.getElem?_toArray, List.getElem?_cons_succ, List.getElem?_cons_zero] <;> rfl)
      case hQZ44 => exact (fun _ _ _ h => h)
      case hwZ44 => rfl
      case hyZ44 => (intro w hSw; (try dsimp only at hSw); go_simp; try with_reducible rfl)
      (try simp only [Act.put, List.setIfInBounds_toArray, List.set_cons_zero, List.set_cons_succ])
      refine one_l (i := 14) (o := ?oZ45) (by kernel_rfl) ?hiZ45 (fun K hK => ?stZ45)
      case hiZ45 => (simp only [List.getElem?_toArray, List.getElem?_cons_succ, List.getElem?_cons_zero] <;> rfl)
      go_simp
      go_at_call 49
      refine (IHR.out (H 1) _ ((HP.out.below HX0.out.drew.b).kids 1 l1) HL.out.2.2.2 HBL.out.2.1 (by simp only [AT.depth] at hd; omega) (HK.out.1.below HX0.out.drew.b) (HK.out.2.below HX0.out.drew.b)).mono ?_
      rintro _ w2 ⟨h2, rfl, hi2, hb2⟩
      unfold TH.v
      have HX2 := Lib.hid (HX0.out.drew.below hb2)
      have HI2 := Lib.hid hi2
      clear hi2 hb2
      go_simp
      refine hK.out _ _ ?_ (fun hHeld => ?_)
      · (first | exact ⟨HX4.out.box.cells.2.1, HX4.out.box.cells.2.2.1, (HX4.out.box.cells.2.2.2.2).trans (by rw [HTA.out]), (HP.out.below HX4.out.b).kid0 HTA.out (by omega), (HP.out.below HX4.out.b).kid1 HTA.out (by omega)⟩ | exact ⟨HX3.out.box.cells.2.1, HX3.out.box.cells.2.2.1, (HX3.out.box.cells.2.2.2.2).trans (by rw [HTA.out]), (HP.out.below HX3.out.b).kid0 HTA.out (by omega), (HP.out.below HX3.out.b).kid1 HTA.out (by omega)⟩ | exact ⟨HX2.out.box.cells.2.1, HX2.out.box.cells.2.2.1, (HX2.out.box.cells.2.2.2.2).trans (by rw [HTA.out]), (HP.out.below HX2.out.b).kid0 HTA.out (by omega), (HP.out.below HX2.out.b).kid1 HTA.out (by omega)⟩ | exact ⟨HX0.out.drew.box.cells.2.1, HX0.out.drew.box.cells.2.2.1, (HX0.out.drew.box.cells.2.2.2.2).trans (by rw [HTA.out]), (HP.out.below HX0.out.drew.b).kid0 HTA.out (by omega), (HP.out.below HX0.out.drew.b).kid1 HTA.out (by omega)⟩)
      clear hK K
      (try simp only [Act.put, List.setIfInBounds_toArray, List.set_cons_zero, List.set_cons_succ])
      refine one_l (i := 15) (o := ?oZ46) (by kernel_rfl) ?hiZ46 (fun K hK => ?stZ46)
      case hiZ46 => (simp only [List.getElem?_toArray, List.getElem?_cons_succ, List.getElem?_cons_zero] <;> rfl)
      go_simp
      go_at_call 72
      refine (refNode_any l (r.put key val) (H 0) h2 h.ka h.va h.kn h.kc h.vn h.vc k v _ ((HP.out.below HX2.out.b).kids 0 l0) HI2.out (HP.out.below HX2.out.b).key (HP.out.below HX2.out.b).val).mono ?_
      rintro _ w3 ⟨h3, rfl, hi3, hb3⟩
      unfold TH.v
      have HX3 := Lib.hid (HX2.out.below hb3)
      have HI3 := Lib.hid hi3
      clear hi3 hb3
      go_simp
      refine hK.out _ _ ?_ (fun hHeld => ?_)
      · (first | exact ⟨HX4.out.box.cells.2.1, HX4.out.box.cells.2.2.1, (HX4.out.box.cells.2.2.2.2).trans (by rw [HTA.out]), (HP.out.below HX4.out.b).kid0 HTA.out (by omega), (HP.out.below HX4.out.b).kid1 HTA.out (by omega)⟩ | exact ⟨HX3.out.box.cells.2.1, HX3.out.box.cells.2.2.1, (HX3.out.box.cells.2.2.2.2).trans (by rw [HTA.out]), (HP.out.below HX3.out.b).kid0 HTA.out (by omega), (HP.out.below HX3.out.b).kid1 HTA.out (by omega)⟩ | exact ⟨HX2.out.box.cells.2.1, HX2.out.box.cells.2.2.1, (HX2.out.box.cells.2.2.2.2).trans (by rw [HTA.out]), (HP.out.below HX2.out.b).kid0 HTA.out (by omega), (HP.out.below HX2.out.b).kid1 HTA.out (by omega)⟩ | exact ⟨HX0.out.drew.box.cells.2.1, HX0.out.drew.box.cells.2.2.1, (HX0.out.drew.box.cells.2.2.2.2).trans (by rw [HTA.out]), (HP.out.below HX0.out.drew.b).kid0 HTA.out (by omega), (HP.out.below HX0.out.drew.b).kid1 HTA.out (by omega)⟩)
      clear hK K
      (try simp only [Act.put, List.setIfInBounds_toArray, List.set_cons_zero, List.set_cons_succ])
      refine one_l (i := 16) (o := ?oZ47) (by kernel_rfl) ?hiZ47 (fun K hK => ?stZ47)
      case hiZ47 => (simp only [List.getElem?_toArray, List.getElem?_cons_succ, List.getElem?_cons_zero] <;> rfl)
      go_simp
      go_at_call 73
      refine (refLevel_any l k v (r.put key val) h3 _ HI3.out (Lim.mk HL.out.1 HL.out.2.1 HL.out.2.2.1 (AT.put_lim hkl hvl HL.out.2.2.2)) (by simp only [AT.depth] at hd; omega) (by have := (AT.put_bal key val r HBL.out.2.1).2.2; simp only [AT.depth] at hd; omega)).mono ?_
      rintro _ w4 ⟨h4, rfl, hi4, hb4⟩
      unfold TH.v
      have HX4 := Lib.hid (HX3.out.below hb4)
      have HI4 := Lib.hid hi4
      clear hi4 hb4
      go_simp
      refine hK.out _ _ ?_ (fun hHeld => ?_)
      · (first | exact ⟨HX4.out.box.cells.2.1, HX4.out.box.cells.2.2.1, (HX4.out.box.cells.2.2.2.2).trans (by rw [HTA.out]), (HP.out.below HX4.out.b).kid0 HTA.out (by omega), (HP.out.below HX4.out.b).kid1 HTA.out (by omega)⟩ | exact ⟨HX3.out.box.cells.2.1, HX3.out.box.cells.2.2.1, (HX3.out.box.cells.2.2.2.2).trans (by rw [HTA.out]), (HP.out.below HX3.out.b).kid0 HTA.out (by omega), (HP.out.below HX3.out.b).kid1 HTA.out (by omega)⟩ | exact ⟨HX2.out.box.cells.2.1, HX2.out.box.cells.2.2.1, (HX2.out.box.cells.2.2.2.2).trans (by rw [HTA.out]), (HP.out.below HX2.out.b).kid0 HTA.out (by omega), (HP.out.below HX2.out.b).kid1 HTA.out (by omega)⟩ | exact ⟨HX0.out.drew.box.cells.2.1, HX0.out.drew.box.cells.2.2.1, (HX0.out.drew.box.cells.2.2.2.2).trans (by rw [HTA.out]), (HP.out.below HX0.out.drew.b).kid0 HTA.out (by omega), (HP.out.below HX0.out.drew.b).kid1 HTA.out (by omega)⟩)
      clear hK K
      (try simp only [Act.put, List.setIfInBounds_toArray, List.set_cons_zero, List.set_cons_succ])
      refine last_l (o := ?oZ48) (by kernel_rfl) ?hiZ48 (by kernel_rfl) (fun K hK => ?stZ48)
      case hiZ48 => (simp only [List.getElem?_toArray, List.getElem?_cons_succ, List.getElem?_cons_zero] <;> rfl)
      refine step_store_box rfl 27 (.tmp 6) (.tmp 72) rfl (w.heap.size + 1) hZ h4 rfl rfl 27 HX4.out.res infoTree5 ?_
      intro w9 hbx9 hg9
      have HX9 := Lib.hid hbx9
      have HI9 := Lib.hid (AT.outBox HX4.out.res hg9 _ _ HI4.out)
      have HB9 : Hid (Below w.heap.size w w9) := Lib.hid (HX4.out.b.grown hg9 HX4.out.b.size (fun j hj => by injection hj; omega))
      clear hbx9 hg9
      refine hK.out _ _ ?_
      clear hK K
      (try simp only [Act.put])
      
      clear hHeld
      go_wp2_with fail
      refine bodyPost_ret (v := h4.v) (result_tree Tryd.results49 _ HX9.out rfl Tryd.underlying27 infoTree5) rfl ⟨_, rfl, ?_, HB9.out⟩
      rw [HPN.out]
      exact HI9.out
    · have HPN2 := Lib.hid (HPN1.out.trans (if_pos cl))
      clear HPN HPN1
      have HPN := HPN2
      clear ce ce2 hlt cv1 cv2 x0 x1 x2 x3 x4 cl
      go_upto_region 6 with fail
      refine region_l (S := (fun W => W.cell? ⟨w.heap.size, 1, none⟩ = some (.slice h.ka h.kn h.kc) ∧ W.cell? ⟨w.heap.size, 2, none⟩ = some (.slice h.va h.vn h.vc) ∧ W.cell? ⟨w.heap.size, 4, none⟩ = some (.slice (some ⟨g, off, none⟩) h.tn h.tc) ∧ (W.cell? ⟨g, off, none⟩ = some (.int .i64 (H 0).k) ∧ W.cell? ⟨g, off + 1, none⟩ = some (.slice (H 0).ka (H 0).kn (H 0).kc) ∧ W.cell? ⟨g, off + 2, none⟩ = some (.slice (H 0).va (H 0).vn (H 0).vc) ∧ W.cell? ⟨g, off + 3, none⟩ = some (.slice (H 0).da (H 0).dn (H 0).dc) ∧ W.cell? ⟨g, off + 4, none⟩ = some (.slice (H 0).ta (H 0).tn (H 0).tc)) ∧ W.cell? ⟨g, off + 5, none⟩ = some (.int .i64 (H 1).k) ∧ W.cell? ⟨g, off + 5 + 1, none⟩ = some (.slice (H 1).ka (H 1).kn (H 1).kc) ∧ W.cell? ⟨g, off + 5 + 2, none⟩ = some (.slice (H 1).va (H 1).vn (H 1).vc) ∧ W.cell? ⟨g, off + 5 + 3, none⟩ = some (.slice (H 1).da (H 1).dn (H 1).dc) ∧ W.cell? ⟨g, off + 5 + 4, none⟩ = some (.slice (H 1).ta (H 1).tn (H 1).tc))) 17 (by kernel_rfl) ⟨HX0.out.drew.box.cells.2.1, HX0.out.drew.box.cells.2.2.1, (HX0.out.drew.box.cells.2.2.2.2).trans (by rw [HTA.out]), (HP.out.below HX0.out.drew.b).kid0 HTA.out (by omega), (HP.out.below HX0.out.drew.b).kid1 HTA.out (by omega)⟩ (fun hHeld => ?_)
      refine take_l (i := 0) (oi := ?oZ13) (v := ?vZ13) ?hiZ13 (by kernel_rfl) (by kernel_rfl) (by kernel_rfl) (by kernel_rfl) ?hQZ13 ?hwZ13 ?hyZ13 (by assumption) ?restZ13
      case hiZ13 => (simp only [List.getElem?_toArray, List.getElem?_cons_zero] <;> rfl)
      case hQZ13 => exact (fun _ _ _ h => h)
      case hwZ13 => rfl
      case hyZ13 => (intro w hSw; (try dsimp only at hSw); go_simp; try with_reducible rfl)
      (try simp only [Act.put, List.setIfInBounds_toArray, List.set_cons_zero, List.set_cons_succ])
      refine take_l (i := 1) (oi := ?oZ14) (v := ?vZ14) ?hiZ14 (by kernel_rfl) (by kernel_rfl) (by kernel_rfl) (by kernel_rfl) ?hQZ14 ?hwZ14 ?hyZ14 (by assumption) ?restZ14
      case hiZ14 => (simp only [List.getElem?_toArray, List.getElem?_cons_succ, List.getElem?_cons_zero] <;> rfl)
      case hQZ14 => exact (fun _ _ _ h => h)
      case hwZ14 => rfl
      case hyZ14 => (intro w hSw; (try dsimp only at hSw); go_simp; try with_reducible rfl)
      (try simp only [Act.put, List.setIfInBounds_toArray, List.set_cons_zero, List.set_cons_succ])
      refine take_l (i := 2) (oi := ?oZ15) (v := ?vZ15) ?hiZ15 (by kernel_rfl) (by kernel_rfl) (by kernel_rfl) (by kernel_rfl) ?hQZ15 ?hwZ15 ?hyZ15 (by assumption) ?restZ15
      case hiZ15 => (simp only [List.getElem?_toArray, List.getElem?_cons_succ, List.getElem?_cons_zero] <;> rfl)
      case hQZ15 => exact (fun _ _ _ h => h)
      case hwZ15 => rfl
      case hyZ15 => (intro w hSw; (try dsimp only at hSw); go_simp; try with_reducible rfl)
      (try simp only [Act.put, List.setIfInBounds_toArray, List.set_cons_zero, List.set_cons_succ])
      refine take_l (i := 3) (oi := ?oZ16) (v := ?vZ16) ?hiZ16 (by kernel_rfl) (by kernel_rfl) (by kernel_rfl) (by kernel_rfl) ?hQZ16 ?hwZ16 ?hyZ16 (by assumption) ?restZ16
      case hiZ16 => (simp only [List.getElem?_toArray, List.getElem?_cons_succ, List.getElem?_cons_zero] <;> rfl)
      case hQZ16 => exact (fun _ _ _ h => h)
      case hwZ16 => rfl
      case hyZ16 => (intro w hSw; (try dsimp only at hSw); go_simp; try with_reducible rfl)
      (try simp only [Act.put, List.setIfInBounds_toArray, List.set_cons_zero, List.set_cons_succ])
      refine take_l (i := 4) (oi := ?oZ17) (v := ?vZ17) ?hiZ17 (by kernel_rfl) (by kernel_rfl) (by kernel_rfl) (by kernel_rfl) ?hQZ17 ?hwZ17 ?hyZ17 (by assumption) ?restZ17
      case hiZ17 => (simp only [List.getElem?_toArray, List.getElem?_cons_succ, List.getElem?_cons_zero] <;> rfl)
      case hQZ17 => exact (fun _ _ _ h => h)
      case hwZ17 => rfl
      case hyZ17 => (intro w hSw; (try dsimp only at hSw); go_simp; try with_reducible rfl)
      (try simp only [Act.put, List.setIfInBounds_toArray, List.set_cons_zero, List.set_cons_succ])
      refine take_l (i := 5) (oi := ?oZ18) (v := ?vZ18) ?hiZ18 (by kernel_rfl) (by kernel_rfl) (by kernel_rfl) (by kernel_rfl) ?hQZ18 ?hwZ18 ?hyZ18 (by assumption) ?restZ18
      case hiZ18 => (simp only [List.getElem?_toArray, List.getElem?_cons_succ, List.getElem?_cons_zero] <;> rfl)
      case hQZ18 => exact (fun _ _ _ h => h)
      case hwZ18 => rfl
      case hyZ18 => (intro w hSw; (try dsimp only at hSw); go_simp; try with_reducible rfl)
      (try simp only [Act.put, List.setIfInBounds_toArray, List.set_cons_zero, List.set_cons_succ])
      refine take_l (i := 7) (oi := ?oZ19) (v := ?vZ19) ?hiZ19 (by kernel_rfl) (by kernel_rfl) (by kernel_rfl) (by kernel_rfl) ?hQZ19 ?hwZ19 ?hyZ19 (by assumption) ?restZ19
      case hiZ19 => (simp only [List.getElem?_toArray, List.getElem?_cons_succ, List.getElem?_cons_zero] <;> rfl)
      case hQZ19 => exact (fun _ _ _ h => h)
      case hwZ19 => rfl
      case hyZ19 => (intro w hSw; (try dsimp only at hSw); go_simp; try with_reducible rfl)
      (try simp only [Act.put, List.setIfInBounds_toArray, List.set_cons_zero, List.set_cons_succ])
      refine take_l (i := 8) (oi := ?oZ20) (v := ?vZ20) ?hiZ20 (by kernel_rfl) (by kernel_rfl) (by kernel_rfl) (by kernel_rfl) ?hQZ20 ?hwZ20 ?hyZ20 (by assumption) ?restZ20
      case hiZ20 => (simp only [List.getElem?_toArray, List.getElem?_cons_succ, List.getElem?_cons_zero] <;> rfl)
      case hQZ20 => exact (fun _ _ _ h => h)
      case hwZ20 => rfl
      case hyZ20 => (intro w hSw; (try dsimp only at hSw); go_simp; try with_reducible rfl)
      (try simp only [Act.put, List.setIfInBounds_toArray, List.set_cons_zero, List.set_cons_succ])
      refine take_l (i := 9) (oi := ?oZ21) (v := ?vZ21) ?hiZ21 (by kernel_rfl) (by kernel_rfl) (by kernel_rfl) (by kernel_rfl) ?hQZ21 ?hwZ21 ?hyZ21 (by assumption) ?restZ21
      case hiZ21 => (simp only [List.getElem?_toArray, List.getElem?_cons_succ, List.getElem?_cons_zero] <;> rfl)
      case hQZ21 => exact (fun _ _ _ h => h)
      case hwZ21 => rfl
      case hyZ21 => (intro w hSw; (try dsimp only at hSw); go_simp; try with_reducible rfl)
      (try simp only [Act.put, List.setIfInBounds_toArray, List.set_cons_zero, List.set_cons_succ])
      refine take_l (i := 10) (oi := ?oZ22) (v := ?vZ22) ?hiZ22 (by kernel_rfl) (by kernel_rfl) (by kernel_rfl) (by kernel_rfl) ?hQZ22 ?hwZ22 ?hyZ22 (by assumption) ?restZ22
      case hiZ22 => (simp only [List.getElem?_toArray, List.getElem?_cons_succ, List.getElem?_cons_zero] <;> rfl)
      case hQZ22 => exact (fun _ _ _ h => h)
      case hwZ22 => rfl
      case hyZ22 => (intro w hSw; (try dsimp only at hSw); go_simp; try with_reducible rfl)
      (try simp only [Act.put, List.setIfInBounds_toArray, List.set_cons_zero, List.set_cons_succ])
      refine take_l (i := 11) (oi := ?oZ23) (v := ?vZ23) ?hiZ23 (by kernel_rfl) (by kernel_rfl) (by kernel_rfl) (by kernel_rfl) ?hQZ23 ?hwZ23 ?hyZ23 (by assumption) ?restZ23
      case hiZ23 => (simp only [List.getElem?_toArray, List.getElem?_cons_succ, List.getElem?_cons_zero] <;> rfl)
      case hQZ23 => exact (fun _ _ _ h => h)
      case hwZ23 => rfl
      case hyZ23 => (intro w hSw; (try dsimp only at hSw); go_simp; try with_reducible rfl)
      (try simp only [Act.put, List.setIfInBounds_toArray, List.set_cons_zero, List.set_cons_succ])
      refine take_l (i := 12) (oi := ?oZ24) (v := ?vZ24) ?hiZ24 (by kernel_rfl) (by kernel_rfl) (by kernel_rfl) (by kernel_rfl) ?hQZ24 ?hwZ24 ?hyZ24 (by assumption) ?restZ24
      case hiZ24 => (simp only [List.getElem?_toArray, List.getElem?_cons_succ, List.getElem?_cons_zero] <;> rfl)
      case hQZ24 => exact (fun _ _ _ h => h)
      case hwZ24 => rfl
      case hyZ24 => (intro w hSw; (try dsimp only at hSw); go_simp; try with_reducible rfl)
      (try simp only [Act.put, List.setIfInBounds_toArray, List.set_cons_zero, List.set_cons_succ])
      refine take_l (i := 13) (oi := ?oZ25) (v := ?vZ25) ?hiZ25 (by kernel_rfl) (by kernel_rfl) (by kernel_rfl) (by kernel_rfl) ?hQZ25 ?hwZ25 ?hyZ25 (by assumption) ?restZ25
      case hiZ25 => (simp only [List.getElem?_toArray, List.getElem?_cons_succ, List.getElem?_cons_zero] <;> rfl)
      case hQZ25 => exact (fun _ _ _ h => h)
      case hwZ25 => rfl
      case hyZ25 => (intro w hSw; (try dsimp only at hSw); go_simp; try with_reducible rfl)
      (try simp only [Act.put, List.setIfInBounds_toArray, List.set_cons_zero, List.set_cons_succ])
      refine take_l (i := 14) (oi := ?oZ26) (v := ?vZ26) ?hiZ26 (by kernel_rfl) (by kernel_rfl) (by kernel_rfl) (by kernel_rfl) ?hQZ26 ?hwZ26 ?hyZ26 (by assumption) ?restZ26
      case hiZ26 => (simp only [List.getElem?_toArray, List.getElem?_cons_succ, List.getElem?_cons_zero] <;> rfl)
      case hQZ26 => exact (fun _ _ _ h => h)
      case hwZ26 => rfl
      case hyZ26 => (intro w hSw; (try dsimp only at hSw); go_simp; try with_reducible rfl)
      (try simp only [Act.put, List.setIfInBounds_toArray, List.set_cons_zero, List.set_cons_succ])
      refine one_l (i := 6) (o := ?oZ27) (by kernel_rfl) ?hiZ27 (fun K hK => ?stZ27)
      case hiZ27 => (simp only [List.getElem?_toArray, List.getElem?_cons_succ, List.getElem?_cons_zero] <;> rfl)
      go_simp
      go_at_call 49
      refine (IHL.out (H 0) _ ((HP.out.below HX0.out.drew.b).kids 0 l0) HL.out.1 HBL.out.1 (by simp only [AT.depth] at hd; omega) (HK.out.1.below HX0.out.drew.b) (HK.out.2.below HX0.out.drew.b)).mono ?_
      rintro _ w2 ⟨h2, rfl, hi2, hb2⟩
      unfold TH.v
      have HX2 := Lib.hid (HX0.out.drew.below hb2)
      have HI2 := Lib.hid hi2
      clear hi2 hb2
      go_simp
      refine hK.out _ _ ?_ (fun hHeld => ?_)
      · (first | exact ⟨HX4.out.box.cells.2.1, HX4.out.box.cells.2.2.1, (HX4.out.box.cells.2.2.2.2).trans (by rw [HTA.out]), (HP.out.below HX4.out.b).kid0 HTA.out (by omega), (HP.out.below HX4.out.b).kid1 HTA.out (by omega)⟩ | exact ⟨HX3.out.box.cells.2.1, HX3.out.box.cells.2.2.1, (HX3.out.box.cells.2.2.2.2).trans (by rw [HTA.out]), (HP.out.below HX3.out.b).kid0 HTA.out (by omega), (HP.out.below HX3.out.b).kid1 HTA.out (by omega)⟩ | exact ⟨HX2.out.box.cells.2.1, HX2.out.box.cells.2.2.1, (HX2.out.box.cells.2.2.2.2).trans (by rw [HTA.out]), (HP.out.below HX2.out.b).kid0 HTA.out (by omega), (HP.out.below HX2.out.b).kid1 HTA.out (by omega)⟩ | exact ⟨HX0.out.drew.box.cells.2.1, HX0.out.drew.box.cells.2.2.1, (HX0.out.drew.box.cells.2.2.2.2).trans (by rw [HTA.out]), (HP.out.below HX0.out.drew.b).kid0 HTA.out (by omega), (HP.out.below HX0.out.drew.b).kid1 HTA.out (by omega)⟩)
      clear hK K
      (try simp only [Act.put, List.setIfInBounds_toArray, List.set_cons_zero, List.set_cons_succ])
      refine one_l (i := 15) (o := ?oZ28) (by kernel_rfl) ?hiZ28 (fun K hK => ?stZ28)
      case hiZ28 => (simp only [List.getElem?_toArray, List.getElem?_cons_succ, List.getElem?_cons_zero] <;> rfl)
      go_simp
      go_at_call 72
      refine (refNode_any (l.put key val) r h2 (H 1) h.ka h.va h.kn h.kc h.vn h.vc k v _ HI2.out ((HP.out.below HX2.out.b).kids 1 l1) (HP.out.below HX2.out.b).key (HP.out.below HX2.out.b).val).mono ?_
      rintro _ w3 ⟨h3, rfl, hi3, hb3⟩
      unfold TH.v
      have HX3 := Lib.hid (HX2.out.below hb3)
      have HI3 := Lib.hid hi3
      clear hi3 hb3
      go_simp
      refine hK.out _ _ ?_ (fun hHeld => ?_)
      · (first | exact ⟨HX4.out.box.cells.2.1, HX4.out.box.cells.2.2.1, (HX4.out.box.cells.2.2.2.2).trans (by rw [HTA.out]), (HP.out.below HX4.out.b).kid0 HTA.out (by omega), (HP.out.below HX4.out.b).kid1 HTA.out (by omega)⟩ | exact ⟨HX3.out.box.cells.2.1, HX3.out.box.cells.2.2.1, (HX3.out.box.cells.2.2.2.2).trans (by rw [HTA.out]), (HP.out.below HX3.out.b).kid0 HTA.out (by omega), (HP.out.below HX3.out.b).kid1 HTA.out (by omega)⟩ | exact ⟨HX2.out.box.cells.2.1, HX2.out.box.cells.2.2.1, (HX2.out.box.cells.2.2.2.2).trans (by rw [HTA.out]), (HP.out.below HX2.out.b).kid0 HTA.out (by omega), (HP.out.below HX2.out.b).kid1 HTA.out (by omega)⟩ | exact ⟨HX0.out.drew.box.cells.2.1, HX0.out.drew.box.cells.2.2.1, (HX0.out.drew.box.cells.2.2.2.2).trans (by rw [HTA.out]), (HP.out.below HX0.out.drew.b).kid0 HTA.out (by omega), (HP.out.below HX0.out.drew.b).kid1 HTA.out (by omega)⟩)
      clear hK K
      (try simp only [Act.put, List.setIfInBounds_toArray, List.set_cons_zero, List.set_cons_succ])
      refine one_l (i := 16) (o := ?oZ29) (by kernel_rfl) ?hiZ29 (fun K hK => ?stZ29)
      case hiZ29 => (simp only [List.getElem?_toArray, List.getElem?_cons_succ, List.getElem?_cons_zero] <;> rfl)
      go_simp
      go_at_call 73
      refine (refLevel_any (l.put key val) k v r h3 _ HI3.out (Lim.mk (AT.put_lim hkl hvl HL.out.1) HL.out.2.1 HL.out.2.2.1 HL.out.2.2.2) (by have := (AT.put_bal key val l HBL.out.1).2.2; simp only [AT.depth] at hd; omega) (by simp only [AT.depth] at hd; omega)).mono ?_
      rintro _ w4 ⟨h4, rfl, hi4, hb4⟩
      unfold TH.v
      have HX4 := Lib.hid (HX3.out.below hb4)
      have HI4 := Lib.hid hi4
      clear hi4 hb4
      go_simp
      refine hK.out _ _ ?_ (fun hHeld => ?_)
      · (first | exact ⟨HX4.out.box.cells.2.1, HX4.out.box.cells.2.2.1, (HX4.out.box.cells.2.2.2.2).trans (by rw [HTA.out]), (HP.out.below HX4.out.b).kid0 HTA.out (by omega), (HP.out.below HX4.out.b).kid1 HTA.out (by omega)⟩ | exact ⟨HX3.out.box.cells.2.1, HX3.out.box.cells.2.2.1, (HX3.out.box.cells.2.2.2.2).trans (by rw [HTA.out]), (HP.out.below HX3.out.b).kid0 HTA.out (by omega), (HP.out.below HX3.out.b).kid1 HTA.out (by omega)⟩ | exact ⟨HX2.out.box.cells.2.1, HX2.out.box.cells.2.2.1, (HX2.out.box.cells.2.2.2.2).trans (by rw [HTA.out]), (HP.out.below HX2.out.b).kid0 HTA.out (by omega), (HP.out.below HX2.out.b).kid1 HTA.out (by omega)⟩ | exact ⟨HX0.out.drew.box.cells.2.1, HX0.out.drew.box.cells.2.2.1, (HX0.out.drew.box.cells.2.2.2.2).trans (by rw [HTA.out]), (HP.out.below HX0.out.drew.b).kid0 HTA.out (by omega), (HP.out.below HX0.out.drew.b).kid1 HTA.out (by omega)⟩)
      clear hK K
      (try simp only [Act.put, List.setIfInBounds_toArray, List.set_cons_zero, List.set_cons_succ])
      refine last_l (o := ?oZ30) (by kernel_rfl) ?hiZ30 (by kernel_rfl) (fun K hK => ?stZ30)
      case hiZ30 => (simp only [List.getElem?_toArray, List.getElem?_cons_succ, List.getElem?_cons_zero] <;> rfl)
      refine step_store_box rfl 27 (.tmp 6) (.tmp 55) rfl (w.heap.size + 1) hZ h4 rfl rfl 27 HX4.out.res infoTree5 ?_
      intro w9 hbx9 hg9
      have HX9 := Lib.hid hbx9
      have HI9 := Lib.hid (AT.outBox HX4.out.res hg9 _ _ HI4.out)
      have HB9 : Hid (Below w.heap.size w w9) := Lib.hid (HX4.out.b.grown hg9 HX4.out.b.size (fun j hj => by injection hj; omega))
      clear hbx9 hg9
      refine hK.out _ _ ?_
      clear hK K
      (try simp only [Act.put])
      
      clear hHeld
      go_wp2_with fail
      refine bodyPost_ret (v := h4.v) (result_tree Tryd.results49 _ HX9.out rfl Tryd.underlying27 infoTree5) rfl ⟨_, rfl, ?_, HB9.out⟩
      rw [HPN.out]
      exact HI9.out
end Go.Proofs.YtlbiefddcimdgaaDoor

/- Trees that are balanced, whose keys rise, within their bounds: they stay so. No program is named here. -/
namespace Go.Proofs.YtlbiefddcimdgaaDoor
set_option linter.unusedVariables false

structure Good (a : AT) : Prop where
  bal : a.bal
  rise : Rise a.pairs
  lim : Lim a.pairs
theorem Good.nil : Good .nil := ⟨trivial, List.Pairwise.nil, fun p hp => by cases hp⟩
theorem AT.depth_le : ∀ a : AT, a.depth ≤ a.pairs.length := by
  intro a
  induction a with
  | nil => exact Nat.le_refl _
  | node l k v r ihl ihr =>
    simp only [AT.depth, AT.pairs, List.length_append, List.length_cons]
    omega
theorem Good.put {a : AT} (h : Good a) {key val : List Int} (hk : key.length ≤ 80) (hv : val.length ≤ 1024) : Good (a.put key val) := by
  refine ⟨(AT.put_bal key val a h.bal).1, ?_, ?_⟩
  · rw [AT.put_pairs key val a h.rise]
    have hr := h.rise
    unfold Rise at hr ⊢
    rw [List.pairwise_append, List.pairwise_cons]
    refine ⟨hr.filter _, ⟨fun q hq => (List.mem_filter.1 hq).2, hr.filter _⟩, fun p hp q hq => ?_⟩
    have h1 : ltL p.1 key = true := (List.mem_filter.1 hp).2
    rcases List.mem_cons.1 hq with rfl | hq
    · exact h1
    · exact ltL_trans h1 (List.mem_filter.1 hq).2
  · rw [AT.put_pairs key val a h.rise]
    intro p hp
    rcases List.mem_append.1 hp with hp | hp
    · exact h.lim p (List.mem_filter.1 hp).1
    · rcases List.mem_cons.1 hp with rfl | hp
      · exact ⟨hk, hv⟩
      · exact h.lim p (List.mem_filter.1 hp).1
theorem Good.is {a : AT} (h : Good a) (hd : a.pairs.length ≤ 64) : isT a.tr = true := (isT_iff a.tr).2 ⟨a, rfl, h.bal, h.rise, h.lim, Nat.le_trans (AT.depth_le a) hd⟩
theorem AT.put_len (key val : List Int) {a : AT} (h : Rise a.pairs) : (a.put key val).pairs.length ≤ a.pairs.length + 1 := by
  rw [AT.put_pairs key val a h, List.length_append, List.length_cons]
  have h1 : (a.pairs.filter fun p => ltL p.1 key).length + (a.pairs.filter fun p => ltL key p.1).length ≤ a.pairs.length := by
    generalize a.pairs = l
    induction l with
    | nil => exact Nat.le_refl _
    | cons p l ih =>
      rw [List.filter_cons, List.filter_cons, List.length_cons]
      cases c1 : ltL p.1 key
      · cases c2 : ltL key p.1 <;> simp <;> omega
      · rw [ltL_asymm c1]
        simp
        omega
  omega
end Go.Proofs.YtlbiefddcimdgaaDoor

/- The contract of the document's tree into which pairs were put. -/
namespace Go.Proofs.YtlbiefddcimdgaaDoor
open Go.RowKit
set_option linter.unusedVariables false

/-- The tree that grows, in its box. -/
structure GW (w W : World) (ht : TH) (a : AT) (i : Nat) : Prop where
  b : Below w.heap.size w W
  res : Box W 27 w.heap.size hZ
  box : Box W 27 (w.heap.size + 1) ht
  ti : InTree W ht a.tr
  good : Good a
  cnt : a.pairs.length ≤ i
section
variable {w W W' : World} {ht hn : TH} {a : AT} {i j : Nat}
theorem GW.below (x : GW w W ht a i) (hb : Below W.heap.size W W') : GW w W' ht a i := ⟨x.b.trans (hb.mono x.b.size), x.res.below hb x.res.lt, x.box.below hb x.box.lt, x.ti.lower hb, x.good, x.cnt⟩
theorem GW.drew (x : GW w W ht a i) : GW w W.drew ht a i := x.below (Below.refl _ _).drew
theorem GW.more (x : GW w W ht a i) (h : i ≤ j) : GW w W ht a j := ⟨x.b, x.res, x.box, x.ti, x.good, Nat.le_trans x.cnt h⟩
theorem GW.put (x : GW w W ht a i) (hx : Box W' 27 (w.heap.size + 1) hn) (hg : W.grownBy W' (some (w.heap.size + 1))) {key val : List Int} (hi : InTree W hn (a.put key val).tr) (hk : key.length ≤ 80) (hv : val.length ≤ 1024) : GW w W' hn (a.put key val) (i + 1) :=
  ⟨x.b.grown hg x.b.size (fun j hj => by injection hj; omega), x.res.grown hg (fun q => by injection q; omega), hx, AT.outBox x.box hg _ _ hi, x.good.put hk hv, Nat.le_trans (AT.put_len key val x.good.rise) (by have := x.cnt; omega)⟩
end
/-- The tree into which pairs were put, those that may be. -/
def growS (a : AT) (p : KV) : AT := if p.1.length ≤ 80 ∧ p.2.length ≤ 1024 then a.put p.1 p.2 else a
def grownL (l : List KV) : AT := l.foldl growS .nil
theorem grown_step {kvs : List KV} {i : Nat} {p : KV} (e : kvs[i]? = some p) : grownL (kvs.take (i + 1)) = growS (grownL (kvs.take i)) p := by
  unfold grownL
  rw [List.take_add_one, e, List.foldl_append]
  rfl
theorem grown_yes {kvs : List KV} {i : Nat} {key val : List Int} {a : AT} (e : kvs[i]? = some (key, val)) (ha : a = grownL (kvs.take i)) (h1 : key.length ≤ 80) (h2 : val.length ≤ 1024) : a.put key val = grownL (kvs.take (i + 1)) := by
  rw [grown_step e, growS, if_pos ⟨h1, h2⟩, ha]
theorem grown_no {kvs : List KV} {i : Nat} {key val : List Int} {a : AT} (e : kvs[i]? = some (key, val)) (ha : a = grownL (kvs.take i)) (h : ¬ (key.length ≤ 80 ∧ val.length ≤ 1024)) : a = grownL (kvs.take (i + 1)) := by
  rw [grown_step e, growS, if_neg h, ha]
/-- It answers the tree of the first sixty pairs, balanced. -/
def GrowsTo (w : World) (kvs : List KV) (e : Ending) (w' : World) : Prop := Good (grownL (kvs.take 60)) ∧ (grownL (kvs.take 60)).pairs.length ≤ 60 ∧ Tells w (grownL (kvs.take 60)) e w'
/-- It answers a tree of at most sixty pairs, balanced. -/
def Grows (w : World) (e : Ending) (w' : World) : Prop := ∃ a : AT, Good a ∧ a.pairs.length ≤ 60 ∧ Tells w a e w'
theorem enterG (w : World) : Box (w.alloc (.cells #[.int .i64 0, .slice none 0 0, .slice none 0 0, .slice none 0 0, .slice none 0 0] 27)) 27 w.heap.size hZ := Box.new w 27 hZ

set_option maxRecDepth 100000 in
set_option maxHeartbeats 4000000 in
theorem refGrown_is (kvs : List KV) (la : Option Addr) (n cap : Nat) (D : Nat → PH) (w : World) (hnl : n = kvs.length) (hin : InRec recP w la n cap D) (hpd : PairsD w D kvs) : Calls Tryd.prog 19 #[.slice la n cap] w (GrowsTo w kvs) := by
  have hkv : ∀ i, i < n → ∃ key val, kvs[i]? = some (key, val) ∧ InBytes w (D i).ka (D i).kn (D i).kc key ∧ InBytes w (D i).va (D i).vn (D i).vc val := fun i hi => ⟨_, _, List.getElem?_eq_getElem (by omega), hpd i (by omega)⟩
  have HNL := Lib.hid hnl
  have HIN := Lib.hid hin
  have HKVS := Lib.hid hkv
  clear hin hkv hpd hnl
  have hr := enterG w
  have s1 : (w.alloc (.cells #[.int .i64 0, .slice none 0 0, .slice none 0 0, .slice none 0 0, .slice none 0 0] 27)).heap.size = w.heap.size + 1 := by simp
  have hb0 : Below w.heap.size w (w.alloc (.cells #[.int .i64 0, .slice none 0 0, .slice none 0 0, .slice none 0 0, .slice none 0 0] 27)) := (Below.refl _ _).alloc (Nat.le_refl _) _
  have hx1 : Box ((w.alloc (.cells #[.int .i64 0, .slice none 0 0, .slice none 0 0, .slice none 0 0, .slice none 0 0] 27)).alloc (.cells #[.int .i64 0, .slice none 0 0, .slice none 0 0, .slice none 0 0, .slice none 0 0] 27)) 27 (w.heap.size + 1) hZ := by
    have q := Box.new (w.alloc (.cells #[.int .i64 0, .slice none 0 0, .slice none 0 0, .slice none 0 0, .slice none 0 0] 27)) 27 hZ
    rw [s1] at q
    exact q
  have hr1 := hr.below ((Below.refl (w.alloc (.cells #[.int .i64 0, .slice none 0 0, .slice none 0 0, .slice none 0 0, .slice none 0 0] 27)).heap.size (w.alloc (.cells #[.int .i64 0, .slice none 0 0, .slice none 0 0, .slice none 0 0, .slice none 0 0] 27))).alloc (Nat.le_refl _) (.cells #[.int .i64 0, .slice none 0 0, .slice none 0 0, .slice none 0 0, .slice none 0 0] 27)) hr.lt
  have hb1 : Below w.heap.size w ((w.alloc (.cells #[.int .i64 0, .slice none 0 0, .slice none 0 0, .slice none 0 0, .slice none 0 0] 27)).alloc (.cells #[.int .i64 0, .slice none 0 0, .slice none 0 0, .slice none 0 0, .slice none 0 0] 27)) := hb0.alloc (by rw [s1]; omega) _
  have HX := Lib.hid (And.intro hx1 (And.intro hr1 hb1))
  clear hr s1 hb0 hx1 hr1 hb1
  go_enter Tryd.func19, Tryd.ntmps19
  go_upto_region 2 with (first
    | (refine wpList_store_box rfl 27 (.tmp 3) (.tmp 5) rfl (w.heap.size + 1) hZ hZ rfl rfl 27 HX.out.1 infoTree5 ?_
       intro w2 hbx hg
       have HG2 : Hid (GW w w2 hZ .nil 0) := Lib.hid ⟨HX.out.2.2.grown hg HX.out.2.2.size (fun j hj => by injection hj; omega), HX.out.2.1.grown hg (fun q => by injection q; omega), hbx, inTree_nil w2, Good.nil, Nat.le_refl _⟩
       clear hbx hg))
  clear HX
  go_wp2_with fail
  go_loopw [4] (fun s4 wx => ∃ (i : Nat) (ht : TH) (a : AT), i ≤ n ∧ i ≤ 60 ∧ s4 = .int .i64 i ∧ GW w wx ht a i ∧ a = grownL (kvs.take i)) (fun s4 _ => n - (intOf s4).toNat)
  case atStart => exact ⟨0, hZ, .nil, by omega, by omega, rfl, HG2.out, by rw [List.take_zero]; rfl⟩
  case round =>
    clear HG2
    obtain ⟨i, ht, a, hi1, hi2, rfl, hgw, hga⟩ := hrel
    have HGA := Lib.hid hga
    clear hga
    have HG := Lib.hid hgw
    by_cases c1 : i < n
    · have q1 : (i : Int) < (n : Int) := by omega
      by_cases c2 : i < 60
      · have q2 : (i : Int) < 60 := by omega
        obtain ⟨key, val, hek, hk, hv⟩ := HKVS.out i c1
        have HEK := Lib.hid hek
        clear hek
        have HKV := Lib.hid (And.intro hk hv)
        have hkl := hk.len
        have hvl := hv.len
        obtain ⟨g, off, hea, -, -⟩ := HIN.out.at (by omega)
        obtain ⟨y0, y1⟩ := (HIN.out.below hgw.b).pair hea i c1
        have HEA := Lib.hid hea
        rw [hea]
        clear hea hk hv hgw
        by_cases c3 : (D i).kn ≤ 80
        · have q3 : ((D i).kn : Int) ≤ 80 := by omega
          by_cases c4 : (D i).vn ≤ 1024
          · have q4 : ((D i).vn : Int) ≤ 1024 := by omega
            go_upto_region 6 with fail
            clear y0 y1
            refine region_l (S := (fun W => (W.cell? ⟨(w.heap.size + 1), 0, none⟩ = some (.int .i64 ht.k) ∧ W.cell? ⟨(w.heap.size + 1), 1, none⟩ = some (.slice ht.ka ht.kn ht.kc) ∧ W.cell? ⟨(w.heap.size + 1), 2, none⟩ = some (.slice ht.va ht.vn ht.vc) ∧ W.cell? ⟨(w.heap.size + 1), 3, none⟩ = some (.slice ht.da ht.dn ht.dc) ∧ W.cell? ⟨(w.heap.size + 1), 4, none⟩ = some (.slice ht.ta ht.tn ht.tc)) ∧ W.cell? ⟨g, off + i * 2, none⟩ = some (.slice (D i).ka (D i).kn (D i).kc) ∧ W.cell? ⟨g, off + i * 2 + 1, none⟩ = some (.slice (D i).va (D i).vn (D i).vc))) 12 (by kernel_rfl) ⟨HG.out.drew.box.cells, ((HIN.out.below HG.out.drew.b).pair HEA.out i c1).1, ((HIN.out.below HG.out.drew.b).pair HEA.out i c1).2⟩ (fun hHeld => ?_)
            refine take_l (i := 0) (oi := ?oZ60) (v := ?vZ60) ?hiZ60 (by kernel_rfl) (by kernel_rfl) (by kernel_rfl) (by kernel_rfl) ?hQZ60 ?hwZ60 ?hyZ60 (by assumption) ?restZ60
            case hiZ60 => (simp only [List.getElem?_toArray, List.getElem?_cons_zero] <;> rfl)
            case hQZ60 => exact (fun _ _ _ h => h)
            case hwZ60 => rfl
            case hyZ60 => (intro w hSw; (try dsimp only at hSw); go_simp; try with_reducible rfl)
            (try simp only [Act.put, List.setIfInBounds_toArray, List.set_cons_zero, List.set_cons_succ])
            refine take_l (i := 1) (oi := ?oZ61) (v := ?vZ61) ?hiZ61 (by kernel_rfl) (by kernel_rfl) (by kernel_rfl) (by kernel_rfl) ?hQZ61 ?hwZ61 ?hyZ61 (by assumption) ?restZ61
            case hiZ61 => (simp only [List.getElem?_toArray, List.getElem?_cons_succ, List.getElem?_cons_zero] <;> rfl)
            case hQZ61 => exact (fun _ _ _ h => h)
            case hwZ61 => rfl
            case hyZ61 => (intro w hSw; (try dsimp only at hSw); go_simp; try with_reducible rfl)
            (try simp only [Act.put, List.setIfInBounds_toArray, List.set_cons_zero, List.set_cons_succ])
            refine take_l (i := 2) (oi := ?oZ62) (v := ?vZ62) ?hiZ62 (by kernel_rfl) (by kernel_rfl) (by kernel_rfl) (by kernel_rfl) ?hQZ62 ?hwZ62 ?hyZ62 (by assumption) ?restZ62
            case hiZ62 => (simp only [List.getElem?_toArray, List.getElem?_cons_succ, List.getElem?_cons_zero] <;> rfl)
            case hQZ62 => exact (fun _ _ _ h => h)
            case hwZ62 => rfl
            case hyZ62 => (intro w hSw; (try dsimp only at hSw); go_simp; try with_reducible rfl)
            (try simp only [Act.put, List.setIfInBounds_toArray, List.set_cons_zero, List.set_cons_succ])
            refine take_l (i := 3) (oi := ?oZ63) (v := ?vZ63) ?hiZ63 (by kernel_rfl) (by kernel_rfl) (by kernel_rfl) (by kernel_rfl) ?hQZ63 ?hwZ63 ?hyZ63 (by assumption) ?restZ63
            case hiZ63 => (simp only [List.getElem?_toArray, List.getElem?_cons_succ, List.getElem?_cons_zero] <;> rfl)
            case hQZ63 => exact (fun _ _ _ h => h)
            case hwZ63 => rfl
            case hyZ63 => (intro w hSw; (try dsimp only at hSw); go_simp; try with_reducible rfl)
            (try simp only [Act.put, List.setIfInBounds_toArray, List.set_cons_zero, List.set_cons_succ])
            refine take_l (i := 4) (oi := ?oZ64) (v := ?vZ64) ?hiZ64 (by kernel_rfl) (by kernel_rfl) (by kernel_rfl) (by kernel_rfl) ?hQZ64 ?hwZ64 ?hyZ64 (by assumption) ?restZ64
            case hiZ64 => (simp only [List.getElem?_toArray, List.getElem?_cons_succ, List.getElem?_cons_zero] <;> rfl)
            case hQZ64 => exact (fun _ _ _ h => h)
            case hwZ64 => rfl
            case hyZ64 => (intro w hSw; (try dsimp only at hSw); go_simp; try with_reducible rfl)
            (try simp only [Act.put, List.setIfInBounds_toArray, List.set_cons_zero, List.set_cons_succ])
            refine take_l (i := 5) (oi := ?oZ65) (v := ?vZ65) ?hiZ65 (by kernel_rfl) (by kernel_rfl) (by kernel_rfl) (by kernel_rfl) ?hQZ65 ?hwZ65 ?hyZ65 (by assumption) ?restZ65
            case hiZ65 => (simp only [List.getElem?_toArray, List.getElem?_cons_succ, List.getElem?_cons_zero] <;> rfl)
            case hQZ65 => exact (fun _ _ _ h => h)
            case hwZ65 => rfl
            case hyZ65 => (intro w hSw; (try dsimp only at hSw); go_simp; try with_reducible rfl)
            (try simp only [Act.put, List.setIfInBounds_toArray, List.set_cons_zero, List.set_cons_succ])
            refine take_l (i := 6) (oi := ?oZ66) (v := ?vZ66) ?hiZ66 (by kernel_rfl) (by kernel_rfl) (by kernel_rfl) (by kernel_rfl) ?hQZ66 ?hwZ66 ?hyZ66 (by assumption) ?restZ66
            case hiZ66 => (simp only [List.getElem?_toArray, List.getElem?_cons_succ, List.getElem?_cons_zero] <;> rfl)
            case hQZ66 => exact (fun _ _ _ h => h)
            case hwZ66 => rfl
            case hyZ66 => (intro w hSw; (try dsimp only at hSw); go_simp; try with_reducible rfl)
            (try simp only [Act.put, List.setIfInBounds_toArray, List.set_cons_zero, List.set_cons_succ])
            refine take_l (i := 7) (oi := ?oZ67) (v := ?vZ67) ?hiZ67 (by kernel_rfl) (by kernel_rfl) (by kernel_rfl) (by kernel_rfl) ?hQZ67 ?hwZ67 ?hyZ67 (by assumption) ?restZ67
            case hiZ67 => (simp only [List.getElem?_toArray, List.getElem?_cons_succ, List.getElem?_cons_zero] <;> rfl)
            case hQZ67 => exact (fun _ _ _ h => h)
            case hwZ67 => rfl
            case hyZ67 => (intro w hSw; (try dsimp only at hSw); go_simp; try with_reducible rfl)
            (try simp only [Act.put, List.setIfInBounds_toArray, List.set_cons_zero, List.set_cons_succ])
            refine take_l (i := 8) (oi := ?oZ68) (v := ?vZ68) ?hiZ68 (by kernel_rfl) (by kernel_rfl) (by kernel_rfl) (by kernel_rfl) ?hQZ68 ?hwZ68 ?hyZ68 (by assumption) ?restZ68
            case hiZ68 => (simp only [List.getElem?_toArray, List.getElem?_cons_succ, List.getElem?_cons_zero] <;> rfl)
            case hQZ68 => exact (fun _ _ _ h => h)
            case hwZ68 => rfl
            case hyZ68 => (intro w hSw; (try dsimp only at hSw); go_simp; try with_reducible rfl)
            (try simp only [Act.put, List.setIfInBounds_toArray, List.set_cons_zero, List.set_cons_succ])
            refine take_l (i := 9) (oi := ?oZ69) (v := ?vZ69) ?hiZ69 (by kernel_rfl) (by kernel_rfl) (by kernel_rfl) (by kernel_rfl) ?hQZ69 ?hwZ69 ?hyZ69 (by assumption) ?restZ69
            case hiZ69 => (simp only [List.getElem?_toArray, List.getElem?_cons_succ, List.getElem?_cons_zero] <;> rfl)
            case hQZ69 => exact (fun _ _ _ h => h)
            case hwZ69 => rfl
            case hyZ69 => (intro w hSw; (try dsimp only at hSw); go_simp; try with_reducible rfl)
            (try simp only [Act.put, List.setIfInBounds_toArray, List.set_cons_zero, List.set_cons_succ])
            refine take_l (i := 10) (oi := ?oZ70) (v := ?vZ70) ?hiZ70 (by kernel_rfl) (by kernel_rfl) (by kernel_rfl) (by kernel_rfl) ?hQZ70 ?hwZ70 ?hyZ70 (by assumption) ?restZ70
            case hiZ70 => (simp only [List.getElem?_toArray, List.getElem?_cons_succ, List.getElem?_cons_zero] <;> rfl)
            case hQZ70 => exact (fun _ _ _ h => h)
            case hwZ70 => rfl
            case hyZ70 => (intro w hSw; (try dsimp only at hSw); go_simp; try with_reducible rfl)
            (try simp only [Act.put, List.setIfInBounds_toArray, List.set_cons_zero, List.set_cons_succ])
            refine one_l (i := 11) (o := ?oZ71) (by kernel_rfl) ?hiZ71 (fun K hK => ?stZ71)
            case hiZ71 => (simp only [List.getElem?_toArray, List.getElem?_cons_succ, List.getElem?_cons_zero] <;> rfl)
            go_simp
            go_at_call 49
            refine (refPut_any key val (D i).ka (D i).va (D i).kn (D i).kc (D i).vn (D i).vc (by omega) (by omega) a ht _ HG.out.drew.ti HG.out.good.lim HG.out.good.bal (by have h1 := AT.depth_le a; have := HG.out.cnt; omega) (HKV.out.1.below HG.out.drew.b) (HKV.out.2.below HG.out.drew.b)).mono ?_
            rintro _ w6 ⟨h6, rfl, hi6, hb6⟩
            unfold TH.v
            have HG6 := Lib.hid (HG.out.drew.below hb6)
            have HI6 := Lib.hid hi6
            clear hi6 hb6
            go_simp
            refine hK.out _ _ ?_ (fun hHeld => ?_)
            · (first | exact ⟨HG6.out.box.cells, ((HIN.out.below HG6.out.b).pair HEA.out i c1).1, ((HIN.out.below HG6.out.b).pair HEA.out i c1).2⟩ | exact ⟨HG.out.drew.box.cells, ((HIN.out.below HG.out.drew.b).pair HEA.out i c1).1, ((HIN.out.below HG.out.drew.b).pair HEA.out i c1).2⟩)
            clear hK K
            (try simp only [Act.put, List.setIfInBounds_toArray, List.set_cons_zero, List.set_cons_succ])
            refine last_l (o := ?oZ72) (by kernel_rfl) ?hiZ72 (by kernel_rfl) (fun K hK => ?stZ72)
            case hiZ72 => (simp only [List.getElem?_toArray, List.getElem?_cons_succ, List.getElem?_cons_zero] <;> rfl)
            refine step_store_box rfl 27 (.tmp 3) (.tmp 43) rfl (w.heap.size + 1) ht h6 rfl rfl 27 HG6.out.box infoTree5 ?_
            intro w7 hbx hg
            have HG7 := Lib.hid (HG6.out.put hbx hg HI6.out (by omega : key.length ≤ 80) (by omega : val.length ≤ 1024))
            clear hbx hg
            refine hK.out _ _ ?_
            clear hK K
            (try simp only [Act.put])
            
            clear hHeld
            go_wp2_with fail
            exact ⟨⟨i + 1, h6, _, by omega, by omega, by go_num, HG7.out, grown_yes HEK.out HGA.out (by omega) (by omega)⟩, by simp [intOf]; omega⟩
          · have q4 : ¬ ((D i).vn : Int) ≤ 1024 := by omega
            go_wp2_with fail
            exact ⟨⟨i + 1, ht, a, by omega, by omega, by go_num, HG.out.more (by omega), grown_no HEK.out HGA.out (by omega)⟩, by simp [intOf]; omega⟩
        · have q3 : ¬ ((D i).kn : Int) ≤ 80 := by omega
          go_wp2_with fail
          exact ⟨⟨i + 1, ht, a, by omega, by omega, by go_num, HG.out.more (by omega), grown_no HEK.out HGA.out (by omega)⟩, by simp [intOf]; omega⟩
      · have q2 : ¬ (i : Int) < 60 := by omega
        clear hgw
        obtain ⟨x0, x1, x2, x3, x4⟩ := HG.out.box.cells
        go_wp2_with (first
          | (refine wpList_store_box rfl 27 (.tmp 2) (.tmp 44) rfl w.heap.size hZ ht rfl rfl 27 HG.out.res infoTree5 ?_
             intro w9 hbx9 hg9
             have HX9 := Lib.hid hbx9
             have HI9 := Lib.hid (AT.outBox HG.out.res hg9 _ _ HG.out.ti)
             have HB9 : Hid (Below w.heap.size w w9) := Lib.hid (HG.out.b.grown hg9 HG.out.b.size (fun j hj => by injection hj; omega))
             clear hbx9 hg9 x0 x1 x2 x3 x4))
        have hnl := HNL.out
        have e60 : a = grownL (kvs.take 60) := by
          rw [HGA.out]
          rcases (by omega : i = 60 ∨ kvs.length ≤ i) with q | q
          · rw [q]
          · rw [List.take_of_length_le q, List.take_of_length_le (by omega)]
        clear hnl
        exact bodyPost_ret (v := ht.v) (result_tree Tryd.results19 _ HX9.out rfl Tryd.underlying27 infoTree5) rfl ⟨by rw [← e60]; exact HG.out.good, by rw [← e60]; have := HG.out.cnt; omega, _, rfl, by rw [← e60]; exact HI9.out, HB9.out⟩
    · have q1 : ¬ (i : Int) < (n : Int) := by omega
      clear hgw
      obtain ⟨x0, x1, x2, x3, x4⟩ := HG.out.box.cells
      go_wp2_with (first
        | (refine wpList_store_box rfl 27 (.tmp 2) (.tmp 44) rfl w.heap.size hZ ht rfl rfl 27 HG.out.res infoTree5 ?_
           intro w9 hbx9 hg9
           have HX9 := Lib.hid hbx9
           have HI9 := Lib.hid (AT.outBox HG.out.res hg9 _ _ HG.out.ti)
           have HB9 : Hid (Below w.heap.size w w9) := Lib.hid (HG.out.b.grown hg9 HG.out.b.size (fun j hj => by injection hj; omega))
           clear hbx9 hg9 x0 x1 x2 x3 x4))
      have hnl := HNL.out
      have e60 : a = grownL (kvs.take 60) := by
        rw [HGA.out]
        rcases (by omega : i = 60 ∨ kvs.length ≤ i) with q | q
        · rw [q]
        · rw [List.take_of_length_le q, List.take_of_length_le (by omega)]
      clear hnl
      exact bodyPost_ret (v := ht.v) (result_tree Tryd.results19 _ HX9.out rfl Tryd.underlying27 infoTree5) rfl ⟨by rw [← e60]; exact HG.out.good, by rw [← e60]; have := HG.out.cnt; omega, _, rfl, by rw [← e60]; exact HI9.out, HB9.out⟩
/-- Any row of pairs is the row of some list. -/
theorem pairs_list {w : World} {n : Nat} {D : Nat → PH} (hkv : ∀ i, i < n → ∃ key val, InBytes w (D i).ka (D i).kn (D i).kc key ∧ InBytes w (D i).va (D i).vn (D i).vc val) : ∃ kvs : List KV, n = kvs.length ∧ PairsD w D kvs := by
  induction n with
  | zero => exact ⟨[], rfl, fun i hi => by simp at hi⟩
  | succ n ih =>
    obtain ⟨kvs, e, h⟩ := ih (fun i hi => hkv i (by omega))
    obtain ⟨key, val, h1, h2⟩ := hkv n (by omega)
    refine ⟨kvs ++ [(key, val)], by simp [e], fun i hi => ?_⟩
    by_cases c : i < kvs.length
    · rw [List.getElem_append_left c]
      exact h i c
    · have e0 : i = n := by simp at hi; omega
      subst e0
      have e2 : (kvs ++ [(key, val)])[i] = (key, val) := by simp [e]
      rw [e2]
      exact ⟨h1, h2⟩
theorem refGrown_any (la : Option Addr) (n cap : Nat) (D : Nat → PH) (w : World) (hin : InRec recP w la n cap D) (hkv : ∀ i, i < n → ∃ key val, InBytes w (D i).ka (D i).kn (D i).kc key ∧ InBytes w (D i).va (D i).vn (D i).vc val) : Calls Tryd.prog 19 #[.slice la n cap] w (Grows w) := by
  obtain ⟨kvs, e, h⟩ := pairs_list hkv
  refine (refGrown_is kvs la n cap D w e hin h).mono ?_
  rintro _ w' ⟨h1, h2, h3⟩
  exact ⟨_, h1, h2, h3⟩
end Go.Proofs.YtlbiefddcimdgaaDoor

/- Two rows of pairs that hold the same ones. -/
namespace Go.Proofs.YtlbiefddcimdgaaDoor
open Go.RowKit
set_option linter.unusedVariables false

/-- The program's pairs and the document's: the same ones. -/
theorem same_told {W : World} {base base' : Nat} {ty : TypeId} {a a' : Option Addr} {n n' c c' : Nat} {rs rs' : List PH} {kvs : List KV} (o : OwnR recP W base ty (.slice a n c) rs) (hl : rs.length = n) (v : PairsIn W rs kvs) (o' : OwnR recP W base' ty (.slice a' n' c') rs') (hl' : rs'.length = n') (v' : PairsIn W rs' kvs) :
    Calls Tryd.prog 15 #[.slice a n c, .slice a' n' c'] W (Says W (.bool true)) := by
  obtain rfl : n' = n := by have := v.1; have := v'.1; omega
  exact refSameP_any kvs (fun i => rs.getD i pZ) (fun i => rs'.getD i pZ) a a' n' c c' W (by have := v.1; omega) (o.inRec pZ).2 (o'.inRec pZ).2 v.byD v'.byD
end Go.Proofs.YtlbiefddcimdgaaDoor

/- A tree of sixty pairs at most has few parts. -/
namespace Go.Proofs.YtlbiefddcimdgaaDoor
open Go.RowKit
set_option linter.unusedVariables false

theorem count_small8 {a : AT} (h : a.pairs.length ≤ 60) : countT a.tr ≤ 500 := by
  have e : countT a.tr = 2 * a.pairs.length + 1 := by
    clear h
    induction a with
    | nil => rw [countT_eq]; rfl
    | node l k v r ihl ihr =>
      rw [countT_eq, AT.tr_kids]
      simp only [List.map_cons, List.map_nil, List.sum_cons, List.sum_nil, ihl, ihr, AT.pairs, List.length_append, List.length_cons]
      omega
  omega
end Go.Proofs.YtlbiefddcimdgaaDoor

/- Values of one's own that are written. -/
namespace Go.Proofs.YtlbiefddcimdgaaDoor
open Go.RowKit
set_option linter.unusedVariables false

/-- Values that are rows of one's own. -/
def Vals (W : World) (base : Nat) (ps : List PH) : Prop := ∀ i (h : i < ps.length), ∃ bs, Bytes8 bs ∧ W.ownsRow base 5 1 (.slice (ps[i]).va (ps[i]).vn (ps[i]).vc) (ps[i]).vn (bs.map (Value.int .u8))
theorem PV.own {W : World} {base : Nat} {ps : List PH} {kvs : List KV} (x : PV W base ps kvs) : Vals W base ps := fun i h => by
  have p := x.2 i h (by rw [← x.1]; exact h)
  have e := p.pair.2.len
  exact ⟨_, p.vb, by rw [← e]; have q := p.v; rw [e] at q ⊢; exact q⟩
theorem own_set {W : World} {base n g k : Nat} {v : Value} {bs : List Int} (h : W.ownsRow base 5 1 v n (bs.map (Value.int .u8))) (hb : Bytes8 bs) (z : Int) (h0 : 0 ≤ z) (h1 : z ≤ 255) : ∃ bs', Bytes8 bs' ∧ (W.setCell ⟨g, k, none⟩ (.int .u8 z)).ownsRow base 5 1 v n (bs'.map (Value.int .u8)) := by
  rcases h.2 with ⟨rfl, e⟩ | ⟨g', c, cur, rfl, q1, q2, q3⟩
  · exact ⟨bs, hb, h.1, .inl ⟨rfl, e⟩⟩
  · by_cases e : g' = g
    · subst e
      refine ⟨bs.set k z, fun y hy => ?_, own_bump h z⟩
      rcases List.mem_or_eq_of_mem_set hy with q | q
      · exact hb y q
      · subst q
        exact ⟨h0, h1⟩
    · exact ⟨bs, hb, h.1, .inr ⟨g', c, cur, rfl, q1, (Below.heap_setCell W ⟨g, k, none⟩ _ g' e).trans q2, q3⟩⟩
/-- What was told, while its values are written: what stood before stays. -/
structure VS (w W : World) (ra : Option Addr) (r rc : Nat) (rs : List PH) : Prop where
  b : Below w.heap.size w W
  row : OwnR recP W w.heap.size 53 (.slice ra r rc) rs
  vals : Vals W w.heap.size rs
section
variable {w W W' : World} {ra : Option Addr} {r rc : Nat} {rs : List PH}
theorem VS.below (x : VS w W ra r rc rs) (hb : Below W.heap.size W W') : VS w W' ra r rc rs := ⟨x.b.trans (hb.mono x.b.size), x.row.keep hb, fun i h => by
  obtain ⟨bs, q1, q2⟩ := x.vals i h
  exact ⟨bs, q1, own_keep q2 hb⟩⟩
theorem VS.drew (x : VS w W ra r rc rs) : VS w W.drew ra r rc rs := x.below (Below.refl _ _).drew
theorem VS.bump (x : VS w W ra r rc rs) (i : Nat) (hi : i < rs.length) (k : Nat) (hk : k < (rs[i]).vn) : ∃ g z, (rs[i]).va = some ⟨g, 0, none⟩ ∧ W.frozen? ⟨g, k, none⟩ = false ∧ W.cell? ⟨g, k, none⟩ = some (.int .u8 z) ∧ 0 ≤ z ∧ z ≤ 255 ∧ ∀ y, 0 ≤ y → y ≤ 255 → VS w (W.setCell ⟨g, k, none⟩ (.int .u8 y)) ra r rc rs := by
  obtain ⟨bs, hb, ho⟩ := x.vals i hi
  have hin := own_in ho hb
  rcases ho.2 with ⟨q, _⟩ | ⟨g, c, cur, q, hbase, hh, _⟩
  · injection q with _ q
    omega
  · injection q with q1 q2 q3
    obtain ⟨g', off', e, _, hseg⟩ := hin.place (by omega)
    rw [q1] at e
    injection e with e
    injection e with e4 e5
    subst e4 e5
    have hk2 : k < bs.length := by rw [hin.len]; exact hk
    have hz := hb _ (List.getElem_mem hk2)
    have hc := hseg k hk2
    rw [Nat.zero_add] at hc
    refine ⟨g, bs[k], q1, by simp [World.frozen?, hh], hc, hz.1, hz.2, fun y h0 h1 => ⟨x.b.setCell hbase _, ?_, fun j hj => ?_⟩⟩
    · refine World.ownsRow.kept x.row (only_set (only_refl W (some g)) k _) ?_
      have q := own_apart x.row ho (by decide)
      rw [q1] at q
      exact q
    · obtain ⟨bs', hb', ho'⟩ := x.vals j hj
      exact own_set ho' hb' y h0 h1
/-- The i-th value's cell. -/
theorem VS.cell {g : Nat} (x : VS w W (some ⟨g, 0, none⟩) r rc rs) (hl : rs.length = r) (i : Nat) (hi : i < rs.length) : W.cell? ⟨g, i * 2 + 1, none⟩ = some (.slice (rs[i]).va (rs[i]).vn (rs[i]).vc) := by
  subst hl
  obtain ⟨g', e, hc⟩ := x.row.at i hi
  injection e with e
  injection e with e
  subst e
  exact hc 1 _ rfl
theorem VS.place (x : VS w W ra r rc rs) (hl : rs.length = r) (i : Nat) (hi : i < rs.length) : ∃ g, ra = some ⟨g, 0, none⟩ := by
  subst hl
  obtain ⟨g', e, _⟩ := x.row.at i hi
  exact ⟨g', e⟩
theorem VS.len (x : VS w W ra r rc rs) (i : Nat) (hi : i < rs.length) : (rs[i]).vn ≤ 9223372036854775807 := by
  obtain ⟨bs, hb, ho⟩ := x.vals i hi
  have h1 := (own_in ho hb).le
  have h2 := (own_in ho hb).max
  simp only [maxLen] at h2
  omega
end
end Go.Proofs.YtlbiefddcimdgaaDoor

/- The contract of the document's comparison of trees: of one and the same tree. -/
namespace Go.Proofs.YtlbiefddcimdgaaDoor
open Go.RowKit
set_option linter.unusedVariables false

theorem conv_of' {w : World} {a : Option Addr} {n cap : Nat} {bs : List Int} (h : InBytes w a n cap bs) :
    (convert 22 9 (.slice a n cap)).run Tryd.prog w = .ok (.string (strOfNums bs)) w :=
  conv_in (P := Tryd.prog) h 22 5 9 Tryd.underlying22 Tryd.underlying5 Tryd.underlying9
/-- Two boxes, side by side. -/
structure Two (w W : World) (h h' : TH) : Prop where
  bx : Box W 27 w.heap.size h
  by' : Box W 27 (w.heap.size + 1) h'
  b : Below w.heap.size w W
theorem Two.below {w W W' : World} {h h' : TH} (d : Two w W h h') (hb : Below W.heap.size W W') : Two w W' h h' := ⟨d.bx.below hb d.bx.lt, d.by'.below hb d.by'.lt, d.b.trans (hb.mono d.b.size)⟩
theorem Two.drew {w W : World} {h h' : TH} (d : Two w W h h') : Two w W.drew h h' := d.below (Below.refl _ _).drew
theorem Two.new (w : World) (h h' : TH) : Two w ((w.alloc (.cells #[.int .i64 h.k, .slice h.ka h.kn h.kc, .slice h.va h.vn h.vc, .slice h.da h.dn h.dc, .slice h.ta h.tn h.tc] 27)).alloc (.cells #[.int .i64 h'.k, .slice h'.ka h'.kn h'.kc, .slice h'.va h'.vn h'.vc, .slice h'.da h'.dn h'.dc, .slice h'.ta h'.tn h'.tc] 27)) h h' :=
  ⟨(Box.new w _ h).below ((Below.refl _ _).alloc (Nat.le_refl _) _) (by simp), by have := Box.new (w.alloc (.cells #[.int .i64 h.k, .slice h.ka h.kn h.kc, .slice h.va h.vn h.vc, .slice h.da h.dn h.dc, .slice h.ta h.tn h.tc] 27)) 27 h'; simpa using this, ((Below.refl w.heap.size w).alloc (Nat.le_refl _) _).alloc (by simp) _⟩

set_option maxRecDepth 100000 in
set_option maxHeartbeats 4000000 in
theorem refSame_any : ∀ (t : Tr) (h h' : TH) (w : World), InTree w h t → InTree w h' t →
    Calls Tryd.prog 24 #[h.v, h'.v] w (Says w (.bool true)) := by
  intro t
  induction t using Tr.ind with
  | h t ih =>
  intro h h' w ht ht'
  unfold TH.v
  obtain ⟨H, hp⟩ := ht.parts
  obtain ⟨H', hp'⟩ := ht'.parts
  have HP := Lib.hid (And.intro hp hp')
  have htl := hp.len
  have htl' := hp'.len
  have htm := Nat.le_trans hp.sl.le hp.sl.max
  simp only [maxLen] at htm
  have k1 : (h.k != h'.k) = false := by rw [hp.hk, hp'.hk]; simp
  have k2 : ((h.tn : Int) != (h'.tn : Int)) = false := by rw [← htl, ← htl']; simp
  have IH := Lib.hid ih
  clear hp hp' ht ht' ih
  have HD := Lib.hid (Two.new w h h')
  go_enter Tryd.func24, Tryd.ntmps24
  go_upto_region 1 with fail
  generalize (w.alloc (.cells #[.int .i64 h.k, .slice h.ka h.kn h.kc, .slice h.va h.vn h.vc, .slice h.da h.dn h.dc, .slice h.ta h.tn h.tc] 27)).alloc (.cells #[.int .i64 h'.k, .slice h'.ka h'.kn h'.kc, .slice h'.va h'.vn h'.vc, .slice h'.da h'.dn h'.dc, .slice h'.ta h'.tn h'.tc] 27) = w0 at *
  obtain ⟨x0, x1, x2, x3, x4⟩ := HD.out.bx.cells
  obtain ⟨y0, y1, y2, y3, y4⟩ := HD.out.by'.cells
  have c1 := conv_of' (HP.out.1.below HD.out.b).key
  have c2 := conv_of' (HP.out.1.below HD.out.b).val
  have c3 := conv_of' (HP.out.1.below HD.out.b).dig
  have d1 := conv_of' (HP.out.2.below HD.out.b).key
  have d2 := conv_of' (HP.out.2.below HD.out.b).val
  have d3 := conv_of' (HP.out.2.below HD.out.b).dig
  have htl2 : h'.tn = h.tn := by omega
  have HL := Lib.hid htl2
  clear htl2 htl'
  go_wp2_with fail
  clear x0 x1 x2 x3 x4 y0 y1 y2 y3 y4 c1 c2 c3 d1 d2 d3
  go_loopw [5] (fun s5 wx => ∃ i : Nat, i ≤ h.tn ∧ s5 = .int .i64 i ∧ Two w wx h h') (fun s5 _ => h.tn - (intOf s5).toNat)
  case atStart => exact ⟨0, by omega, rfl, HD.out⟩
  case round =>
    clear HD
    obtain ⟨i, hi, rfl, hd⟩ := hrel
    have HD := Lib.hid hd
    have x4 := hd.bx.cells.2.2.2.2
    clear hd
    by_cases hlt : i < h.tn
    · have q1 : (i : Int) < (h.tn : Int) := by omega
      have hlt' : i < h'.tn := by rw [HL.out]; exact hlt
      have q2 : (i : Int) < (h'.tn : Int) := by omega
      have him : i < t.kids.length := by omega
      obtain ⟨g, off, hta, _, _⟩ := (HP.out.1.below HD.out.b).place (by omega)
      obtain ⟨g', off', hta', _, _⟩ := (HP.out.2.below HD.out.b).place (by omega)
      have HTA := Lib.hid (And.intro hta hta')
      clear hta hta'
      go_upto_region 6 with fail
      clear x4
      refine wp_region_held_drew (S := (fun W => W.cell? ⟨w.heap.size, 4, none⟩ = some (.slice (some ⟨g, off, none⟩) h.tn h.tc) ∧ W.cell? ⟨(w.heap.size + 1), 4, none⟩ = some (.slice (some ⟨g', off', none⟩) h'.tn h'.tc) ∧ (W.cell? ⟨g, off + i * 5, none⟩ = some (.int .i64 (H i).k) ∧ W.cell? ⟨g, off + i * 5 + 1, none⟩ = some (.slice (H i).ka (H i).kn (H i).kc) ∧ W.cell? ⟨g, off + i * 5 + 2, none⟩ = some (.slice (H i).va (H i).vn (H i).vc) ∧ W.cell? ⟨g, off + i * 5 + 3, none⟩ = some (.slice (H i).da (H i).dn (H i).dc) ∧ W.cell? ⟨g, off + i * 5 + 4, none⟩ = some (.slice (H i).ta (H i).tn (H i).tc)) ∧ W.cell? ⟨g', off' + i * 5, none⟩ = some (.int .i64 (H' i).k) ∧ W.cell? ⟨g', off' + i * 5 + 1, none⟩ = some (.slice (H' i).ka (H' i).kn (H' i).kc) ∧ W.cell? ⟨g', off' + i * 5 + 2, none⟩ = some (.slice (H' i).va (H' i).vn (H' i).vc) ∧ W.cell? ⟨g', off' + i * 5 + 3, none⟩ = some (.slice (H' i).da (H' i).dn (H' i).dc) ∧ W.cell? ⟨g', off' + i * 5 + 4, none⟩ = some (.slice (H' i).ta (H' i).tn (H' i).tc))) (by kernel_rfl) ⟨(HD.out.drew.bx.cells.2.2.2.2).trans (by rw [HTA.out.1]), (HD.out.drew.by'.cells.2.2.2.2).trans (by rw [HTA.out.2]), (HP.out.1.below HD.out.drew.b).cellsAt HTA.out.1 i hlt, (HP.out.2.below HD.out.drew.b).cellsAt HTA.out.2 i hlt'⟩ (fun hHeld => ?_)
      refine take_w (i := 0) (oi := ?oZ1) (v := ?vZ1) ?hiZ1 (by kernel_rfl) (by kernel_rfl) (by kernel_rfl) ?hQZ1 ?hwZ1 ?hyZ1 (by assumption) ?restZ1
      case hiZ1 => (simp only [List.getElem?_toArray, List.getElem?_cons_zero] <;> rfl)
      case hQZ1 => exact (fun _ _ _ h => h)
      case hwZ1 => rfl
      case hyZ1 => (intro w hSw; (try dsimp only at hSw); go_simp; try with_reducible rfl)
      (try simp only [Act.put, List.setIfInBounds_toArray, List.set_cons_zero, List.set_cons_succ])
      refine take_w (i := 1) (oi := ?oZ2) (v := ?vZ2) ?hiZ2 (by kernel_rfl) (by kernel_rfl) (by kernel_rfl) ?hQZ2 ?hwZ2 ?hyZ2 (by assumption) ?restZ2
      case hiZ2 => (simp only [List.getElem?_toArray, List.getElem?_cons_succ, List.getElem?_cons_zero] <;> rfl)
      case hQZ2 => exact (fun _ _ _ h => h)
      case hwZ2 => rfl
      case hyZ2 => (intro w hSw; (try dsimp only at hSw); go_simp; try with_reducible rfl)
      (try simp only [Act.put, List.setIfInBounds_toArray, List.set_cons_zero, List.set_cons_succ])
      refine take_w (i := 2) (oi := ?oZ3) (v := ?vZ3) ?hiZ3 (by kernel_rfl) (by kernel_rfl) (by kernel_rfl) ?hQZ3 ?hwZ3 ?hyZ3 (by assumption) ?restZ3
      case hiZ3 => (simp only [List.getElem?_toArray, List.getElem?_cons_succ, List.getElem?_cons_zero] <;> rfl)
      case hQZ3 => exact (fun _ _ _ h => h)
      case hwZ3 => rfl
      case hyZ3 => (intro w hSw; (try dsimp only at hSw); go_simp; try with_reducible rfl)
      (try simp only [Act.put, List.setIfInBounds_toArray, List.set_cons_zero, List.set_cons_succ])
      refine take_w (i := 3) (oi := ?oZ4) (v := ?vZ4) ?hiZ4 (by kernel_rfl) (by kernel_rfl) (by kernel_rfl) ?hQZ4 ?hwZ4 ?hyZ4 (by assumption) ?restZ4
      case hiZ4 => (simp only [List.getElem?_toArray, List.getElem?_cons_succ, List.getElem?_cons_zero] <;> rfl)
      case hQZ4 => exact (fun _ _ _ h => h)
      case hwZ4 => rfl
      case hyZ4 => (intro w hSw; (try dsimp only at hSw); go_simp; try with_reducible rfl)
      (try simp only [Act.put, List.setIfInBounds_toArray, List.set_cons_zero, List.set_cons_succ])
      refine take_w (i := 4) (oi := ?oZ5) (v := ?vZ5) ?hiZ5 (by kernel_rfl) (by kernel_rfl) (by kernel_rfl) ?hQZ5 ?hwZ5 ?hyZ5 (by assumption) ?restZ5
      case hiZ5 => (simp only [List.getElem?_toArray, List.getElem?_cons_succ, List.getElem?_cons_zero] <;> rfl)
      case hQZ5 => exact (fun _ _ _ h => h)
      case hwZ5 => rfl
      case hyZ5 => (intro w hSw; (try dsimp only at hSw); go_simp; try with_reducible rfl)
      (try simp only [Act.put, List.setIfInBounds_toArray, List.set_cons_zero, List.set_cons_succ])
      refine take_w (i := 5) (oi := ?oZ6) (v := ?vZ6) ?hiZ6 (by kernel_rfl) (by kernel_rfl) (by kernel_rfl) ?hQZ6 ?hwZ6 ?hyZ6 (by assumption) ?restZ6
      case hiZ6 => (simp only [List.getElem?_toArray, List.getElem?_cons_succ, List.getElem?_cons_zero] <;> rfl)
      case hQZ6 => exact (fun _ _ _ h => h)
      case hwZ6 => rfl
      case hyZ6 => (intro w hSw; (try dsimp only at hSw); go_simp; try with_reducible rfl)
      (try simp only [Act.put, List.setIfInBounds_toArray, List.set_cons_zero, List.set_cons_succ])
      refine take_w (i := 6) (oi := ?oZ7) (v := ?vZ7) ?hiZ7 (by kernel_rfl) (by kernel_rfl) (by kernel_rfl) ?hQZ7 ?hwZ7 ?hyZ7 (by assumption) ?restZ7
      case hiZ7 => (simp only [List.getElem?_toArray, List.getElem?_cons_succ, List.getElem?_cons_zero] <;> rfl)
      case hQZ7 => exact (fun _ _ _ h => h)
      case hwZ7 => rfl
      case hyZ7 => (intro w hSw; (try dsimp only at hSw); go_simp; try with_reducible rfl)
      (try simp only [Act.put, List.setIfInBounds_toArray, List.set_cons_zero, List.set_cons_succ])
      refine take_w (i := 7) (oi := ?oZ8) (v := ?vZ8) ?hiZ8 (by kernel_rfl) (by kernel_rfl) (by kernel_rfl) ?hQZ8 ?hwZ8 ?hyZ8 (by assumption) ?restZ8
      case hiZ8 => (simp only [List.getElem?_toArray, List.getElem?_cons_succ, List.getElem?_cons_zero] <;> rfl)
      case hQZ8 => exact (fun _ _ _ h => h)
      case hwZ8 => rfl
      case hyZ8 => (intro w hSw; (try dsimp only at hSw); go_simp; try with_reducible rfl)
      (try simp only [Act.put, List.setIfInBounds_toArray, List.set_cons_zero, List.set_cons_succ])
      refine take_w (i := 8) (oi := ?oZ9) (v := ?vZ9) ?hiZ9 (by kernel_rfl) (by kernel_rfl) (by kernel_rfl) ?hQZ9 ?hwZ9 ?hyZ9 (by assumption) ?restZ9
      case hiZ9 => (simp only [List.getElem?_toArray, List.getElem?_cons_succ, List.getElem?_cons_zero] <;> rfl)
      case hQZ9 => exact (fun _ _ _ h => h)
      case hwZ9 => rfl
      case hyZ9 => (intro w hSw; (try dsimp only at hSw); go_simp; try with_reducible rfl)
      (try simp only [Act.put, List.setIfInBounds_toArray, List.set_cons_zero, List.set_cons_succ])
      refine take_w (i := 9) (oi := ?oZ10) (v := ?vZ10) ?hiZ10 (by kernel_rfl) (by kernel_rfl) (by kernel_rfl) ?hQZ10 ?hwZ10 ?hyZ10 (by assumption) ?restZ10
      case hiZ10 => (simp only [List.getElem?_toArray, List.getElem?_cons_succ, List.getElem?_cons_zero] <;> rfl)
      case hQZ10 => exact (fun _ _ _ h => h)
      case hwZ10 => rfl
      case hyZ10 => (intro w hSw; (try dsimp only at hSw); go_simp; try with_reducible rfl)
      (try simp only [Act.put, List.setIfInBounds_toArray, List.set_cons_zero, List.set_cons_succ])
      refine wpAnyH_ready (rs := [10]) (by kernel_rfl) (by simp) ?_
      refine AllReadyH.cons (o := ?oZ11) ?hiZ11 (fun K hK => ?stZ11) AllReadyH.nil
      case hiZ11 => (simp only [List.getElem?_toArray, List.getElem?_cons_succ, List.getElem?_cons_zero] <;> rfl)
      go_simp
      go_at_call 24
      refine (IH.out _ (List.getElem_mem him) (H i) (H' i) _ ((HP.out.1.below HD.out.drew.b).kids i him) ((HP.out.2.below HD.out.drew.b).kids i him)).mono ?_
      rintro _ w1 ⟨rfl, hb1⟩
      have HD1 := Lib.hid (HD.out.drew.below hb1)
      clear hb1
      go_simp
      refine hK.out _ _ ?_ (fun hHeld => ?_)
      · (first | exact ⟨(HD1.out.bx.cells.2.2.2.2).trans (by rw [HTA.out.1]), (HD1.out.by'.cells.2.2.2.2).trans (by rw [HTA.out.2]), (HP.out.1.below HD1.out.b).cellsAt HTA.out.1 i hlt, (HP.out.2.below HD1.out.b).cellsAt HTA.out.2 i hlt'⟩ | exact ⟨(HD.out.drew.bx.cells.2.2.2.2).trans (by rw [HTA.out.1]), (HD.out.drew.by'.cells.2.2.2.2).trans (by rw [HTA.out.2]), (HP.out.1.below HD.out.drew.b).cellsAt HTA.out.1 i hlt, (HP.out.2.below HD.out.drew.b).cellsAt HTA.out.2 i hlt'⟩)
      clear hK K
      (try simp only [Act.put, List.setIfInBounds_toArray, List.set_cons_zero, List.set_cons_succ])
      refine take_w (i := 11) (oi := ?oZ12) (v := ?vZ12) ?hiZ12 (by kernel_rfl) (by kernel_rfl) (by kernel_rfl) ?hQZ12 ?hwZ12 ?hyZ12 (by assumption) ?restZ12
      case hiZ12 => (simp only [List.getElem?_toArray, List.getElem?_cons_succ, List.getElem?_cons_zero] <;> rfl)
      case hQZ12 => exact (fun _ _ _ h => h)
      case hwZ12 => rfl
      case hyZ12 => (intro w hSw; (try dsimp only at hSw); go_simp; try with_reducible rfl)
      (try simp only [Act.put, List.setIfInBounds_toArray, List.set_cons_zero, List.set_cons_succ])
      refine wpAnyH_done (by kernel_rfl) ?_ _
      
      clear hHeld
      go_wp2_with fail
      exact ⟨⟨i + 1, by omega, by go_num, HD1.out⟩, by simp [intOf]; omega⟩
    · obtain rfl : i = h.tn := by omega
      have q1 : ¬ (h.tn : Int) < (h.tn : Int) := by omega
      go_wp2_with fail
      go_ret
      exact ⟨rfl, HD.out.b⟩
end Go.Proofs.YtlbiefddcimdgaaDoor

/- A region that draws its order, by an invariant; bytes appended to an empty row. No program is named here. -/
namespace Go.Proofs.YtlbiefddcimdgaaDoor
open Go.RowKit
set_option linter.unusedVariables false

/-- Whatever the order: what holds of the frame and the world (J), by what has come up, is kept by each operation that may come up. -/
theorem wpAnyH_inv {P : Program} {md : Region.Mode} {ops : Array Oper} {Q : Exit → Act → World → Prop} {S : World → Prop} (J : Array Bool → Act → World → Prop) (m : Array Bool → Nat)
    (hstep : ∀ listed a w, J listed a w → ∀ i ∈ Region.ready md ops listed, m (listed.setIfInBounds i true) < m listed ∧ wpOp P ops Q i (fun a' w' => S w' ∧ J (listed.setIfInBounds i true) a' w') a w)
    (hdone : ∀ listed a w, J listed a w → Region.ready md ops listed = [] → Q .normal a w) :
    ∀ (fuel : Nat) (listed : Array Bool) (a : Act) (w : World), J listed a w → m listed ≤ fuel → wpAnyH P md ops Q S fuel listed a w
  | 0, listed, a, w, hJ, hm => by
    have h0 : Region.ready md ops listed = [] := by
      cases hr : Region.ready md ops listed with
      | nil => rfl
      | cons i r =>
        have := (hstep listed a w hJ i (by rw [hr]; exact List.mem_cons_self)).1
        omega
    exact ⟨h0, hdone listed a w hJ h0⟩
  | fuel + 1, listed, a, w, hJ, hm =>
    ⟨hdone listed a w hJ, fun i hi => by
      obtain ⟨h1, h2⟩ := hstep listed a w hJ i hi
      exact wpOp_mono (fun a' w' h' => ⟨h'.1, wpAnyH_inv J m hstep hdone fuel _ a' w' h'.2 (by omega)⟩) h2⟩
/-- append([]byte{}, bs...): bytes in new memory; nothing that was there is written. -/
theorem run_append_empty {P : Program} (w : World) (t ty e : TypeId) (i : TypeInfo) (z : Value) (ht : P.underlying t = some (.slice e)) (hi : P.info? e = some i) (hz : i.zero = some z) (hsize : i.size = 1) (hby : i.bytes = 1) (hzs : z.cells.size = 1)
    (g0 : Nat) (hg : w.heap[g0]? = some (.cells #[] e (0, 0))) (ad : Option Addr) (n cap : Nat) (r : List Int) (hin : InBytes w ad n cap r) (hn : n ≤ 100000) :
    ∃ a c w', (Builtin.append_ #[t, t] ty #[.slice (some ⟨g0, 0, none⟩) 0 0, .slice ad n cap]).run P w = .ok (.slice a n c) w' ∧ InBytes w' a n c r ∧ (∀ x, a = some x → (x.block = g0 ∨ w.heap.size ≤ x.block) ∧ x.block < w'.heap.size) ∧ Below w.heap.size w w' := by
  have hown : w.ownsRow 0 e 1 (.slice (some ⟨g0, 0, none⟩) 0 0) 0 [] := ⟨rfl, .inr ⟨g0, 0, #[], rfl, Nat.zero_le _, hg, Nat.le_refl _, Nat.zero_le _, rfl, rfl⟩⟩
  have hlen := hin.len
  have hempty : n = 0 → r = [] := fun h => List.eq_nil_of_length_eq_zero (by omega)
  have hres : n = 0 → InBytes w (some ⟨g0, 0, none⟩) n 0 r := fun h => by
    subst h
    rw [hempty rfl]
    exact ⟨rfl, (fun z hz => by cases hz), Nat.le_refl _, Nat.zero_le _, (fun q => by cases q), fun q => by omega⟩
  by_cases h0 : n = 0
  · have hr := hempty h0
    have hR := hres h0
    subst h0
    subst hr
    refine ⟨some ⟨g0, 0, none⟩, 0, w, ?_, hR, fun x q => by injection q with q; rw [← q]; exact ⟨.inl rfl, (Array.getElem?_eq_some_iff.1 hg).1⟩, Below.refl _ _⟩
    cases ad with
    | none =>
      obtain rfl : cap = 0 := hin.nil rfl
      exact run_append_owned_none (P := P) (w := w) 0 t ty e i 1 ht hi _ 0 [] hown
    | some ad =>
      have hh := run_append_room (P := P) w t ty e i ht hi g0 0 0 #[] hg ad 0 cap [] (by simp) (fun j u hu => by simp at hu) (fun u hu => by cases hu) (Nat.le_refl _) (by simp)
      rw [hh]
      simp only [List.take_nil, List.drop_nil, List.nil_append]
      have e1 : w.setRow g0 #[] = w := setRow_self w g0 #[] e (0, 0) hg
      rw [e1]
  · obtain ⟨g, off, rfl, _, hseg⟩ := hin.place (by omega)
    have hnews : ∀ (j : Nat) (u : Value), (r.map (Value.int .u8))[j]? = some u → w.cell? ((⟨g, off, none⟩ : Addr).add j) = some u := hseg.news
    obtain ⟨v', w', hr, h2, _, _⟩ := run_append_own (P := P) w 0 t ty e i z 1 1 ht hi hz hsize hby hzs (by omega) _ 0 [] hown ⟨g, off, none⟩ n cap (r.map (Value.int .u8)) (by simp [hlen]) hnews (by simp [Value.oneCell']) (by simp only [maxLen]; omega) (by omega) (Nat.zero_le _)
    have hr2 := run_append_grow (P := P) w t ty e i z ht hi hz ⟨g0, 0, none⟩ 0 0 [] (by simp) (fun j u hu => by simp at hu) ⟨g, off, none⟩ n cap (r.map (Value.int .u8)) (by simp [hlen, hsize]) hnews (by omega) (by omega) (growslice_fits (by omega) (by rw [hby]; omega))
    rw [hr] at hr2
    injection hr2 with e1 e2
    rw [e1, e2] at h2 hr
    simp only [Nat.zero_add, List.nil_append] at h2 hr
    exact ⟨_, _, _, hr, InBytes.of_own (zs := r) h2 hin.bytes, fun x q => by injection q with q; rw [← q]; exact ⟨.inr (Nat.le_refl _), by simp⟩, ((Below.refl w.heap.size w).drew).alloc (Nat.le_refl _) _⟩
theorem step_append_empty {P : Program} (w : World) {ops : Array Oper} {o : Oper} {a : Act} {K : Act → World → Prop} {Q : Exit → Act → World → Prop} {E : Prop} (hgd : o.guard = none) (s x : Operand) (t : TypeId)
    (ho : o.op = .call { callee := .builtin .append, args := #[s, x], argTypes := #[t, t] }) (e : TypeId) (i : TypeInfo) (z : Value) (ht : P.underlying t = some (.slice e)) (hi : P.info? e = some i) (hz : i.zero = some z) (hsize : i.size = 1) (hby : i.bytes = 1) (hzs : z.cells.size = 1)
    (g0 : Nat) (hs : a.eval s = .slice (some ⟨g0, 0, none⟩) 0 0) (hg : w.heap[g0]? = some (.cells #[] e (0, 0))) (ad : Option Addr) (n cap : Nat) (r : List Int) (hx : a.eval x = .slice ad n cap) (hin : InBytes w ad n cap r) (hn : n ≤ 100000)
    (h : ∀ b c w', InBytes w' b n c r → (∀ y, b = some y → (y.block = g0 ∨ w.heap.size ≤ y.block) ∧ y.block < w'.heap.size) → Below w.heap.size w w' → K (a.put o.dst (.slice b n c)) w') : if Region.wanted o (yielded ops a.tmps) = true then Oper.wp P o a w K Q else E := by
  have hw : Region.wanted o (yielded ops a.tmps) = true := by simp [Region.wanted, hgd]
  rw [if_pos hw]
  obtain ⟨b, c, w', hr, h1, h2, h3⟩ := run_append_empty (P := P) w t o.type e i z ht hi hz hsize hby hzs g0 hg ad n cap r hin hn
  unfold Oper.wp execOp
  simp only [ho, resolve, invoke, builtin, Sem.run_bind, Sem.run_pure, Result.andThen_ok, List.map_toArray, List.map_cons, List.map_nil, hs, hx, hr]
  exact h b c w' h1 h2 h3
end Go.Proofs.YtlbiefddcimdgaaDoor
