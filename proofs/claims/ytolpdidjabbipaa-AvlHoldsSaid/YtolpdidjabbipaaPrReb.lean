/- The contract of the program's rebalancing of AVL trees. -/
import Derived.Test.YtolpdidjabbipaaPrAvl
import Derived.Test.YtolpdidjabbipaaRefLevel
namespace Go.Proofs.Ytolpdidjabbipaa
open Go.RowKit
set_option linter.unusedVariables false

/-- A store into a box that lies behind leaves the tree's and the result's box. -/
theorem LX.store {w W W' : World} {h : TH} {a : AT} {g : Nat} {hh : TH} (d : LX w W h a.tr) (hb : Box W 25 g hh) (hg : W.grownBy W' (some g)) (hn : w.heap.size + 1 < g) : LX w W' h a.tr :=
  ⟨d.box.grown hg (fun q => by injection q; omega), d.res.grown hg (fun q => by injection q; omega), AT.outBox hb hg a h d.ti, d.b.grown hg d.b.size (fun j hj => by injection hj; omega)⟩
/-- Four boxes: the tree's, the result's, its kids'; and the tree. -/
structure KX (w W : World) (h hl hr : TH) (t : Tr) (b5 b6 : Nat) : Prop where
  lx : LX w W h t
  b1 : Box W 25 b5 hl
  b2 : Box W 25 b6 hr
  n5 : w.heap.size + 1 < b5
  n6 : w.heap.size + 1 < b6
  ne : b5 ≠ b6
theorem KX.below {w W W' : World} {h hl hr : TH} {t : Tr} {b5 b6 : Nat} (d : KX w W h hl hr t b5 b6) (hb : Below W.heap.size W W') : KX w W' h hl hr t b5 b6 := ⟨d.lx.below hb, d.b1.below hb d.b1.lt, d.b2.below hb d.b2.lt, d.n5, d.n6, d.ne⟩
theorem KX.drew {w W : World} {h hl hr : TH} {t : Tr} {b5 b6 : Nat} (d : KX w W h hl hr t b5 b6) : KX w W.drew h hl hr t b5 b6 := d.below (Below.refl _ _).drew
theorem KX.setL {w W W' : World} {h hl hr hn : TH} {a : AT} {b5 b6 : Nat} (d : KX w W h hl hr a.tr b5 b6) (hx : Box W' 25 b5 hn) (hg : W.grownBy W' (some b5)) : KX w W' h hn hr a.tr b5 b6 :=
  ⟨d.lx.store d.b1 hg d.n5, hx, d.b2.grown hg (fun q => by injection q with q; exact d.ne q.symm), d.n5, d.n6, d.ne⟩
theorem KX.setR {w W W' : World} {h hl hr hn : TH} {a : AT} {b5 b6 : Nat} (d : KX w W h hl hr a.tr b5 b6) (hx : Box W' 25 b6 hn) (hg : W.grownBy W' (some b6)) : KX w W' h hl hn a.tr b5 b6 :=
  ⟨d.lx.store d.b2 hg d.n6, d.b1.grown hg (fun q => by injection q with q; exact d.ne q), hx, d.n5, d.n6, d.ne⟩

theorem prDepthB_any (a : AT) (h : TH) (w : World) (ht : InTree w h a.tr) (hb : a.bal) (hd : a.depth ≤ 1000) : Calls Try.prog 25 #[h.v] w (Says w (.int .i64 a.depth)) := by
  have := prDepth_any a h w ht hd
  rw [AT.dep_bal hb] at this
  exact this

set_option maxRecDepth 100000 in
set_option maxHeartbeats 4000000 in
theorem prReb_any (l : AT) (k v : List Int) (r : AT) (h : TH) (w : World) (ht : InTree w h (AT.node l k v r).tr) (hbl : l.bal) (hbr : r.bal) (hdl : l.depth ≤ 100) (hdr : r.depth ≤ 100) :
    Calls Try.prog 44 #[h.v] w (Tells w (AT.node l k v r).level) := by
  unfold TH.v
  obtain ⟨H, hp⟩ := ht.parts
  have l0 : 0 < (AT.node l k v r).tr.kids.length := by rw [AT.tr_kids]; simp
  have l1 : 1 < (AT.node l k v r).tr.kids.length := by rw [AT.tr_kids]; simp
  have ht1 : (1 : Int) < (h.tn : Int) := by have h2 : h.tn = 2 := hp.len.symm; omega
  have ht0 : 0 < h.tn := by omega
  have HP := Lib.hid hp
  have HBL := Lib.hid (And.intro hbl hbr)
  obtain ⟨g, off, hta, -, -⟩ := hp.place (by omega)
  have HTA := Lib.hid hta
  obtain ⟨e1, e2, e3, e4⟩ := enter2 w h
  clear hp hta hbl hbr
  go_enter Try.func44, Try.ntmps44
  go_upto_region 1 with fail
  generalize ((w.alloc (.cells #[.int .i64 h.k, .slice h.ka h.kn h.kc, .slice h.va h.vn h.vc, .slice h.da h.dn h.dc, .slice h.ta h.tn h.tc] 25)).alloc (.cells #[.int .i64 0, .slice none 0 0, .slice none 0 0, .slice none 0 0, .slice none 0 0] 25)) = w0 at *
  have HX0 : Hid (LX w w0 h (AT.node l k v r).tr) := Lib.hid ⟨e1, e2, ht.lower e3, e3⟩
  clear e1 e2 e3 e4 ht
  go_cut [3, 4] (fun s3 s4 wx => ∃ b5 b6, s3 = .pointer (some ⟨b5, 0, none⟩) ∧ s4 = .pointer (some ⟨b6, 0, none⟩) ∧ KX w wx h (H 0) (H 1) (AT.node l k v r).tr b5 b6)
  case first =>
    refine wp_region_held_drew (S := (fun W => W.cell? ⟨w.heap.size, 4, none⟩ = some (.slice (some ⟨g, off, none⟩) h.tn h.tc) ∧ (W.cell? ⟨g, off, none⟩ = some (.int .i64 (H 0).k) ∧ W.cell? ⟨g, off + 1, none⟩ = some (.slice (H 0).ka (H 0).kn (H 0).kc) ∧ W.cell? ⟨g, off + 2, none⟩ = some (.slice (H 0).va (H 0).vn (H 0).vc) ∧ W.cell? ⟨g, off + 3, none⟩ = some (.slice (H 0).da (H 0).dn (H 0).dc) ∧ W.cell? ⟨g, off + 4, none⟩ = some (.slice (H 0).ta (H 0).tn (H 0).tc)) ∧ W.cell? ⟨g, off + 5, none⟩ = some (.int .i64 (H 1).k) ∧ W.cell? ⟨g, off + 5 + 1, none⟩ = some (.slice (H 1).ka (H 1).kn (H 1).kc) ∧ W.cell? ⟨g, off + 5 + 2, none⟩ = some (.slice (H 1).va (H 1).vn (H 1).vc) ∧ W.cell? ⟨g, off + 5 + 3, none⟩ = some (.slice (H 1).da (H 1).dn (H 1).dc) ∧ W.cell? ⟨g, off + 5 + 4, none⟩ = some (.slice (H 1).ta (H 1).tn (H 1).tc))) (by kernel_rfl) ⟨(HX0.out.drew.box.cells.2.2.2.2).trans (by rw [HTA.out]), (HP.out.below HX0.out.drew.b).kid0 HTA.out (by omega), (HP.out.below HX0.out.drew.b).kid1 HTA.out (by omega)⟩ (fun hHeld => ?_)
    have HY0 := Lib.hid HX0.out.drew
    have HN : Hid (w.heap.size + 1 < w0.drew.heap.size) := Lib.hid HX0.out.drew.res.lt
    generalize w0.drew = wd at *
    have hba : Below wd.heap.size wd (wd.alloc (.cells #[.int .i64 0, .slice none 0 0, .slice none 0 0, .slice none 0 0, .slice none 0 0] 25)) := (Below.refl _ _).alloc (Nat.le_refl _) _
    have HY1 := Lib.hid (HY0.out.below hba)
    have hz1 : Box (wd.alloc (.cells #[.int .i64 0, .slice none 0 0, .slice none 0 0, .slice none 0 0, .slice none 0 0] 25)) 25 wd.heap.size hZ := Box.new wd 25 hZ
    have hs1 : (wd.alloc (.cells #[.int .i64 0, .slice none 0 0, .slice none 0 0, .slice none 0 0, .slice none 0 0] 25)).heap.size = wd.heap.size + 1 := by simp
    have hbb : Below (wd.alloc (.cells #[.int .i64 0, .slice none 0 0, .slice none 0 0, .slice none 0 0, .slice none 0 0] 25)).heap.size (wd.alloc (.cells #[.int .i64 0, .slice none 0 0, .slice none 0 0, .slice none 0 0, .slice none 0 0] 25)) ((wd.alloc (.cells #[.int .i64 0, .slice none 0 0, .slice none 0 0, .slice none 0 0, .slice none 0 0] 25)).alloc (.cells #[.int .i64 0, .slice none 0 0, .slice none 0 0, .slice none 0 0, .slice none 0 0] 25)) := (Below.refl _ _).alloc (Nat.le_refl _) _
    have HY2 := Lib.hid (HY1.out.below hbb)
    have hz2 : Box ((wd.alloc (.cells #[.int .i64 0, .slice none 0 0, .slice none 0 0, .slice none 0 0, .slice none 0 0] 25)).alloc (.cells #[.int .i64 0, .slice none 0 0, .slice none 0 0, .slice none 0 0, .slice none 0 0] 25)) 25 (wd.alloc (.cells #[.int .i64 0, .slice none 0 0, .slice none 0 0, .slice none 0 0, .slice none 0 0] 25)).heap.size hZ := Box.new (wd.alloc (.cells #[.int .i64 0, .slice none 0 0, .slice none 0 0, .slice none 0 0, .slice none 0 0] 25)) 25 hZ
    rw [hs1] at hz2
    have HZ1 := Lib.hid (hz1.below hbb hz1.lt)
    have HZ2 := Lib.hid hz2
    clear hba hz1 hs1 hbb hz2
    refine take_w (i := 0) (oi := ?oZ1) (v := ?vZ1) ?hiZ1 (by kernel_rfl) (by kernel_rfl) (by kernel_rfl) ?hQZ1 ?hwZ1 ?hyZ1 (by assumption) ?restZ1
    case hiZ1 => (simp only [List.getElem?_toArray, List.getElem?_cons_zero] <;> rfl)
    case hQZ1 => exact (fun _ _ _ h => h)
    case hwZ1 => rfl
    case hyZ1 => (intro w hSw; (try dsimp only at hSw); go_simp; try with_reducible rfl)
    (try simp only [Act.put, List.setIfInBounds_toArray, List.set_cons_zero, List.set_cons_succ])
    refine take_w (i := 1) (oi := ?oZ2) (v := ?vZ2) ?hiZ2 (by kernel_rfl) (by kernel_rfl) (by kernel_rfl) ?hQZ2 ?hwZ2 ?hyZ2 (by assumption) ?restZ2
    case hiZ2 => (simp only [List.getElem?_toArray, List.getElem?_cons_succ, List.getElem?_cons_zero] <;> rfl)
    case hQZ2 => exact (fun _ _ _ h => h)
    case hwZ2 => rfl
    case hyZ2 => (intro w hSw; (try dsimp only at hSw); go_simp; try with_reducible rfl)
    (try simp only [Act.put, List.setIfInBounds_toArray, List.set_cons_zero, List.set_cons_succ])
    refine take_w (i := 2) (oi := ?oZ3) (v := ?vZ3) ?hiZ3 (by kernel_rfl) (by kernel_rfl) (by kernel_rfl) ?hQZ3 ?hwZ3 ?hyZ3 (by assumption) ?restZ3
    case hiZ3 => (simp only [List.getElem?_toArray, List.getElem?_cons_succ, List.getElem?_cons_zero] <;> rfl)
    case hQZ3 => exact (fun _ _ _ h => h)
    case hwZ3 => rfl
    case hyZ3 => (intro w hSw; (try dsimp only at hSw); go_simp; try with_reducible rfl)
    (try simp only [Act.put, List.setIfInBounds_toArray, List.set_cons_zero, List.set_cons_succ])
    refine take_w (i := 3) (oi := ?oZ4) (v := ?vZ4) ?hiZ4 (by kernel_rfl) (by kernel_rfl) (by kernel_rfl) ?hQZ4 ?hwZ4 ?hyZ4 (by assumption) ?restZ4
    case hiZ4 => (simp only [List.getElem?_toArray, List.getElem?_cons_succ, List.getElem?_cons_zero] <;> rfl)
    case hQZ4 => exact (fun _ _ _ h => h)
    case hwZ4 => rfl
    case hyZ4 => (intro w hSw; (try dsimp only at hSw); go_simp; try with_reducible rfl)
    (try simp only [Act.put, List.setIfInBounds_toArray, List.set_cons_zero, List.set_cons_succ])
    refine take_w (i := 4) (oi := ?oZ5) (v := ?vZ5) ?hiZ5 (by kernel_rfl) (by kernel_rfl) (by kernel_rfl) ?hQZ5 ?hwZ5 ?hyZ5 (by assumption) ?restZ5
    case hiZ5 => (simp only [List.getElem?_toArray, List.getElem?_cons_succ, List.getElem?_cons_zero] <;> rfl)
    case hQZ5 => exact (fun _ _ _ h => h)
    case hwZ5 => rfl
    case hyZ5 => (intro w hSw; (try dsimp only at hSw); go_simp; try with_reducible rfl)
    (try simp only [Act.put, List.setIfInBounds_toArray, List.set_cons_zero, List.set_cons_succ])
    refine take_w (i := 5) (oi := ?oZ6) (v := ?vZ6) ?hiZ6 (by kernel_rfl) (by kernel_rfl) (by kernel_rfl) ?hQZ6 ?hwZ6 ?hyZ6 (by assumption) ?restZ6
    case hiZ6 => (simp only [List.getElem?_toArray, List.getElem?_cons_succ, List.getElem?_cons_zero] <;> rfl)
    case hQZ6 => exact (fun _ _ _ h => h)
    case hwZ6 => rfl
    case hyZ6 => (intro w hSw; (try dsimp only at hSw); go_simp; try with_reducible rfl)
    (try simp only [Act.put, List.setIfInBounds_toArray, List.set_cons_zero, List.set_cons_succ])
    refine take_w (i := 6) (oi := ?oZ7) (v := ?vZ7) ?hiZ7 (by kernel_rfl) (by kernel_rfl) (by kernel_rfl) ?hQZ7 ?hwZ7 ?hyZ7 (by assumption) ?restZ7
    case hiZ7 => (simp only [List.getElem?_toArray, List.getElem?_cons_succ, List.getElem?_cons_zero] <;> rfl)
    case hQZ7 => exact (fun _ _ _ h => h)
    case hwZ7 => rfl
    case hyZ7 => (intro w hSw; (try dsimp only at hSw); go_simp; try with_reducible rfl)
    (try simp only [Act.put, List.setIfInBounds_toArray, List.set_cons_zero, List.set_cons_succ])
    refine take_w (i := 7) (oi := ?oZ8) (v := ?vZ8) ?hiZ8 (by kernel_rfl) (by kernel_rfl) (by kernel_rfl) ?hQZ8 ?hwZ8 ?hyZ8 (by assumption) ?restZ8
    case hiZ8 => (simp only [List.getElem?_toArray, List.getElem?_cons_succ, List.getElem?_cons_zero] <;> rfl)
    case hQZ8 => exact (fun _ _ _ h => h)
    case hwZ8 => rfl
    case hyZ8 => (intro w hSw; (try dsimp only at hSw); go_simp; try with_reducible rfl)
    (try simp only [Act.put, List.setIfInBounds_toArray, List.set_cons_zero, List.set_cons_succ])
    refine wpAnyH_ready (rs := [8, 9]) (by kernel_rfl) (by simp) ?_
    refine AllReadyH.cons (o := ?oZ9) ?hiZ9 (fun K hK => ?stZ9) (AllReadyH.cons (o := ?oZ10) ?hiZ10 (fun K hK => ?stZ10) AllReadyH.nil)
    case hiZ9 => (simp only [List.getElem?_toArray, List.getElem?_cons_succ, List.getElem?_cons_zero] <;> rfl)
    case hiZ10 => (simp only [List.getElem?_toArray, List.getElem?_cons_succ, List.getElem?_cons_zero] <;> rfl)
    case stZ9 =>
      go_simp
      refine hK.out _ _ ?_ (fun hHeld => ?_)
      · (first | exact ⟨(HY4.out.box.cells.2.2.2.2).trans (by rw [HTA.out]), (HP.out.below HY4.out.b).kid0 HTA.out (by omega), (HP.out.below HY4.out.b).kid1 HTA.out (by omega)⟩ | exact ⟨(HY3.out.box.cells.2.2.2.2).trans (by rw [HTA.out]), (HP.out.below HY3.out.b).kid0 HTA.out (by omega), (HP.out.below HY3.out.b).kid1 HTA.out (by omega)⟩ | exact ⟨(HY2.out.box.cells.2.2.2.2).trans (by rw [HTA.out]), (HP.out.below HY2.out.b).kid0 HTA.out (by omega), (HP.out.below HY2.out.b).kid1 HTA.out (by omega)⟩ | exact ⟨(HY1.out.box.cells.2.2.2.2).trans (by rw [HTA.out]), (HP.out.below HY1.out.b).kid0 HTA.out (by omega), (HP.out.below HY1.out.b).kid1 HTA.out (by omega)⟩ | exact ⟨(HY0.out.box.cells.2.2.2.2).trans (by rw [HTA.out]), (HP.out.below HY0.out.b).kid0 HTA.out (by omega), (HP.out.below HY0.out.b).kid1 HTA.out (by omega)⟩)
      clear hK K
      (try simp only [Act.put, List.setIfInBounds_toArray, List.set_cons_zero, List.set_cons_succ])
      refine wpAnyH_ready (rs := [9]) (by kernel_rfl) (by simp) ?_
      refine AllReadyH.cons (o := ?oZ11) ?hiZ11 (fun K hK => ?stZ11) AllReadyH.nil
      case hiZ11 => (simp only [List.getElem?_toArray, List.getElem?_cons_succ, List.getElem?_cons_zero] <;> rfl)
      go_simp
      refine hK.out _ _ ?_ (fun hHeld => ?_)
      · (first | exact ⟨(HY4.out.box.cells.2.2.2.2).trans (by rw [HTA.out]), (HP.out.below HY4.out.b).kid0 HTA.out (by omega), (HP.out.below HY4.out.b).kid1 HTA.out (by omega)⟩ | exact ⟨(HY3.out.box.cells.2.2.2.2).trans (by rw [HTA.out]), (HP.out.below HY3.out.b).kid0 HTA.out (by omega), (HP.out.below HY3.out.b).kid1 HTA.out (by omega)⟩ | exact ⟨(HY2.out.box.cells.2.2.2.2).trans (by rw [HTA.out]), (HP.out.below HY2.out.b).kid0 HTA.out (by omega), (HP.out.below HY2.out.b).kid1 HTA.out (by omega)⟩ | exact ⟨(HY1.out.box.cells.2.2.2.2).trans (by rw [HTA.out]), (HP.out.below HY1.out.b).kid0 HTA.out (by omega), (HP.out.below HY1.out.b).kid1 HTA.out (by omega)⟩ | exact ⟨(HY0.out.box.cells.2.2.2.2).trans (by rw [HTA.out]), (HP.out.below HY0.out.b).kid0 HTA.out (by omega), (HP.out.below HY0.out.b).kid1 HTA.out (by omega)⟩)
      clear hK K
      (try simp only [Act.put, List.setIfInBounds_toArray, List.set_cons_zero, List.set_cons_succ])
      refine wpAnyH_ready (rs := [10]) (by kernel_rfl) (by simp) ?_
      refine AllReadyH.cons (o := ?oZ12) ?hiZ12 (fun K hK => ?stZ12) AllReadyH.nil
      case hiZ12 => (simp only [List.getElem?_toArray, List.getElem?_cons_succ, List.getElem?_cons_zero] <;> rfl)
      refine step_store_box rfl 25 (.tmp 3) (.tmp 8) rfl wd.heap.size hZ (H 0) rfl rfl 25 HZ1.out infoTree5 ?_
      intro w3 hbx3 hg3
      have HY3 : Hid (LX w w3 h (AT.node l k v r).tr) := Lib.hid (LX.store HY2.out HZ1.out hg3 (by have := HN.out; omega))
      have HB3 := Lib.hid hbx3
      have HC3 := Lib.hid ((HZ2.out).grown hg3 (fun q => by injection q; omega))
      clear hbx3 hg3
      refine hK.out _ _ ?_ (fun hHeld => ?_)
      · (first | exact ⟨(HY4.out.box.cells.2.2.2.2).trans (by rw [HTA.out]), (HP.out.below HY4.out.b).kid0 HTA.out (by omega), (HP.out.below HY4.out.b).kid1 HTA.out (by omega)⟩ | exact ⟨(HY3.out.box.cells.2.2.2.2).trans (by rw [HTA.out]), (HP.out.below HY3.out.b).kid0 HTA.out (by omega), (HP.out.below HY3.out.b).kid1 HTA.out (by omega)⟩ | exact ⟨(HY2.out.box.cells.2.2.2.2).trans (by rw [HTA.out]), (HP.out.below HY2.out.b).kid0 HTA.out (by omega), (HP.out.below HY2.out.b).kid1 HTA.out (by omega)⟩ | exact ⟨(HY1.out.box.cells.2.2.2.2).trans (by rw [HTA.out]), (HP.out.below HY1.out.b).kid0 HTA.out (by omega), (HP.out.below HY1.out.b).kid1 HTA.out (by omega)⟩ | exact ⟨(HY0.out.box.cells.2.2.2.2).trans (by rw [HTA.out]), (HP.out.below HY0.out.b).kid0 HTA.out (by omega), (HP.out.below HY0.out.b).kid1 HTA.out (by omega)⟩)
      clear hK K
      (try simp only [Act.put])
      refine wpAnyH_ready (rs := [11]) (by kernel_rfl) (by simp) ?_
      refine AllReadyH.cons (o := ?oZ13) ?hiZ13 (fun K hK => ?stZ13) AllReadyH.nil
      case hiZ13 => (simp only [List.getElem?_toArray, List.getElem?_cons_succ, List.getElem?_cons_zero] <;> rfl)
      refine step_store_box rfl 25 (.tmp 4) (.tmp 12) rfl (wd.heap.size + 1) hZ (H 1) rfl rfl 25 HC3.out infoTree5 ?_
      intro w4 hbx4 hg4
      have HY4 : Hid (LX w w4 h (AT.node l k v r).tr) := Lib.hid (LX.store HY3.out HC3.out hg4 (by have := HN.out; omega))
      have HB4 := Lib.hid hbx4
      have HA4 := Lib.hid (HB3.out.grown hg4 (fun q => by injection q; omega))
      clear hbx4 hg4
      refine hK.out _ _ ?_ (fun hHeld => ?_)
      · (first | exact ⟨(HY4.out.box.cells.2.2.2.2).trans (by rw [HTA.out]), (HP.out.below HY4.out.b).kid0 HTA.out (by omega), (HP.out.below HY4.out.b).kid1 HTA.out (by omega)⟩ | exact ⟨(HY3.out.box.cells.2.2.2.2).trans (by rw [HTA.out]), (HP.out.below HY3.out.b).kid0 HTA.out (by omega), (HP.out.below HY3.out.b).kid1 HTA.out (by omega)⟩ | exact ⟨(HY2.out.box.cells.2.2.2.2).trans (by rw [HTA.out]), (HP.out.below HY2.out.b).kid0 HTA.out (by omega), (HP.out.below HY2.out.b).kid1 HTA.out (by omega)⟩ | exact ⟨(HY1.out.box.cells.2.2.2.2).trans (by rw [HTA.out]), (HP.out.below HY1.out.b).kid0 HTA.out (by omega), (HP.out.below HY1.out.b).kid1 HTA.out (by omega)⟩ | exact ⟨(HY0.out.box.cells.2.2.2.2).trans (by rw [HTA.out]), (HP.out.below HY0.out.b).kid0 HTA.out (by omega), (HP.out.below HY0.out.b).kid1 HTA.out (by omega)⟩)
      clear hK K
      (try simp only [Act.put])
      refine wpAnyH_done (by kernel_rfl) ?_ _
      clear hHeld
      go_wp2_with fail
      go_meet
      exact ⟨wd.heap.size, (wd.heap.size + 1), rfl, rfl, ⟨HY4.out, HA4.out, HB4.out, by have := HN.out; omega, by have := HN.out; omega, by omega⟩⟩
    case stZ10 =>
      go_simp
      refine hK.out _ _ ?_ (fun hHeld => ?_)
      · (first | exact ⟨(HY4.out.box.cells.2.2.2.2).trans (by rw [HTA.out]), (HP.out.below HY4.out.b).kid0 HTA.out (by omega), (HP.out.below HY4.out.b).kid1 HTA.out (by omega)⟩ | exact ⟨(HY3.out.box.cells.2.2.2.2).trans (by rw [HTA.out]), (HP.out.below HY3.out.b).kid0 HTA.out (by omega), (HP.out.below HY3.out.b).kid1 HTA.out (by omega)⟩ | exact ⟨(HY2.out.box.cells.2.2.2.2).trans (by rw [HTA.out]), (HP.out.below HY2.out.b).kid0 HTA.out (by omega), (HP.out.below HY2.out.b).kid1 HTA.out (by omega)⟩ | exact ⟨(HY1.out.box.cells.2.2.2.2).trans (by rw [HTA.out]), (HP.out.below HY1.out.b).kid0 HTA.out (by omega), (HP.out.below HY1.out.b).kid1 HTA.out (by omega)⟩ | exact ⟨(HY0.out.box.cells.2.2.2.2).trans (by rw [HTA.out]), (HP.out.below HY0.out.b).kid0 HTA.out (by omega), (HP.out.below HY0.out.b).kid1 HTA.out (by omega)⟩)
      clear hK K
      (try simp only [Act.put, List.setIfInBounds_toArray, List.set_cons_zero, List.set_cons_succ])
      refine wpAnyH_ready (rs := [8]) (by kernel_rfl) (by simp) ?_
      refine AllReadyH.cons (o := ?oZ14) ?hiZ14 (fun K hK => ?stZ14) AllReadyH.nil
      case hiZ14 => (simp only [List.getElem?_toArray, List.getElem?_cons_succ, List.getElem?_cons_zero] <;> rfl)
      go_simp
      refine hK.out _ _ ?_ (fun hHeld => ?_)
      · (first | exact ⟨(HY4.out.box.cells.2.2.2.2).trans (by rw [HTA.out]), (HP.out.below HY4.out.b).kid0 HTA.out (by omega), (HP.out.below HY4.out.b).kid1 HTA.out (by omega)⟩ | exact ⟨(HY3.out.box.cells.2.2.2.2).trans (by rw [HTA.out]), (HP.out.below HY3.out.b).kid0 HTA.out (by omega), (HP.out.below HY3.out.b).kid1 HTA.out (by omega)⟩ | exact ⟨(HY2.out.box.cells.2.2.2.2).trans (by rw [HTA.out]), (HP.out.below HY2.out.b).kid0 HTA.out (by omega), (HP.out.below HY2.out.b).kid1 HTA.out (by omega)⟩ | exact ⟨(HY1.out.box.cells.2.2.2.2).trans (by rw [HTA.out]), (HP.out.below HY1.out.b).kid0 HTA.out (by omega), (HP.out.below HY1.out.b).kid1 HTA.out (by omega)⟩ | exact ⟨(HY0.out.box.cells.2.2.2.2).trans (by rw [HTA.out]), (HP.out.below HY0.out.b).kid0 HTA.out (by omega), (HP.out.below HY0.out.b).kid1 HTA.out (by omega)⟩)
      clear hK K
      (try simp only [Act.put, List.setIfInBounds_toArray, List.set_cons_zero, List.set_cons_succ])
      refine wpAnyH_ready (rs := [10]) (by kernel_rfl) (by simp) ?_
      refine AllReadyH.cons (o := ?oZ15) ?hiZ15 (fun K hK => ?stZ15) AllReadyH.nil
      case hiZ15 => (simp only [List.getElem?_toArray, List.getElem?_cons_succ, List.getElem?_cons_zero] <;> rfl)
      refine step_store_box rfl 25 (.tmp 3) (.tmp 8) rfl (wd.heap.size + 1) hZ (H 0) rfl rfl 25 HZ2.out infoTree5 ?_
      intro w3 hbx3 hg3
      have HY3 : Hid (LX w w3 h (AT.node l k v r).tr) := Lib.hid (LX.store HY2.out HZ2.out hg3 (by have := HN.out; omega))
      have HB3 := Lib.hid hbx3
      have HC3 := Lib.hid ((HZ1.out).grown hg3 (fun q => by injection q; omega))
      clear hbx3 hg3
      refine hK.out _ _ ?_ (fun hHeld => ?_)
      · (first | exact ⟨(HY4.out.box.cells.2.2.2.2).trans (by rw [HTA.out]), (HP.out.below HY4.out.b).kid0 HTA.out (by omega), (HP.out.below HY4.out.b).kid1 HTA.out (by omega)⟩ | exact ⟨(HY3.out.box.cells.2.2.2.2).trans (by rw [HTA.out]), (HP.out.below HY3.out.b).kid0 HTA.out (by omega), (HP.out.below HY3.out.b).kid1 HTA.out (by omega)⟩ | exact ⟨(HY2.out.box.cells.2.2.2.2).trans (by rw [HTA.out]), (HP.out.below HY2.out.b).kid0 HTA.out (by omega), (HP.out.below HY2.out.b).kid1 HTA.out (by omega)⟩ | exact ⟨(HY1.out.box.cells.2.2.2.2).trans (by rw [HTA.out]), (HP.out.below HY1.out.b).kid0 HTA.out (by omega), (HP.out.below HY1.out.b).kid1 HTA.out (by omega)⟩ | exact ⟨(HY0.out.box.cells.2.2.2.2).trans (by rw [HTA.out]), (HP.out.below HY0.out.b).kid0 HTA.out (by omega), (HP.out.below HY0.out.b).kid1 HTA.out (by omega)⟩)
      clear hK K
      (try simp only [Act.put])
      refine wpAnyH_ready (rs := [11]) (by kernel_rfl) (by simp) ?_
      refine AllReadyH.cons (o := ?oZ16) ?hiZ16 (fun K hK => ?stZ16) AllReadyH.nil
      case hiZ16 => (simp only [List.getElem?_toArray, List.getElem?_cons_succ, List.getElem?_cons_zero] <;> rfl)
      refine step_store_box rfl 25 (.tmp 4) (.tmp 12) rfl wd.heap.size hZ (H 1) rfl rfl 25 HC3.out infoTree5 ?_
      intro w4 hbx4 hg4
      have HY4 : Hid (LX w w4 h (AT.node l k v r).tr) := Lib.hid (LX.store HY3.out HC3.out hg4 (by have := HN.out; omega))
      have HB4 := Lib.hid hbx4
      have HA4 := Lib.hid (HB3.out.grown hg4 (fun q => by injection q; omega))
      clear hbx4 hg4
      refine hK.out _ _ ?_ (fun hHeld => ?_)
      · (first | exact ⟨(HY4.out.box.cells.2.2.2.2).trans (by rw [HTA.out]), (HP.out.below HY4.out.b).kid0 HTA.out (by omega), (HP.out.below HY4.out.b).kid1 HTA.out (by omega)⟩ | exact ⟨(HY3.out.box.cells.2.2.2.2).trans (by rw [HTA.out]), (HP.out.below HY3.out.b).kid0 HTA.out (by omega), (HP.out.below HY3.out.b).kid1 HTA.out (by omega)⟩ | exact ⟨(HY2.out.box.cells.2.2.2.2).trans (by rw [HTA.out]), (HP.out.below HY2.out.b).kid0 HTA.out (by omega), (HP.out.below HY2.out.b).kid1 HTA.out (by omega)⟩ | exact ⟨(HY1.out.box.cells.2.2.2.2).trans (by rw [HTA.out]), (HP.out.below HY1.out.b).kid0 HTA.out (by omega), (HP.out.below HY1.out.b).kid1 HTA.out (by omega)⟩ | exact ⟨(HY0.out.box.cells.2.2.2.2).trans (by rw [HTA.out]), (HP.out.below HY0.out.b).kid0 HTA.out (by omega), (HP.out.below HY0.out.b).kid1 HTA.out (by omega)⟩)
      clear hK K
      (try simp only [Act.put])
      refine wpAnyH_done (by kernel_rfl) ?_ _
      clear hHeld
      go_wp2_with fail
      go_meet
      exact ⟨(wd.heap.size + 1), wd.heap.size, rfl, rfl, ⟨HY4.out, HA4.out, HB4.out, by have := HN.out; omega, by have := HN.out; omega, by omega⟩⟩
  obtain ⟨b5, b6, rfl, rfl, hkx⟩ := hcut
  have HX1 := Lib.hid hkx
  clear hkx HX0
  have hlv := AT.level_node l k v r
  have HLV0 := Lib.hid hlv
  clear hlv
  go_upto_region 2 with fail
  refine wp_region_held_drew (S := (fun W => (W.cell? ⟨b5, 0, none⟩ = some (.int .i64 (H 0).k) ∧ W.cell? ⟨b5, 1, none⟩ = some (.slice (H 0).ka (H 0).kn (H 0).kc) ∧ W.cell? ⟨b5, 2, none⟩ = some (.slice (H 0).va (H 0).vn (H 0).vc) ∧ W.cell? ⟨b5, 3, none⟩ = some (.slice (H 0).da (H 0).dn (H 0).dc) ∧ W.cell? ⟨b5, 4, none⟩ = some (.slice (H 0).ta (H 0).tn (H 0).tc)) ∧ W.cell? ⟨b6, 0, none⟩ = some (.int .i64 (H 1).k) ∧ W.cell? ⟨b6, 1, none⟩ = some (.slice (H 1).ka (H 1).kn (H 1).kc) ∧ W.cell? ⟨b6, 2, none⟩ = some (.slice (H 1).va (H 1).vn (H 1).vc) ∧ W.cell? ⟨b6, 3, none⟩ = some (.slice (H 1).da (H 1).dn (H 1).dc) ∧ W.cell? ⟨b6, 4, none⟩ = some (.slice (H 1).ta (H 1).tn (H 1).tc))) (by kernel_rfl) ⟨HX1.out.drew.b1.cells, HX1.out.drew.b2.cells⟩ (fun hHeld => ?_)
  refine take_w (i := 0) (oi := ?oZ17) (v := ?vZ17) ?hiZ17 (by kernel_rfl) (by kernel_rfl) (by kernel_rfl) ?hQZ17 ?hwZ17 ?hyZ17 (by assumption) ?restZ17
  case hiZ17 => (simp only [List.getElem?_toArray, List.getElem?_cons_zero] <;> rfl)
  case hQZ17 => exact (fun _ _ _ h => h)
  case hwZ17 => rfl
  case hyZ17 => (intro w hSw; (try dsimp only at hSw); go_simp; try with_reducible rfl)
  (try simp only [Act.put, List.setIfInBounds_toArray, List.set_cons_zero, List.set_cons_succ])
  refine take_w (i := 2) (oi := ?oZ18) (v := ?vZ18) ?hiZ18 (by kernel_rfl) (by kernel_rfl) (by kernel_rfl) ?hQZ18 ?hwZ18 ?hyZ18 (by assumption) ?restZ18
  case hiZ18 => (simp only [List.getElem?_toArray, List.getElem?_cons_succ, List.getElem?_cons_zero] <;> rfl)
  case hQZ18 => exact (fun _ _ _ h => h)
  case hwZ18 => rfl
  case hyZ18 => (intro w hSw; (try dsimp only at hSw); go_simp; try with_reducible rfl)
  (try simp only [Act.put, List.setIfInBounds_toArray, List.set_cons_zero, List.set_cons_succ])
  refine wpAnyH_ready (rs := [1]) (by kernel_rfl) (by simp) ?_
  refine AllReadyH.cons (o := ?oZ19) ?hiZ19 (fun K hK => ?stZ19) AllReadyH.nil
  case hiZ19 => (simp only [List.getElem?_toArray, List.getElem?_cons_succ, List.getElem?_cons_zero] <;> rfl)
  go_simp
  go_at_call 25
  refine (prDepthB_any l (H 0) _ ((HP.out.below HX1.out.drew.lx.b).kids 0 l0) HBL.out.1 (by omega)).mono ?_
  rintro _ w2 ⟨rfl, hb2⟩
  have HX2 := Lib.hid (HX1.out.drew.below hb2)
  clear hb2
  go_simp
  refine hK.out _ _ ?_ (fun hHeld => ?_)
  · (first | exact ⟨HX3.out.b1.cells, HX3.out.b2.cells⟩ | exact ⟨HX2.out.b1.cells, HX2.out.b2.cells⟩ | exact ⟨HX1.out.drew.b1.cells, HX1.out.drew.b2.cells⟩)
  clear hK K
  (try simp only [Act.put, List.setIfInBounds_toArray, List.set_cons_zero, List.set_cons_succ])
  refine wpAnyH_ready (rs := [3]) (by kernel_rfl) (by simp) ?_
  refine AllReadyH.cons (o := ?oZ20) ?hiZ20 (fun K hK => ?stZ20) AllReadyH.nil
  case hiZ20 => (simp only [List.getElem?_toArray, List.getElem?_cons_succ, List.getElem?_cons_zero] <;> rfl)
  go_simp
  go_at_call 25
  refine (prDepthB_any r (H 1) _ ((HP.out.below HX2.out.lx.b).kids 1 l1) HBL.out.2 (by omega)).mono ?_
  rintro _ w3 ⟨rfl, hb3⟩
  have HX3 := Lib.hid (HX2.out.below hb3)
  clear hb3
  go_simp
  refine hK.out _ _ ?_ (fun hHeld => ?_)
  · (first | exact ⟨HX3.out.b1.cells, HX3.out.b2.cells⟩ | exact ⟨HX2.out.b1.cells, HX2.out.b2.cells⟩ | exact ⟨HX1.out.drew.b1.cells, HX1.out.drew.b2.cells⟩)
  clear hK K
  (try simp only [Act.put, List.setIfInBounds_toArray, List.set_cons_zero, List.set_cons_succ])
  refine take_w (i := 4) (oi := ?oZ21) (v := ?vZ21) ?hiZ21 (by kernel_rfl) (by kernel_rfl) (by kernel_rfl) ?hQZ21 ?hwZ21 ?hyZ21 (by assumption) ?restZ21
  case hiZ21 => (simp only [List.getElem?_toArray, List.getElem?_cons_succ, List.getElem?_cons_zero] <;> rfl)
  case hQZ21 => exact (fun _ _ _ h => h)
  case hwZ21 => rfl
  case hyZ21 => (intro w hSw; (try dsimp only at hSw); go_simp; try with_reducible rfl)
  (try simp only [Act.put, List.setIfInBounds_toArray, List.set_cons_zero, List.set_cons_succ])
  refine wpAnyH_done (by kernel_rfl) ?_ _
  clear hHeld
  have hx0 : -100 ≤ (l.depth : Int) - (r.depth : Int) ∧ (l.depth : Int) - (r.depth : Int) ≤ 100 := by omega
  generalize hx : (l.depth : Int) - (r.depth : Int) = x at hx0 ⊢
  have HXX := Lib.hid hx
  clear hx
  go_upto_if 18 with fail
  by_cases c1 : x = 2
  · subst c1
    cases l with
    | nil => exact absurd HXX.out (by simp [AT.depth]; omega)
    | node ll lk lv lr =>
      have m0 : 0 < (AT.node ll lk lv lr).tr.kids.length := by rw [AT.tr_kids]; simp
      have m1 : 1 < (AT.node ll lk lv lr).tr.kids.length := by rw [AT.tr_kids]; simp
      have hkt : InTree w (H 0) (AT.node ll lk lv lr).tr := HP.out.kids 0 l0
      obtain ⟨HH, hq⟩ := hkt.parts
      have hs1 : (1 : Int) < ((H 0).tn : Int) := by have h2 : (H 0).tn = 2 := hq.len.symm; omega
      have hs0 : 0 < (H 0).tn := by omega
      obtain ⟨g', off', htk, -, -⟩ := hq.place (by omega)
      have HQ := Lib.hid hq
      have HTK := Lib.hid htk
      have hbk := HBL.out.1
      have HBK : Hid (ll.bal ∧ lr.bal) := Lib.hid ⟨hbk.1, hbk.2.1⟩
      clear hkt hq htk hbk
      simp only [AT.depth] at hdl
      go_upto_region 4 with fail
      refine wp_region_held_drew (S := (fun W => W.cell? ⟨b5, 4, none⟩ = some (.slice (some ⟨g', off', none⟩) (H 0).tn (H 0).tc) ∧ (W.cell? ⟨g', off', none⟩ = some (.int .i64 (HH 0).k) ∧ W.cell? ⟨g', off' + 1, none⟩ = some (.slice (HH 0).ka (HH 0).kn (HH 0).kc) ∧ W.cell? ⟨g', off' + 2, none⟩ = some (.slice (HH 0).va (HH 0).vn (HH 0).vc) ∧ W.cell? ⟨g', off' + 3, none⟩ = some (.slice (HH 0).da (HH 0).dn (HH 0).dc) ∧ W.cell? ⟨g', off' + 4, none⟩ = some (.slice (HH 0).ta (HH 0).tn (HH 0).tc)) ∧ W.cell? ⟨g', off' + 5, none⟩ = some (.int .i64 (HH 1).k) ∧ W.cell? ⟨g', off' + 5 + 1, none⟩ = some (.slice (HH 1).ka (HH 1).kn (HH 1).kc) ∧ W.cell? ⟨g', off' + 5 + 2, none⟩ = some (.slice (HH 1).va (HH 1).vn (HH 1).vc) ∧ W.cell? ⟨g', off' + 5 + 3, none⟩ = some (.slice (HH 1).da (HH 1).dn (HH 1).dc) ∧ W.cell? ⟨g', off' + 5 + 4, none⟩ = some (.slice (HH 1).ta (HH 1).tn (HH 1).tc))) (by kernel_rfl) ⟨(HX3.out.drew.b1.cells.2.2.2.2).trans (by rw [HTK.out]), (HQ.out.below HX3.out.drew.lx.b).kid0 HTK.out (by omega), (HQ.out.below HX3.out.drew.lx.b).kid1 HTK.out (by omega)⟩ (fun hHeld => ?_)
      refine take_w (i := 0) (oi := ?oZ22) (v := ?vZ22) ?hiZ22 (by kernel_rfl) (by kernel_rfl) (by kernel_rfl) ?hQZ22 ?hwZ22 ?hyZ22 (by assumption) ?restZ22
      case hiZ22 => (simp only [List.getElem?_toArray, List.getElem?_cons_zero] <;> rfl)
      case hQZ22 => exact (fun _ _ _ h => h)
      case hwZ22 => rfl
      case hyZ22 => (intro w hSw; (try dsimp only at hSw); go_simp; try with_reducible rfl)
      (try simp only [Act.put, List.setIfInBounds_toArray, List.set_cons_zero, List.set_cons_succ])
      refine take_w (i := 1) (oi := ?oZ23) (v := ?vZ23) ?hiZ23 (by kernel_rfl) (by kernel_rfl) (by kernel_rfl) ?hQZ23 ?hwZ23 ?hyZ23 (by assumption) ?restZ23
      case hiZ23 => (simp only [List.getElem?_toArray, List.getElem?_cons_succ, List.getElem?_cons_zero] <;> rfl)
      case hQZ23 => exact (fun _ _ _ h => h)
      case hwZ23 => rfl
      case hyZ23 => (intro w hSw; (try dsimp only at hSw); go_simp; try with_reducible rfl)
      (try simp only [Act.put, List.setIfInBounds_toArray, List.set_cons_zero, List.set_cons_succ])
      refine take_w (i := 2) (oi := ?oZ24) (v := ?vZ24) ?hiZ24 (by kernel_rfl) (by kernel_rfl) (by kernel_rfl) ?hQZ24 ?hwZ24 ?hyZ24 (by assumption) ?restZ24
      case hiZ24 => (simp only [List.getElem?_toArray, List.getElem?_cons_succ, List.getElem?_cons_zero] <;> rfl)
      case hQZ24 => exact (fun _ _ _ h => h)
      case hwZ24 => rfl
      case hyZ24 => (intro w hSw; (try dsimp only at hSw); go_simp; try with_reducible rfl)
      (try simp only [Act.put, List.setIfInBounds_toArray, List.set_cons_zero, List.set_cons_succ])
      refine take_w (i := 3) (oi := ?oZ25) (v := ?vZ25) ?hiZ25 (by kernel_rfl) (by kernel_rfl) (by kernel_rfl) ?hQZ25 ?hwZ25 ?hyZ25 (by assumption) ?restZ25
      case hiZ25 => (simp only [List.getElem?_toArray, List.getElem?_cons_succ, List.getElem?_cons_zero] <;> rfl)
      case hQZ25 => exact (fun _ _ _ h => h)
      case hwZ25 => rfl
      case hyZ25 => (intro w hSw; (try dsimp only at hSw); go_simp; try with_reducible rfl)
      (try simp only [Act.put, List.setIfInBounds_toArray, List.set_cons_zero, List.set_cons_succ])
      refine take_w (i := 5) (oi := ?oZ26) (v := ?vZ26) ?hiZ26 (by kernel_rfl) (by kernel_rfl) (by kernel_rfl) ?hQZ26 ?hwZ26 ?hyZ26 (by assumption) ?restZ26
      case hiZ26 => (simp only [List.getElem?_toArray, List.getElem?_cons_succ, List.getElem?_cons_zero] <;> rfl)
      case hQZ26 => exact (fun _ _ _ h => h)
      case hwZ26 => rfl
      case hyZ26 => (intro w hSw; (try dsimp only at hSw); go_simp; try with_reducible rfl)
      (try simp only [Act.put, List.setIfInBounds_toArray, List.set_cons_zero, List.set_cons_succ])
      refine take_w (i := 6) (oi := ?oZ27) (v := ?vZ27) ?hiZ27 (by kernel_rfl) (by kernel_rfl) (by kernel_rfl) ?hQZ27 ?hwZ27 ?hyZ27 (by assumption) ?restZ27
      case hiZ27 => (simp only [List.getElem?_toArray, List.getElem?_cons_succ, List.getElem?_cons_zero] <;> rfl)
      case hQZ27 => exact (fun _ _ _ h => h)
      case hwZ27 => rfl
      case hyZ27 => (intro w hSw; (try dsimp only at hSw); go_simp; try with_reducible rfl)
      (try simp only [Act.put, List.setIfInBounds_toArray, List.set_cons_zero, List.set_cons_succ])
      refine take_w (i := 7) (oi := ?oZ28) (v := ?vZ28) ?hiZ28 (by kernel_rfl) (by kernel_rfl) (by kernel_rfl) ?hQZ28 ?hwZ28 ?hyZ28 (by assumption) ?restZ28
      case hiZ28 => (simp only [List.getElem?_toArray, List.getElem?_cons_succ, List.getElem?_cons_zero] <;> rfl)
      case hQZ28 => exact (fun _ _ _ h => h)
      case hwZ28 => rfl
      case hyZ28 => (intro w hSw; (try dsimp only at hSw); go_simp; try with_reducible rfl)
      (try simp only [Act.put, List.setIfInBounds_toArray, List.set_cons_zero, List.set_cons_succ])
      refine take_w (i := 8) (oi := ?oZ29) (v := ?vZ29) ?hiZ29 (by kernel_rfl) (by kernel_rfl) (by kernel_rfl) ?hQZ29 ?hwZ29 ?hyZ29 (by assumption) ?restZ29
      case hiZ29 => (simp only [List.getElem?_toArray, List.getElem?_cons_succ, List.getElem?_cons_zero] <;> rfl)
      case hQZ29 => exact (fun _ _ _ h => h)
      case hwZ29 => rfl
      case hyZ29 => (intro w hSw; (try dsimp only at hSw); go_simp; try with_reducible rfl)
      (try simp only [Act.put, List.setIfInBounds_toArray, List.set_cons_zero, List.set_cons_succ])
      refine wpAnyH_ready (rs := [4]) (by kernel_rfl) (by simp) ?_
      refine AllReadyH.cons (o := ?oZ30) ?hiZ30 (fun K hK => ?stZ30) AllReadyH.nil
      case hiZ30 => (simp only [List.getElem?_toArray, List.getElem?_cons_succ, List.getElem?_cons_zero] <;> rfl)
      go_simp
      go_at_call 25
      refine (prDepthB_any ll (HH 0) _ ((HQ.out.below HX3.out.drew.lx.b).kids 0 m0) HBK.out.1 (by omega)).mono ?_
      rintro _ w4 ⟨rfl, hb4⟩
      have HX4 := Lib.hid (HX3.out.drew.below hb4)
      clear hb4
      go_simp
      refine hK.out _ _ ?_ (fun hHeld => ?_)
      · (first | exact ⟨(HX5.out.b1.cells.2.2.2.2).trans (by rw [HTK.out]), (HQ.out.below HX5.out.lx.b).kid0 HTK.out (by omega), (HQ.out.below HX5.out.lx.b).kid1 HTK.out (by omega)⟩ | exact ⟨(HX4.out.b1.cells.2.2.2.2).trans (by rw [HTK.out]), (HQ.out.below HX4.out.lx.b).kid0 HTK.out (by omega), (HQ.out.below HX4.out.lx.b).kid1 HTK.out (by omega)⟩ | exact ⟨(HX3.out.drew.b1.cells.2.2.2.2).trans (by rw [HTK.out]), (HQ.out.below HX3.out.drew.lx.b).kid0 HTK.out (by omega), (HQ.out.below HX3.out.drew.lx.b).kid1 HTK.out (by omega)⟩)
      clear hK K
      (try simp only [Act.put, List.setIfInBounds_toArray, List.set_cons_zero, List.set_cons_succ])
      refine wpAnyH_ready (rs := [9]) (by kernel_rfl) (by simp) ?_
      refine AllReadyH.cons (o := ?oZ31) ?hiZ31 (fun K hK => ?stZ31) AllReadyH.nil
      case hiZ31 => (simp only [List.getElem?_toArray, List.getElem?_cons_succ, List.getElem?_cons_zero] <;> rfl)
      go_simp
      go_at_call 25
      refine (prDepthB_any lr (HH 1) _ ((HQ.out.below HX4.out.lx.b).kids 1 m1) HBK.out.2 (by omega)).mono ?_
      rintro _ w5 ⟨rfl, hb5⟩
      have HX5 := Lib.hid (HX4.out.below hb5)
      clear hb5
      go_simp
      refine hK.out _ _ ?_ (fun hHeld => ?_)
      · (first | exact ⟨(HX5.out.b1.cells.2.2.2.2).trans (by rw [HTK.out]), (HQ.out.below HX5.out.lx.b).kid0 HTK.out (by omega), (HQ.out.below HX5.out.lx.b).kid1 HTK.out (by omega)⟩ | exact ⟨(HX4.out.b1.cells.2.2.2.2).trans (by rw [HTK.out]), (HQ.out.below HX4.out.lx.b).kid0 HTK.out (by omega), (HQ.out.below HX4.out.lx.b).kid1 HTK.out (by omega)⟩ | exact ⟨(HX3.out.drew.b1.cells.2.2.2.2).trans (by rw [HTK.out]), (HQ.out.below HX3.out.drew.lx.b).kid0 HTK.out (by omega), (HQ.out.below HX3.out.drew.lx.b).kid1 HTK.out (by omega)⟩)
      clear hK K
      (try simp only [Act.put, List.setIfInBounds_toArray, List.set_cons_zero, List.set_cons_succ])
      refine take_w (i := 10) (oi := ?oZ32) (v := ?vZ32) ?hiZ32 (by kernel_rfl) (by kernel_rfl) (by kernel_rfl) ?hQZ32 ?hwZ32 ?hyZ32 (by assumption) ?restZ32
      case hiZ32 => (simp only [List.getElem?_toArray, List.getElem?_cons_succ, List.getElem?_cons_zero] <;> rfl)
      case hQZ32 => exact (fun _ _ _ h => h)
      case hwZ32 => rfl
      case hyZ32 => (intro w hSw; (try dsimp only at hSw); go_simp; try with_reducible rfl)
      (try simp only [Act.put, List.setIfInBounds_toArray, List.set_cons_zero, List.set_cons_succ])
      refine wpAnyH_done (by kernel_rfl) ?_ _
      clear hHeld
      go_upto_if 30 with fail
      have HDD := Lib.hid (And.intro hdl (And.intro hdr hx0))
      clear hdl hdr hx0
      generalize hy1 : (ll.depth : Int) = y1
      generalize hy2 : (lr.depth : Int) = y2
      have HYY := Lib.hid (And.intro hy1 hy2)
      clear hy1 hy2
      by_cases c2 : y1 < y2
      · have HC2 : Hid (ll.depth < lr.depth) := Lib.hid (by have := HYY.out; omega)
        cases lr with
        | nil => exact absurd HC2.out (by simp only [AT.depth]; omega)
        | node a b c d =>
        have HLV : Hid ((AT.node (AT.node ll lk lv (AT.node a b c d)) k v r).level = AT.node (AT.node ll lk lv a) b c (AT.node d k v r)) := Lib.hid (by
          rw [HLV0.out, if_pos HXX.out, if_pos (show (AT.node ll lk lv (AT.node a b c d)).tilt < 0 by have := HC2.out; simp only [AT.tilt]; omega)]
          rfl)
        clear HLV0
        obtain ⟨y0, y1, y2, y3, y4⟩ := HX5.out.b1.cells
        go_upto_region 6 with (first
          | (go_at_call 53
             refine (prLeft_any ll lk lv a b c d (H 0) _ ((HP.out.below HX5.out.lx.b).kids 0 l0)).mono ?_
             rintro _ w5 ⟨h5, rfl, hi5, hb5⟩
             unfold TH.v
             have HXb5 := Lib.hid (HX5.out.below hb5)
             have HI5 := Lib.hid hi5
             clear hi5 hb5)
          | (refine wpList_store_box rfl 25 (.tmp 3) (.tmp 32) rfl b5 (H 0) h5 rfl rfl 25 HXb5.out.b1 infoTree5 ?_
             intro w6 hbx6 hg6
             have HX6 := Lib.hid (HXb5.out.setL hbx6 hg6)
             have HI6 := Lib.hid (AT.outBox HXb5.out.b1 hg6 _ _ HI5.out)
             clear hbx6 hg6))
        clear y0 y1 y2 y3 y4
        simp only [Act.put]
        obtain ⟨x0, x1, x2, x3, x4⟩ := HX6.out.lx.box.cells
        obtain ⟨y0, y1, y2, y3, y4⟩ := HX6.out.b1.cells
        obtain ⟨z0, z1, z2, z3, z4⟩ := HX6.out.b2.cells
        go_wp2_with (first
          | (go_at_call 43
             refine (prNode_any (AT.node (AT.node ll lk lv a) b c d) r h5 (H 1) h.ka h.va h.kn h.kc h.vn h.vc k v _ HI6.out ((HP.out.below HX6.out.lx.b).kids 1 l1) (HP.out.below HX6.out.lx.b).key (HP.out.below HX6.out.lx.b).val).mono ?_
             rintro _ w7 ⟨h7, rfl, hi7, hb7⟩
             unfold TH.v
             have HX7 := Lib.hid (HX6.out.below hb7)
             have HI7 := Lib.hid hi7
             clear hi7 hb7)
          | (go_at_call 54
             refine (prRight_any (AT.node ll lk lv a) b c d k v r h7 _ HI7.out).mono ?_
             rintro _ w8 ⟨h8, rfl, hi8, hb8⟩
             unfold TH.v
             have HX8 := Lib.hid (HX7.out.below hb8)
             have HI8 := Lib.hid hi8
             clear hi8 hb8)
          | (refine wpList_store_box rfl 25 (.tmp 2) (.tmp 40) rfl (w.heap.size + 1) hZ h8 rfl rfl 25 HX8.out.lx.res infoTree5 ?_
             intro w9 hbx9 hg9
             have HX9 := Lib.hid hbx9
             have HI9 := Lib.hid (AT.outBox HX8.out.lx.res hg9 _ _ HI8.out)
             have HB9 : Hid (Below w.heap.size w w9) := Lib.hid (HX8.out.lx.b.grown hg9 HX8.out.lx.b.size (fun j hj => by injection hj; omega))
             clear hbx9 hg9))
        refine bodyPost_ret (v := h8.v) (result_tree Try.results44 _ HX9.out rfl Try.underlying25 infoTree5) rfl ⟨_, rfl, ?_, HB9.out⟩
        rw [HLV.out]
        exact HI9.out
      · have HC2 : Hid (¬ ll.depth < lr.depth) := Lib.hid (by have := HYY.out; omega)
        have HLV : Hid ((AT.node (AT.node ll lk lv lr) k v r).level = AT.node ll lk lv (AT.node lr k v r)) := Lib.hid (by
          rw [HLV0.out, if_pos HXX.out, if_neg (show ¬ (AT.node ll lk lv lr).tilt < 0 by have := HC2.out; simp only [AT.tilt]; omega)]
          rfl)
        clear HLV0
        obtain ⟨x0, x1, x2, x3, x4⟩ := HX5.out.lx.box.cells
        obtain ⟨y0, y1, y2, y3, y4⟩ := HX5.out.b1.cells
        obtain ⟨z0, z1, z2, z3, z4⟩ := HX5.out.b2.cells
        go_wp2_with (first
          | (go_at_call 43
             refine (prNode_any (AT.node ll lk lv lr) r (H 0) (H 1) h.ka h.va h.kn h.kc h.vn h.vc k v _ ((HP.out.below HX5.out.lx.b).kids 0 l0) ((HP.out.below HX5.out.lx.b).kids 1 l1) (HP.out.below HX5.out.lx.b).key (HP.out.below HX5.out.lx.b).val).mono ?_
             rintro _ w7 ⟨h7, rfl, hi7, hb7⟩
             unfold TH.v
             have HX7 := Lib.hid (HX5.out.below hb7)
             have HI7 := Lib.hid hi7
             clear hi7 hb7)
          | (go_at_call 54
             refine (prRight_any ll lk lv lr k v r h7 _ HI7.out).mono ?_
             rintro _ w8 ⟨h8, rfl, hi8, hb8⟩
             unfold TH.v
             have HX8 := Lib.hid (HX7.out.below hb8)
             have HI8 := Lib.hid hi8
             clear hi8 hb8)
          | (refine wpList_store_box rfl 25 (.tmp 2) (.tmp 40) rfl (w.heap.size + 1) hZ h8 rfl rfl 25 HX8.out.lx.res infoTree5 ?_
             intro w9 hbx9 hg9
             have HX9 := Lib.hid hbx9
             have HI9 := Lib.hid (AT.outBox HX8.out.lx.res hg9 _ _ HI8.out)
             have HB9 : Hid (Below w.heap.size w w9) := Lib.hid (HX8.out.lx.b.grown hg9 HX8.out.lx.b.size (fun j hj => by injection hj; omega))
             clear hbx9 hg9))
        refine bodyPost_ret (v := h8.v) (result_tree Try.results44 _ HX9.out rfl Try.underlying25 infoTree5) rfl ⟨_, rfl, ?_, HB9.out⟩
        rw [HLV.out]
        exact HI9.out
  have c1b : (x == 2) = false := by simp [c1]
  rw [c1b]
  by_cases c3 : x = -2
  · subst c3
    cases r with
    | nil => exact absurd HXX.out (by simp only [AT.depth]; omega)
    | node rl rk rv rr =>
      have m0 : 0 < (AT.node rl rk rv rr).tr.kids.length := by rw [AT.tr_kids]; simp
      have m1 : 1 < (AT.node rl rk rv rr).tr.kids.length := by rw [AT.tr_kids]; simp
      have hkt : InTree w (H 1) (AT.node rl rk rv rr).tr := HP.out.kids 1 l1
      obtain ⟨HH, hq⟩ := hkt.parts
      have hs1 : (1 : Int) < ((H 1).tn : Int) := by have h2 : (H 1).tn = 2 := hq.len.symm; omega
      have hs0 : 0 < (H 1).tn := by omega
      obtain ⟨g', off', htk, -, -⟩ := hq.place (by omega)
      have HQ := Lib.hid hq
      have HTK := Lib.hid htk
      have hbk := HBL.out.2
      have HBK : Hid (rl.bal ∧ rr.bal) := Lib.hid ⟨hbk.1, hbk.2.1⟩
      clear hkt hq htk hbk
      simp only [AT.depth] at hdr
      go_upto_region 8 with fail
      refine wp_region_held_drew (S := (fun W => W.cell? ⟨b6, 4, none⟩ = some (.slice (some ⟨g', off', none⟩) (H 1).tn (H 1).tc) ∧ (W.cell? ⟨g', off', none⟩ = some (.int .i64 (HH 0).k) ∧ W.cell? ⟨g', off' + 1, none⟩ = some (.slice (HH 0).ka (HH 0).kn (HH 0).kc) ∧ W.cell? ⟨g', off' + 2, none⟩ = some (.slice (HH 0).va (HH 0).vn (HH 0).vc) ∧ W.cell? ⟨g', off' + 3, none⟩ = some (.slice (HH 0).da (HH 0).dn (HH 0).dc) ∧ W.cell? ⟨g', off' + 4, none⟩ = some (.slice (HH 0).ta (HH 0).tn (HH 0).tc)) ∧ W.cell? ⟨g', off' + 5, none⟩ = some (.int .i64 (HH 1).k) ∧ W.cell? ⟨g', off' + 5 + 1, none⟩ = some (.slice (HH 1).ka (HH 1).kn (HH 1).kc) ∧ W.cell? ⟨g', off' + 5 + 2, none⟩ = some (.slice (HH 1).va (HH 1).vn (HH 1).vc) ∧ W.cell? ⟨g', off' + 5 + 3, none⟩ = some (.slice (HH 1).da (HH 1).dn (HH 1).dc) ∧ W.cell? ⟨g', off' + 5 + 4, none⟩ = some (.slice (HH 1).ta (HH 1).tn (HH 1).tc))) (by kernel_rfl) ⟨(HX3.out.drew.b2.cells.2.2.2.2).trans (by rw [HTK.out]), (HQ.out.below HX3.out.drew.lx.b).kid0 HTK.out (by omega), (HQ.out.below HX3.out.drew.lx.b).kid1 HTK.out (by omega)⟩ (fun hHeld => ?_)
      refine take_w (i := 0) (oi := ?oZ33) (v := ?vZ33) ?hiZ33 (by kernel_rfl) (by kernel_rfl) (by kernel_rfl) ?hQZ33 ?hwZ33 ?hyZ33 (by assumption) ?restZ33
      case hiZ33 => (simp only [List.getElem?_toArray, List.getElem?_cons_zero] <;> rfl)
      case hQZ33 => exact (fun _ _ _ h => h)
      case hwZ33 => rfl
      case hyZ33 => (intro w hSw; (try dsimp only at hSw); go_simp; try with_reducible rfl)
      (try simp only [Act.put, List.setIfInBounds_toArray, List.set_cons_zero, List.set_cons_succ])
      refine take_w (i := 1) (oi := ?oZ34) (v := ?vZ34) ?hiZ34 (by kernel_rfl) (by kernel_rfl) (by kernel_rfl) ?hQZ34 ?hwZ34 ?hyZ34 (by assumption) ?restZ34
      case hiZ34 => (simp only [List.getElem?_toArray, List.getElem?_cons_succ, List.getElem?_cons_zero] <;> rfl)
      case hQZ34 => exact (fun _ _ _ h => h)
      case hwZ34 => rfl
      case hyZ34 => (intro w hSw; (try dsimp only at hSw); go_simp; try with_reducible rfl)
      (try simp only [Act.put, List.setIfInBounds_toArray, List.set_cons_zero, List.set_cons_succ])
      refine take_w (i := 2) (oi := ?oZ35) (v := ?vZ35) ?hiZ35 (by kernel_rfl) (by kernel_rfl) (by kernel_rfl) ?hQZ35 ?hwZ35 ?hyZ35 (by assumption) ?restZ35
      case hiZ35 => (simp only [List.getElem?_toArray, List.getElem?_cons_succ, List.getElem?_cons_zero] <;> rfl)
      case hQZ35 => exact (fun _ _ _ h => h)
      case hwZ35 => rfl
      case hyZ35 => (intro w hSw; (try dsimp only at hSw); go_simp; try with_reducible rfl)
      (try simp only [Act.put, List.setIfInBounds_toArray, List.set_cons_zero, List.set_cons_succ])
      refine take_w (i := 3) (oi := ?oZ36) (v := ?vZ36) ?hiZ36 (by kernel_rfl) (by kernel_rfl) (by kernel_rfl) ?hQZ36 ?hwZ36 ?hyZ36 (by assumption) ?restZ36
      case hiZ36 => (simp only [List.getElem?_toArray, List.getElem?_cons_succ, List.getElem?_cons_zero] <;> rfl)
      case hQZ36 => exact (fun _ _ _ h => h)
      case hwZ36 => rfl
      case hyZ36 => (intro w hSw; (try dsimp only at hSw); go_simp; try with_reducible rfl)
      (try simp only [Act.put, List.setIfInBounds_toArray, List.set_cons_zero, List.set_cons_succ])
      refine take_w (i := 5) (oi := ?oZ37) (v := ?vZ37) ?hiZ37 (by kernel_rfl) (by kernel_rfl) (by kernel_rfl) ?hQZ37 ?hwZ37 ?hyZ37 (by assumption) ?restZ37
      case hiZ37 => (simp only [List.getElem?_toArray, List.getElem?_cons_succ, List.getElem?_cons_zero] <;> rfl)
      case hQZ37 => exact (fun _ _ _ h => h)
      case hwZ37 => rfl
      case hyZ37 => (intro w hSw; (try dsimp only at hSw); go_simp; try with_reducible rfl)
      (try simp only [Act.put, List.setIfInBounds_toArray, List.set_cons_zero, List.set_cons_succ])
      refine take_w (i := 6) (oi := ?oZ38) (v := ?vZ38) ?hiZ38 (by kernel_rfl) (by kernel_rfl) (by kernel_rfl) ?hQZ38 ?hwZ38 ?hyZ38 (by assumption) ?restZ38
      case hiZ38 => (simp only [List.getElem?_toArray, List.getElem?_cons_succ, List.getElem?_cons_zero] <;> rfl)
      case hQZ38 => exact (fun _ _ _ h => h)
      case hwZ38 => rfl
      case hyZ38 => (intro w hSw; (try dsimp only at hSw); go_simp; try with_reducible rfl)
      (try simp only [Act.put, List.setIfInBounds_toArray, List.set_cons_zero, List.set_cons_succ])
      refine take_w (i := 7) (oi := ?oZ39) (v := ?vZ39) ?hiZ39 (by kernel_rfl) (by kernel_rfl) (by kernel_rfl) ?hQZ39 ?hwZ39 ?hyZ39 (by assumption) ?restZ39
      case hiZ39 => (simp only [List.getElem?_toArray, List.getElem?_cons_succ, List.getElem?_cons_zero] <;> rfl)
      case hQZ39 => exact (fun _ _ _ h => h)
      case hwZ39 => rfl
      case hyZ39 => (intro w hSw; (try dsimp only at hSw); go_simp; try with_reducible rfl)
      (try simp only [Act.put, List.setIfInBounds_toArray, List.set_cons_zero, List.set_cons_succ])
      refine take_w (i := 8) (oi := ?oZ40) (v := ?vZ40) ?hiZ40 (by kernel_rfl) (by kernel_rfl) (by kernel_rfl) ?hQZ40 ?hwZ40 ?hyZ40 (by assumption) ?restZ40
      case hiZ40 => (simp only [List.getElem?_toArray, List.getElem?_cons_succ, List.getElem?_cons_zero] <;> rfl)
      case hQZ40 => exact (fun _ _ _ h => h)
      case hwZ40 => rfl
      case hyZ40 => (intro w hSw; (try dsimp only at hSw); go_simp; try with_reducible rfl)
      (try simp only [Act.put, List.setIfInBounds_toArray, List.set_cons_zero, List.set_cons_succ])
      refine wpAnyH_ready (rs := [4]) (by kernel_rfl) (by simp) ?_
      refine AllReadyH.cons (o := ?oZ41) ?hiZ41 (fun K hK => ?stZ41) AllReadyH.nil
      case hiZ41 => (simp only [List.getElem?_toArray, List.getElem?_cons_succ, List.getElem?_cons_zero] <;> rfl)
      go_simp
      go_at_call 25
      refine (prDepthB_any rr (HH 1) _ ((HQ.out.below HX3.out.drew.lx.b).kids 1 m1) HBK.out.2 (by omega)).mono ?_
      rintro _ w4 ⟨rfl, hb4⟩
      have HX4 := Lib.hid (HX3.out.drew.below hb4)
      clear hb4
      go_simp
      refine hK.out _ _ ?_ (fun hHeld => ?_)
      · (first | exact ⟨(HX5.out.b2.cells.2.2.2.2).trans (by rw [HTK.out]), (HQ.out.below HX5.out.lx.b).kid0 HTK.out (by omega), (HQ.out.below HX5.out.lx.b).kid1 HTK.out (by omega)⟩ | exact ⟨(HX4.out.b2.cells.2.2.2.2).trans (by rw [HTK.out]), (HQ.out.below HX4.out.lx.b).kid0 HTK.out (by omega), (HQ.out.below HX4.out.lx.b).kid1 HTK.out (by omega)⟩ | exact ⟨(HX3.out.drew.b2.cells.2.2.2.2).trans (by rw [HTK.out]), (HQ.out.below HX3.out.drew.lx.b).kid0 HTK.out (by omega), (HQ.out.below HX3.out.drew.lx.b).kid1 HTK.out (by omega)⟩)
      clear hK K
      (try simp only [Act.put, List.setIfInBounds_toArray, List.set_cons_zero, List.set_cons_succ])
      refine wpAnyH_ready (rs := [9]) (by kernel_rfl) (by simp) ?_
      refine AllReadyH.cons (o := ?oZ42) ?hiZ42 (fun K hK => ?stZ42) AllReadyH.nil
      case hiZ42 => (simp only [List.getElem?_toArray, List.getElem?_cons_succ, List.getElem?_cons_zero] <;> rfl)
      go_simp
      go_at_call 25
      refine (prDepthB_any rl (HH 0) _ ((HQ.out.below HX4.out.lx.b).kids 0 m0) HBK.out.1 (by omega)).mono ?_
      rintro _ w5 ⟨rfl, hb5⟩
      have HX5 := Lib.hid (HX4.out.below hb5)
      clear hb5
      go_simp
      refine hK.out _ _ ?_ (fun hHeld => ?_)
      · (first | exact ⟨(HX5.out.b2.cells.2.2.2.2).trans (by rw [HTK.out]), (HQ.out.below HX5.out.lx.b).kid0 HTK.out (by omega), (HQ.out.below HX5.out.lx.b).kid1 HTK.out (by omega)⟩ | exact ⟨(HX4.out.b2.cells.2.2.2.2).trans (by rw [HTK.out]), (HQ.out.below HX4.out.lx.b).kid0 HTK.out (by omega), (HQ.out.below HX4.out.lx.b).kid1 HTK.out (by omega)⟩ | exact ⟨(HX3.out.drew.b2.cells.2.2.2.2).trans (by rw [HTK.out]), (HQ.out.below HX3.out.drew.lx.b).kid0 HTK.out (by omega), (HQ.out.below HX3.out.drew.lx.b).kid1 HTK.out (by omega)⟩)
      clear hK K
      (try simp only [Act.put, List.setIfInBounds_toArray, List.set_cons_zero, List.set_cons_succ])
      refine take_w (i := 10) (oi := ?oZ43) (v := ?vZ43) ?hiZ43 (by kernel_rfl) (by kernel_rfl) (by kernel_rfl) ?hQZ43 ?hwZ43 ?hyZ43 (by assumption) ?restZ43
      case hiZ43 => (simp only [List.getElem?_toArray, List.getElem?_cons_succ, List.getElem?_cons_zero] <;> rfl)
      case hQZ43 => exact (fun _ _ _ h => h)
      case hwZ43 => rfl
      case hyZ43 => (intro w hSw; (try dsimp only at hSw); go_simp; try with_reducible rfl)
      (try simp only [Act.put, List.setIfInBounds_toArray, List.set_cons_zero, List.set_cons_succ])
      refine wpAnyH_done (by kernel_rfl) ?_ _
      clear hHeld
      go_upto_if 53 with fail
      have HDD := Lib.hid (And.intro hdr (And.intro hdl hx0))
      clear hdl hdr hx0
      generalize hy1 : (rr.depth : Int) = y1
      generalize hy2 : (rl.depth : Int) = y2
      have HYY := Lib.hid (And.intro hy1 hy2)
      clear hy1 hy2
      by_cases c2 : y1 < y2
      · have HC2 : Hid (rr.depth < rl.depth) := Lib.hid (by have := HYY.out; omega)
        cases rl with
        | nil => exact absurd HC2.out (by simp only [AT.depth]; omega)
        | node a b c d =>
        have HLV : Hid ((AT.node l k v (AT.node (AT.node a b c d) rk rv rr)).level = AT.node (AT.node l k v a) b c (AT.node d rk rv rr)) := Lib.hid (by
          rw [HLV0.out, if_neg (by rw [HXX.out]; omega), if_pos HXX.out, if_pos (show 0 < (AT.node (AT.node a b c d) rk rv rr).tilt by have := HC2.out; simp only [AT.tilt]; omega)]
          rfl)
        clear HLV0
        obtain ⟨y0, y1, y2, y3, y4⟩ := HX5.out.b2.cells
        go_upto_region 10 with (first
          | (go_at_call 54
             refine (prRight_any a b c d rk rv rr (H 1) _ ((HP.out.below HX5.out.lx.b).kids 1 l1)).mono ?_
             rintro _ w5 ⟨h5, rfl, hi5, hb5⟩
             unfold TH.v
             have HXb5 := Lib.hid (HX5.out.below hb5)
             have HI5 := Lib.hid hi5
             clear hi5 hb5)
          | (refine wpList_store_box rfl 25 (.tmp 4) (.tmp 55) rfl b6 (H 1) h5 rfl rfl 25 HXb5.out.b2 infoTree5 ?_
             intro w6 hbx6 hg6
             have HX6 := Lib.hid (HXb5.out.setR hbx6 hg6)
             have HI6 := Lib.hid (AT.outBox HXb5.out.b2 hg6 _ _ HI5.out)
             clear hbx6 hg6))
        clear y0 y1 y2 y3 y4
        simp only [Act.put]
        obtain ⟨x0, x1, x2, x3, x4⟩ := HX6.out.lx.box.cells
        obtain ⟨y0, y1, y2, y3, y4⟩ := HX6.out.b1.cells
        obtain ⟨z0, z1, z2, z3, z4⟩ := HX6.out.b2.cells
        go_wp2_with (first
          | (go_at_call 43
             refine (prNode_any l (AT.node a b c (AT.node d rk rv rr)) (H 0) h5 h.ka h.va h.kn h.kc h.vn h.vc k v _ ((HP.out.below HX6.out.lx.b).kids 0 l0) HI6.out (HP.out.below HX6.out.lx.b).key (HP.out.below HX6.out.lx.b).val).mono ?_
             rintro _ w7 ⟨h7, rfl, hi7, hb7⟩
             unfold TH.v
             have HX7 := Lib.hid (HX6.out.below hb7)
             have HI7 := Lib.hid hi7
             clear hi7 hb7)
          | (go_at_call 53
             refine (prLeft_any l k v a b c (AT.node d rk rv rr) h7 _ HI7.out).mono ?_
             rintro _ w8 ⟨h8, rfl, hi8, hb8⟩
             unfold TH.v
             have HX8 := Lib.hid (HX7.out.below hb8)
             have HI8 := Lib.hid hi8
             clear hi8 hb8)
          | (refine wpList_store_box rfl 25 (.tmp 2) (.tmp 63) rfl (w.heap.size + 1) hZ h8 rfl rfl 25 HX8.out.lx.res infoTree5 ?_
             intro w9 hbx9 hg9
             have HX9 := Lib.hid hbx9
             have HI9 := Lib.hid (AT.outBox HX8.out.lx.res hg9 _ _ HI8.out)
             have HB9 : Hid (Below w.heap.size w w9) := Lib.hid (HX8.out.lx.b.grown hg9 HX8.out.lx.b.size (fun j hj => by injection hj; omega))
             clear hbx9 hg9))
        refine bodyPost_ret (v := h8.v) (result_tree Try.results44 _ HX9.out rfl Try.underlying25 infoTree5) rfl ⟨_, rfl, ?_, HB9.out⟩
        rw [HLV.out]
        exact HI9.out
      · have HC2 : Hid (¬ rr.depth < rl.depth) := Lib.hid (by have := HYY.out; omega)
        have HLV : Hid ((AT.node l k v (AT.node rl rk rv rr)).level = AT.node (AT.node l k v rl) rk rv rr) := Lib.hid (by
          rw [HLV0.out, if_neg (by rw [HXX.out]; omega), if_pos HXX.out, if_neg (show ¬ 0 < (AT.node rl rk rv rr).tilt by have := HC2.out; simp only [AT.tilt]; omega)]
          rfl)
        clear HLV0
        obtain ⟨x0, x1, x2, x3, x4⟩ := HX5.out.lx.box.cells
        obtain ⟨y0, y1, y2, y3, y4⟩ := HX5.out.b1.cells
        obtain ⟨z0, z1, z2, z3, z4⟩ := HX5.out.b2.cells
        go_wp2_with (first
          | (go_at_call 43
             refine (prNode_any l (AT.node rl rk rv rr) (H 0) (H 1) h.ka h.va h.kn h.kc h.vn h.vc k v _ ((HP.out.below HX5.out.lx.b).kids 0 l0) ((HP.out.below HX5.out.lx.b).kids 1 l1) (HP.out.below HX5.out.lx.b).key (HP.out.below HX5.out.lx.b).val).mono ?_
             rintro _ w7 ⟨h7, rfl, hi7, hb7⟩
             unfold TH.v
             have HX7 := Lib.hid (HX5.out.below hb7)
             have HI7 := Lib.hid hi7
             clear hi7 hb7)
          | (go_at_call 53
             refine (prLeft_any l k v rl rk rv rr h7 _ HI7.out).mono ?_
             rintro _ w8 ⟨h8, rfl, hi8, hb8⟩
             unfold TH.v
             have HX8 := Lib.hid (HX7.out.below hb8)
             have HI8 := Lib.hid hi8
             clear hi8 hb8)
          | (refine wpList_store_box rfl 25 (.tmp 2) (.tmp 63) rfl (w.heap.size + 1) hZ h8 rfl rfl 25 HX8.out.lx.res infoTree5 ?_
             intro w9 hbx9 hg9
             have HX9 := Lib.hid hbx9
             have HI9 := Lib.hid (AT.outBox HX8.out.lx.res hg9 _ _ HI8.out)
             have HB9 : Hid (Below w.heap.size w w9) := Lib.hid (HX8.out.lx.b.grown hg9 HX8.out.lx.b.size (fun j hj => by injection hj; omega))
             clear hbx9 hg9))
        refine bodyPost_ret (v := h8.v) (result_tree Try.results44 _ HX9.out rfl Try.underlying25 infoTree5) rfl ⟨_, rfl, ?_, HB9.out⟩
        rw [HLV.out]
        exact HI9.out
  have c3b : (x == -2) = false := by simp [c3]
  have HLV : Hid ((AT.node l k v r).level = AT.node l k v r) := Lib.hid (by rw [HLV0.out, if_neg (by rw [HXX.out]; exact c1), if_neg (by rw [HXX.out]; exact c3)])
  clear HLV0
  obtain ⟨x0, x1, x2, x3, x4⟩ := HX3.out.lx.box.cells
  go_wp2_with (first
  | (refine wpList_store_box rfl 25 (.tmp 2) (.tmp 64) rfl (w.heap.size + 1) hZ h rfl rfl 25 HX3.out.lx.res infoTree5 ?_
     intro w9 hbx9 hg9
     have HX9 := Lib.hid hbx9
     have HI9 := Lib.hid (AT.outBox HX3.out.lx.res hg9 _ _ HX3.out.lx.ti)
     have HB9 : Hid (Below w.heap.size w w9) := Lib.hid (HX3.out.lx.b.grown hg9 HX3.out.lx.b.size (fun j hj => by injection hj; omega))
     clear hbx9 hg9))
  refine bodyPost_ret (v := h.v) (result_tree Try.results44 _ HX9.out rfl Try.underlying25 infoTree5) rfl ⟨_, rfl, ?_, HB9.out⟩
  rw [HLV.out]
  exact HI9.out
end Go.Proofs.Ytolpdidjabbipaa
