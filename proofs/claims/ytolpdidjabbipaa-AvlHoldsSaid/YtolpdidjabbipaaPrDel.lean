/- The contract of the program's deletion out of AVL trees. -/
import Derived.Test.YtolpdidjabbipaaPrFind
import Derived.Test.YtolpdidjabbipaaPrIns
namespace Go.Proofs.Ytolpdidjabbipaa
open Go.RowKit
set_option linter.unusedVariables false

theorem KX.other {w W W' : World} {h hl hr hh : TH} {a : AT} {b5 b6 g : Nat} (d : KX w W h hl hr a.tr b5 b6) (hb : Box W 25 g hh) (hg : W.grownBy W' (some g)) (hn : w.heap.size + 1 < g) (h5 : b5 ≠ g) (h6 : b6 ≠ g) : KX w W' h hl hr a.tr b5 b6 :=
  ⟨d.lx.store hb hg hn, d.b1.grown hg (fun q => by injection q with q; exact h5 q), d.b2.grown hg (fun q => by injection q with q; exact h6 q), d.n5, d.n6, d.ne⟩
theorem AT.find_head {r : AT} (hr : Rise r.pairs) (hn : r.isNil = false) : (r.find (r.pairs.headD ([], [])).1).isNil = false := by
  rcases AT.find_get (r.pairs.headD ([], [])).1 r hr with ⟨-, q⟩ | ⟨_, _, _, e, -⟩
  · exfalso
    unfold AT.get at q
    cases hp : r.pairs with
    | nil => exact AT.pairs_nil hn hp
    | cons m rest =>
      rw [hp, List.headD_cons, List.find?_cons] at q
      simp at q
  · rw [e]; rfl

set_option maxRecDepth 100000 in
set_option maxHeartbeats 4000000 in
theorem prDel_any : ∀ (a : AT) (key : List Int) (ka : Option Addr) (kn kc : Nat) (h : TH) (w : World), InTree w h a.tr → a.bal → Rise a.pairs → a.depth ≤ 90 → (a.find key).isNil = false → InBytes w ka kn kc key →
    Calls Try.prog 35 #[h.v, .slice ka kn kc] w (Tells w (a.del key)) := by
  intro a
  induction a with
  | nil =>
    intro key ka kn kc h w ht _ _ _ hf _
    cases hf
  | node l k v r ihl ihr =>
    intro key ka kn kc h w ht hbal hri hd hf hkb
    unfold TH.v
    obtain ⟨H, hp⟩ := ht.parts
    have l0 : 0 < (AT.node l k v r).tr.kids.length := by rw [AT.tr_kids]; simp
    have l1 : 1 < (AT.node l k v r).tr.kids.length := by rw [AT.tr_kids]; simp
    have ht1 : (1 : Int) < (h.tn : Int) := by have h2 : h.tn = 2 := hp.len.symm; omega
    have ht0 : 0 < h.tn := by omega
    simp only [AT.depth] at hd
    have HP := Lib.hid hp
    have HBL : Hid (l.bal ∧ r.bal ∧ l.depth ≤ r.depth + 1 ∧ r.depth ≤ l.depth + 1) := Lib.hid hbal
    have HRI := Lib.hid (Rise.app (a := l.pairs) (k := k) (v := v) (b := r.pairs) hri)
    have HK := Lib.hid hkb
    have IHL := Lib.hid ihl
    have IHR := Lib.hid ihr
    have HPN0 := Lib.hid (AT.del_node key l k v r)
    rw [AT.find_node] at hf
    have HF0 := Lib.hid hf
    obtain ⟨g, off, hta, -, -⟩ := hp.place (by omega)
    have HTA := Lib.hid hta
    obtain ⟨e1, e2, e3, e4⟩ := enter2 w h
    clear hp hta hbal hri hf hkb ihl ihr
    go_enter Try.func35, Try.ntmps35
    go_upto_region 1 with fail
    generalize ((w.alloc (.cells #[.int .i64 h.k, .slice h.ka h.kn h.kc, .slice h.va h.vn h.vc, .slice h.da h.dn h.dc, .slice h.ta h.tn h.tc] 25)).alloc (.cells #[.int .i64 0, .slice none 0 0, .slice none 0 0, .slice none 0 0, .slice none 0 0] 25)) = w0 at *
    have HX0 : Hid (LX w w0 h (AT.node l k v r).tr) := Lib.hid ⟨e1, e2, ht.lower e3, e3⟩
    clear e1 e2 e3 e4 ht
    go_cut [5, 6] (fun s7 s8 wx => ∃ b5 b6, s7 = .pointer (some ⟨b5, 0, none⟩) ∧ s8 = .pointer (some ⟨b6, 0, none⟩) ∧ KX w wx h (H 0) (H 1) (AT.node l k v r).tr b5 b6)
    case first =>
      refine wp_region_held_drew (S := (fun W => W.cell? ⟨w.heap.size, 4, none⟩ = some (.slice (some ⟨g, off, none⟩) h.tn h.tc) ∧ (W.cell? ⟨g, off, none⟩ = some (.int .i64 (H 0).k) ∧ W.cell? ⟨g, off + 1, none⟩ = some (.slice (H 0).ka (H 0).kn (H 0).kc) ∧ W.cell? ⟨g, off + 2, none⟩ = some (.slice (H 0).va (H 0).vn (H 0).vc) ∧ W.cell? ⟨g, off + 3, none⟩ = some (.slice (H 0).da (H 0).dn (H 0).dc) ∧ W.cell? ⟨g, off + 4, none⟩ = some (.slice (H 0).ta (H 0).tn (H 0).tc)) ∧ W.cell? ⟨g, off + 5, none⟩ = some (.int .i64 (H 1).k) ∧ W.cell? ⟨g, off + 5 + 1, none⟩ = some (.slice (H 1).ka (H 1).kn (H 1).kc) ∧ W.cell? ⟨g, off + 5 + 2, none⟩ = some (.slice (H 1).va (H 1).vn (H 1).vc) ∧ W.cell? ⟨g, off + 5 + 3, none⟩ = some (.slice (H 1).da (H 1).dn (H 1).dc) ∧ W.cell? ⟨g, off + 5 + 4, none⟩ = some (.slice (H 1).ta (H 1).tn (H 1).tc))) (by kernel_rfl) ⟨(HX0.out.drew.box.cells.2.2.2.2).trans (by rw [HTA.out]), (HP.out.below HX0.out.drew.b).kid0 HTA.out (by omega), (HP.out.below HX0.out.drew.b).kid1 HTA.out (by omega)⟩ (fun hHeld => ?_)
      have HY0 := Lib.hid HX0.out.drew
      have HN : Hid (w.heap.size + 1 < w0.drew.heap.size) := Lib.hid HX0.out.drew.res.lt
      generalize w0.drew = wd at *
      have hba : Below wd.heap.size wd (wd.alloc (.cells #[.int .i64 0, .slice none 0 0, .slice none 0 0, .slice none 0 0, .slice none 0 0] 25)) := (Below.refl _ _).alloc (Nat.le_refl _) _
      have HY1 := Lib.hid (HY0.out.below hba)
      have hz1 : Box (wd.alloc (.cells #[.int .i64 0, .slice none 0 0, .slice none 0 0, .slice none 0 0, .slice none 0 0] 25)) 25 wd.heap.size hZ := Box.new wd 25 hZ
      have hs1 : (wd.alloc (.cells #[.int .i64 0, .slice none 0 0, .slice none 0 0, .slice none 0 0, .slice none 0 0] 25)).heap.size = wd.heap.size + 1 := by simp
      have hbb : Below (wd.alloc (.cells #[.int .i64 0, .slice none 0 0, .slice none 0 0, .slice none 0 0, .slice none 0 0] 25)).heap.size (wd.alloc (.cells #[.int .i64 0, .slice none 0 0, .slice none 0 0, .slice none 0 0, .slice none 0 0] 25)) ((wd.alloc (.cells #[.int .i64 0, .slice none 0 0, .slice none 0 0, .slice none 0 0, .slice none 0 0] 25)).alloc (.cells #[.int .i64 0, .slice none 0 0, .slice none 0 0, .slice none 0 0, .slice none 0 0] 25)) := (Below.refl _ _).alloc (Nat.le_refl _) _
      have HY2 := Lib.hid (HY1.out.below hbb)
      have hz2 : Box ((wd.alloc (.cells #[.int .i64 0, .slice none 0 0, .slice none 0 0, .slice none 0 0, .slice none 0 0] 25)).alloc (.cells #[.int .i64 0, .slice none 0 0, .slice none 0 0, .slice none 0 0, .slice none 0 0] 25)) 25 (wd.alloc (.cells #[.int .i64 0, .slice none 0 0, .slice none 0 0, .slice none 0 0, .slice none 0 0] 25)).heap.size hZ := Box.new (wd.alloc (.cells #[.int .i64 0, .slice none 0 0, .slice none 0 0, .slice none 0 0, .slice none 0 0] 25)) 25 hZ
      rw [hs1] at hz2
      have HZ1 := Lib.hid (hz1.below hbb hz1.lt)
      have HZ2 := Lib.hid hz2
      clear hba hz1 hs1 hbb hz2
      refine take_w (i := 0) (oi := ?oZ1) (v := ?vZ1) ?hiZ1 (by kernel_rfl) (by kernel_rfl) (by kernel_rfl) ?hQZ1 ?hwZ1 ?hyZ1 (by assumption) ?restZ1
      case hiZ1 => (simp only [List.getElem?_toArray, List.getElem?_cons_zero] <;> rfl)
      case hQZ1 => exact (fun _ _ _ h => h)
      case hwZ1 => rfl
      case hyZ1 => (intro w hSw; (try dsimp only at hSw); go_simp; try with_reducible rfl)
      (try simp only [Act.put, List.setIfInBounds_toArray, List.set_cons_zero, List.set_cons_succ])
      refine take_w (i := 1) (oi := ?oZ2) (v := ?vZ2) ?hiZ2 (by kernel_rfl) (by kernel_rfl) (by kernel_rfl) ?hQZ2 ?hwZ2 ?hyZ2 (by assumption) ?restZ2
      case hiZ2 => (simp only [List.getElem?_toArray, List.getElem?_cons_succ, List.getElem?_cons_zero] <;> rfl)
      case hQZ2 => exact (fun _ _ _ h => h)
      case hwZ2 => rfl
      case hyZ2 => (intro w hSw; (try dsimp only at hSw); go_simp; try with_reducible rfl)
      (try simp only [Act.put, List.setIfInBounds_toArray, List.set_cons_zero, List.set_cons_succ])
      refine take_w (i := 2) (oi := ?oZ3) (v := ?vZ3) ?hiZ3 (by kernel_rfl) (by kernel_rfl) (by kernel_rfl) ?hQZ3 ?hwZ3 ?hyZ3 (by assumption) ?restZ3
      case hiZ3 => (simp only [List.getElem?_toArray, List.getElem?_cons_succ, List.getElem?_cons_zero] <;> rfl)
      case hQZ3 => exact (fun _ _ _ h => h)
      case hwZ3 => rfl
      case hyZ3 => (intro w hSw; (try dsimp only at hSw); go_simp; try with_reducible rfl)
      (try simp only [Act.put, List.setIfInBounds_toArray, List.set_cons_zero, List.set_cons_succ])
      refine take_w (i := 3) (oi := ?oZ4) (v := ?vZ4) ?hiZ4 (by kernel_rfl) (by kernel_rfl) (by kernel_rfl) ?hQZ4 ?hwZ4 ?hyZ4 (by assumption) ?restZ4
      case hiZ4 => (simp only [List.getElem?_toArray, List.getElem?_cons_succ, List.getElem?_cons_zero] <;> rfl)
      case hQZ4 => exact (fun _ _ _ h => h)
      case hwZ4 => rfl
      case hyZ4 => (intro w hSw; (try dsimp only at hSw); go_simp; try with_reducible rfl)
      (try simp only [Act.put, List.setIfInBounds_toArray, List.set_cons_zero, List.set_cons_succ])
      refine take_w (i := 4) (oi := ?oZ5) (v := ?vZ5) ?hiZ5 (by kernel_rfl) (by kernel_rfl) (by kernel_rfl) ?hQZ5 ?hwZ5 ?hyZ5 (by assumption) ?restZ5
      case hiZ5 => (simp only [List.getElem?_toArray, List.getElem?_cons_succ, List.getElem?_cons_zero] <;> rfl)
      case hQZ5 => exact (fun _ _ _ h => h)
      case hwZ5 => rfl
      case hyZ5 => (intro w hSw; (try dsimp only at hSw); go_simp; try with_reducible rfl)
      (try simp only [Act.put, List.setIfInBounds_toArray, List.set_cons_zero, List.set_cons_succ])
      refine take_w (i := 5) (oi := ?oZ6) (v := ?vZ6) ?hiZ6 (by kernel_rfl) (by kernel_rfl) (by kernel_rfl) ?hQZ6 ?hwZ6 ?hyZ6 (by assumption) ?restZ6
      case hiZ6 => (simp only [List.getElem?_toArray, List.getElem?_cons_succ, List.getElem?_cons_zero] <;> rfl)
      case hQZ6 => exact (fun _ _ _ h => h)
      case hwZ6 => rfl
      case hyZ6 => (intro w hSw; (try dsimp only at hSw); go_simp; try with_reducible rfl)
      (try simp only [Act.put, List.setIfInBounds_toArray, List.set_cons_zero, List.set_cons_succ])
      refine take_w (i := 6) (oi := ?oZ7) (v := ?vZ7) ?hiZ7 (by kernel_rfl) (by kernel_rfl) (by kernel_rfl) ?hQZ7 ?hwZ7 ?hyZ7 (by assumption) ?restZ7
      case hiZ7 => (simp only [List.getElem?_toArray, List.getElem?_cons_succ, List.getElem?_cons_zero] <;> rfl)
      case hQZ7 => exact (fun _ _ _ h => h)
      case hwZ7 => rfl
      case hyZ7 => (intro w hSw; (try dsimp only at hSw); go_simp; try with_reducible rfl)
      (try simp only [Act.put, List.setIfInBounds_toArray, List.set_cons_zero, List.set_cons_succ])
      refine take_w (i := 7) (oi := ?oZ8) (v := ?vZ8) ?hiZ8 (by kernel_rfl) (by kernel_rfl) (by kernel_rfl) ?hQZ8 ?hwZ8 ?hyZ8 (by assumption) ?restZ8
      case hiZ8 => (simp only [List.getElem?_toArray, List.getElem?_cons_succ, List.getElem?_cons_zero] <;> rfl)
      case hQZ8 => exact (fun _ _ _ h => h)
      case hwZ8 => rfl
      case hyZ8 => (intro w hSw; (try dsimp only at hSw); go_simp; try with_reducible rfl)
      (try simp only [Act.put, List.setIfInBounds_toArray, List.set_cons_zero, List.set_cons_succ])
      refine wpAnyH_ready (rs := [8, 9]) (by kernel_rfl) (by simp) ?_
      refine AllReadyH.cons (o := ?oZ9) ?hiZ9 (fun K hK => ?stZ9) (AllReadyH.cons (o := ?oZ10) ?hiZ10 (fun K hK => ?stZ10) AllReadyH.nil)
      case hiZ9 => (simp only [List.getElem?_toArray, List.getElem?_cons_succ, List.getElem?_cons_zero] <;> rfl)
      case hiZ10 => (simp only [List.getElem?_toArray, List.getElem?_cons_succ, List.getElem?_cons_zero] <;> rfl)
      case stZ9 =>
        go_simp
        refine hK.out _ _ ?_ (fun hHeld => ?_)
        · (first | exact ⟨(HY4.out.box.cells.2.2.2.2).trans (by rw [HTA.out]), (HP.out.below HY4.out.b).kid0 HTA.out (by omega), (HP.out.below HY4.out.b).kid1 HTA.out (by omega)⟩ | exact ⟨(HY3.out.box.cells.2.2.2.2).trans (by rw [HTA.out]), (HP.out.below HY3.out.b).kid0 HTA.out (by omega), (HP.out.below HY3.out.b).kid1 HTA.out (by omega)⟩ | exact ⟨(HY2.out.box.cells.2.2.2.2).trans (by rw [HTA.out]), (HP.out.below HY2.out.b).kid0 HTA.out (by omega), (HP.out.below HY2.out.b).kid1 HTA.out (by omega)⟩ | exact ⟨(HY1.out.box.cells.2.2.2.2).trans (by rw [HTA.out]), (HP.out.below HY1.out.b).kid0 HTA.out (by omega), (HP.out.below HY1.out.b).kid1 HTA.out (by omega)⟩ | exact ⟨(HY0.out.box.cells.2.2.2.2).trans (by rw [HTA.out]), (HP.out.below HY0.out.b).kid0 HTA.out (by omega), (HP.out.below HY0.out.b).kid1 HTA.out (by omega)⟩)
        clear hK K
        (try simp only [Act.put, List.setIfInBounds_toArray, List.set_cons_zero, List.set_cons_succ])
        refine wpAnyH_ready (rs := [9]) (by kernel_rfl) (by simp) ?_
        refine AllReadyH.cons (o := ?oZ11) ?hiZ11 (fun K hK => ?stZ11) AllReadyH.nil
        case hiZ11 => (simp only [List.getElem?_toArray, List.getElem?_cons_succ, List.getElem?_cons_zero] <;> rfl)
        go_simp
        refine hK.out _ _ ?_ (fun hHeld => ?_)
        · (first | exact ⟨(HY4.out.box.cells.2.2.2.2).trans (by rw [HTA.out]), (HP.out.below HY4.out.b).kid0 HTA.out (by omega), (HP.out.below HY4.out.b).kid1 HTA.out (by omega)⟩ | exact ⟨(HY3.out.box.cells.2.2.2.2).trans (by rw [HTA.out]), (HP.out.below HY3.out.b).kid0 HTA.out (by omega), (HP.out.below HY3.out.b).kid1 HTA.out (by omega)⟩ | exact ⟨(HY2.out.box.cells.2.2.2.2).trans (by rw [HTA.out]), (HP.out.below HY2.out.b).kid0 HTA.out (by omega), (HP.out.below HY2.out.b).kid1 HTA.out (by omega)⟩ | exact ⟨(HY1.out.box.cells.2.2.2.2).trans (by rw [HTA.out]), (HP.out.below HY1.out.b).kid0 HTA.out (by omega), (HP.out.below HY1.out.b).kid1 HTA.out (by omega)⟩ | exact ⟨(HY0.out.box.cells.2.2.2.2).trans (by rw [HTA.out]), (HP.out.below HY0.out.b).kid0 HTA.out (by omega), (HP.out.below HY0.out.b).kid1 HTA.out (by omega)⟩)
        clear hK K
        (try simp only [Act.put, List.setIfInBounds_toArray, List.set_cons_zero, List.set_cons_succ])
        refine wpAnyH_ready (rs := [10]) (by kernel_rfl) (by simp) ?_
        refine AllReadyH.cons (o := ?oZ12) ?hiZ12 (fun K hK => ?stZ12) AllReadyH.nil
        case hiZ12 => (simp only [List.getElem?_toArray, List.getElem?_cons_succ, List.getElem?_cons_zero] <;> rfl)
        refine step_store_box rfl 25 (.tmp 5) (.tmp 12) rfl wd.heap.size hZ (H 0) rfl rfl 25 HZ1.out infoTree5 ?_
        intro w3 hbx3 hg3
        have HY3 : Hid (LX w w3 h (AT.node l k v r).tr) := Lib.hid (LX.store HY2.out HZ1.out hg3 (by have := HN.out; omega))
        have HB3 := Lib.hid hbx3
        have HC3 := Lib.hid ((HZ2.out).grown hg3 (fun q => by injection q; omega))
        clear hbx3 hg3
        refine hK.out _ _ ?_ (fun hHeld => ?_)
        · (first | exact ⟨(HY4.out.box.cells.2.2.2.2).trans (by rw [HTA.out]), (HP.out.below HY4.out.b).kid0 HTA.out (by omega), (HP.out.below HY4.out.b).kid1 HTA.out (by omega)⟩ | exact ⟨(HY3.out.box.cells.2.2.2.2).trans (by rw [HTA.out]), (HP.out.below HY3.out.b).kid0 HTA.out (by omega), (HP.out.below HY3.out.b).kid1 HTA.out (by omega)⟩ | exact ⟨(HY2.out.box.cells.2.2.2.2).trans (by rw [HTA.out]), (HP.out.below HY2.out.b).kid0 HTA.out (by omega), (HP.out.below HY2.out.b).kid1 HTA.out (by omega)⟩ | exact ⟨(HY1.out.box.cells.2.2.2.2).trans (by rw [HTA.out]), (HP.out.below HY1.out.b).kid0 HTA.out (by omega), (HP.out.below HY1.out.b).kid1 HTA.out (by omega)⟩ | exact ⟨(HY0.out.box.cells.2.2.2.2).trans (by rw [HTA.out]), (HP.out.below HY0.out.b).kid0 HTA.out (by omega), (HP.out.below HY0.out.b).kid1 HTA.out (by omega)⟩)
        clear hK K
        (try simp only [Act.put])
        refine wpAnyH_ready (rs := [11]) (by kernel_rfl) (by simp) ?_
        refine AllReadyH.cons (o := ?oZ13) ?hiZ13 (fun K hK => ?stZ13) AllReadyH.nil
        case hiZ13 => (simp only [List.getElem?_toArray, List.getElem?_cons_succ, List.getElem?_cons_zero] <;> rfl)
        refine step_store_box rfl 25 (.tmp 6) (.tmp 16) rfl (wd.heap.size + 1) hZ (H 1) rfl rfl 25 HC3.out infoTree5 ?_
        intro w4 hbx4 hg4
        have HY4 : Hid (LX w w4 h (AT.node l k v r).tr) := Lib.hid (LX.store HY3.out HC3.out hg4 (by have := HN.out; omega))
        have HB4 := Lib.hid hbx4
        have HA4 := Lib.hid (HB3.out.grown hg4 (fun q => by injection q; omega))
        clear hbx4 hg4
        refine hK.out _ _ ?_ (fun hHeld => ?_)
        · (first | exact ⟨(HY4.out.box.cells.2.2.2.2).trans (by rw [HTA.out]), (HP.out.below HY4.out.b).kid0 HTA.out (by omega), (HP.out.below HY4.out.b).kid1 HTA.out (by omega)⟩ | exact ⟨(HY3.out.box.cells.2.2.2.2).trans (by rw [HTA.out]), (HP.out.below HY3.out.b).kid0 HTA.out (by omega), (HP.out.below HY3.out.b).kid1 HTA.out (by omega)⟩ | exact ⟨(HY2.out.box.cells.2.2.2.2).trans (by rw [HTA.out]), (HP.out.below HY2.out.b).kid0 HTA.out (by omega), (HP.out.below HY2.out.b).kid1 HTA.out (by omega)⟩ | exact ⟨(HY1.out.box.cells.2.2.2.2).trans (by rw [HTA.out]), (HP.out.below HY1.out.b).kid0 HTA.out (by omega), (HP.out.below HY1.out.b).kid1 HTA.out (by omega)⟩ | exact ⟨(HY0.out.box.cells.2.2.2.2).trans (by rw [HTA.out]), (HP.out.below HY0.out.b).kid0 HTA.out (by omega), (HP.out.below HY0.out.b).kid1 HTA.out (by omega)⟩)
        clear hK K
        (try simp only [Act.put])
        refine wpAnyH_done (by kernel_rfl) ?_ _
        clear hHeld
        go_wp2_with fail
        go_meet
        exact ⟨wd.heap.size, (wd.heap.size + 1), rfl, rfl, ⟨HY4.out, HA4.out, HB4.out, by have := HN.out; omega, by have := HN.out; omega, by omega⟩⟩
      case stZ10 =>
        go_simp
        refine hK.out _ _ ?_ (fun hHeld => ?_)
        · (first | exact ⟨(HY4.out.box.cells.2.2.2.2).trans (by rw [HTA.out]), (HP.out.below HY4.out.b).kid0 HTA.out (by omega), (HP.out.below HY4.out.b).kid1 HTA.out (by omega)⟩ | exact ⟨(HY3.out.box.cells.2.2.2.2).trans (by rw [HTA.out]), (HP.out.below HY3.out.b).kid0 HTA.out (by omega), (HP.out.below HY3.out.b).kid1 HTA.out (by omega)⟩ | exact ⟨(HY2.out.box.cells.2.2.2.2).trans (by rw [HTA.out]), (HP.out.below HY2.out.b).kid0 HTA.out (by omega), (HP.out.below HY2.out.b).kid1 HTA.out (by omega)⟩ | exact ⟨(HY1.out.box.cells.2.2.2.2).trans (by rw [HTA.out]), (HP.out.below HY1.out.b).kid0 HTA.out (by omega), (HP.out.below HY1.out.b).kid1 HTA.out (by omega)⟩ | exact ⟨(HY0.out.box.cells.2.2.2.2).trans (by rw [HTA.out]), (HP.out.below HY0.out.b).kid0 HTA.out (by omega), (HP.out.below HY0.out.b).kid1 HTA.out (by omega)⟩)
        clear hK K
        (try simp only [Act.put, List.setIfInBounds_toArray, List.set_cons_zero, List.set_cons_succ])
        refine wpAnyH_ready (rs := [8]) (by kernel_rfl) (by simp) ?_
        refine AllReadyH.cons (o := ?oZ14) ?hiZ14 (fun K hK => ?stZ14) AllReadyH.nil
        case hiZ14 => (simp only [List.getElem?_toArray, List.getElem?_cons_succ, List.getElem?_cons_zero] <;> rfl)
        go_simp
        refine hK.out _ _ ?_ (fun hHeld => ?_)
        · (first | exact ⟨(HY4.out.box.cells.2.2.2.2).trans (by rw [HTA.out]), (HP.out.below HY4.out.b).kid0 HTA.out (by omega), (HP.out.below HY4.out.b).kid1 HTA.out (by omega)⟩ | exact ⟨(HY3.out.box.cells.2.2.2.2).trans (by rw [HTA.out]), (HP.out.below HY3.out.b).kid0 HTA.out (by omega), (HP.out.below HY3.out.b).kid1 HTA.out (by omega)⟩ | exact ⟨(HY2.out.box.cells.2.2.2.2).trans (by rw [HTA.out]), (HP.out.below HY2.out.b).kid0 HTA.out (by omega), (HP.out.below HY2.out.b).kid1 HTA.out (by omega)⟩ | exact ⟨(HY1.out.box.cells.2.2.2.2).trans (by rw [HTA.out]), (HP.out.below HY1.out.b).kid0 HTA.out (by omega), (HP.out.below HY1.out.b).kid1 HTA.out (by omega)⟩ | exact ⟨(HY0.out.box.cells.2.2.2.2).trans (by rw [HTA.out]), (HP.out.below HY0.out.b).kid0 HTA.out (by omega), (HP.out.below HY0.out.b).kid1 HTA.out (by omega)⟩)
        clear hK K
        (try simp only [Act.put, List.setIfInBounds_toArray, List.set_cons_zero, List.set_cons_succ])
        refine wpAnyH_ready (rs := [10]) (by kernel_rfl) (by simp) ?_
        refine AllReadyH.cons (o := ?oZ15) ?hiZ15 (fun K hK => ?stZ15) AllReadyH.nil
        case hiZ15 => (simp only [List.getElem?_toArray, List.getElem?_cons_succ, List.getElem?_cons_zero] <;> rfl)
        refine step_store_box rfl 25 (.tmp 5) (.tmp 12) rfl (wd.heap.size + 1) hZ (H 0) rfl rfl 25 HZ2.out infoTree5 ?_
        intro w3 hbx3 hg3
        have HY3 : Hid (LX w w3 h (AT.node l k v r).tr) := Lib.hid (LX.store HY2.out HZ2.out hg3 (by have := HN.out; omega))
        have HB3 := Lib.hid hbx3
        have HC3 := Lib.hid ((HZ1.out).grown hg3 (fun q => by injection q; omega))
        clear hbx3 hg3
        refine hK.out _ _ ?_ (fun hHeld => ?_)
        · (first | exact ⟨(HY4.out.box.cells.2.2.2.2).trans (by rw [HTA.out]), (HP.out.below HY4.out.b).kid0 HTA.out (by omega), (HP.out.below HY4.out.b).kid1 HTA.out (by omega)⟩ | exact ⟨(HY3.out.box.cells.2.2.2.2).trans (by rw [HTA.out]), (HP.out.below HY3.out.b).kid0 HTA.out (by omega), (HP.out.below HY3.out.b).kid1 HTA.out (by omega)⟩ | exact ⟨(HY2.out.box.cells.2.2.2.2).trans (by rw [HTA.out]), (HP.out.below HY2.out.b).kid0 HTA.out (by omega), (HP.out.below HY2.out.b).kid1 HTA.out (by omega)⟩ | exact ⟨(HY1.out.box.cells.2.2.2.2).trans (by rw [HTA.out]), (HP.out.below HY1.out.b).kid0 HTA.out (by omega), (HP.out.below HY1.out.b).kid1 HTA.out (by omega)⟩ | exact ⟨(HY0.out.box.cells.2.2.2.2).trans (by rw [HTA.out]), (HP.out.below HY0.out.b).kid0 HTA.out (by omega), (HP.out.below HY0.out.b).kid1 HTA.out (by omega)⟩)
        clear hK K
        (try simp only [Act.put])
        refine wpAnyH_ready (rs := [11]) (by kernel_rfl) (by simp) ?_
        refine AllReadyH.cons (o := ?oZ16) ?hiZ16 (fun K hK => ?stZ16) AllReadyH.nil
        case hiZ16 => (simp only [List.getElem?_toArray, List.getElem?_cons_succ, List.getElem?_cons_zero] <;> rfl)
        refine step_store_box rfl 25 (.tmp 6) (.tmp 16) rfl wd.heap.size hZ (H 1) rfl rfl 25 HC3.out infoTree5 ?_
        intro w4 hbx4 hg4
        have HY4 : Hid (LX w w4 h (AT.node l k v r).tr) := Lib.hid (LX.store HY3.out HC3.out hg4 (by have := HN.out; omega))
        have HB4 := Lib.hid hbx4
        have HA4 := Lib.hid (HB3.out.grown hg4 (fun q => by injection q; omega))
        clear hbx4 hg4
        refine hK.out _ _ ?_ (fun hHeld => ?_)
        · (first | exact ⟨(HY4.out.box.cells.2.2.2.2).trans (by rw [HTA.out]), (HP.out.below HY4.out.b).kid0 HTA.out (by omega), (HP.out.below HY4.out.b).kid1 HTA.out (by omega)⟩ | exact ⟨(HY3.out.box.cells.2.2.2.2).trans (by rw [HTA.out]), (HP.out.below HY3.out.b).kid0 HTA.out (by omega), (HP.out.below HY3.out.b).kid1 HTA.out (by omega)⟩ | exact ⟨(HY2.out.box.cells.2.2.2.2).trans (by rw [HTA.out]), (HP.out.below HY2.out.b).kid0 HTA.out (by omega), (HP.out.below HY2.out.b).kid1 HTA.out (by omega)⟩ | exact ⟨(HY1.out.box.cells.2.2.2.2).trans (by rw [HTA.out]), (HP.out.below HY1.out.b).kid0 HTA.out (by omega), (HP.out.below HY1.out.b).kid1 HTA.out (by omega)⟩ | exact ⟨(HY0.out.box.cells.2.2.2.2).trans (by rw [HTA.out]), (HP.out.below HY0.out.b).kid0 HTA.out (by omega), (HP.out.below HY0.out.b).kid1 HTA.out (by omega)⟩)
        clear hK K
        (try simp only [Act.put])
        refine wpAnyH_done (by kernel_rfl) ?_ _
        clear hHeld
        go_wp2_with fail
        go_meet
        exact ⟨(wd.heap.size + 1), wd.heap.size, rfl, rfl, ⟨HY4.out, HA4.out, HB4.out, by have := HN.out; omega, by have := HN.out; omega, by omega⟩⟩
    obtain ⟨b5, b6, rfl, rfl, hkx⟩ := hcut
    have HX1 := Lib.hid hkx
    clear hkx HX0
    obtain ⟨x0, x1, x2, x3, x4⟩ := HX1.out.lx.box.cells
    rcases ltL_three key k with c | c | c
    · have HC := Lib.hid (ordL_lt c)
      have HPN := Lib.hid (HPN0.out.trans (if_pos c))
      have HFI : Hid ((l.find key).isNil = false) := Lib.hid (by have q := HF0.out; rw [if_pos c] at q; exact q)
      clear c HPN0 HF0
      go_upto_region 4 with (first
        | (go_at_call 40
           refine (compare_any key k ka h.ka kn h.kn kc h.kc _ (HK.out.below HX1.out.lx.b) (HP.out.below HX1.out.lx.b).key).mono ?_
           rintro _ w8 ⟨rfl, hw8⟩
           rw [hw8, HC.out]
           clear hw8))
      clear x0 x1 x2 x3 x4
      refine region_l (S := (fun W => W.cell? ⟨w.heap.size, 1, none⟩ = some (.slice h.ka h.kn h.kc) ∧ W.cell? ⟨w.heap.size, 2, none⟩ = some (.slice h.va h.vn h.vc) ∧ (W.cell? ⟨b5, 0, none⟩ = some (.int .i64 (H 0).k) ∧ W.cell? ⟨b5, 1, none⟩ = some (.slice (H 0).ka (H 0).kn (H 0).kc) ∧ W.cell? ⟨b5, 2, none⟩ = some (.slice (H 0).va (H 0).vn (H 0).vc) ∧ W.cell? ⟨b5, 3, none⟩ = some (.slice (H 0).da (H 0).dn (H 0).dc) ∧ W.cell? ⟨b5, 4, none⟩ = some (.slice (H 0).ta (H 0).tn (H 0).tc)) ∧ W.cell? ⟨b6, 0, none⟩ = some (.int .i64 (H 1).k) ∧ W.cell? ⟨b6, 1, none⟩ = some (.slice (H 1).ka (H 1).kn (H 1).kc) ∧ W.cell? ⟨b6, 2, none⟩ = some (.slice (H 1).va (H 1).vn (H 1).vc) ∧ W.cell? ⟨b6, 3, none⟩ = some (.slice (H 1).da (H 1).dn (H 1).dc) ∧ W.cell? ⟨b6, 4, none⟩ = some (.slice (H 1).ta (H 1).tn (H 1).tc))) 10 (by kernel_rfl) ⟨HX1.out.drew.lx.box.cells.2.1, HX1.out.drew.lx.box.cells.2.2.1, HX1.out.drew.b1.cells, HX1.out.drew.b2.cells⟩ (fun hHeld => ?_)
      refine take_l (i := 0) (oi := ?oZ101) (v := ?vZ101) ?hiZ101 (by kernel_rfl) (by kernel_rfl) (by kernel_rfl) (by kernel_rfl) ?hQZ101 ?hwZ101 ?hyZ101 (by assumption) ?restZ101
      case hiZ101 => (simp only [List.getElem?_toArray, List.getElem?_cons_zero] <;> rfl)
      case hQZ101 => exact (fun _ _ _ h => h)
      case hwZ101 => rfl
      case hyZ101 => (intro w hSw; (try dsimp only at hSw); go_simp; try with_reducible rfl)
      (try simp only [Act.put, List.setIfInBounds_toArray, List.set_cons_zero, List.set_cons_succ])
      refine take_l (i := 1) (oi := ?oZ102) (v := ?vZ102) ?hiZ102 (by kernel_rfl) (by kernel_rfl) (by kernel_rfl) (by kernel_rfl) ?hQZ102 ?hwZ102 ?hyZ102 (by assumption) ?restZ102
      case hiZ102 => (simp only [List.getElem?_toArray, List.getElem?_cons_succ, List.getElem?_cons_zero] <;> rfl)
      case hQZ102 => exact (fun _ _ _ h => h)
      case hwZ102 => rfl
      case hyZ102 => (intro w hSw; (try dsimp only at hSw); go_simp; try with_reducible rfl)
      (try simp only [Act.put, List.setIfInBounds_toArray, List.set_cons_zero, List.set_cons_succ])
      refine take_l (i := 3) (oi := ?oZ103) (v := ?vZ103) ?hiZ103 (by kernel_rfl) (by kernel_rfl) (by kernel_rfl) (by kernel_rfl) ?hQZ103 ?hwZ103 ?hyZ103 (by assumption) ?restZ103
      case hiZ103 => (simp only [List.getElem?_toArray, List.getElem?_cons_succ, List.getElem?_cons_zero] <;> rfl)
      case hQZ103 => exact (fun _ _ _ h => h)
      case hwZ103 => rfl
      case hyZ103 => (intro w hSw; (try dsimp only at hSw); go_simp; try with_reducible rfl)
      (try simp only [Act.put, List.setIfInBounds_toArray, List.set_cons_zero, List.set_cons_succ])
      refine take_l (i := 4) (oi := ?oZ104) (v := ?vZ104) ?hiZ104 (by kernel_rfl) (by kernel_rfl) (by kernel_rfl) (by kernel_rfl) ?hQZ104 ?hwZ104 ?hyZ104 (by assumption) ?restZ104
      case hiZ104 => (simp only [List.getElem?_toArray, List.getElem?_cons_succ, List.getElem?_cons_zero] <;> rfl)
      case hQZ104 => exact (fun _ _ _ h => h)
      case hwZ104 => rfl
      case hyZ104 => (intro w hSw; (try dsimp only at hSw); go_simp; try with_reducible rfl)
      (try simp only [Act.put, List.setIfInBounds_toArray, List.set_cons_zero, List.set_cons_succ])
      refine take_l (i := 5) (oi := ?oZ105) (v := ?vZ105) ?hiZ105 (by kernel_rfl) (by kernel_rfl) (by kernel_rfl) (by kernel_rfl) ?hQZ105 ?hwZ105 ?hyZ105 (by assumption) ?restZ105
      case hiZ105 => (simp only [List.getElem?_toArray, List.getElem?_cons_succ, List.getElem?_cons_zero] <;> rfl)
      case hQZ105 => exact (fun _ _ _ h => h)
      case hwZ105 => rfl
      case hyZ105 => (intro w hSw; (try dsimp only at hSw); go_simp; try with_reducible rfl)
      (try simp only [Act.put, List.setIfInBounds_toArray, List.set_cons_zero, List.set_cons_succ])
      refine take_l (i := 6) (oi := ?oZ106) (v := ?vZ106) ?hiZ106 (by kernel_rfl) (by kernel_rfl) (by kernel_rfl) (by kernel_rfl) ?hQZ106 ?hwZ106 ?hyZ106 (by assumption) ?restZ106
      case hiZ106 => (simp only [List.getElem?_toArray, List.getElem?_cons_succ, List.getElem?_cons_zero] <;> rfl)
      case hQZ106 => exact (fun _ _ _ h => h)
      case hwZ106 => rfl
      case hyZ106 => (intro w hSw; (try dsimp only at hSw); go_simp; try with_reducible rfl)
      (try simp only [Act.put, List.setIfInBounds_toArray, List.set_cons_zero, List.set_cons_succ])
      refine take_l (i := 7) (oi := ?oZ107) (v := ?vZ107) ?hiZ107 (by kernel_rfl) (by kernel_rfl) (by kernel_rfl) (by kernel_rfl) ?hQZ107 ?hwZ107 ?hyZ107 (by assumption) ?restZ107
      case hiZ107 => (simp only [List.getElem?_toArray, List.getElem?_cons_succ, List.getElem?_cons_zero] <;> rfl)
      case hQZ107 => exact (fun _ _ _ h => h)
      case hwZ107 => rfl
      case hyZ107 => (intro w hSw; (try dsimp only at hSw); go_simp; try with_reducible rfl)
      (try simp only [Act.put, List.setIfInBounds_toArray, List.set_cons_zero, List.set_cons_succ])
      refine one_l (i := 2) (o := ?oZ108) (by kernel_rfl) ?hiZ108 (fun K hK => ?stZ108)
      case hiZ108 => (simp only [List.getElem?_toArray, List.getElem?_cons_succ, List.getElem?_cons_zero] <;> rfl)
      go_simp
      go_at_call 35
      refine (IHL.out key ka kn kc (H 0) _ ((HP.out.below HX1.out.drew.lx.b).kids 0 l0) HBL.out.1 HRI.out.1 (by omega) HFI.out (HK.out.below HX1.out.drew.lx.b)).mono ?_
      rintro _ w2 ⟨h2, rfl, hi2, hb2⟩
      unfold TH.v
      have HX2 := Lib.hid (HX1.out.drew.below hb2)
      have HI2 := Lib.hid hi2
      clear hi2 hb2
      go_simp
      refine hK.out _ _ ?_ (fun hHeld => ?_)
      · (first | exact ⟨HX4.out.lx.box.cells.2.1, HX4.out.lx.box.cells.2.2.1, HX4.out.b1.cells, HX4.out.b2.cells⟩ | exact ⟨HX3.out.lx.box.cells.2.1, HX3.out.lx.box.cells.2.2.1, HX3.out.b1.cells, HX3.out.b2.cells⟩ | exact ⟨HX2.out.lx.box.cells.2.1, HX2.out.lx.box.cells.2.2.1, HX2.out.b1.cells, HX2.out.b2.cells⟩ | exact ⟨HX1.out.drew.lx.box.cells.2.1, HX1.out.drew.lx.box.cells.2.2.1, HX1.out.drew.b1.cells, HX1.out.drew.b2.cells⟩)
      clear hK K
      (try simp only [Act.put, List.setIfInBounds_toArray, List.set_cons_zero, List.set_cons_succ])
      refine one_l (i := 8) (o := ?oZ109) (by kernel_rfl) ?hiZ109 (fun K hK => ?stZ109)
      case hiZ109 => (simp only [List.getElem?_toArray, List.getElem?_cons_succ, List.getElem?_cons_zero] <;> rfl)
      go_simp
      go_at_call 43
      refine (prNode_any (l.del key) r h2 (H 1) h.ka h.va h.kn h.kc h.vn h.vc k v _ HI2.out ((HP.out.below HX2.out.lx.b).kids 1 l1) (HP.out.below HX2.out.lx.b).key (HP.out.below HX2.out.lx.b).val).mono ?_
      rintro _ w3 ⟨h3, rfl, hi3, hb3⟩
      unfold TH.v
      have HX3 := Lib.hid (HX2.out.below hb3)
      have HI3 := Lib.hid hi3
      clear hi3 hb3
      go_simp
      refine hK.out _ _ ?_ (fun hHeld => ?_)
      · (first | exact ⟨HX4.out.lx.box.cells.2.1, HX4.out.lx.box.cells.2.2.1, HX4.out.b1.cells, HX4.out.b2.cells⟩ | exact ⟨HX3.out.lx.box.cells.2.1, HX3.out.lx.box.cells.2.2.1, HX3.out.b1.cells, HX3.out.b2.cells⟩ | exact ⟨HX2.out.lx.box.cells.2.1, HX2.out.lx.box.cells.2.2.1, HX2.out.b1.cells, HX2.out.b2.cells⟩ | exact ⟨HX1.out.drew.lx.box.cells.2.1, HX1.out.drew.lx.box.cells.2.2.1, HX1.out.drew.b1.cells, HX1.out.drew.b2.cells⟩)
      clear hK K
      (try simp only [Act.put, List.setIfInBounds_toArray, List.set_cons_zero, List.set_cons_succ])
      refine one_l (i := 9) (o := ?oZ110) (by kernel_rfl) ?hiZ110 (fun K hK => ?stZ110)
      case hiZ110 => (simp only [List.getElem?_toArray, List.getElem?_cons_succ, List.getElem?_cons_zero] <;> rfl)
      go_simp
      go_at_call 44
      refine (prReb_any (l.del key) k v r h3 _ HI3.out (AT.del_bal key l HBL.out.1).1 HBL.out.2.1 (by have := (AT.del_bal key l HBL.out.1).2.2; omega) (by omega)).mono ?_
      rintro _ w4 ⟨h4, rfl, hi4, hb4⟩
      unfold TH.v
      have HX4 := Lib.hid (HX3.out.below hb4)
      have HI4 := Lib.hid hi4
      clear hi4 hb4
      go_simp
      refine hK.out _ _ ?_ (fun hHeld => ?_)
      · (first | exact ⟨HX4.out.lx.box.cells.2.1, HX4.out.lx.box.cells.2.2.1, HX4.out.b1.cells, HX4.out.b2.cells⟩ | exact ⟨HX3.out.lx.box.cells.2.1, HX3.out.lx.box.cells.2.2.1, HX3.out.b1.cells, HX3.out.b2.cells⟩ | exact ⟨HX2.out.lx.box.cells.2.1, HX2.out.lx.box.cells.2.2.1, HX2.out.b1.cells, HX2.out.b2.cells⟩ | exact ⟨HX1.out.drew.lx.box.cells.2.1, HX1.out.drew.lx.box.cells.2.2.1, HX1.out.drew.b1.cells, HX1.out.drew.b2.cells⟩)
      clear hK K
      (try simp only [Act.put, List.setIfInBounds_toArray, List.set_cons_zero, List.set_cons_succ])
      refine last_l (o := ?oZ111) (by kernel_rfl) ?hiZ111 (by kernel_rfl) (fun K hK => ?stZ111)
      case hiZ111 => (simp only [List.getElem?_toArray, List.getElem?_cons_succ, List.getElem?_cons_zero] <;> rfl)
      refine step_store_box rfl 25 (.tmp 4) (.tmp 33) rfl (w.heap.size + 1) hZ h4 rfl rfl 25 HX4.out.lx.res infoTree5 ?_
      intro w9 hbx9 hg9
      have HX9 := Lib.hid hbx9
      have HI9 := Lib.hid (AT.outBox HX4.out.lx.res hg9 _ _ HI4.out)
      have HB9 : Hid (Below w.heap.size w w9) := Lib.hid (HX4.out.lx.b.grown hg9 HX4.out.lx.b.size (fun j hj => by injection hj; omega))
      clear hbx9 hg9
      refine hK.out _ _ ?_
      clear hK K
      (try simp only [Act.put])
      
      clear hHeld
      go_wp2_with fail
      refine bodyPost_ret (v := h4.v) (result_tree Try.results35 _ HX9.out rfl Try.underlying25 infoTree5) rfl ⟨_, rfl, ?_, HB9.out⟩
      rw [HPN.out]
      exact HI9.out
    · have HC := Lib.hid (show ordL key k = 0 by rw [c]; exact ordL_eq k)
      have cl : ltL key k = false := by rw [c]; exact ltL_irr k
      have cg : ltL k key = false := by rw [c]; exact ltL_irr k
      have HPN1 := Lib.hid ((HPN0.out.trans (if_neg (by rw [cl]; simp))).trans (if_neg (by rw [cg]; simp)))
      clear c cl cg HPN0 HF0
      obtain ⟨y0, y1, y2, y3, y4⟩ := HX1.out.b1.cells
      obtain ⟨z0, z1, z2, z3, z4⟩ := HX1.out.b2.cells
      obtain ⟨_, hpl⟩ := (HP.out.kids 0 l0).parts
      obtain ⟨_, hpr⟩ := (HP.out.kids 1 l1).parts
      have HLN := Lib.hid (And.intro hpl.hk hpr.hk)
      clear hpl hpr
      cases l with
      | nil =>
        have hl0 : ((H 0).k == 0) = true := by have h2 : (H 0).k = 0 := HLN.out.1; simp [h2]
        have HPN := Lib.hid (HPN1.out.trans (if_pos rfl))
        go_wp2_with (first
        | (go_at_call 40
           refine (compare_any key k ka h.ka kn h.kn kc h.kc _ (HK.out.below HX1.out.lx.b) (HP.out.below HX1.out.lx.b).key).mono ?_
           rintro _ w8 ⟨rfl, hw8⟩
           rw [hw8, HC.out]
           clear hw8)
        | (refine wpList_store_box rfl 25 (.tmp 4) (.tmp 51) rfl (w.heap.size + 1) hZ (H 1) rfl rfl 25 HX1.out.lx.res infoTree5 ?_
           intro w9 hbx9 hg9
           have HX9 := Lib.hid hbx9
           have HI9 := Lib.hid (AT.outBox HX1.out.lx.res hg9 r _ ((HP.out.below HX1.out.lx.b).kids 1 l1))
           have HB9 : Hid (Below w.heap.size w w9) := Lib.hid (HX1.out.lx.b.grown hg9 HX1.out.lx.b.size (fun j hj => by injection hj; omega))
           clear hbx9 hg9))
        refine bodyPost_ret (v := TH.v (H 1)) (result_tree Try.results35 _ HX9.out rfl Try.underlying25 infoTree5) rfl ⟨_, rfl, ?_, HB9.out⟩
        rw [HPN.out]
        exact HI9.out
      | node ll lk lv lr =>
        have hl0 : ((H 0).k == 0) = false := by have h2 : (H 0).k = 1 := HLN.out.1; simp [h2]
        have HPN2 := Lib.hid (HPN1.out.trans (if_neg (by simp [AT.isNil])))
        cases r with
        | nil =>
          have hr0 : ((H 1).k == 0) = true := by have h2 : (H 1).k = 0 := HLN.out.2; simp [h2]
          have HPN := Lib.hid (HPN2.out.trans (if_pos rfl))
          go_wp2_with (first
        | (go_at_call 40
           refine (compare_any key k ka h.ka kn h.kn kc h.kc _ (HK.out.below HX1.out.lx.b) (HP.out.below HX1.out.lx.b).key).mono ?_
           rintro _ w8 ⟨rfl, hw8⟩
           rw [hw8, HC.out]
           clear hw8)
        | (refine wpList_store_box rfl 25 (.tmp 4) (.tmp 56) rfl (w.heap.size + 1) hZ (H 0) rfl rfl 25 HX1.out.lx.res infoTree5 ?_
           intro w9 hbx9 hg9
           have HX9 := Lib.hid hbx9
           have HI9 := Lib.hid (AT.outBox HX1.out.lx.res hg9 (AT.node ll lk lv lr) _ ((HP.out.below HX1.out.lx.b).kids 0 l0))
           have HB9 : Hid (Below w.heap.size w w9) := Lib.hid (HX1.out.lx.b.grown hg9 HX1.out.lx.b.size (fun j hj => by injection hj; omega))
           clear hbx9 hg9))
          refine bodyPost_ret (v := TH.v (H 0)) (result_tree Try.results35 _ HX9.out rfl Try.underlying25 infoTree5) rfl ⟨_, rfl, ?_, HB9.out⟩
          rw [HPN.out]
          exact HI9.out
        | node rl rk rv rr =>
          have hr0 : ((H 1).k == 0) = false := by have h2 : (H 1).k = 1 := HLN.out.2; simp [h2]
          have HPN := Lib.hid (HPN2.out.trans (if_neg (by simp [AT.isNil])))
          go_upto_region 12 with (first
        | (go_at_call 40
           refine (compare_any key k ka h.ka kn h.kn kc h.kc _ (HK.out.below HX1.out.lx.b) (HP.out.below HX1.out.lx.b).key).mono ?_
           rintro _ w8 ⟨rfl, hw8⟩
           rw [hw8, HC.out]
           clear hw8)
        | (go_at_call 48
           refine (prLeast_any (AT.node rl rk rv rr) (H 1) _ ((HP.out.below HX1.out.lx.b).kids 1 l1) rfl).mono ?_
           rintro _ w3 ⟨hm, rfl, hi3, hb3⟩
           unfold TH.v
           have HX3 := Lib.hid (HX1.out.below hb3)
           have HIM := Lib.hid hi3
           clear hi3 hb3)
        | (refine wpList_store_box rfl 25 (.tmp 8) (.tmp 58) rfl w3.heap.size hZ hm rfl rfl 25 (Box.new w3 25 hZ) infoTree5 ?_
           intro w4 hbx4 hg4
           have hba : Below w3.heap.size w3 (w3.alloc (.cells #[.int .i64 0, .slice none 0 0, .slice none 0 0, .slice none 0 0, .slice none 0 0] 25)) := (Below.refl _ _).alloc (Nat.le_refl _) _
           have HX4 := Lib.hid ((HX3.out.below hba).other (Box.new w3 25 hZ) hg4 HX3.out.lx.res.lt (Nat.ne_of_lt HX3.out.b1.lt) (Nat.ne_of_lt HX3.out.b2.lt))
           have HM4 : Hid (Box w4 25 w3.heap.size hm ∧ InBytes w4 hm.ka hm.kn hm.kc ((AT.node rl rk rv rr).pairs.headD ([], [])).1 ∧ InBytes w4 hm.va hm.vn hm.vc ((AT.node rl rk rv rr).pairs.headD ([], [])).2) := Lib.hid (by
             obtain ⟨ll2, k2, v2, rr2, e1, e2⟩ := AT.low_head (AT.node rl rk rv rr) rfl
             have hh := HIM.out
             rw [e1] at hh
             obtain ⟨_, hpm⟩ := (hh.lower hba).parts
             rw [e2]
             exact ⟨hbx4, hpm.key.outBox (Box.new w3 25 hZ) hg4, hpm.val.outBox (Box.new w3 25 hZ) hg4⟩)
           clear hbx4 hg4 hba))
          clear x0 x1 x2 x3 x4 y0 y1 y2 y3 y4 z0 z1 z2 z3 z4
          try simp only [Act.put]
          have HM4d : Hid (Box w4.drew 25 w3.heap.size hm ∧ InBytes w4.drew hm.ka hm.kn hm.kc ((AT.node rl rk rv rr).pairs.headD ([], [])).1 ∧ InBytes w4.drew hm.va hm.vn hm.vc ((AT.node rl rk rv rr).pairs.headD ([], [])).2) := Lib.hid ⟨HM4.out.1, HM4.out.2.1.below (Below.refl _ _).drew, HM4.out.2.2.below (Below.refl _ _).drew⟩
          clear HM4
          generalize w3.heap.size = b7 at *
          refine region_l (S := (fun W => W.cell? ⟨b7, 1, none⟩ = some (.slice hm.ka hm.kn hm.kc) ∧ W.cell? ⟨b7, 2, none⟩ = some (.slice hm.va hm.vn hm.vc) ∧ (W.cell? ⟨b5, 0, none⟩ = some (.int .i64 (H 0).k) ∧ W.cell? ⟨b5, 1, none⟩ = some (.slice (H 0).ka (H 0).kn (H 0).kc) ∧ W.cell? ⟨b5, 2, none⟩ = some (.slice (H 0).va (H 0).vn (H 0).vc) ∧ W.cell? ⟨b5, 3, none⟩ = some (.slice (H 0).da (H 0).dn (H 0).dc) ∧ W.cell? ⟨b5, 4, none⟩ = some (.slice (H 0).ta (H 0).tn (H 0).tc)) ∧ W.cell? ⟨b6, 0, none⟩ = some (.int .i64 (H 1).k) ∧ W.cell? ⟨b6, 1, none⟩ = some (.slice (H 1).ka (H 1).kn (H 1).kc) ∧ W.cell? ⟨b6, 2, none⟩ = some (.slice (H 1).va (H 1).vn (H 1).vc) ∧ W.cell? ⟨b6, 3, none⟩ = some (.slice (H 1).da (H 1).dn (H 1).dc) ∧ W.cell? ⟨b6, 4, none⟩ = some (.slice (H 1).ta (H 1).tn (H 1).tc))) 11 (by kernel_rfl) ⟨HM4d.out.1.cells.2.1, HM4d.out.1.cells.2.2.1, HX4.out.drew.b1.cells, HX4.out.drew.b2.cells⟩ (fun hHeld => ?_)
          refine take_l (i := 0) (oi := ?oZ123) (v := ?vZ123) ?hiZ123 (by kernel_rfl) (by kernel_rfl) (by kernel_rfl) (by kernel_rfl) ?hQZ123 ?hwZ123 ?hyZ123 (by assumption) ?restZ123
          case hiZ123 => (simp only [List.getElem?_toArray, List.getElem?_cons_zero] <;> rfl)
          case hQZ123 => exact (fun _ _ _ h => h)
          case hwZ123 => rfl
          case hyZ123 => (intro w hSw; (try dsimp only at hSw); go_simp; try with_reducible rfl)
          (try simp only [Act.put, List.setIfInBounds_toArray, List.set_cons_zero, List.set_cons_succ])
          refine take_l (i := 1) (oi := ?oZ124) (v := ?vZ124) ?hiZ124 (by kernel_rfl) (by kernel_rfl) (by kernel_rfl) (by kernel_rfl) ?hQZ124 ?hwZ124 ?hyZ124 (by assumption) ?restZ124
          case hiZ124 => (simp only [List.getElem?_toArray, List.getElem?_cons_succ, List.getElem?_cons_zero] <;> rfl)
          case hQZ124 => exact (fun _ _ _ h => h)
          case hwZ124 => rfl
          case hyZ124 => (intro w hSw; (try dsimp only at hSw); go_simp; try with_reducible rfl)
          (try simp only [Act.put, List.setIfInBounds_toArray, List.set_cons_zero, List.set_cons_succ])
          refine take_l (i := 2) (oi := ?oZ125) (v := ?vZ125) ?hiZ125 (by kernel_rfl) (by kernel_rfl) (by kernel_rfl) (by kernel_rfl) ?hQZ125 ?hwZ125 ?hyZ125 (by assumption) ?restZ125
          case hiZ125 => (simp only [List.getElem?_toArray, List.getElem?_cons_succ, List.getElem?_cons_zero] <;> rfl)
          case hQZ125 => exact (fun _ _ _ h => h)
          case hwZ125 => rfl
          case hyZ125 => (intro w hSw; (try dsimp only at hSw); go_simp; try with_reducible rfl)
          (try simp only [Act.put, List.setIfInBounds_toArray, List.set_cons_zero, List.set_cons_succ])
          refine take_l (i := 3) (oi := ?oZ126) (v := ?vZ126) ?hiZ126 (by kernel_rfl) (by kernel_rfl) (by kernel_rfl) (by kernel_rfl) ?hQZ126 ?hwZ126 ?hyZ126 (by assumption) ?restZ126
          case hiZ126 => (simp only [List.getElem?_toArray, List.getElem?_cons_succ, List.getElem?_cons_zero] <;> rfl)
          case hQZ126 => exact (fun _ _ _ h => h)
          case hwZ126 => rfl
          case hyZ126 => (intro w hSw; (try dsimp only at hSw); go_simp; try with_reducible rfl)
          (try simp only [Act.put, List.setIfInBounds_toArray, List.set_cons_zero, List.set_cons_succ])
          refine take_l (i := 4) (oi := ?oZ127) (v := ?vZ127) ?hiZ127 (by kernel_rfl) (by kernel_rfl) (by kernel_rfl) (by kernel_rfl) ?hQZ127 ?hwZ127 ?hyZ127 (by assumption) ?restZ127
          case hiZ127 => (simp only [List.getElem?_toArray, List.getElem?_cons_succ, List.getElem?_cons_zero] <;> rfl)
          case hQZ127 => exact (fun _ _ _ h => h)
          case hwZ127 => rfl
          case hyZ127 => (intro w hSw; (try dsimp only at hSw); go_simp; try with_reducible rfl)
          (try simp only [Act.put, List.setIfInBounds_toArray, List.set_cons_zero, List.set_cons_succ])
          refine take_l (i := 5) (oi := ?oZ128) (v := ?vZ128) ?hiZ128 (by kernel_rfl) (by kernel_rfl) (by kernel_rfl) (by kernel_rfl) ?hQZ128 ?hwZ128 ?hyZ128 (by assumption) ?restZ128
          case hiZ128 => (simp only [List.getElem?_toArray, List.getElem?_cons_succ, List.getElem?_cons_zero] <;> rfl)
          case hQZ128 => exact (fun _ _ _ h => h)
          case hwZ128 => rfl
          case hyZ128 => (intro w hSw; (try dsimp only at hSw); go_simp; try with_reducible rfl)
          (try simp only [Act.put, List.setIfInBounds_toArray, List.set_cons_zero, List.set_cons_succ])
          refine take_l (i := 6) (oi := ?oZ129) (v := ?vZ129) ?hiZ129 (by kernel_rfl) (by kernel_rfl) (by kernel_rfl) (by kernel_rfl) ?hQZ129 ?hwZ129 ?hyZ129 (by assumption) ?restZ129
          case hiZ129 => (simp only [List.getElem?_toArray, List.getElem?_cons_succ, List.getElem?_cons_zero] <;> rfl)
          case hQZ129 => exact (fun _ _ _ h => h)
          case hwZ129 => rfl
          case hyZ129 => (intro w hSw; (try dsimp only at hSw); go_simp; try with_reducible rfl)
          (try simp only [Act.put, List.setIfInBounds_toArray, List.set_cons_zero, List.set_cons_succ])
          refine take_l (i := 7) (oi := ?oZ130) (v := ?vZ130) ?hiZ130 (by kernel_rfl) (by kernel_rfl) (by kernel_rfl) (by kernel_rfl) ?hQZ130 ?hwZ130 ?hyZ130 (by assumption) ?restZ130
          case hiZ130 => (simp only [List.getElem?_toArray, List.getElem?_cons_succ, List.getElem?_cons_zero] <;> rfl)
          case hQZ130 => exact (fun _ _ _ h => h)
          case hwZ130 => rfl
          case hyZ130 => (intro w hSw; (try dsimp only at hSw); go_simp; try with_reducible rfl)
          (try simp only [Act.put, List.setIfInBounds_toArray, List.set_cons_zero, List.set_cons_succ])
          refine one_l (i := 8) (o := ?oZ131) (by kernel_rfl) ?hiZ131 (fun K hK => ?stZ131)
          case hiZ131 => (simp only [List.getElem?_toArray, List.getElem?_cons_succ, List.getElem?_cons_zero] <;> rfl)
          go_simp
          go_at_call 35
          refine (IHR.out ((AT.node rl rk rv rr).pairs.headD ([], [])).1 hm.ka hm.kn hm.kc (H 1) _ ((HP.out.below HX4.out.drew.lx.b).kids 1 l1) HBL.out.2.1 HRI.out.2.1 (by simp only [AT.depth] at hd ⊢; omega) (AT.find_head HRI.out.2.1 rfl) HM4d.out.2.1).mono ?_
          rintro _ w5 ⟨h5, rfl, hi5, hb5⟩
          unfold TH.v
          have HX5 := Lib.hid (HX4.out.drew.below hb5)
          have HM5 := Lib.hid (And.intro (HM4d.out.1.below hb5 HM4d.out.1.lt) (And.intro (HM4d.out.2.1.below hb5) (HM4d.out.2.2.below hb5)))
          have HI5 := Lib.hid hi5
          clear hi5 hb5
          go_simp
          refine hK.out _ _ ?_ (fun hHeld => ?_)
          · (first | exact ⟨HM7.out.1.cells.2.1, HM7.out.1.cells.2.2.1, HX7.out.b1.cells, HX7.out.b2.cells⟩ | exact ⟨HM6.out.1.cells.2.1, HM6.out.1.cells.2.2.1, HX6.out.b1.cells, HX6.out.b2.cells⟩ | exact ⟨HM5.out.1.cells.2.1, HM5.out.1.cells.2.2.1, HX5.out.b1.cells, HX5.out.b2.cells⟩ | exact ⟨HM4d.out.1.cells.2.1, HM4d.out.1.cells.2.2.1, HX4.out.drew.b1.cells, HX4.out.drew.b2.cells⟩)
          clear hK K
          (try simp only [Act.put, List.setIfInBounds_toArray, List.set_cons_zero, List.set_cons_succ])
          refine one_l (i := 9) (o := ?oZ132) (by kernel_rfl) ?hiZ132 (fun K hK => ?stZ132)
          case hiZ132 => (simp only [List.getElem?_toArray, List.getElem?_cons_succ, List.getElem?_cons_zero] <;> rfl)
          go_simp
          go_at_call 43
          refine (prNode_any (AT.node ll lk lv lr) ((AT.node rl rk rv rr).del ((AT.node rl rk rv rr).pairs.headD ([], [])).1) (H 0) h5 hm.ka hm.va hm.kn hm.kc hm.vn hm.vc ((AT.node rl rk rv rr).pairs.headD ([], [])).1 ((AT.node rl rk rv rr).pairs.headD ([], [])).2 _ ((HP.out.below HX5.out.lx.b).kids 0 l0) HI5.out HM5.out.2.1 HM5.out.2.2).mono ?_
          rintro _ w6 ⟨h6, rfl, hi6, hb6⟩
          unfold TH.v
          have HX6 := Lib.hid (HX5.out.below hb6)
          have HM6 := Lib.hid (And.intro (HM5.out.1.below hb6 HM5.out.1.lt) (And.intro (HM5.out.2.1.below hb6) (HM5.out.2.2.below hb6)))
          have HI6 := Lib.hid hi6
          clear hi6 hb6
          go_simp
          refine hK.out _ _ ?_ (fun hHeld => ?_)
          · (first | exact ⟨HM7.out.1.cells.2.1, HM7.out.1.cells.2.2.1, HX7.out.b1.cells, HX7.out.b2.cells⟩ | exact ⟨HM6.out.1.cells.2.1, HM6.out.1.cells.2.2.1, HX6.out.b1.cells, HX6.out.b2.cells⟩ | exact ⟨HM5.out.1.cells.2.1, HM5.out.1.cells.2.2.1, HX5.out.b1.cells, HX5.out.b2.cells⟩ | exact ⟨HM4d.out.1.cells.2.1, HM4d.out.1.cells.2.2.1, HX4.out.drew.b1.cells, HX4.out.drew.b2.cells⟩)
          clear hK K
          (try simp only [Act.put, List.setIfInBounds_toArray, List.set_cons_zero, List.set_cons_succ])
          refine one_l (i := 10) (o := ?oZ133) (by kernel_rfl) ?hiZ133 (fun K hK => ?stZ133)
          case hiZ133 => (simp only [List.getElem?_toArray, List.getElem?_cons_succ, List.getElem?_cons_zero] <;> rfl)
          go_simp
          go_at_call 44
          refine (prReb_any (AT.node ll lk lv lr) ((AT.node rl rk rv rr).pairs.headD ([], [])).1 ((AT.node rl rk rv rr).pairs.headD ([], [])).2 ((AT.node rl rk rv rr).del ((AT.node rl rk rv rr).pairs.headD ([], [])).1) h6 _ HI6.out HBL.out.1 (AT.del_bal ((AT.node rl rk rv rr).pairs.headD ([], [])).1 (AT.node rl rk rv rr) HBL.out.2.1).1 (by simp only [AT.depth] at hd ⊢; omega) (by have := (AT.del_bal ((AT.node rl rk rv rr).pairs.headD ([], [])).1 (AT.node rl rk rv rr) HBL.out.2.1).2.2; simp only [AT.depth] at hd this ⊢; omega)).mono ?_
          rintro _ w7 ⟨h7, rfl, hi7, hb7⟩
          unfold TH.v
          have HX7 := Lib.hid (HX6.out.below hb7)
          have HM7 := Lib.hid (And.intro (HM6.out.1.below hb7 HM6.out.1.lt) (And.intro (HM6.out.2.1.below hb7) (HM6.out.2.2.below hb7)))
          have HI7 := Lib.hid hi7
          clear hi7 hb7
          go_simp
          refine hK.out _ _ ?_ (fun hHeld => ?_)
          · (first | exact ⟨HM7.out.1.cells.2.1, HM7.out.1.cells.2.2.1, HX7.out.b1.cells, HX7.out.b2.cells⟩ | exact ⟨HM6.out.1.cells.2.1, HM6.out.1.cells.2.2.1, HX6.out.b1.cells, HX6.out.b2.cells⟩ | exact ⟨HM5.out.1.cells.2.1, HM5.out.1.cells.2.2.1, HX5.out.b1.cells, HX5.out.b2.cells⟩ | exact ⟨HM4d.out.1.cells.2.1, HM4d.out.1.cells.2.2.1, HX4.out.drew.b1.cells, HX4.out.drew.b2.cells⟩)
          clear hK K
          (try simp only [Act.put, List.setIfInBounds_toArray, List.set_cons_zero, List.set_cons_succ])
          refine last_l (o := ?oZ134) (by kernel_rfl) ?hiZ134 (by kernel_rfl) (fun K hK => ?stZ134)
          case hiZ134 => (simp only [List.getElem?_toArray, List.getElem?_cons_succ, List.getElem?_cons_zero] <;> rfl)
          refine step_store_box rfl 25 (.tmp 4) (.tmp 69) rfl (w.heap.size + 1) hZ h7 rfl rfl 25 HX7.out.lx.res infoTree5 ?_
          intro w9 hbx9 hg9
          have HX9 := Lib.hid hbx9
          have HI9 := Lib.hid (AT.outBox HX7.out.lx.res hg9 _ _ HI7.out)
          have HB9 : Hid (Below w.heap.size w w9) := Lib.hid (HX7.out.lx.b.grown hg9 HX7.out.lx.b.size (fun j hj => by injection hj; omega))
          clear hbx9 hg9
          refine hK.out _ _ ?_
          clear hK K
          (try simp only [Act.put])
          
          clear hHeld
          go_wp2_with fail
          refine bodyPost_ret (v := h7.v) (result_tree Try.results35 _ HX9.out rfl Try.underlying25 infoTree5) rfl ⟨_, rfl, ?_, HB9.out⟩
          rw [HPN.out]
          exact HI9.out
    · have HC := Lib.hid (ordL_gt c)
      have HPN := Lib.hid ((HPN0.out.trans (if_neg (by rw [ltL_asymm c]; simp))).trans (if_pos c))
      have HFI : Hid ((r.find key).isNil = false) := Lib.hid (by have q := HF0.out; rw [if_neg (by rw [ltL_asymm c]; simp), if_pos c] at q; exact q)
      clear c HPN0 HF0
      go_upto_region 6 with (first
        | (go_at_call 40
           refine (compare_any key k ka h.ka kn h.kn kc h.kc _ (HK.out.below HX1.out.lx.b) (HP.out.below HX1.out.lx.b).key).mono ?_
           rintro _ w8 ⟨rfl, hw8⟩
           rw [hw8, HC.out]
           clear hw8))
      clear x0 x1 x2 x3 x4
      refine region_l (S := (fun W => W.cell? ⟨w.heap.size, 1, none⟩ = some (.slice h.ka h.kn h.kc) ∧ W.cell? ⟨w.heap.size, 2, none⟩ = some (.slice h.va h.vn h.vc) ∧ (W.cell? ⟨b5, 0, none⟩ = some (.int .i64 (H 0).k) ∧ W.cell? ⟨b5, 1, none⟩ = some (.slice (H 0).ka (H 0).kn (H 0).kc) ∧ W.cell? ⟨b5, 2, none⟩ = some (.slice (H 0).va (H 0).vn (H 0).vc) ∧ W.cell? ⟨b5, 3, none⟩ = some (.slice (H 0).da (H 0).dn (H 0).dc) ∧ W.cell? ⟨b5, 4, none⟩ = some (.slice (H 0).ta (H 0).tn (H 0).tc)) ∧ W.cell? ⟨b6, 0, none⟩ = some (.int .i64 (H 1).k) ∧ W.cell? ⟨b6, 1, none⟩ = some (.slice (H 1).ka (H 1).kn (H 1).kc) ∧ W.cell? ⟨b6, 2, none⟩ = some (.slice (H 1).va (H 1).vn (H 1).vc) ∧ W.cell? ⟨b6, 3, none⟩ = some (.slice (H 1).da (H 1).dn (H 1).dc) ∧ W.cell? ⟨b6, 4, none⟩ = some (.slice (H 1).ta (H 1).tn (H 1).tc))) 10 (by kernel_rfl) ⟨HX1.out.drew.lx.box.cells.2.1, HX1.out.drew.lx.box.cells.2.2.1, HX1.out.drew.b1.cells, HX1.out.drew.b2.cells⟩ (fun hHeld => ?_)
      refine take_l (i := 0) (oi := ?oZ112) (v := ?vZ112) ?hiZ112 (by kernel_rfl) (by kernel_rfl) (by kernel_rfl) (by kernel_rfl) ?hQZ112 ?hwZ112 ?hyZ112 (by assumption) ?restZ112
      case hiZ112 => (simp only [List.getElem?_toArray, List.getElem?_cons_zero] <;> rfl)
      case hQZ112 => exact (fun _ _ _ h => h)
      case hwZ112 => rfl
      case hyZ112 => (intro w hSw; (try dsimp only at hSw); go_simp; try with_reducible rfl)
      (try simp only [Act.put, List.setIfInBounds_toArray, List.set_cons_zero, List.set_cons_succ])
      refine take_l (i := 1) (oi := ?oZ113) (v := ?vZ113) ?hiZ113 (by kernel_rfl) (by kernel_rfl) (by kernel_rfl) (by kernel_rfl) ?hQZ113 ?hwZ113 ?hyZ113 (by assumption) ?restZ113
      case hiZ113 => (simp only [List.getElem?_toArray, List.getElem?_cons_succ, List.getElem?_cons_zero] <;> rfl)
      case hQZ113 => exact (fun _ _ _ h => h)
      case hwZ113 => rfl
      case hyZ113 => (intro w hSw; (try dsimp only at hSw); go_simp; try with_reducible rfl)
      (try simp only [Act.put, List.setIfInBounds_toArray, List.set_cons_zero, List.set_cons_succ])
      refine take_l (i := 2) (oi := ?oZ114) (v := ?vZ114) ?hiZ114 (by kernel_rfl) (by kernel_rfl) (by kernel_rfl) (by kernel_rfl) ?hQZ114 ?hwZ114 ?hyZ114 (by assumption) ?restZ114
      case hiZ114 => (simp only [List.getElem?_toArray, List.getElem?_cons_succ, List.getElem?_cons_zero] <;> rfl)
      case hQZ114 => exact (fun _ _ _ h => h)
      case hwZ114 => rfl
      case hyZ114 => (intro w hSw; (try dsimp only at hSw); go_simp; try with_reducible rfl)
      (try simp only [Act.put, List.setIfInBounds_toArray, List.set_cons_zero, List.set_cons_succ])
      refine take_l (i := 3) (oi := ?oZ115) (v := ?vZ115) ?hiZ115 (by kernel_rfl) (by kernel_rfl) (by kernel_rfl) (by kernel_rfl) ?hQZ115 ?hwZ115 ?hyZ115 (by assumption) ?restZ115
      case hiZ115 => (simp only [List.getElem?_toArray, List.getElem?_cons_succ, List.getElem?_cons_zero] <;> rfl)
      case hQZ115 => exact (fun _ _ _ h => h)
      case hwZ115 => rfl
      case hyZ115 => (intro w hSw; (try dsimp only at hSw); go_simp; try with_reducible rfl)
      (try simp only [Act.put, List.setIfInBounds_toArray, List.set_cons_zero, List.set_cons_succ])
      refine take_l (i := 4) (oi := ?oZ116) (v := ?vZ116) ?hiZ116 (by kernel_rfl) (by kernel_rfl) (by kernel_rfl) (by kernel_rfl) ?hQZ116 ?hwZ116 ?hyZ116 (by assumption) ?restZ116
      case hiZ116 => (simp only [List.getElem?_toArray, List.getElem?_cons_succ, List.getElem?_cons_zero] <;> rfl)
      case hQZ116 => exact (fun _ _ _ h => h)
      case hwZ116 => rfl
      case hyZ116 => (intro w hSw; (try dsimp only at hSw); go_simp; try with_reducible rfl)
      (try simp only [Act.put, List.setIfInBounds_toArray, List.set_cons_zero, List.set_cons_succ])
      refine take_l (i := 5) (oi := ?oZ117) (v := ?vZ117) ?hiZ117 (by kernel_rfl) (by kernel_rfl) (by kernel_rfl) (by kernel_rfl) ?hQZ117 ?hwZ117 ?hyZ117 (by assumption) ?restZ117
      case hiZ117 => (simp only [List.getElem?_toArray, List.getElem?_cons_succ, List.getElem?_cons_zero] <;> rfl)
      case hQZ117 => exact (fun _ _ _ h => h)
      case hwZ117 => rfl
      case hyZ117 => (intro w hSw; (try dsimp only at hSw); go_simp; try with_reducible rfl)
      (try simp only [Act.put, List.setIfInBounds_toArray, List.set_cons_zero, List.set_cons_succ])
      refine take_l (i := 6) (oi := ?oZ118) (v := ?vZ118) ?hiZ118 (by kernel_rfl) (by kernel_rfl) (by kernel_rfl) (by kernel_rfl) ?hQZ118 ?hwZ118 ?hyZ118 (by assumption) ?restZ118
      case hiZ118 => (simp only [List.getElem?_toArray, List.getElem?_cons_succ, List.getElem?_cons_zero] <;> rfl)
      case hQZ118 => exact (fun _ _ _ h => h)
      case hwZ118 => rfl
      case hyZ118 => (intro w hSw; (try dsimp only at hSw); go_simp; try with_reducible rfl)
      (try simp only [Act.put, List.setIfInBounds_toArray, List.set_cons_zero, List.set_cons_succ])
      refine one_l (i := 7) (o := ?oZ119) (by kernel_rfl) ?hiZ119 (fun K hK => ?stZ119)
      case hiZ119 => (simp only [List.getElem?_toArray, List.getElem?_cons_succ, List.getElem?_cons_zero] <;> rfl)
      go_simp
      go_at_call 35
      refine (IHR.out key ka kn kc (H 1) _ ((HP.out.below HX1.out.drew.lx.b).kids 1 l1) HBL.out.2.1 HRI.out.2.1 (by omega) HFI.out (HK.out.below HX1.out.drew.lx.b)).mono ?_
      rintro _ w2 ⟨h2, rfl, hi2, hb2⟩
      unfold TH.v
      have HX2 := Lib.hid (HX1.out.drew.below hb2)
      have HI2 := Lib.hid hi2
      clear hi2 hb2
      go_simp
      refine hK.out _ _ ?_ (fun hHeld => ?_)
      · (first | exact ⟨HX4.out.lx.box.cells.2.1, HX4.out.lx.box.cells.2.2.1, HX4.out.b1.cells, HX4.out.b2.cells⟩ | exact ⟨HX3.out.lx.box.cells.2.1, HX3.out.lx.box.cells.2.2.1, HX3.out.b1.cells, HX3.out.b2.cells⟩ | exact ⟨HX2.out.lx.box.cells.2.1, HX2.out.lx.box.cells.2.2.1, HX2.out.b1.cells, HX2.out.b2.cells⟩ | exact ⟨HX1.out.drew.lx.box.cells.2.1, HX1.out.drew.lx.box.cells.2.2.1, HX1.out.drew.b1.cells, HX1.out.drew.b2.cells⟩)
      clear hK K
      (try simp only [Act.put, List.setIfInBounds_toArray, List.set_cons_zero, List.set_cons_succ])
      refine one_l (i := 8) (o := ?oZ120) (by kernel_rfl) ?hiZ120 (fun K hK => ?stZ120)
      case hiZ120 => (simp only [List.getElem?_toArray, List.getElem?_cons_succ, List.getElem?_cons_zero] <;> rfl)
      go_simp
      go_at_call 43
      refine (prNode_any l (r.del key) (H 0) h2 h.ka h.va h.kn h.kc h.vn h.vc k v _ ((HP.out.below HX2.out.lx.b).kids 0 l0) HI2.out (HP.out.below HX2.out.lx.b).key (HP.out.below HX2.out.lx.b).val).mono ?_
      rintro _ w3 ⟨h3, rfl, hi3, hb3⟩
      unfold TH.v
      have HX3 := Lib.hid (HX2.out.below hb3)
      have HI3 := Lib.hid hi3
      clear hi3 hb3
      go_simp
      refine hK.out _ _ ?_ (fun hHeld => ?_)
      · (first | exact ⟨HX4.out.lx.box.cells.2.1, HX4.out.lx.box.cells.2.2.1, HX4.out.b1.cells, HX4.out.b2.cells⟩ | exact ⟨HX3.out.lx.box.cells.2.1, HX3.out.lx.box.cells.2.2.1, HX3.out.b1.cells, HX3.out.b2.cells⟩ | exact ⟨HX2.out.lx.box.cells.2.1, HX2.out.lx.box.cells.2.2.1, HX2.out.b1.cells, HX2.out.b2.cells⟩ | exact ⟨HX1.out.drew.lx.box.cells.2.1, HX1.out.drew.lx.box.cells.2.2.1, HX1.out.drew.b1.cells, HX1.out.drew.b2.cells⟩)
      clear hK K
      (try simp only [Act.put, List.setIfInBounds_toArray, List.set_cons_zero, List.set_cons_succ])
      refine one_l (i := 9) (o := ?oZ121) (by kernel_rfl) ?hiZ121 (fun K hK => ?stZ121)
      case hiZ121 => (simp only [List.getElem?_toArray, List.getElem?_cons_succ, List.getElem?_cons_zero] <;> rfl)
      go_simp
      go_at_call 44
      refine (prReb_any l k v (r.del key) h3 _ HI3.out HBL.out.1 (AT.del_bal key r HBL.out.2.1).1 (by omega) (by have := (AT.del_bal key r HBL.out.2.1).2.2; omega)).mono ?_
      rintro _ w4 ⟨h4, rfl, hi4, hb4⟩
      unfold TH.v
      have HX4 := Lib.hid (HX3.out.below hb4)
      have HI4 := Lib.hid hi4
      clear hi4 hb4
      go_simp
      refine hK.out _ _ ?_ (fun hHeld => ?_)
      · (first | exact ⟨HX4.out.lx.box.cells.2.1, HX4.out.lx.box.cells.2.2.1, HX4.out.b1.cells, HX4.out.b2.cells⟩ | exact ⟨HX3.out.lx.box.cells.2.1, HX3.out.lx.box.cells.2.2.1, HX3.out.b1.cells, HX3.out.b2.cells⟩ | exact ⟨HX2.out.lx.box.cells.2.1, HX2.out.lx.box.cells.2.2.1, HX2.out.b1.cells, HX2.out.b2.cells⟩ | exact ⟨HX1.out.drew.lx.box.cells.2.1, HX1.out.drew.lx.box.cells.2.2.1, HX1.out.drew.b1.cells, HX1.out.drew.b2.cells⟩)
      clear hK K
      (try simp only [Act.put, List.setIfInBounds_toArray, List.set_cons_zero, List.set_cons_succ])
      refine last_l (o := ?oZ122) (by kernel_rfl) ?hiZ122 (by kernel_rfl) (fun K hK => ?stZ122)
      case hiZ122 => (simp only [List.getElem?_toArray, List.getElem?_cons_succ, List.getElem?_cons_zero] <;> rfl)
      refine step_store_box rfl 25 (.tmp 4) (.tmp 46) rfl (w.heap.size + 1) hZ h4 rfl rfl 25 HX4.out.lx.res infoTree5 ?_
      intro w9 hbx9 hg9
      have HX9 := Lib.hid hbx9
      have HI9 := Lib.hid (AT.outBox HX4.out.lx.res hg9 _ _ HI4.out)
      have HB9 : Hid (Below w.heap.size w w9) := Lib.hid (HX4.out.lx.b.grown hg9 HX4.out.lx.b.size (fun j hj => by injection hj; omega))
      clear hbx9 hg9
      refine hK.out _ _ ?_
      clear hK K
      (try simp only [Act.put])
      
      clear hHeld
      go_wp2_with fail
      refine bodyPost_ret (v := h4.v) (result_tree Try.results35 _ HX9.out rfl Try.underlying25 infoTree5) rfl ⟨_, rfl, ?_, HB9.out⟩
      rw [HPN.out]
      exact HI9.out
end Go.Proofs.Ytolpdidjabbipaa
