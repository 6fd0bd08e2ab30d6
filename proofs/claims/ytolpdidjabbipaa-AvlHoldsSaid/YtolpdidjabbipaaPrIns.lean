/- The contract of the program's insertion into AVL trees. -/
import Derived.Test.YtolpdidjabbipaaPrReb
import Derived.Test.YtolpdidjabbipaaCmp
import Derived.Test.YtolpdidjabbipaaTreeNil
namespace Go.Proofs.Ytolpdidjabbipaa
open Go.RowKit
set_option linter.unusedVariables false

set_option maxRecDepth 100000 in
set_option maxHeartbeats 4000000 in
theorem prIns_any (key val : List Int) (ka va : Option Addr) (kn kc vn vc : Nat) : ∀ (a : AT) (h : TH) (w : World), InTree w h a.tr → a.bal → a.depth ≤ 90 → InBytes w ka kn kc key → InBytes w va vn vc val →
    Calls Try.prog 32 #[h.v, .slice ka kn kc, .slice va vn vc] w (Tells w (a.put key val)) := by
  intro a
  induction a with
  | nil =>
    intro h w ht _ _ hkb hvb
    unfold TH.v
    obtain ⟨H, hp⟩ := ht.parts
    have hk0 : (h.k == 0) = true := by have h2 : h.k = 0 := hp.hk; simp [h2]
    obtain ⟨e1, e2, e3, e4⟩ := enter2 w h
    have HK := Lib.hid (And.intro hkb hvb)
    clear hp hkb hvb
    go_enter Try.func32, Try.ntmps32
    go_upto_region 1 with fail
    generalize ((w.alloc (.cells #[.int .i64 h.k, .slice h.ka h.kn h.kc, .slice h.va h.vn h.vc, .slice h.da h.dn h.dc, .slice h.ta h.tn h.tc] 25)).alloc (.cells #[.int .i64 0, .slice none 0 0, .slice none 0 0, .slice none 0 0, .slice none 0 0] 25)) = w0 at *
    have HX0 : Hid (LX w w0 h AT.nil.tr) := Lib.hid ⟨e1, e2, ht.lower e3, e3⟩
    have x0 := e1.cells.1
    clear e1 e2 e3 e4 ht
    go_wp2_with (first
      | (go_at_call 43
         refine (prNode_any .nil .nil hZ hZ ka va kn kc vn vc key val _ (inTree_nil _) (inTree_nil _) (HK.out.1.below HX0.out.b) (HK.out.2.below HX0.out.b)).mono ?_
         rintro _ w2 ⟨h2, rfl, hi2, hb2⟩
         unfold TH.v
         have HX2 := Lib.hid (HX0.out.below hb2)
         have HI2 := Lib.hid hi2
         clear hi2 hb2)
      | (refine wpList_store_box rfl 25 (.tmp 6) (.tmp 17) rfl (w.heap.size + 1) hZ h2 rfl rfl 25 HX2.out.res infoTree5 ?_
         intro w9 hbx9 hg9
         have HX9 := Lib.hid hbx9
         have HI9 := Lib.hid (AT.outBox HX2.out.res hg9 _ _ HI2.out)
         have HB9 : Hid (Below w.heap.size w w9) := Lib.hid (HX2.out.b.grown hg9 HX2.out.b.size (fun j hj => by injection hj; omega))
         clear hbx9 hg9))
    exact bodyPost_ret (v := h2.v) (result_tree Try.results32 _ HX9.out rfl Try.underlying25 infoTree5) rfl ⟨_, rfl, HI9.out, HB9.out⟩
  | node l k v r ihl ihr =>
    intro h w ht hbal hd hkb hvb
    unfold TH.v
    obtain ⟨H, hp⟩ := ht.parts
    have l0 : 0 < (AT.node l k v r).tr.kids.length := by rw [AT.tr_kids]; simp
    have l1 : 1 < (AT.node l k v r).tr.kids.length := by rw [AT.tr_kids]; simp
    have ht1 : (1 : Int) < (h.tn : Int) := by have h2 : h.tn = 2 := hp.len.symm; omega
    have ht0 : 0 < h.tn := by omega
    have hk0 : (h.k == 0) = false := by have h2 : h.k = 1 := hp.hk; simp [h2]
    simp only [AT.depth] at hd
    have HP := Lib.hid hp
    have HBL : Hid (l.bal ∧ r.bal ∧ l.depth ≤ r.depth + 1 ∧ r.depth ≤ l.depth + 1) := Lib.hid hbal
    have HK := Lib.hid (And.intro hkb hvb)
    have IHL := Lib.hid ihl
    have IHR := Lib.hid ihr
    have HPN0 := Lib.hid (AT.put_node key val l k v r)
    obtain ⟨g, off, hta, -, -⟩ := hp.place (by omega)
    have HTA := Lib.hid hta
    obtain ⟨e1, e2, e3, e4⟩ := enter2 w h
    clear hp hta hbal hkb hvb ihl ihr
    go_enter Try.func32, Try.ntmps32
    go_upto_region 1 with fail
    generalize ((w.alloc (.cells #[.int .i64 h.k, .slice h.ka h.kn h.kc, .slice h.va h.vn h.vc, .slice h.da h.dn h.dc, .slice h.ta h.tn h.tc] 25)).alloc (.cells #[.int .i64 0, .slice none 0 0, .slice none 0 0, .slice none 0 0, .slice none 0 0] 25)) = w0 at *
    have HX0 : Hid (LX w w0 h (AT.node l k v r).tr) := Lib.hid ⟨e1, e2, ht.lower e3, e3⟩
    have x0 := e1.cells.1
    clear e1 e2 e3 e4 ht
    go_upto_region 3 with fail
    clear x0
    go_cut [7, 8] (fun s7 s8 wx => ∃ b5 b6, s7 = .pointer (some ⟨b5, 0, none⟩) ∧ s8 = .pointer (some ⟨b6, 0, none⟩) ∧ KX w wx h (H 0) (H 1) (AT.node l k v r).tr b5 b6)
    case first =>
      refine wp_region_held_drew (S := (fun W => W.cell? ⟨w.heap.size, 4, none⟩ = some (.slice (some ⟨g, off, none⟩) h.tn h.tc) ∧ (W.cell? ⟨g, off, none⟩ = some (.int .i64 (H 0).k) ∧ W.cell? ⟨g, off + 1, none⟩ = some (.slice (H 0).ka (H 0).kn (H 0).kc) ∧ W.cell? ⟨g, off + 2, none⟩ = some (.slice (H 0).va (H 0).vn (H 0).vc) ∧ W.cell? ⟨g, off + 3, none⟩ = some (.slice (H 0).da (H 0).dn (H 0).dc) ∧ W.cell? ⟨g, off + 4, none⟩ = some (.slice (H 0).ta (H 0).tn (H 0).tc)) ∧ W.cell? ⟨g, off + 5, none⟩ = some (.int .i64 (H 1).k) ∧ W.cell? ⟨g, off + 5 + 1, none⟩ = some (.slice (H 1).ka (H 1).kn (H 1).kc) ∧ W.cell? ⟨g, off + 5 + 2, none⟩ = some (.slice (H 1).va (H 1).vn (H 1).vc) ∧ W.cell? ⟨g, off + 5 + 3, none⟩ = some (.slice (H 1).da (H 1).dn (H 1).dc) ∧ W.cell? ⟨g, off + 5 + 4, none⟩ = some (.slice (H 1).ta (H 1).tn (H 1).tc))) (by kernel_rfl) ⟨(HX0.out.drew.box.cells.2.2.2.2).trans (by rw [HTA.out]), (HP.out.below HX0.out.drew.b).kid0 HTA.out (by omega), (HP.out.below HX0.out.drew.b).kid1 HTA.out (by omega)⟩ (fun hHeld => ?_)
      have HY0 := Lib.hid HX0.out.drew
      have HN : Hid (w.heap.size + 1 < w0.drew.heap.size) := Lib.hid HX0.out.drew.res.lt
      generalize w0.drew = wd at *
      have hba : Below wd.heap.size wd (wd.alloc (.cells #[.int .i64 0, .slice none 0 0, .slice none 0 0, .slice none 0 0, .slice none 0 0] 25)) := (Below.refl _ _).alloc (Nat.le_refl _) _
      have HY1 := Lib.hid (HY0.out.below hba)
      have hz1 : Box (wd.alloc (.cells #[.int .i64 0, .slice none 0 0, .slice none 0 0, .slice none 0 0, .slice none 0 0] 25)) 25 wd.heap.size hZ := Box.new wd 25 hZ
      have hs1 : (wd.alloc (.cells #[.int .i64 0, .slice none 0 0, .slice none 0 0, .slice none 0 0, .slice none 0 0] 25)).heap.size = wd.heap.size + 1 := by simp
      have hbb : Below (wd.alloc (.cells #[.int .i64 0, .slice none 0 0, .slice none 0 0, .slice none 0 0, .slice none 0 0] 25)).heap.size (wd.alloc (.cells #[.int .i64 0, .slice none 0 0, .slice none 0 0, .slice none 0 0, .slice none 0 0] 25)) ((wd.alloc (.cells #[.int .i64 0, .slice none 0 0, .slice none 0 0, .slice none 0 0, .slice none 0 0] 25)).alloc (.cells #[.int .i64 0, .slice none 0 0, .slice none 0 0, .slice none 0 0, .slice none 0 0] 25)) := (Below.refl _ _).alloc (Nat.le_refl _) _
      have HY2 := Lib.hid (HY1.out.below hbb)
      have hz2 : Box ((wd.alloc (.cells #[.int .i64 0, .slice none 0 0, .slice none 0 0, .slice none 0 0, .slice none 0 0] 25)).alloc (.cells #[.int .i64 0, .slice none 0 0, .slice none 0 0, .slice none 0 0, .slice none 0 0] 25)) 25 (wd.alloc (.cells #[.int .i64 0, .slice none 0 0, .slice none 0 0, .slice none 0 0, .slice none 0 0] 25)).heap.size hZ := Box.new (wd.alloc (.cells #[.int .i64 0, .slice none 0 0, .slice none 0 0, .slice none 0 0, .slice none 0 0] 25)) 25 hZ
      rw [hs1] at hz2
      have HZ1 := Lib.hid (hz1.below hbb hz1.lt)
      have HZ2 := Lib.hid hz2
      clear hba hz1 hs1 hbb hz2
      refine take_w (i := 0) (oi := ?oZ1) (v := ?vZ1) ?hiZ1 (by kernel_rfl) (by kernel_rfl) (by kernel_rfl) ?hQZ1 ?hwZ1 ?hyZ1 (by assumption) ?restZ1
      case hiZ1 => (simp only [List.getElem?_toArray, List.getElem?_cons_zero] <;> rfl)
      case hQZ1 => exact (fun _ _ _ h => h)
      case hwZ1 => rfl
      case hyZ1 => (intro w hSw; (try dsimp only at hSw); go_simp; try with_reducible rfl)
      (try simp only [Act.put, List.setIfInBounds_toArray, List.set_cons_zero, List.set_cons_succ])
      refine take_w (i := 1) (oi := ?oZ2) (v := ?vZ2) ?hiZ2 (by kernel_rfl) (by kernel_rfl) (by kernel_rfl) ?hQZ2 ?hwZ2 ?hyZ2 (by assumption) ?restZ2
      case hiZ2 => (simp only [List.getElem?_toArray, List.getElem?_cons_succ, List.getElem?_cons_zero] <;> rfl)
      case hQZ2 => exact (fun _ _ _ h => h)
      case hwZ2 => rfl
      case hyZ2 => (intro w hSw; (try dsimp only at hSw); go_simp; try with_reducible rfl)
      (try simp only [Act.put, List.setIfInBounds_toArray, List.set_cons_zero, List.set_cons_succ])
      refine take_w (i := 2) (oi := ?oZ3) (v := ?vZ3) ?hiZ3 (by kernel_rfl) (by kernel_rfl) (by kernel_rfl) ?hQZ3 ?hwZ3 ?hyZ3 (by assumption) ?restZ3
      case hiZ3 => (simp only [List.getElem?_toArray, List.getElem?_cons_succ, List.getElem?_cons_zero] <;> rfl)
      case hQZ3 => exact (fun _ _ _ h => h)
      case hwZ3 => rfl
      case hyZ3 => (intro w hSw; (try dsimp only at hSw); go_simp; try with_reducible rfl)
      (try simp only [Act.put, List.setIfInBounds_toArray, List.set_cons_zero, List.set_cons_succ])
      refine take_w (i := 3) (oi := ?oZ4) (v := ?vZ4) ?hiZ4 (by kernel_rfl) (by kernel_rfl) (by kernel_rfl) ?hQZ4 ?hwZ4 ?hyZ4 (by assumption) ?restZ4
      case hiZ4 => (simp only [List.getElem?_toArray, List.getElem?_cons_succ, List.getElem?_cons_zero] <;> rfl)
      case hQZ4 => exact (fun _ _ _ h => h)
      case hwZ4 => rfl
      case hyZ4 => (intro w hSw; (try dsimp only at hSw); go_simp; try with_reducible rfl)
      (try simp only [Act.put, List.setIfInBounds_toArray, List.set_cons_zero, List.set_cons_succ])
      refine take_w (i := 4) (oi := ?oZ5) (v := ?vZ5) ?hiZ5 (by kernel_rfl) (by kernel_rfl) (by kernel_rfl) ?hQZ5 ?hwZ5 ?hyZ5 (by assumption) ?restZ5
      case hiZ5 => (simp only [List.getElem?_toArray, List.getElem?_cons_succ, List.getElem?_cons_zero] <;> rfl)
      case hQZ5 => exact (fun _ _ _ h => h)
      case hwZ5 => rfl
      case hyZ5 => (intro w hSw; (try dsimp only at hSw); go_simp; try with_reducible rfl)
      (try simp only [Act.put, List.setIfInBounds_toArray, List.set_cons_zero, List.set_cons_succ])
      refine take_w (i := 5) (oi := ?oZ6) (v := ?vZ6) ?hiZ6 (by kernel_rfl) (by kernel_rfl) (by kernel_rfl) ?hQZ6 ?hwZ6 ?hyZ6 (by assumption) ?restZ6
      case hiZ6 => (simp only [List.getElem?_toArray, List.getElem?_cons_succ, List.getElem?_cons_zero] <;> rfl)
      case hQZ6 => exact (fun _ _ _ h => h)
      case hwZ6 => rfl
      case hyZ6 => (intro w hSw; (try dsimp only at hSw); go_simp; try with_reducible rfl)
      (try simp only [Act.put, List.setIfInBounds_toArray, List.set_cons_zero, List.set_cons_succ])
      refine take_w (i := 6) (oi := ?oZ7) (v := ?vZ7) ?hiZ7 (by kernel_rfl) (by kernel_rfl) (by kernel_rfl) ?hQZ7 ?hwZ7 ?hyZ7 (by assumption) ?restZ7
      case hiZ7 => (simp only [List.getElem?_toArray, List.getElem?_cons_succ, List.getElem?_cons_zero] <;> rfl)
      case hQZ7 => exact (fun _ _ _ h => h)
      case hwZ7 => rfl
      case hyZ7 => (intro w hSw; (try dsimp only at hSw); go_simp; try with_reducible rfl)
      (try simp only [Act.put, List.setIfInBounds_toArray, List.set_cons_zero, List.set_cons_succ])
      refine take_w (i := 7) (oi := ?oZ8) (v := ?vZ8) ?hiZ8 (by kernel_rfl) (by kernel_rfl) (by kernel_rfl) ?hQZ8 ?hwZ8 ?hyZ8 (by assumption) ?restZ8
      case hiZ8 => (simp only [List.getElem?_toArray, List.getElem?_cons_succ, List.getElem?_cons_zero] <;> rfl)
      case hQZ8 => exact (fun _ _ _ h => h)
      case hwZ8 => rfl
      case hyZ8 => (intro w hSw; (try dsimp only at hSw); go_simp; try with_reducible rfl)
      (try simp only [Act.put, List.setIfInBounds_toArray, List.set_cons_zero, List.set_cons_succ])
      refine wpAnyH_ready (rs := [8, 9]) (by kernel_rfl) (by simp) ?_
      refine AllReadyH.cons (o := ?oZ9) ?hiZ9 (fun K hK => ?stZ9) (AllReadyH.cons (o := ?oZ10) ?hiZ10 (fun K hK => ?stZ10) AllReadyH.nil)
      case hiZ9 => (simp only [List.getElem?_toArray, List.getElem?_cons_succ, List.getElem?_cons_zero] <;> rfl)
      case hiZ10 => (simp only [List.getElem?_toArray, List.getElem?_cons_succ, List.getElem?_cons_zero] <;> rfl)
      case stZ9 =>
        go_simp
        refine hK.out _ _ ?_ (fun hHeld => ?_)
        · (first | exact ⟨(HY4.out.box.cells.2.2.2.2).trans (by rw [HTA.out]), (HP.out.below HY4.out.b).kid0 HTA.out (by omega), (HP.out.below HY4.out.b).kid1 HTA.out (by omega)⟩ | exact ⟨(HY3.out.box.cells.2.2.2.2).trans (by rw [HTA.out]), (HP.out.below HY3.out.b).kid0 HTA.out (by omega), (HP.out.below HY3.out.b).kid1 HTA.out (by omega)⟩ | exact ⟨(HY2.out.box.cells.2.2.2.2).trans (by rw [HTA.out]), (HP.out.below HY2.out.b).kid0 HTA.out (by omega), (HP.out.below HY2.out.b).kid1 HTA.out (by omega)⟩ | exact ⟨(HY1.out.box.cells.2.2.2.2).trans (by rw [HTA.out]), (HP.out.below HY1.out.b).kid0 HTA.out (by omega), (HP.out.below HY1.out.b).kid1 HTA.out (by omega)⟩ | exact ⟨(HY0.out.box.cells.2.2.2.2).trans (by rw [HTA.out]), (HP.out.below HY0.out.b).kid0 HTA.out (by omega), (HP.out.below HY0.out.b).kid1 HTA.out (by omega)⟩)
        clear hK K
        (try simp only [Act.put, List.setIfInBounds_toArray, List.set_cons_zero, List.set_cons_succ])
        refine wpAnyH_ready (rs := [9]) (by kernel_rfl) (by simp) ?_
        refine AllReadyH.cons (o := ?oZ11) ?hiZ11 (fun K hK => ?stZ11) AllReadyH.nil
        case hiZ11 => (simp only [List.getElem?_toArray, List.getElem?_cons_succ, List.getElem?_cons_zero] <;> rfl)
        go_simp
        refine hK.out _ _ ?_ (fun hHeld => ?_)
        · (first | exact ⟨(HY4.out.box.cells.2.2.2.2).trans (by rw [HTA.out]), (HP.out.below HY4.out.b).kid0 HTA.out (by omega), (HP.out.below HY4.out.b).kid1 HTA.out (by omega)⟩ | exact ⟨(HY3.out.box.cells.2.2.2.2).trans (by rw [HTA.out]), (HP.out.below HY3.out.b).kid0 HTA.out (by omega), (HP.out.below HY3.out.b).kid1 HTA.out (by omega)⟩ | exact ⟨(HY2.out.box.cells.2.2.2.2).trans (by rw [HTA.out]), (HP.out.below HY2.out.b).kid0 HTA.out (by omega), (HP.out.below HY2.out.b).kid1 HTA.out (by omega)⟩ | exact ⟨(HY1.out.box.cells.2.2.2.2).trans (by rw [HTA.out]), (HP.out.below HY1.out.b).kid0 HTA.out (by omega), (HP.out.below HY1.out.b).kid1 HTA.out (by omega)⟩ | exact ⟨(HY0.out.box.cells.2.2.2.2).trans (by rw [HTA.out]), (HP.out.below HY0.out.b).kid0 HTA.out (by omega), (HP.out.below HY0.out.b).kid1 HTA.out (by omega)⟩)
        clear hK K
        (try simp only [Act.put, List.setIfInBounds_toArray, List.set_cons_zero, List.set_cons_succ])
        refine wpAnyH_ready (rs := [10]) (by kernel_rfl) (by simp) ?_
        refine AllReadyH.cons (o := ?oZ12) ?hiZ12 (fun K hK => ?stZ12) AllReadyH.nil
        case hiZ12 => (simp only [List.getElem?_toArray, List.getElem?_cons_succ, List.getElem?_cons_zero] <;> rfl)
        refine step_store_box rfl 25 (.tmp 7) (.tmp 21) rfl wd.heap.size hZ (H 0) rfl rfl 25 HZ1.out infoTree5 ?_
        intro w3 hbx3 hg3
        have HY3 : Hid (LX w w3 h (AT.node l k v r).tr) := Lib.hid (LX.store HY2.out HZ1.out hg3 (by have := HN.out; omega))
        have HB3 := Lib.hid hbx3
        have HC3 := Lib.hid ((HZ2.out).grown hg3 (fun q => by injection q; omega))
        clear hbx3 hg3
        refine hK.out _ _ ?_ (fun hHeld => ?_)
        · (first | exact ⟨(HY4.out.box.cells.2.2.2.2).trans (by rw [HTA.out]), (HP.out.below HY4.out.b).kid0 HTA.out (by omega), (HP.out.below HY4.out.b).kid1 HTA.out (by omega)⟩ | exact ⟨(HY3.out.box.cells.2.2.2.2).trans (by rw [HTA.out]), (HP.out.below HY3.out.b).kid0 HTA.out (by omega), (HP.out.below HY3.out.b).kid1 HTA.out (by omega)⟩ | exact ⟨(HY2.out.box.cells.2.2.2.2).trans (by rw [HTA.out]), (HP.out.below HY2.out.b).kid0 HTA.out (by omega), (HP.out.below HY2.out.b).kid1 HTA.out (by omega)⟩ | exact ⟨(HY1.out.box.cells.2.2.2.2).trans (by rw [HTA.out]), (HP.out.below HY1.out.b).kid0 HTA.out (by omega), (HP.out.below HY1.out.b).kid1 HTA.out (by omega)⟩ | exact ⟨(HY0.out.box.cells.2.2.2.2).trans (by rw [HTA.out]), (HP.out.below HY0.out.b).kid0 HTA.out (by omega), (HP.out.below HY0.out.b).kid1 HTA.out (by omega)⟩)
        clear hK K
        (try simp only [Act.put])
        refine wpAnyH_ready (rs := [11]) (by kernel_rfl) (by simp) ?_
        refine AllReadyH.cons (o := ?oZ13) ?hiZ13 (fun K hK => ?stZ13) AllReadyH.nil
        case hiZ13 => (simp only [List.getElem?_toArray, List.getElem?_cons_succ, List.getElem?_cons_zero] <;> rfl)
        refine step_store_box rfl 25 (.tmp 8) (.tmp 25) rfl (wd.heap.size + 1) hZ (H 1) rfl rfl 25 HC3.out infoTree5 ?_
        intro w4 hbx4 hg4
        have HY4 : Hid (LX w w4 h (AT.node l k v r).tr) := Lib.hid (LX.store HY3.out HC3.out hg4 (by have := HN.out; omega))
        have HB4 := Lib.hid hbx4
        have HA4 := Lib.hid (HB3.out.grown hg4 (fun q => by injection q; omega))
        clear hbx4 hg4
        refine hK.out _ _ ?_ (fun hHeld => ?_)
        · (first | exact ⟨(HY4.out.box.cells.2.2.2.2).trans (by rw [HTA.out]), (HP.out.below HY4.out.b).kid0 HTA.out (by omega), (HP.out.below HY4.out.b).kid1 HTA.out (by omega)⟩ | exact ⟨(HY3.out.box.cells.2.2.2.2).trans (by rw [HTA.out]), (HP.out.below HY3.out.b).kid0 HTA.out (by omega), (HP.out.below HY3.out.b).kid1 HTA.out (by omega)⟩ | exact ⟨(HY2.out.box.cells.2.2.2.2).trans (by rw [HTA.out]), (HP.out.below HY2.out.b).kid0 HTA.out (by omega), (HP.out.below HY2.out.b).kid1 HTA.out (by omega)⟩ | exact ⟨(HY1.out.box.cells.2.2.2.2).trans (by rw [HTA.out]), (HP.out.below HY1.out.b).kid0 HTA.out (by omega), (HP.out.below HY1.out.b).kid1 HTA.out (by omega)⟩ | exact ⟨(HY0.out.box.cells.2.2.2.2).trans (by rw [HTA.out]), (HP.out.below HY0.out.b).kid0 HTA.out (by omega), (HP.out.below HY0.out.b).kid1 HTA.out (by omega)⟩)
        clear hK K
        (try simp only [Act.put])
        refine wpAnyH_done (by kernel_rfl) ?_ _
        clear hHeld
        go_wp2_with fail
        go_meet
        exact ⟨wd.heap.size, (wd.heap.size + 1), rfl, rfl, ⟨HY4.out, HA4.out, HB4.out, by have := HN.out; omega, by have := HN.out; omega, by omega⟩⟩
      case stZ10 =>
        go_simp
        refine hK.out _ _ ?_ (fun hHeld => ?_)
        · (first | exact ⟨(HY4.out.box.cells.2.2.2.2).trans (by rw [HTA.out]), (HP.out.below HY4.out.b).kid0 HTA.out (by omega), (HP.out.below HY4.out.b).kid1 HTA.out (by omega)⟩ | exact ⟨(HY3.out.box.cells.2.2.2.2).trans (by rw [HTA.out]), (HP.out.below HY3.out.b).kid0 HTA.out (by omega), (HP.out.below HY3.out.b).kid1 HTA.out (by omega)⟩ | exact ⟨(HY2.out.box.cells.2.2.2.2).trans (by rw [HTA.out]), (HP.out.below HY2.out.b).kid0 HTA.out (by omega), (HP.out.below HY2.out.b).kid1 HTA.out (by omega)⟩ | exact ⟨(HY1.out.box.cells.2.2.2.2).trans (by rw [HTA.out]), (HP.out.below HY1.out.b).kid0 HTA.out (by omega), (HP.out.below HY1.out.b).kid1 HTA.out (by omega)⟩ | exact ⟨(HY0.out.box.cells.2.2.2.2).trans (by rw [HTA.out]), (HP.out.below HY0.out.b).kid0 HTA.out (by omega), (HP.out.below HY0.out.b).kid1 HTA.out (by omega)⟩)
        clear hK K
        (try simp only [Act.put, List.setIfInBounds_toArray, List.set_cons_zero, List.set_cons_succ])
        refine wpAnyH_ready (rs := [8]) (by kernel_rfl) (by simp) ?_
        refine AllReadyH.cons (o := ?oZ14) ?hiZ14 (fun K hK => ?stZ14) AllReadyH.nil
        case hiZ14 => (simp only [List.getElem?_toArray, List.getElem?_cons_succ, List.getElem?_cons_zero] <;> rfl)
        go_simp
        refine hK.out _ _ ?_ (fun hHeld => ?_)
        · (first | exact ⟨(HY4.out.box.cells.2.2.2.2).trans (by rw [HTA.out]), (HP.out.below HY4.out.b).kid0 HTA.out (by omega), (HP.out.below HY4.out.b).kid1 HTA.out (by omega)⟩ | exact ⟨(HY3.out.box.cells.2.2.2.2).trans (by rw [HTA.out]), (HP.out.below HY3.out.b).kid0 HTA.out (by omega), (HP.out.below HY3.out.b).kid1 HTA.out (by omega)⟩ | exact ⟨(HY2.out.box.cells.2.2.2.2).trans (by rw [HTA.out]), (HP.out.below HY2.out.b).kid0 HTA.out (by omega), (HP.out.below HY2.out.b).kid1 HTA.out (by omega)⟩ | exact ⟨(HY1.out.box.cells.2.2.2.2).trans (by rw [HTA.out]), (HP.out.below HY1.out.b).kid0 HTA.out (by omega), (HP.out.below HY1.out.b).kid1 HTA.out (by omega)⟩ | exact ⟨(HY0.out.box.cells.2.2.2.2).trans (by rw [HTA.out]), (HP.out.below HY0.out.b).kid0 HTA.out (by omega), (HP.out.below HY0.out.b).kid1 HTA.out (by omega)⟩)
        clear hK K
        (try simp only [Act.put, List.setIfInBounds_toArray, List.set_cons_zero, List.set_cons_succ])
        refine wpAnyH_ready (rs := [10]) (by kernel_rfl) (by simp) ?_
        refine AllReadyH.cons (o := ?oZ15) ?hiZ15 (fun K hK => ?stZ15) AllReadyH.nil
        case hiZ15 => (simp only [List.getElem?_toArray, List.getElem?_cons_succ, List.getElem?_cons_zero] <;> rfl)
        refine step_store_box rfl 25 (.tmp 7) (.tmp 21) rfl (wd.heap.size + 1) hZ (H 0) rfl rfl 25 HZ2.out infoTree5 ?_
        intro w3 hbx3 hg3
        have HY3 : Hid (LX w w3 h (AT.node l k v r).tr) := Lib.hid (LX.store HY2.out HZ2.out hg3 (by have := HN.out; omega))
        have HB3 := Lib.hid hbx3
        have HC3 := Lib.hid ((HZ1.out).grown hg3 (fun q => by injection q; omega))
        clear hbx3 hg3
        refine hK.out _ _ ?_ (fun hHeld => ?_)
        · (first | exact ⟨(HY4.out.box.cells.2.2.2.2).trans (by rw [HTA.out]), (HP.out.below HY4.out.b).kid0 HTA.out (by omega), (HP.out.below HY4.out.b).kid1 HTA.out (by omega)⟩ | exact ⟨(HY3.out.box.cells.2.2.2.2).trans (by rw [HTA.out]), (HP.out.below HY3.out.b).kid0 HTA.out (by omega), (HP.out.below HY3.out.b).kid1 HTA.out (by omega)⟩ | exact ⟨(HY2.out.box.cells.2.2.2.2).trans (by rw [HTA.out]), (HP.out.below HY2.out.b).kid0 HTA.out (by omega), (HP.out.below HY2.out.b).kid1 HTA.out (by omega)⟩ | exact ⟨(HY1.out.box.cells.2.2.2.2).trans (by rw [HTA.out]), (HP.out.below HY1.out.b).kid0 HTA.out (by omega), (HP.out.below HY1.out.b).kid1 HTA.out (by omega)⟩ | exact ⟨(HY0.out.box.cells.2.2.2.2).trans (by rw [HTA.out]), (HP.out.below HY0.out.b).kid0 HTA.out (by omega), (HP.out.below HY0.out.b).kid1 HTA.out (by omega)⟩)
        clear hK K
        (try simp only [Act.put])
        refine wpAnyH_ready (rs := [11]) (by kernel_rfl) (by simp) ?_
        refine AllReadyH.cons (o := ?oZ16) ?hiZ16 (fun K hK => ?stZ16) AllReadyH.nil
        case hiZ16 => (simp only [List.getElem?_toArray, List.getElem?_cons_succ, List.getElem?_cons_zero] <;> rfl)
        refine step_store_box rfl 25 (.tmp 8) (.tmp 25) rfl wd.heap.size hZ (H 1) rfl rfl 25 HC3.out infoTree5 ?_
        intro w4 hbx4 hg4
        have HY4 : Hid (LX w w4 h (AT.node l k v r).tr) := Lib.hid (LX.store HY3.out HC3.out hg4 (by have := HN.out; omega))
        have HB4 := Lib.hid hbx4
        have HA4 := Lib.hid (HB3.out.grown hg4 (fun q => by injection q; omega))
        clear hbx4 hg4
        refine hK.out _ _ ?_ (fun hHeld => ?_)
        · (first | exact ⟨(HY4.out.box.cells.2.2.2.2).trans (by rw [HTA.out]), (HP.out.below HY4.out.b).kid0 HTA.out (by omega), (HP.out.below HY4.out.b).kid1 HTA.out (by omega)⟩ | exact ⟨(HY3.out.box.cells.2.2.2.2).trans (by rw [HTA.out]), (HP.out.below HY3.out.b).kid0 HTA.out (by omega), (HP.out.below HY3.out.b).kid1 HTA.out (by omega)⟩ | exact ⟨(HY2.out.box.cells.2.2.2.2).trans (by rw [HTA.out]), (HP.out.below HY2.out.b).kid0 HTA.out (by omega), (HP.out.below HY2.out.b).kid1 HTA.out (by omega)⟩ | exact ⟨(HY1.out.box.cells.2.2.2.2).trans (by rw [HTA.out]), (HP.out.below HY1.out.b).kid0 HTA.out (by omega), (HP.out.below HY1.out.b).kid1 HTA.out (by omega)⟩ | exact ⟨(HY0.out.box.cells.2.2.2.2).trans (by rw [HTA.out]), (HP.out.below HY0.out.b).kid0 HTA.out (by omega), (HP.out.below HY0.out.b).kid1 HTA.out (by omega)⟩)
        clear hK K
        (try simp only [Act.put])
        refine wpAnyH_done (by kernel_rfl) ?_ _
        clear hHeld
        go_wp2_with fail
        go_meet
        exact ⟨(wd.heap.size + 1), wd.heap.size, rfl, rfl, ⟨HY4.out, HA4.out, HB4.out, by have := HN.out; omega, by have := HN.out; omega, by omega⟩⟩
    obtain ⟨b5, b6, rfl, rfl, hkx⟩ := hcut
    have HX1 := Lib.hid hkx
    clear hkx HX0
    obtain ⟨x0, x1, x2, x3, x4⟩ := HX1.out.lx.box.cells
    go_upto_if 36 with (first
      | (go_at_call 40
         refine (compare_any key k ka h.ka kn h.kn kc h.kc _ (HK.out.1.below HX1.out.lx.b) (HP.out.below HX1.out.lx.b).key).mono ?_
         rintro _ w9 ⟨rfl, hw9⟩
         rw [hw9]
         clear hw9))
    clear x0 x1 x2 x3 x4
    rcases ltL_three key k with cl | ce | cg
    · have HPN := Lib.hid ((HPN0.out.trans (if_neg (ltL_ne cl))).trans (if_pos cl))
      clear HPN0
      rw [ordL_lt cl]
      clear cl
      obtain ⟨x0, x1, x2, x3, x4⟩ := HX1.out.lx.box.cells
      obtain ⟨y0, y1, y2, y3, y4⟩ := HX1.out.b1.cells
      obtain ⟨z0, z1, z2, z3, z4⟩ := HX1.out.b2.cells
      go_upto_region 10 with (first
        | (go_at_call 32
           refine (IHL.out (H 0) _ ((HP.out.below HX1.out.lx.b).kids 0 l0) HBL.out.1 (by omega) (HK.out.1.below HX1.out.lx.b) (HK.out.2.below HX1.out.lx.b)).mono ?_
           rintro _ w5 ⟨h5, rfl, hi5, hb5⟩
           unfold TH.v
           have HX5 := Lib.hid (HX1.out.below hb5)
           have HI5 := Lib.hid hi5
           clear hi5 hb5)
        | (refine wpList_store_box rfl 25 (.tmp 7) (.tmp 42) rfl b5 (H 0) h5 rfl rfl 25 HX5.out.b1 infoTree5 ?_
           intro w6 hbx6 hg6
           have HX6 := Lib.hid (HX5.out.setL hbx6 hg6)
           have HI6 := Lib.hid (AT.outBox HX5.out.b1 hg6 _ _ HI5.out)
           clear hbx6 hg6))
      clear x0 x1 x2 x3 x4 y0 y1 y2 y3 y4 z0 z1 z2 z3 z4
      try simp only [Act.put]
      obtain ⟨x0, x1, x2, x3, x4⟩ := HX6.out.lx.box.cells
      obtain ⟨y0, y1, y2, y3, y4⟩ := HX6.out.b1.cells
      obtain ⟨z0, z1, z2, z3, z4⟩ := HX6.out.b2.cells
      go_wp2_with (first
        | (go_at_call 43
           refine (prNode_any (l.put key val) r h5 (H 1) h.ka h.va h.kn h.kc h.vn h.vc k v _ HI6.out ((HP.out.below HX6.out.lx.b).kids 1 l1) (HP.out.below HX6.out.lx.b).key (HP.out.below HX6.out.lx.b).val).mono ?_
           rintro _ w7 ⟨h7, rfl, hi7, hb7⟩
           unfold TH.v
           have HX7 := Lib.hid (HX6.out.below hb7)
           have HI7 := Lib.hid hi7
           clear hi7 hb7)
        | (go_at_call 44
           refine (prReb_any (l.put key val) k v r h7 _ HI7.out (AT.put_bal key val l HBL.out.1).1 HBL.out.2.1 (by have := (AT.put_bal key val l HBL.out.1).2.2; omega) (by omega)).mono ?_
           rintro _ w8 ⟨h8, rfl, hi8, hb8⟩
           unfold TH.v
           have HX8 := Lib.hid (HX7.out.below hb8)
           have HI8 := Lib.hid hi8
           clear hi8 hb8)
        | (refine wpList_store_box rfl 25 (.tmp 6) (.tmp 57) rfl (w.heap.size + 1) hZ h8 rfl rfl 25 HX8.out.lx.res infoTree5 ?_
           intro w9 hbx9 hg9
           have HX9 := Lib.hid hbx9
           have HI9 := Lib.hid (AT.outBox HX8.out.lx.res hg9 _ _ HI8.out)
           have HB9 : Hid (Below w.heap.size w w9) := Lib.hid (HX8.out.lx.b.grown hg9 HX8.out.lx.b.size (fun j hj => by injection hj; omega))
           clear hbx9 hg9))
      refine bodyPost_ret (v := h8.v) (result_tree Try.results32 _ HX9.out rfl Try.underlying25 infoTree5) rfl ⟨_, rfl, ?_, HB9.out⟩
      rw [HPN.out]
      exact HI9.out
    · have HPN := Lib.hid (HPN0.out.trans (if_pos ce))
      clear HPN0
      subst ce
      rw [ordL_eq]
      obtain ⟨x0, x1, x2, x3, x4⟩ := HX1.out.lx.box.cells
      obtain ⟨y0, y1, y2, y3, y4⟩ := HX1.out.b1.cells
      obtain ⟨z0, z1, z2, z3, z4⟩ := HX1.out.b2.cells
      go_wp2_with (first
        | (go_at_call 43
           refine (prNode_any l r (H 0) (H 1) h.ka va h.kn h.kc vn vc key val _ ((HP.out.below HX1.out.lx.b).kids 0 l0) ((HP.out.below HX1.out.lx.b).kids 1 l1) (HP.out.below HX1.out.lx.b).key (HK.out.2.below HX1.out.lx.b)).mono ?_
           rintro _ w2 ⟨h2, rfl, hi2, hb2⟩
           unfold TH.v
           have HX2 := Lib.hid (HX1.out.below hb2)
           have HI2 := Lib.hid hi2
           clear hi2 hb2)
        | (refine wpList_store_box rfl 25 (.tmp 6) (.tmp 35) rfl (w.heap.size + 1) hZ h2 rfl rfl 25 HX2.out.lx.res infoTree5 ?_
           intro w9 hbx9 hg9
           have HX9 := Lib.hid hbx9
           have HI9 := Lib.hid (AT.outBox HX2.out.lx.res hg9 _ _ HI2.out)
           have HB9 : Hid (Below w.heap.size w w9) := Lib.hid (HX2.out.lx.b.grown hg9 HX2.out.lx.b.size (fun j hj => by injection hj; omega))
           clear hbx9 hg9))
      refine bodyPost_ret (v := h2.v) (result_tree Try.results32 _ HX9.out rfl Try.underlying25 infoTree5) rfl ⟨_, rfl, ?_, HB9.out⟩
      rw [HPN.out]
      exact HI9.out
    · have HPN := Lib.hid ((HPN0.out.trans (if_neg (fun q => ltL_ne cg q.symm))).trans (if_neg (by rw [ltL_asymm cg]; simp)))
      clear HPN0
      rw [ordL_gt cg]
      clear cg
      obtain ⟨x0, x1, x2, x3, x4⟩ := HX1.out.lx.box.cells
      obtain ⟨y0, y1, y2, y3, y4⟩ := HX1.out.b1.cells
      obtain ⟨z0, z1, z2, z3, z4⟩ := HX1.out.b2.cells
      go_upto_region 10 with (first
        | (go_at_call 32
           refine (IHR.out (H 1) _ ((HP.out.below HX1.out.lx.b).kids 1 l1) HBL.out.2.1 (by omega) (HK.out.1.below HX1.out.lx.b) (HK.out.2.below HX1.out.lx.b)).mono ?_
           rintro _ w5 ⟨h5, rfl, hi5, hb5⟩
           unfold TH.v
           have HX5 := Lib.hid (HX1.out.below hb5)
           have HI5 := Lib.hid hi5
           clear hi5 hb5)
        | (refine wpList_store_box rfl 25 (.tmp 8) (.tmp 49) rfl b6 (H 1) h5 rfl rfl 25 HX5.out.b2 infoTree5 ?_
           intro w6 hbx6 hg6
           have HX6 := Lib.hid (HX5.out.setR hbx6 hg6)
           have HI6 := Lib.hid (AT.outBox HX5.out.b2 hg6 _ _ HI5.out)
           clear hbx6 hg6))
      clear x0 x1 x2 x3 x4 y0 y1 y2 y3 y4 z0 z1 z2 z3 z4
      try simp only [Act.put]
      obtain ⟨x0, x1, x2, x3, x4⟩ := HX6.out.lx.box.cells
      obtain ⟨y0, y1, y2, y3, y4⟩ := HX6.out.b1.cells
      obtain ⟨z0, z1, z2, z3, z4⟩ := HX6.out.b2.cells
      go_wp2_with (first
        | (go_at_call 43
           refine (prNode_any l (r.put key val) (H 0) h5 h.ka h.va h.kn h.kc h.vn h.vc k v _ ((HP.out.below HX6.out.lx.b).kids 0 l0) HI6.out (HP.out.below HX6.out.lx.b).key (HP.out.below HX6.out.lx.b).val).mono ?_
           rintro _ w7 ⟨h7, rfl, hi7, hb7⟩
           unfold TH.v
           have HX7 := Lib.hid (HX6.out.below hb7)
           have HI7 := Lib.hid hi7
           clear hi7 hb7)
        | (go_at_call 44
           refine (prReb_any l k v (r.put key val) h7 _ HI7.out HBL.out.1 (AT.put_bal key val r HBL.out.2.1).1 (by omega) (by have := (AT.put_bal key val r HBL.out.2.1).2.2; omega)).mono ?_
           rintro _ w8 ⟨h8, rfl, hi8, hb8⟩
           unfold TH.v
           have HX8 := Lib.hid (HX7.out.below hb8)
           have HI8 := Lib.hid hi8
           clear hi8 hb8)
        | (refine wpList_store_box rfl 25 (.tmp 6) (.tmp 57) rfl (w.heap.size + 1) hZ h8 rfl rfl 25 HX8.out.lx.res infoTree5 ?_
           intro w9 hbx9 hg9
           have HX9 := Lib.hid hbx9
           have HI9 := Lib.hid (AT.outBox HX8.out.lx.res hg9 _ _ HI8.out)
           have HB9 : Hid (Below w.heap.size w w9) := Lib.hid (HX8.out.lx.b.grown hg9 HX8.out.lx.b.size (fun j hj => by injection hj; omega))
           clear hbx9 hg9))
      refine bodyPost_ret (v := h8.v) (result_tree Try.results32 _ HX9.out rfl Try.underlying25 infoTree5) rfl ⟨_, rfl, ?_, HB9.out⟩
      rw [HPN.out]
      exact HI9.out
end Go.Proofs.Ytolpdidjabbipaa
