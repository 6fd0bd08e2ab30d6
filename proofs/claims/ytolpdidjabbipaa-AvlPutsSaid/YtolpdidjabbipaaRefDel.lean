/- The contract of the document's deletion out of AVL trees. -/
import Derived.Test.YtolpdidjabbipaaRefPut
namespace Go.Proofs.Ytolpdidjabbipaa
open Go.RowKit
set_option linter.unusedVariables false

theorem AT.del_mem (key : List Int) : ∀ (a : AT) (p : KV), p ∈ (a.del key).pairs → p ∈ a.pairs := by
  intro a
  induction a generalizing key with
  | nil => intro p hp; exact hp
  | node l k v r ihl ihr =>
    intro p hp
    rw [AT.del_node] at hp
    simp only [AT.pairs, List.mem_append, List.mem_cons]
    split at hp
    · rw [AT.level_pairs] at hp
      simp only [AT.pairs, List.mem_append, List.mem_cons] at hp
      rcases hp with hp | hp | hp
      · exact .inl (ihl key p hp)
      · exact .inr (.inl hp)
      · exact .inr (.inr hp)
    · split at hp
      · rw [AT.level_pairs] at hp
        simp only [AT.pairs, List.mem_append, List.mem_cons] at hp
        rcases hp with hp | hp | hp
        · exact .inl hp
        · exact .inr (.inl hp)
        · exact .inr (.inr (ihr key p hp))
      · split at hp
        · exact .inr (.inr hp)
        · split at hp
          · exact .inl hp
          · rename_i hn
            rw [AT.level_pairs] at hp
            simp only [AT.pairs, List.mem_append, List.mem_cons] at hp
            rcases hp with hp | hp | hp
            · exact .inl hp
            · right
              right
              cases hq : r.pairs with
              | nil => exact absurd hq (AT.pairs_nil (by simpa using hn))
              | cons m rest =>
                rw [hq, List.headD_cons] at hp
                rw [hp]
                simp
            · exact .inr (.inr (ihr _ p hp))
theorem AT.del_lim (key : List Int) {a : AT} (h : Lim a.pairs) : Lim (a.del key).pairs := fun p hp => h p (AT.del_mem key a p hp)
/-- The first node of a full tree that is not empty. -/
theorem AT.first {r : AT} (h : r.isNil = false) : ∃ m rest, r.nodes = m :: rest ∧ m.isNil = false ∧ m.kv = r.pairs.headD ([], []) := by
  cases hn : r.nodes with
  | nil =>
    have := AT.nodes_kv r
    rw [hn] at this
    exact absurd this.symm (AT.pairs_nil h)
  | cons m rest =>
    refine ⟨m, rest, rfl, AT.nodes_node r m (by rw [hn]; simp), ?_⟩
    rw [← AT.nodes_kv r, hn]
    rfl
/-- Four boxes: the tree's, the result's, its kids'; and the tree. -/
structure DX (w W : World) (h hl hr : TH) (t : Tr) (b5 b6 : Nat) : Prop where
  lx : LX w W h t
  b1 : Box W 25 b5 hl
  b2 : Box W 25 b6 hr
  n5 : w.heap.size + 1 < b5
  n6 : w.heap.size + 1 < b6
theorem DX.below {w W W' : World} {h hl hr : TH} {t : Tr} {b5 b6 : Nat} (d : DX w W h hl hr t b5 b6) (hb : Below W.heap.size W W') : DX w W' h hl hr t b5 b6 := ⟨d.lx.below hb, d.b1.below hb d.b1.lt, d.b2.below hb d.b2.lt, d.n5, d.n6⟩
theorem DX.drew {w W : World} {h hl hr : TH} {t : Tr} {b5 b6 : Nat} (d : DX w W h hl hr t b5 b6) : DX w W.drew h hl hr t b5 b6 := d.below (Below.refl _ _).drew

set_option maxRecDepth 100000 in
set_option maxHeartbeats 4000000 in
theorem refDelete_any : ∀ (a : AT) (key : List Int) (ka : Option Addr) (kn kc : Nat) (h : TH) (w : World), InTree w h a.tr → Lim a.pairs → a.bal → a.depth ≤ 60 → countT a.tr ≤ 400 → InBytes w ka kn kc key →
    Calls Try.prog 20 #[h.v, .slice ka kn kc] w (Tells w (a.del key)) := by
  intro a
  induction a with
  | nil =>
    intro key ka kn kc h w ht _ _ _ _ hkb
    unfold TH.v
    obtain ⟨H, hp⟩ := ht.parts
    have h0 : ((h.tn : Int) == 0) = true := by have h2 : h.tn = 0 := hp.len.symm; simp [h2]
    obtain ⟨e1, e2, e3, e4⟩ := enter2 w h
    clear hp hkb
    go_enter Try.func20, Try.ntmps20
    go_upto_region 1 with fail
    generalize ((w.alloc (.cells #[.int .i64 h.k, .slice h.ka h.kn h.kc, .slice h.va h.vn h.vc, .slice h.da h.dn h.dc, .slice h.ta h.tn h.tc] 25)).alloc (.cells #[.int .i64 0, .slice none 0 0, .slice none 0 0, .slice none 0 0, .slice none 0 0] 25)) = w0 at *
    have HX0 : Hid (LX w w0 h AT.nil.tr) := Lib.hid ⟨e1, e2, ht.lower e3, e3⟩
    obtain ⟨x0, x1, x2, x3, x4⟩ := e1.cells
    clear e1 e2 e3 e4 ht
    go_wp2_with (first
      | (refine wpList_store_box rfl 25 (.tmp 4) (.tmp 12) rfl (w.heap.size + 1) hZ h rfl rfl 25 HX0.out.res infoTree5 ?_
         intro w9 hbx9 hg9
         have HX9 := Lib.hid hbx9
         have HI9 := Lib.hid (AT.outBox HX0.out.res hg9 _ _ HX0.out.ti)
         have HB9 : Hid (Below w.heap.size w w9) := Lib.hid (HX0.out.b.grown hg9 HX0.out.b.size (fun j hj => by injection hj; omega))
         clear hbx9 hg9))
    exact bodyPost_ret (v := h.v) (result_tree Try.results20 _ HX9.out rfl Try.underlying25 infoTree5) rfl ⟨_, rfl, HI9.out, HB9.out⟩
  | node l k v r ihl ihr =>
    intro key ka kn kc h w ht hlim hbal hd hcn hkb
    unfold TH.v
    obtain ⟨H, hp⟩ := ht.parts
    have l0 : 0 < (AT.node l k v r).tr.kids.length := by rw [AT.tr_kids]; simp
    have l1 : 1 < (AT.node l k v r).tr.kids.length := by rw [AT.tr_kids]; simp
    have ht1 : (1 : Int) < (h.tn : Int) := by have h2 : h.tn = 2 := hp.len.symm; omega
    have ht0 : 0 < h.tn := by omega
    have h0 : ((h.tn : Int) == 0) = false := by rw [beq_eq_false_iff_ne]; omega
    have hct : countT (AT.node l k v r).tr = 1 + countT l.tr + countT r.tr := count_two (by rw [AT.tr_kids]; rfl)
    have HP := Lib.hid hp
    have HL := Lib.hid hlim.node
    have HBL : Hid (l.bal ∧ r.bal ∧ l.depth ≤ r.depth + 1 ∧ r.depth ≤ l.depth + 1) := Lib.hid hbal
    have HK := Lib.hid hkb
    have IHL := Lib.hid ihl
    have IHR := Lib.hid ihr
    have HPN0 := Lib.hid (AT.del_node key l k v r)
    obtain ⟨g, off, hta, -, -⟩ := hp.place (by omega)
    have HTA := Lib.hid hta
    obtain ⟨e1, e2, e3, e4⟩ := enter2 w h
    have HKB := Lib.hid (And.intro hkb.bytes hp.key.bytes)
    clear hp hta hlim hbal hkb ihl ihr
    go_enter Try.func20, Try.ntmps20
    go_upto_region 1 with fail
    generalize ((w.alloc (.cells #[.int .i64 h.k, .slice h.ka h.kn h.kc, .slice h.va h.vn h.vc, .slice h.da h.dn h.dc, .slice h.ta h.tn h.tc] 25)).alloc (.cells #[.int .i64 0, .slice none 0 0, .slice none 0 0, .slice none 0 0, .slice none 0 0] 25)) = w0 at *
    have HX0 : Hid (LX w w0 h (AT.node l k v r).tr) := Lib.hid ⟨e1, e2, ht.lower e3, e3⟩
    have x4 := (e1.cells.2.2.2.2).trans (by rw [HTA.out])
    obtain ⟨k0, k1, k2, k3, k4⟩ := (HP.out.below e3).kid0 HTA.out (by omega)
    clear e1 e2 e3 e4 ht
    rw [HTA.out]
    go_upto_region 4 with fail
    clear x4 k0 k1 k2 k3 k4
    have q1 : Below w0.heap.size w0 (w0.alloc (.cells #[.int .i64 (H 0).k, .slice (H 0).ka (H 0).kn (H 0).kc, .slice (H 0).va (H 0).vn (H 0).vc, .slice (H 0).da (H 0).dn (H 0).dc, .slice (H 0).ta (H 0).tn (H 0).tc] 25)) := (Below.refl _ _).alloc (Nat.le_refl _) _
    have y1 := Box.new w0 25 (H 0)
    have q5 : w.heap.size + 1 < w0.heap.size := HX0.out.res.lt
    generalize w0.alloc (.cells #[.int .i64 (H 0).k, .slice (H 0).ka (H 0).kn (H 0).kc, .slice (H 0).va (H 0).vn (H 0).vc, .slice (H 0).da (H 0).dn (H 0).dc, .slice (H 0).ta (H 0).tn (H 0).tc] 25) = w1 at *
    have HX1a := Lib.hid (HX0.out.below q1)
    generalize w0.heap.size = b5 at *
    have x4 := (HX1a.out.box.cells.2.2.2.2).trans (by rw [HTA.out])
    obtain ⟨k0, k1, k2, k3, k4⟩ := (HP.out.below HX1a.out.b).kid1 HTA.out (by omega)
    have HY1 := Lib.hid (And.intro y1 q5)
    clear q1 y1 q5
    go_upto_region 5 with fail
    clear x4 k0 k1 k2 k3 k4
    have q2 : Below w1.heap.size w1 (w1.alloc (.cells #[.int .i64 (H 1).k, .slice (H 1).ka (H 1).kn (H 1).kc, .slice (H 1).va (H 1).vn (H 1).vc, .slice (H 1).da (H 1).dn (H 1).dc, .slice (H 1).ta (H 1).tn (H 1).tc] 25)) := (Below.refl _ _).alloc (Nat.le_refl _) _
    have y2 := Box.new w1 25 (H 1)
    have q6 : w.heap.size + 1 < w1.heap.size := HX1a.out.res.lt
    generalize w1.alloc (.cells #[.int .i64 (H 1).k, .slice (H 1).ka (H 1).kn (H 1).kc, .slice (H 1).va (H 1).vn (H 1).vc, .slice (H 1).da (H 1).dn (H 1).dc, .slice (H 1).ta (H 1).tn (H 1).tc] 25) = w2 at *
    have HX1 : Hid (DX w w2 h (H 0) (H 1) (AT.node l k v r).tr b5 w1.heap.size) := Lib.hid ⟨HX1a.out.below q2, HY1.out.1.below q2 HY1.out.1.lt, y2, HY1.out.2, q6⟩
    clear q2 y2 q6 HX1a HY1
    generalize w1.heap.size = b6 at *
    obtain ⟨x0, x1, x2, x3, x4⟩ := HX1.out.lx.box.cells
    have cv1 := conv_key (HK.out.below HX1.out.lx.b)
    have cv2 : (convert 22 9 (.slice h.ka h.kn h.kc)).run Try.prog w2 = .ok (.string (strOfNums k)) w2 := conv_key (HP.out.below HX1.out.lx.b).key
    have he : ((strOfNums key).toList == (strOfNums k).toList) = (key == k) := str_eq HKB.out.1 HKB.out.2
    have hlt : Op.bytesLess (strOfNums key).toList (strOfNums k).toList = ltL key k := str_lt HKB.out.1 HKB.out.2
    go_upto_if 26 with fail
    rcases ltL_three key k with cl | ce | cg
    · have HPN := Lib.hid (HPN0.out.trans (if_pos cl))
      rw [cl]
      clear he hlt cv1 cv2 x0 x1 x2 x3 x4 cl
      go_upto_region 6 with fail
      refine region_l (S := (fun W => W.cell? ⟨w.heap.size, 1, none⟩ = some (.slice h.ka h.kn h.kc) ∧ W.cell? ⟨w.heap.size, 2, none⟩ = some (.slice h.va h.vn h.vc) ∧ (W.cell? ⟨b5, 0, none⟩ = some (.int .i64 (H 0).k) ∧ W.cell? ⟨b5, 1, none⟩ = some (.slice (H 0).ka (H 0).kn (H 0).kc) ∧ W.cell? ⟨b5, 2, none⟩ = some (.slice (H 0).va (H 0).vn (H 0).vc) ∧ W.cell? ⟨b5, 3, none⟩ = some (.slice (H 0).da (H 0).dn (H 0).dc) ∧ W.cell? ⟨b5, 4, none⟩ = some (.slice (H 0).ta (H 0).tn (H 0).tc)) ∧ W.cell? ⟨b6, 0, none⟩ = some (.int .i64 (H 1).k) ∧ W.cell? ⟨b6, 1, none⟩ = some (.slice (H 1).ka (H 1).kn (H 1).kc) ∧ W.cell? ⟨b6, 2, none⟩ = some (.slice (H 1).va (H 1).vn (H 1).vc) ∧ W.cell? ⟨b6, 3, none⟩ = some (.slice (H 1).da (H 1).dn (H 1).dc) ∧ W.cell? ⟨b6, 4, none⟩ = some (.slice (H 1).ta (H 1).tn (H 1).tc))) 10 (by kernel_rfl) ⟨HX1.out.drew.lx.box.cells.2.1, HX1.out.drew.lx.box.cells.2.2.1, HX1.out.drew.b1.cells, HX1.out.drew.b2.cells⟩ (fun hHeld => ?_)
      refine take_l (i := 0) (oi := ?oZ1) (v := ?vZ1) ?hiZ1 (by kernel_rfl) (by kernel_rfl) (by kernel_rfl) (by kernel_rfl) ?hQZ1 ?hwZ1 ?hyZ1 (by assumption) ?restZ1
      case hiZ1 => (simp only [List.getElem?_toArray, List.getElem?_cons_zero] <;> rfl)
      case hQZ1 => exact (fun _ _ _ h => h)
      case hwZ1 => rfl
      case hyZ1 => (intro w hSw; (try dsimp only at hSw); go_simp; try with_reducible rfl)
      (try simp only [Act.put, List.setIfInBounds_toArray, List.set_cons_zero, List.set_cons_succ])
      refine take_l (i := 1) (oi := ?oZ2) (v := ?vZ2) ?hiZ2 (by kernel_rfl) (by kernel_rfl) (by kernel_rfl) (by kernel_rfl) ?hQZ2 ?hwZ2 ?hyZ2 (by assumption) ?restZ2
      case hiZ2 => (simp only [List.getElem?_toArray, List.getElem?_cons_succ, List.getElem?_cons_zero] <;> rfl)
      case hQZ2 => exact (fun _ _ _ h => h)
      case hwZ2 => rfl
      case hyZ2 => (intro w hSw; (try dsimp only at hSw); go_simp; try with_reducible rfl)
      (try simp only [Act.put, List.setIfInBounds_toArray, List.set_cons_zero, List.set_cons_succ])
      refine take_l (i := 3) (oi := ?oZ3) (v := ?vZ3) ?hiZ3 (by kernel_rfl) (by kernel_rfl) (by kernel_rfl) (by kernel_rfl) ?hQZ3 ?hwZ3 ?hyZ3 (by assumption) ?restZ3
      case hiZ3 => (simp only [List.getElem?_toArray, List.getElem?_cons_succ, List.getElem?_cons_zero] <;> rfl)
      case hQZ3 => exact (fun _ _ _ h => h)
      case hwZ3 => rfl
      case hyZ3 => (intro w hSw; (try dsimp only at hSw); go_simp; try with_reducible rfl)
      (try simp only [Act.put, List.setIfInBounds_toArray, List.set_cons_zero, List.set_cons_succ])
      refine take_l (i := 4) (oi := ?oZ4) (v := ?vZ4) ?hiZ4 (by kernel_rfl) (by kernel_rfl) (by kernel_rfl) (by kernel_rfl) ?hQZ4 ?hwZ4 ?hyZ4 (by assumption) ?restZ4
      case hiZ4 => (simp only [List.getElem?_toArray, List.getElem?_cons_succ, List.getElem?_cons_zero] <;> rfl)
      case hQZ4 => exact (fun _ _ _ h => h)
      case hwZ4 => rfl
      case hyZ4 => (intro w hSw; (try dsimp only at hSw); go_simp; try with_reducible rfl)
      (try simp only [Act.put, List.setIfInBounds_toArray, List.set_cons_zero, List.set_cons_succ])
      refine take_l (i := 5) (oi := ?oZ5) (v := ?vZ5) ?hiZ5 (by kernel_rfl) (by kernel_rfl) (by kernel_rfl) (by kernel_rfl) ?hQZ5 ?hwZ5 ?hyZ5 (by assumption) ?restZ5
      case hiZ5 => (simp only [List.getElem?_toArray, List.getElem?_cons_succ, List.getElem?_cons_zero] <;> rfl)
      case hQZ5 => exact (fun _ _ _ h => h)
      case hwZ5 => rfl
      case hyZ5 => (intro w hSw; (try dsimp only at hSw); go_simp; try with_reducible rfl)
      (try simp only [Act.put, List.setIfInBounds_toArray, List.set_cons_zero, List.set_cons_succ])
      refine take_l (i := 6) (oi := ?oZ6) (v := ?vZ6) ?hiZ6 (by kernel_rfl) (by kernel_rfl) (by kernel_rfl) (by kernel_rfl) ?hQZ6 ?hwZ6 ?hyZ6 (by assumption) ?restZ6
      case hiZ6 => (simp only [List.getElem?_toArray, List.getElem?_cons_succ, List.getElem?_cons_zero] <;> rfl)
      case hQZ6 => exact (fun _ _ _ h => h)
      case hwZ6 => rfl
      case hyZ6 => (intro w hSw; (try dsimp only at hSw); go_simp; try with_reducible rfl)
      (try simp only [Act.put, List.setIfInBounds_toArray, List.set_cons_zero, List.set_cons_succ])
      refine take_l (i := 7) (oi := ?oZ7) (v := ?vZ7) ?hiZ7 (by kernel_rfl) (by kernel_rfl) (by kernel_rfl) (by kernel_rfl) ?hQZ7 ?hwZ7 ?hyZ7 (by assumption) ?restZ7
      case hiZ7 => (simp only [List.getElem?_toArray, List.getElem?_cons_succ, List.getElem?_cons_zero] <;> rfl)
      case hQZ7 => exact (fun _ _ _ h => h)
      case hwZ7 => rfl
      case hyZ7 => (intro w hSw; (try dsimp only at hSw); go_simp; try with_reducible rfl)
      (try simp only [Act.put, List.setIfInBounds_toArray, List.set_cons_zero, List.set_cons_succ])
      refine one_l (i := 2) (o := ?oZ8) (by kernel_rfl) ?hiZ8 (fun K hK => ?stZ8)
      case hiZ8 => (simp only [List.getElem?_toArray, List.getElem?_cons_succ, List.getElem?_cons_zero] <;> rfl)
      go_simp
      go_at_call 20
      refine (IHL.out key ka kn kc (H 0) _ ((HP.out.below HX1.out.drew.lx.b).kids 0 l0) HL.out.1 HBL.out.1 (by simp only [AT.depth] at hd; omega) (by omega) (HK.out.below HX1.out.drew.lx.b)).mono ?_
      rintro _ w2 ⟨h2, rfl, hi2, hb2⟩
      unfold TH.v
      have HX2 := Lib.hid (HX1.out.drew.below hb2)
      have HI2 := Lib.hid hi2
      clear hi2 hb2
      go_simp
      refine hK.out _ _ ?_ (fun hHeld => ?_)
      · (first | exact ⟨HX4.out.lx.box.cells.2.1, HX4.out.lx.box.cells.2.2.1, HX4.out.b1.cells, HX4.out.b2.cells⟩ | exact ⟨HX3.out.lx.box.cells.2.1, HX3.out.lx.box.cells.2.2.1, HX3.out.b1.cells, HX3.out.b2.cells⟩ | exact ⟨HX2.out.lx.box.cells.2.1, HX2.out.lx.box.cells.2.2.1, HX2.out.b1.cells, HX2.out.b2.cells⟩ | exact ⟨HX1.out.drew.lx.box.cells.2.1, HX1.out.drew.lx.box.cells.2.2.1, HX1.out.drew.b1.cells, HX1.out.drew.b2.cells⟩)
      clear hK K
      (try simp only [Act.put, List.setIfInBounds_toArray, List.set_cons_zero, List.set_cons_succ])
      refine one_l (i := 8) (o := ?oZ9) (by kernel_rfl) ?hiZ9 (fun K hK => ?stZ9)
      case hiZ9 => (simp only [List.getElem?_toArray, List.getElem?_cons_succ, List.getElem?_cons_zero] <;> rfl)
      go_simp
      go_at_call 33
      refine (refNode_any (l.del key) r h2 (H 1) h.ka h.va h.kn h.kc h.vn h.vc k v _ HI2.out ((HP.out.below HX2.out.lx.b).kids 1 l1) (HP.out.below HX2.out.lx.b).key (HP.out.below HX2.out.lx.b).val).mono ?_
      rintro _ w3 ⟨h3, rfl, hi3, hb3⟩
      unfold TH.v
      have HX3 := Lib.hid (HX2.out.below hb3)
      have HI3 := Lib.hid hi3
      clear hi3 hb3
      go_simp
      refine hK.out _ _ ?_ (fun hHeld => ?_)
      · (first | exact ⟨HX4.out.lx.box.cells.2.1, HX4.out.lx.box.cells.2.2.1, HX4.out.b1.cells, HX4.out.b2.cells⟩ | exact ⟨HX3.out.lx.box.cells.2.1, HX3.out.lx.box.cells.2.2.1, HX3.out.b1.cells, HX3.out.b2.cells⟩ | exact ⟨HX2.out.lx.box.cells.2.1, HX2.out.lx.box.cells.2.2.1, HX2.out.b1.cells, HX2.out.b2.cells⟩ | exact ⟨HX1.out.drew.lx.box.cells.2.1, HX1.out.drew.lx.box.cells.2.2.1, HX1.out.drew.b1.cells, HX1.out.drew.b2.cells⟩)
      clear hK K
      (try simp only [Act.put, List.setIfInBounds_toArray, List.set_cons_zero, List.set_cons_succ])
      refine one_l (i := 9) (o := ?oZ10) (by kernel_rfl) ?hiZ10 (fun K hK => ?stZ10)
      case hiZ10 => (simp only [List.getElem?_toArray, List.getElem?_cons_succ, List.getElem?_cons_zero] <;> rfl)
      go_simp
      go_at_call 34
      refine (refLevel_any (l.del key) k v r h3 _ HI3.out (Lim.mk (AT.del_lim key HL.out.1) HL.out.2.1 HL.out.2.2.1 HL.out.2.2.2) (by have := (AT.del_bal key l HBL.out.1).2.2; simp only [AT.depth] at hd; omega) (by simp only [AT.depth] at hd; omega)).mono ?_
      rintro _ w4 ⟨h4, rfl, hi4, hb4⟩
      unfold TH.v
      have HX4 := Lib.hid (HX3.out.below hb4)
      have HI4 := Lib.hid hi4
      clear hi4 hb4
      go_simp
      refine hK.out _ _ ?_ (fun hHeld => ?_)
      · (first | exact ⟨HX4.out.lx.box.cells.2.1, HX4.out.lx.box.cells.2.2.1, HX4.out.b1.cells, HX4.out.b2.cells⟩ | exact ⟨HX3.out.lx.box.cells.2.1, HX3.out.lx.box.cells.2.2.1, HX3.out.b1.cells, HX3.out.b2.cells⟩ | exact ⟨HX2.out.lx.box.cells.2.1, HX2.out.lx.box.cells.2.2.1, HX2.out.b1.cells, HX2.out.b2.cells⟩ | exact ⟨HX1.out.drew.lx.box.cells.2.1, HX1.out.drew.lx.box.cells.2.2.1, HX1.out.drew.b1.cells, HX1.out.drew.b2.cells⟩)
      clear hK K
      (try simp only [Act.put, List.setIfInBounds_toArray, List.set_cons_zero, List.set_cons_succ])
      refine last_l (o := ?oZ11) (by kernel_rfl) ?hiZ11 (by kernel_rfl) (fun K hK => ?stZ11)
      case hiZ11 => (simp only [List.getElem?_toArray, List.getElem?_cons_succ, List.getElem?_cons_zero] <;> rfl)
      refine step_store_box rfl 25 (.tmp 4) (.tmp 36) rfl (w.heap.size + 1) hZ h4 rfl rfl 25 HX4.out.lx.res infoTree5 ?_
      intro w9 hbx9 hg9
      have HX9 := Lib.hid hbx9
      have HI9 := Lib.hid (AT.outBox HX4.out.lx.res hg9 _ _ HI4.out)
      have HB9 : Hid (Below w.heap.size w w9) := Lib.hid (HX4.out.lx.b.grown hg9 HX4.out.lx.b.size (fun j hj => by injection hj; omega))
      clear hbx9 hg9
      refine hK.out _ _ ?_
      clear hK K
      (try simp only [Act.put])
      
      clear hHeld
      go_wp2_with fail
      refine bodyPost_ret (v := h4.v) (result_tree Try.results20 _ HX9.out rfl Try.underlying25 infoTree5) rfl ⟨_, rfl, ?_, HB9.out⟩
      rw [HPN.out]
      exact HI9.out
    · subst ce
      have cl : ltL key key = false := ltL_irr key
      have ce : (key == key) = true := by simp
      have HPN1 := Lib.hid ((HPN0.out.trans (if_neg (by rw [cl]; simp))).trans (if_neg (by rw [cl]; simp)))
      rw [cl]
      go_upto_if 42 with fail
      clear he cv1 cv2 x0 x1 x2 x3 x4
      obtain ⟨x0, x1, x2, x3, x4⟩ := HX1.out.b1.cells
      obtain ⟨y0, y1, y2, y3, y4⟩ := HX1.out.b2.cells
      obtain ⟨_, hpl⟩ := (HP.out.kids 0 l0).parts
      obtain ⟨_, hpr⟩ := (HP.out.kids 1 l1).parts
      have HLN := Lib.hid (And.intro hpl.len hpr.len)
      clear hpl hpr
      cases l with
      | nil =>
        have hl0 : (((H 0).tn : Int) == 0) = true := by have h2 : (H 0).tn = 0 := HLN.out.1.symm; simp [h2]
        have HPN := Lib.hid (HPN1.out.trans (if_pos rfl))
        go_wp2_with (first
          | (refine wpList_store_box rfl 25 (.tmp 4) (.tmp 57) rfl (w.heap.size + 1) hZ (H 1) rfl rfl 25 HX1.out.lx.res infoTree5 ?_
             intro w9 hbx9 hg9
             have HX9 := Lib.hid hbx9
             have HI9 := Lib.hid (AT.outBox HX1.out.lx.res hg9 r _ ((HP.out.below HX1.out.lx.b).kids 1 l1))
             have HB9 : Hid (Below w.heap.size w w9) := Lib.hid (HX1.out.lx.b.grown hg9 HX1.out.lx.b.size (fun j hj => by injection hj; omega))
             clear hbx9 hg9))
        refine bodyPost_ret (v := TH.v (H 1)) (result_tree Try.results20 _ HX9.out rfl Try.underlying25 infoTree5) rfl ⟨_, rfl, ?_, HB9.out⟩
        rw [HPN.out]
        exact HI9.out
      | node ll lk lv lr =>
        have hl0 : (((H 0).tn : Int) == 0) = false := by have h2 : (H 0).tn = 2 := HLN.out.1.symm; simp [h2]
        have HPN2 := Lib.hid (HPN1.out.trans (if_neg (by simp [AT.isNil])))
        cases r with
        | nil =>
          have hr0 : (((H 1).tn : Int) == 0) = true := by have h2 : (H 1).tn = 0 := HLN.out.2.symm; simp [h2]
          have HPN := Lib.hid (HPN2.out.trans (if_pos rfl))
          go_wp2_with (first
            | (refine wpList_store_box rfl 25 (.tmp 4) (.tmp 62) rfl (w.heap.size + 1) hZ (H 0) rfl rfl 25 HX1.out.lx.res infoTree5 ?_
               intro w9 hbx9 hg9
               have HX9 := Lib.hid hbx9
               have HI9 := Lib.hid (AT.outBox HX1.out.lx.res hg9 (AT.node ll lk lv lr) _ ((HP.out.below HX1.out.lx.b).kids 0 l0))
               have HB9 : Hid (Below w.heap.size w w9) := Lib.hid (HX1.out.lx.b.grown hg9 HX1.out.lx.b.size (fun j hj => by injection hj; omega))
               clear hbx9 hg9))
          refine bodyPost_ret (v := TH.v (H 0)) (result_tree Try.results20 _ HX9.out rfl Try.underlying25 infoTree5) rfl ⟨_, rfl, ?_, HB9.out⟩
          rw [HPN.out]
          exact HI9.out
        | node rl rk rv rr =>
          have hr0 : (((H 1).tn : Int) == 0) = false := by have h2 : (H 1).tn = 2 := HLN.out.2.symm; simp [h2]
          have HPN := Lib.hid (HPN2.out.trans (if_neg (by simp [AT.isNil])))
          have HLM : Hid (((AT.node rl rk rv rr).pairs.headD ([], [])).1.length ≤ 80 ∧ ((AT.node rl rk rv rr).pairs.headD ([], [])).2.length ≤ 1024) := Lib.hid (by
            cases hq : (AT.node rl rk rv rr).pairs with
            | nil => exact absurd hq (AT.pairs_nil rfl)
            | cons m rest => exact HL.out.2.2.2 m (by rw [hq]; simp))
          clear hlt cl ce
          go_upto_region 13 with fail
          obtain ⟨m, rest, hnd, hmn, hmk⟩ := AT.first (r := (AT.node rl rk rv rr)) rfl
          have HND := Lib.hid (And.intro hnd (And.intro hmn hmk))
          clear hnd hmn hmk
          go_upto_region 14 with (first
            | (go_at_call 21
               refine (refList_any (AT.node rl rk rv rr).tr (H 1) w2 w2 ((HP.out.below HX1.out.lx.b).kids 1 l1) (Below.refl _ _) ((AT.tr_formed (AT.node rl rk rv rr)).2 HL.out.2.2.2) (by omega)).mono ?_
               rintro _ w3 ⟨v3, hs, rfl, ho3, hh3, hb3⟩
               have hlist : listT (AT.node rl rk rv rr).tr = m.tr :: rest.map AT.tr := by rw [AT.tr_list, HND.out.1]; rfl
               have hl3 := hh3.1
               rw [hlist] at hl3 hh3
               have hpos : 0 < hs.length := by rw [hl3]; simp
               rcases ho3.form with ⟨_, e⟩ | ⟨g3, c3, e, _, _, _, _, hcs⟩
               · rw [e] at hpos
                 simp at hpos
               subst e
               have k0 := hcs _ _ (cellsT_get hs 0 0 hpos (by omega))
               have k1 := hcs _ _ (cellsT_get hs 0 1 hpos (by omega))
               have k2 := hcs _ _ (cellsT_get hs 0 2 hpos (by omega))
               have k3 := hcs _ _ (cellsT_get hs 0 3 hpos (by omega))
               have k4 := hcs _ _ (cellsT_get hs 0 4 hpos (by omega))
               have him : InTree w3 hs[0] m.tr := (hh3.2 0 hpos (by simp)).lower hb3
               generalize hs[0] = hm at *
               simp only [TH.cell, TH.cells, List.getD_cons_zero, List.getD_cons_succ, Nat.zero_mul, Nat.zero_add] at k0 k1 k2 k3 k4
               have HX3 := Lib.hid (HX1.out.below hb3)
               have HIM := Lib.hid him
               generalize hs.length = n3 at *
               clear hlist hl3 hh3 ho3 hcs him hb3 x0 x1 x2 x3 x4 y0 y1 y2 y3 y4))
          clear k0 k1 k2 k3 k4 hpos
          have q4 : Below w3.heap.size w3 (w3.alloc (.cells #[.int .i64 hm.k, .slice hm.ka hm.kn hm.kc, .slice hm.va hm.vn hm.vc, .slice hm.da hm.dn hm.dc, .slice hm.ta hm.tn hm.tc] 25)) := (Below.refl _ _).alloc (Nat.le_refl _) _
          have y7 := Box.new w3 25 hm
          generalize w3.alloc (.cells #[.int .i64 hm.k, .slice hm.ka hm.kn hm.kc, .slice hm.va hm.vn hm.vc, .slice hm.da hm.dn hm.dc, .slice hm.ta hm.tn hm.tc] 25) = w4 at *
          have HX4 := Lib.hid (HX3.out.below q4)
          obtain ⟨_, hpm⟩ := (HIM.out.lower q4).parts
          have hmk := AT.tilt_tr HND.out.2.1
          have hk4 := hpm.key
          have hv4 := hpm.val
          rw [hmk.2.1, HND.out.2.2] at hk4
          rw [hmk.2.2, HND.out.2.2] at hv4
          have HM4d : Hid (Box w4.drew 25 w3.heap.size hm ∧ InBytes w4.drew hm.ka hm.kn hm.kc ((AT.node rl rk rv rr).pairs.headD ([], [])).1 ∧ InBytes w4.drew hm.va hm.vn hm.vc ((AT.node rl rk rv rr).pairs.headD ([], [])).2) := Lib.hid ⟨y7, hk4.below (Below.refl _ _).drew, hv4.below (Below.refl _ _).drew⟩
          clear q4 y7 hpm hmk hk4 hv4
          generalize w3.heap.size = b7 at *
          refine region_l (S := (fun W => W.cell? ⟨b7, 1, none⟩ = some (.slice hm.ka hm.kn hm.kc) ∧ W.cell? ⟨b7, 2, none⟩ = some (.slice hm.va hm.vn hm.vc) ∧ (W.cell? ⟨b5, 0, none⟩ = some (.int .i64 (H 0).k) ∧ W.cell? ⟨b5, 1, none⟩ = some (.slice (H 0).ka (H 0).kn (H 0).kc) ∧ W.cell? ⟨b5, 2, none⟩ = some (.slice (H 0).va (H 0).vn (H 0).vc) ∧ W.cell? ⟨b5, 3, none⟩ = some (.slice (H 0).da (H 0).dn (H 0).dc) ∧ W.cell? ⟨b5, 4, none⟩ = some (.slice (H 0).ta (H 0).tn (H 0).tc)) ∧ W.cell? ⟨b6, 0, none⟩ = some (.int .i64 (H 1).k) ∧ W.cell? ⟨b6, 1, none⟩ = some (.slice (H 1).ka (H 1).kn (H 1).kc) ∧ W.cell? ⟨b6, 2, none⟩ = some (.slice (H 1).va (H 1).vn (H 1).vc) ∧ W.cell? ⟨b6, 3, none⟩ = some (.slice (H 1).da (H 1).dn (H 1).dc) ∧ W.cell? ⟨b6, 4, none⟩ = some (.slice (H 1).ta (H 1).tn (H 1).tc))) 11 (by kernel_rfl) ⟨HM4d.out.1.cells.2.1, HM4d.out.1.cells.2.2.1, HX4.out.drew.b1.cells, HX4.out.drew.b2.cells⟩ (fun hHeld => ?_)
          refine take_l (i := 0) (oi := ?oZ23) (v := ?vZ23) ?hiZ23 (by kernel_rfl) (by kernel_rfl) (by kernel_rfl) (by kernel_rfl) ?hQZ23 ?hwZ23 ?hyZ23 (by assumption) ?restZ23
          case hiZ23 => (simp only [List.getElem?_toArray, List.getElem?_cons_zero] <;> rfl)
          case hQZ23 => exact (fun _ _ _ h => h)
          case hwZ23 => rfl
          case hyZ23 => (intro w hSw; (try dsimp only at hSw); go_simp; try with_reducible rfl)
          (try simp only [Act.put, List.setIfInBounds_toArray, List.set_cons_zero, List.set_cons_succ])
          refine take_l (i := 1) (oi := ?oZ24) (v := ?vZ24) ?hiZ24 (by kernel_rfl) (by kernel_rfl) (by kernel_rfl) (by kernel_rfl) ?hQZ24 ?hwZ24 ?hyZ24 (by assumption) ?restZ24
          case hiZ24 => (simp only [List.getElem?_toArray, List.getElem?_cons_succ, List.getElem?_cons_zero] <;> rfl)
          case hQZ24 => exact (fun _ _ _ h => h)
          case hwZ24 => rfl
          case hyZ24 => (intro w hSw; (try dsimp only at hSw); go_simp; try with_reducible rfl)
          (try simp only [Act.put, List.setIfInBounds_toArray, List.set_cons_zero, List.set_cons_succ])
          refine take_l (i := 2) (oi := ?oZ25) (v := ?vZ25) ?hiZ25 (by kernel_rfl) (by kernel_rfl) (by kernel_rfl) (by kernel_rfl) ?hQZ25 ?hwZ25 ?hyZ25 (by assumption) ?restZ25
          case hiZ25 => (simp only [List.getElem?_toArray, List.getElem?_cons_succ, List.getElem?_cons_zero] <;> rfl)
          case hQZ25 => exact (fun _ _ _ h => h)
          case hwZ25 => rfl
          case hyZ25 => (intro w hSw; (try dsimp only at hSw); go_simp; try with_reducible rfl)
          (try simp only [Act.put, List.setIfInBounds_toArray, List.set_cons_zero, List.set_cons_succ])
          refine take_l (i := 3) (oi := ?oZ26) (v := ?vZ26) ?hiZ26 (by kernel_rfl) (by kernel_rfl) (by kernel_rfl) (by kernel_rfl) ?hQZ26 ?hwZ26 ?hyZ26 (by assumption) ?restZ26
          case hiZ26 => (simp only [List.getElem?_toArray, List.getElem?_cons_succ, List.getElem?_cons_zero] <;> rfl)
          case hQZ26 => exact (fun _ _ _ h => h)
          case hwZ26 => rfl
          case hyZ26 => (intro w hSw; (try dsimp only at hSw); go_simp; try with_reducible rfl)
          (try simp only [Act.put, List.setIfInBounds_toArray, List.set_cons_zero, List.set_cons_succ])
          refine take_l (i := 4) (oi := ?oZ27) (v := ?vZ27) ?hiZ27 (by kernel_rfl) (by kernel_rfl) (by kernel_rfl) (by kernel_rfl) ?hQZ27 ?hwZ27 ?hyZ27 (by assumption) ?restZ27
          case hiZ27 => (simp only [List.getElem?_toArray, List.getElem?_cons_succ, List.getElem?_cons_zero] <;> rfl)
          case hQZ27 => exact (fun _ _ _ h => h)
          case hwZ27 => rfl
          case hyZ27 => (intro w hSw; (try dsimp only at hSw); go_simp; try with_reducible rfl)
          (try simp only [Act.put, List.setIfInBounds_toArray, List.set_cons_zero, List.set_cons_succ])
          refine take_l (i := 5) (oi := ?oZ28) (v := ?vZ28) ?hiZ28 (by kernel_rfl) (by kernel_rfl) (by kernel_rfl) (by kernel_rfl) ?hQZ28 ?hwZ28 ?hyZ28 (by assumption) ?restZ28
          case hiZ28 => (simp only [List.getElem?_toArray, List.getElem?_cons_succ, List.getElem?_cons_zero] <;> rfl)
          case hQZ28 => exact (fun _ _ _ h => h)
          case hwZ28 => rfl
          case hyZ28 => (intro w hSw; (try dsimp only at hSw); go_simp; try with_reducible rfl)
          (try simp only [Act.put, List.setIfInBounds_toArray, List.set_cons_zero, List.set_cons_succ])
          refine take_l (i := 6) (oi := ?oZ29) (v := ?vZ29) ?hiZ29 (by kernel_rfl) (by kernel_rfl) (by kernel_rfl) (by kernel_rfl) ?hQZ29 ?hwZ29 ?hyZ29 (by assumption) ?restZ29
          case hiZ29 => (simp only [List.getElem?_toArray, List.getElem?_cons_succ, List.getElem?_cons_zero] <;> rfl)
          case hQZ29 => exact (fun _ _ _ h => h)
          case hwZ29 => rfl
          case hyZ29 => (intro w hSw; (try dsimp only at hSw); go_simp; try with_reducible rfl)
          (try simp only [Act.put, List.setIfInBounds_toArray, List.set_cons_zero, List.set_cons_succ])
          refine take_l (i := 7) (oi := ?oZ30) (v := ?vZ30) ?hiZ30 (by kernel_rfl) (by kernel_rfl) (by kernel_rfl) (by kernel_rfl) ?hQZ30 ?hwZ30 ?hyZ30 (by assumption) ?restZ30
          case hiZ30 => (simp only [List.getElem?_toArray, List.getElem?_cons_succ, List.getElem?_cons_zero] <;> rfl)
          case hQZ30 => exact (fun _ _ _ h => h)
          case hwZ30 => rfl
          case hyZ30 => (intro w hSw; (try dsimp only at hSw); go_simp; try with_reducible rfl)
          (try simp only [Act.put, List.setIfInBounds_toArray, List.set_cons_zero, List.set_cons_succ])
          refine one_l (i := 8) (o := ?oZ31) (by kernel_rfl) ?hiZ31 (fun K hK => ?stZ31)
          case hiZ31 => (simp only [List.getElem?_toArray, List.getElem?_cons_succ, List.getElem?_cons_zero] <;> rfl)
          go_simp
          go_at_call 20
          refine (IHR.out ((AT.node rl rk rv rr).pairs.headD ([], [])).1 hm.ka hm.kn hm.kc (H 1) _ ((HP.out.below HX4.out.drew.lx.b).kids 1 l1) HL.out.2.2.2 HBL.out.2.1 (by simp only [AT.depth] at hd ⊢; omega) (by omega) HM4d.out.2.1).mono ?_
          rintro _ w5 ⟨h5, rfl, hi5, hb5⟩
          unfold TH.v
          have HX5 := Lib.hid (HX4.out.drew.below hb5)
          have HM5 := Lib.hid (And.intro (HM4d.out.1.below hb5 HM4d.out.1.lt) (And.intro (HM4d.out.2.1.below hb5) (HM4d.out.2.2.below hb5)))
          have HI5 := Lib.hid hi5
          clear hi5 hb5
          go_simp
          refine hK.out _ _ ?_ (fun hHeld => ?_)
          · (first | exact ⟨HM7.out.1.cells.2.1, HM7.out.1.cells.2.2.1, HX7.out.b1.cells, HX7.out.b2.cells⟩ | exact ⟨HM6.out.1.cells.2.1, HM6.out.1.cells.2.2.1, HX6.out.b1.cells, HX6.out.b2.cells⟩ | exact ⟨HM5.out.1.cells.2.1, HM5.out.1.cells.2.2.1, HX5.out.b1.cells, HX5.out.b2.cells⟩ | exact ⟨HM4d.out.1.cells.2.1, HM4d.out.1.cells.2.2.1, HX4.out.drew.b1.cells, HX4.out.drew.b2.cells⟩)
          clear hK K
          (try simp only [Act.put, List.setIfInBounds_toArray, List.set_cons_zero, List.set_cons_succ])
          refine one_l (i := 9) (o := ?oZ32) (by kernel_rfl) ?hiZ32 (fun K hK => ?stZ32)
          case hiZ32 => (simp only [List.getElem?_toArray, List.getElem?_cons_succ, List.getElem?_cons_zero] <;> rfl)
          go_simp
          go_at_call 33
          refine (refNode_any (AT.node ll lk lv lr) ((AT.node rl rk rv rr).del ((AT.node rl rk rv rr).pairs.headD ([], [])).1) (H 0) h5 hm.ka hm.va hm.kn hm.kc hm.vn hm.vc ((AT.node rl rk rv rr).pairs.headD ([], [])).1 ((AT.node rl rk rv rr).pairs.headD ([], [])).2 _ ((HP.out.below HX5.out.lx.b).kids 0 l0) HI5.out HM5.out.2.1 HM5.out.2.2).mono ?_
          rintro _ w6 ⟨h6, rfl, hi6, hb6⟩
          unfold TH.v
          have HX6 := Lib.hid (HX5.out.below hb6)
          have HM6 := Lib.hid (And.intro (HM5.out.1.below hb6 HM5.out.1.lt) (And.intro (HM5.out.2.1.below hb6) (HM5.out.2.2.below hb6)))
          have HI6 := Lib.hid hi6
          clear hi6 hb6
          go_simp
          refine hK.out _ _ ?_ (fun hHeld => ?_)
          · (first | exact ⟨HM7.out.1.cells.2.1, HM7.out.1.cells.2.2.1, HX7.out.b1.cells, HX7.out.b2.cells⟩ | exact ⟨HM6.out.1.cells.2.1, HM6.out.1.cells.2.2.1, HX6.out.b1.cells, HX6.out.b2.cells⟩ | exact ⟨HM5.out.1.cells.2.1, HM5.out.1.cells.2.2.1, HX5.out.b1.cells, HX5.out.b2.cells⟩ | exact ⟨HM4d.out.1.cells.2.1, HM4d.out.1.cells.2.2.1, HX4.out.drew.b1.cells, HX4.out.drew.b2.cells⟩)
          clear hK K
          (try simp only [Act.put, List.setIfInBounds_toArray, List.set_cons_zero, List.set_cons_succ])
          refine one_l (i := 10) (o := ?oZ33) (by kernel_rfl) ?hiZ33 (fun K hK => ?stZ33)
          case hiZ33 => (simp only [List.getElem?_toArray, List.getElem?_cons_succ, List.getElem?_cons_zero] <;> rfl)
          go_simp
          go_at_call 34
          refine (refLevel_any (AT.node ll lk lv lr) ((AT.node rl rk rv rr).pairs.headD ([], [])).1 ((AT.node rl rk rv rr).pairs.headD ([], [])).2 ((AT.node rl rk rv rr).del ((AT.node rl rk rv rr).pairs.headD ([], [])).1) h6 _ HI6.out (Lim.mk HL.out.1 HLM.out.1 HLM.out.2 (AT.del_lim ((AT.node rl rk rv rr).pairs.headD ([], [])).1 HL.out.2.2.2)) (by simp only [AT.depth] at hd ⊢; omega) (by have := (AT.del_bal ((AT.node rl rk rv rr).pairs.headD ([], [])).1 (AT.node rl rk rv rr) HBL.out.2.1).2.2; simp only [AT.depth] at hd this ⊢; omega)).mono ?_
          rintro _ w7 ⟨h7, rfl, hi7, hb7⟩
          unfold TH.v
          have HX7 := Lib.hid (HX6.out.below hb7)
          have HM7 := Lib.hid (And.intro (HM6.out.1.below hb7 HM6.out.1.lt) (And.intro (HM6.out.2.1.below hb7) (HM6.out.2.2.below hb7)))
          have HI7 := Lib.hid hi7
          clear hi7 hb7
          go_simp
          refine hK.out _ _ ?_ (fun hHeld => ?_)
          · (first | exact ⟨HM7.out.1.cells.2.1, HM7.out.1.cells.2.2.1, HX7.out.b1.cells, HX7.out.b2.cells⟩ | exact ⟨HM6.out.1.cells.2.1, HM6.out.1.cells.2.2.1, HX6.out.b1.cells, HX6.out.b2.cells⟩ | exact ⟨HM5.out.1.cells.2.1, HM5.out.1.cells.2.2.1, HX5.out.b1.cells, HX5.out.b2.cells⟩ | exact ⟨HM4d.out.1.cells.2.1, HM4d.out.1.cells.2.2.1, HX4.out.drew.b1.cells, HX4.out.drew.b2.cells⟩)
          clear hK K
          (try simp only [Act.put, List.setIfInBounds_toArray, List.set_cons_zero, List.set_cons_succ])
          refine last_l (o := ?oZ34) (by kernel_rfl) ?hiZ34 (by kernel_rfl) (fun K hK => ?stZ34)
          case hiZ34 => (simp only [List.getElem?_toArray, List.getElem?_cons_succ, List.getElem?_cons_zero] <;> rfl)
          refine step_store_box rfl 25 (.tmp 4) (.tmp 77) rfl (w.heap.size + 1) hZ h7 rfl rfl 25 HX7.out.lx.res infoTree5 ?_
          intro w9 hbx9 hg9
          have HX9 := Lib.hid hbx9
          have HI9 := Lib.hid (AT.outBox HX7.out.lx.res hg9 _ _ HI7.out)
          have HB9 : Hid (Below w.heap.size w w9) := Lib.hid (HX7.out.lx.b.grown hg9 HX7.out.lx.b.size (fun j hj => by injection hj; omega))
          clear hbx9 hg9
          refine hK.out _ _ ?_
          clear hK K
          (try simp only [Act.put])
          
          clear hHeld
          go_wp2_with fail
          refine bodyPost_ret (v := h7.v) (result_tree Try.results20 _ HX9.out rfl Try.underlying25 infoTree5) rfl ⟨_, rfl, ?_, HB9.out⟩
          rw [HPN.out]
          exact HI9.out
    · have HPN := Lib.hid ((HPN0.out.trans (if_neg (by rw [ltL_asymm cg]; simp))).trans (if_pos cg))
      have cl : ltL key k = false := ltL_asymm cg
      have ce : (key == k) = false := beq_eq_false_iff_ne.2 (fun q => ltL_ne cg q.symm)
      rw [cl]
      go_upto_if 42 with fail
      clear he hlt cv1 cv2 x0 x1 x2 x3 x4
      go_upto_region 8 with fail
      clear cl ce cg
      refine region_l (S := (fun W => W.cell? ⟨w.heap.size, 1, none⟩ = some (.slice h.ka h.kn h.kc) ∧ W.cell? ⟨w.heap.size, 2, none⟩ = some (.slice h.va h.vn h.vc) ∧ (W.cell? ⟨b5, 0, none⟩ = some (.int .i64 (H 0).k) ∧ W.cell? ⟨b5, 1, none⟩ = some (.slice (H 0).ka (H 0).kn (H 0).kc) ∧ W.cell? ⟨b5, 2, none⟩ = some (.slice (H 0).va (H 0).vn (H 0).vc) ∧ W.cell? ⟨b5, 3, none⟩ = some (.slice (H 0).da (H 0).dn (H 0).dc) ∧ W.cell? ⟨b5, 4, none⟩ = some (.slice (H 0).ta (H 0).tn (H 0).tc)) ∧ W.cell? ⟨b6, 0, none⟩ = some (.int .i64 (H 1).k) ∧ W.cell? ⟨b6, 1, none⟩ = some (.slice (H 1).ka (H 1).kn (H 1).kc) ∧ W.cell? ⟨b6, 2, none⟩ = some (.slice (H 1).va (H 1).vn (H 1).vc) ∧ W.cell? ⟨b6, 3, none⟩ = some (.slice (H 1).da (H 1).dn (H 1).dc) ∧ W.cell? ⟨b6, 4, none⟩ = some (.slice (H 1).ta (H 1).tn (H 1).tc))) 10 (by kernel_rfl) ⟨HX1.out.drew.lx.box.cells.2.1, HX1.out.drew.lx.box.cells.2.2.1, HX1.out.drew.b1.cells, HX1.out.drew.b2.cells⟩ (fun hHeld => ?_)
      refine take_l (i := 0) (oi := ?oZ12) (v := ?vZ12) ?hiZ12 (by kernel_rfl) (by kernel_rfl) (by kernel_rfl) (by kernel_rfl) ?hQZ12 ?hwZ12 ?hyZ12 (by assumption) ?restZ12
      case hiZ12 => (simp only [List.getElem?_toArray, List.getElem?_cons_zero] <;> rfl)
      case hQZ12 => exact (fun _ _ _ h => h)
      case hwZ12 => rfl
      case hyZ12 => (intro w hSw; (try dsimp only at hSw); go_simp; try with_reducible rfl)
      (try simp only [Act.put, List.setIfInBounds_toArray, List.set_cons_zero, List.set_cons_succ])
      refine take_l (i := 1) (oi := ?oZ13) (v := ?vZ13) ?hiZ13 (by kernel_rfl) (by kernel_rfl) (by kernel_rfl) (by kernel_rfl) ?hQZ13 ?hwZ13 ?hyZ13 (by assumption) ?restZ13
      case hiZ13 => (simp only [List.getElem?_toArray, List.getElem?_cons_succ, List.getElem?_cons_zero] <;> rfl)
      case hQZ13 => exact (fun _ _ _ h => h)
      case hwZ13 => rfl
      case hyZ13 => (intro w hSw; (try dsimp only at hSw); go_simp; try with_reducible rfl)
      (try simp only [Act.put, List.setIfInBounds_toArray, List.set_cons_zero, List.set_cons_succ])
      refine take_l (i := 2) (oi := ?oZ14) (v := ?vZ14) ?hiZ14 (by kernel_rfl) (by kernel_rfl) (by kernel_rfl) (by kernel_rfl) ?hQZ14 ?hwZ14 ?hyZ14 (by assumption) ?restZ14
      case hiZ14 => (simp only [List.getElem?_toArray, List.getElem?_cons_succ, List.getElem?_cons_zero] <;> rfl)
      case hQZ14 => exact (fun _ _ _ h => h)
      case hwZ14 => rfl
      case hyZ14 => (intro w hSw; (try dsimp only at hSw); go_simp; try with_reducible rfl)
      (try simp only [Act.put, List.setIfInBounds_toArray, List.set_cons_zero, List.set_cons_succ])
      refine take_l (i := 3) (oi := ?oZ15) (v := ?vZ15) ?hiZ15 (by kernel_rfl) (by kernel_rfl) (by kernel_rfl) (by kernel_rfl) ?hQZ15 ?hwZ15 ?hyZ15 (by assumption) ?restZ15
      case hiZ15 => (simp only [List.getElem?_toArray, List.getElem?_cons_succ, List.getElem?_cons_zero] <;> rfl)
      case hQZ15 => exact (fun _ _ _ h => h)
      case hwZ15 => rfl
      case hyZ15 => (intro w hSw; (try dsimp only at hSw); go_simp; try with_reducible rfl)
      (try simp only [Act.put, List.setIfInBounds_toArray, List.set_cons_zero, List.set_cons_succ])
      refine take_l (i := 4) (oi := ?oZ16) (v := ?vZ16) ?hiZ16 (by kernel_rfl) (by kernel_rfl) (by kernel_rfl) (by kernel_rfl) ?hQZ16 ?hwZ16 ?hyZ16 (by assumption) ?restZ16
      case hiZ16 => (simp only [List.getElem?_toArray, List.getElem?_cons_succ, List.getElem?_cons_zero] <;> rfl)
      case hQZ16 => exact (fun _ _ _ h => h)
      case hwZ16 => rfl
      case hyZ16 => (intro w hSw; (try dsimp only at hSw); go_simp; try with_reducible rfl)
      (try simp only [Act.put, List.setIfInBounds_toArray, List.set_cons_zero, List.set_cons_succ])
      refine take_l (i := 5) (oi := ?oZ17) (v := ?vZ17) ?hiZ17 (by kernel_rfl) (by kernel_rfl) (by kernel_rfl) (by kernel_rfl) ?hQZ17 ?hwZ17 ?hyZ17 (by assumption) ?restZ17
      case hiZ17 => (simp only [List.getElem?_toArray, List.getElem?_cons_succ, List.getElem?_cons_zero] <;> rfl)
      case hQZ17 => exact (fun _ _ _ h => h)
      case hwZ17 => rfl
      case hyZ17 => (intro w hSw; (try dsimp only at hSw); go_simp; try with_reducible rfl)
      (try simp only [Act.put, List.setIfInBounds_toArray, List.set_cons_zero, List.set_cons_succ])
      refine take_l (i := 6) (oi := ?oZ18) (v := ?vZ18) ?hiZ18 (by kernel_rfl) (by kernel_rfl) (by kernel_rfl) (by kernel_rfl) ?hQZ18 ?hwZ18 ?hyZ18 (by assumption) ?restZ18
      case hiZ18 => (simp only [List.getElem?_toArray, List.getElem?_cons_succ, List.getElem?_cons_zero] <;> rfl)
      case hQZ18 => exact (fun _ _ _ h => h)
      case hwZ18 => rfl
      case hyZ18 => (intro w hSw; (try dsimp only at hSw); go_simp; try with_reducible rfl)
      (try simp only [Act.put, List.setIfInBounds_toArray, List.set_cons_zero, List.set_cons_succ])
      refine one_l (i := 7) (o := ?oZ19) (by kernel_rfl) ?hiZ19 (fun K hK => ?stZ19)
      case hiZ19 => (simp only [List.getElem?_toArray, List.getElem?_cons_succ, List.getElem?_cons_zero] <;> rfl)
      go_simp
      go_at_call 20
      refine (IHR.out key ka kn kc (H 1) _ ((HP.out.below HX1.out.drew.lx.b).kids 1 l1) HL.out.2.2.2 HBL.out.2.1 (by simp only [AT.depth] at hd; omega) (by omega) (HK.out.below HX1.out.drew.lx.b)).mono ?_
      rintro _ w2 ⟨h2, rfl, hi2, hb2⟩
      unfold TH.v
      have HX2 := Lib.hid (HX1.out.drew.below hb2)
      have HI2 := Lib.hid hi2
      clear hi2 hb2
      go_simp
      refine hK.out _ _ ?_ (fun hHeld => ?_)
      · (first | exact ⟨HX4.out.lx.box.cells.2.1, HX4.out.lx.box.cells.2.2.1, HX4.out.b1.cells, HX4.out.b2.cells⟩ | exact ⟨HX3.out.lx.box.cells.2.1, HX3.out.lx.box.cells.2.2.1, HX3.out.b1.cells, HX3.out.b2.cells⟩ | exact ⟨HX2.out.lx.box.cells.2.1, HX2.out.lx.box.cells.2.2.1, HX2.out.b1.cells, HX2.out.b2.cells⟩ | exact ⟨HX1.out.drew.lx.box.cells.2.1, HX1.out.drew.lx.box.cells.2.2.1, HX1.out.drew.b1.cells, HX1.out.drew.b2.cells⟩)
      clear hK K
      (try simp only [Act.put, List.setIfInBounds_toArray, List.set_cons_zero, List.set_cons_succ])
      refine one_l (i := 8) (o := ?oZ20) (by kernel_rfl) ?hiZ20 (fun K hK => ?stZ20)
      case hiZ20 => (simp only [List.getElem?_toArray, List.getElem?_cons_succ, List.getElem?_cons_zero] <;> rfl)
      go_simp
      go_at_call 33
      refine (refNode_any l (r.del key) (H 0) h2 h.ka h.va h.kn h.kc h.vn h.vc k v _ ((HP.out.below HX2.out.lx.b).kids 0 l0) HI2.out (HP.out.below HX2.out.lx.b).key (HP.out.below HX2.out.lx.b).val).mono ?_
      rintro _ w3 ⟨h3, rfl, hi3, hb3⟩
      unfold TH.v
      have HX3 := Lib.hid (HX2.out.below hb3)
      have HI3 := Lib.hid hi3
      clear hi3 hb3
      go_simp
      refine hK.out _ _ ?_ (fun hHeld => ?_)
      · (first | exact ⟨HX4.out.lx.box.cells.2.1, HX4.out.lx.box.cells.2.2.1, HX4.out.b1.cells, HX4.out.b2.cells⟩ | exact ⟨HX3.out.lx.box.cells.2.1, HX3.out.lx.box.cells.2.2.1, HX3.out.b1.cells, HX3.out.b2.cells⟩ | exact ⟨HX2.out.lx.box.cells.2.1, HX2.out.lx.box.cells.2.2.1, HX2.out.b1.cells, HX2.out.b2.cells⟩ | exact ⟨HX1.out.drew.lx.box.cells.2.1, HX1.out.drew.lx.box.cells.2.2.1, HX1.out.drew.b1.cells, HX1.out.drew.b2.cells⟩)
      clear hK K
      (try simp only [Act.put, List.setIfInBounds_toArray, List.set_cons_zero, List.set_cons_succ])
      refine one_l (i := 9) (o := ?oZ21) (by kernel_rfl) ?hiZ21 (fun K hK => ?stZ21)
      case hiZ21 => (simp only [List.getElem?_toArray, List.getElem?_cons_succ, List.getElem?_cons_zero] <;> rfl)
      go_simp
      go_at_call 34
      refine (refLevel_any l k v (r.del key) h3 _ HI3.out (Lim.mk HL.out.1 HL.out.2.1 HL.out.2.2.1 (AT.del_lim key HL.out.2.2.2)) (by simp only [AT.depth] at hd; omega) (by have := (AT.del_bal key r HBL.out.2.1).2.2; simp only [AT.depth] at hd; omega)).mono ?_
      rintro _ w4 ⟨h4, rfl, hi4, hb4⟩
      unfold TH.v
      have HX4 := Lib.hid (HX3.out.below hb4)
      have HI4 := Lib.hid hi4
      clear hi4 hb4
      go_simp
      refine hK.out _ _ ?_ (fun hHeld => ?_)
      · (first | exact ⟨HX4.out.lx.box.cells.2.1, HX4.out.lx.box.cells.2.2.1, HX4.out.b1.cells, HX4.out.b2.cells⟩ | exact ⟨HX3.out.lx.box.cells.2.1, HX3.out.lx.box.cells.2.2.1, HX3.out.b1.cells, HX3.out.b2.cells⟩ | exact ⟨HX2.out.lx.box.cells.2.1, HX2.out.lx.box.cells.2.2.1, HX2.out.b1.cells, HX2.out.b2.cells⟩ | exact ⟨HX1.out.drew.lx.box.cells.2.1, HX1.out.drew.lx.box.cells.2.2.1, HX1.out.drew.b1.cells, HX1.out.drew.b2.cells⟩)
      clear hK K
      (try simp only [Act.put, List.setIfInBounds_toArray, List.set_cons_zero, List.set_cons_succ])
      refine last_l (o := ?oZ22) (by kernel_rfl) ?hiZ22 (by kernel_rfl) (fun K hK => ?stZ22)
      case hiZ22 => (simp only [List.getElem?_toArray, List.getElem?_cons_succ, List.getElem?_cons_zero] <;> rfl)
      refine step_store_box rfl 25 (.tmp 4) (.tmp 52) rfl (w.heap.size + 1) hZ h4 rfl rfl 25 HX4.out.lx.res infoTree5 ?_
      intro w9 hbx9 hg9
      have HX9 := Lib.hid hbx9
      have HI9 := Lib.hid (AT.outBox HX4.out.lx.res hg9 _ _ HI4.out)
      have HB9 : Hid (Below w.heap.size w w9) := Lib.hid (HX4.out.lx.b.grown hg9 HX4.out.lx.b.size (fun j hj => by injection hj; omega))
      clear hbx9 hg9
      refine hK.out _ _ ?_
      clear hK K
      (try simp only [Act.put])
      
      clear hHeld
      go_wp2_with fail
      refine bodyPost_ret (v := h4.v) (result_tree Try.results20 _ HX9.out rfl Try.underlying25 infoTree5) rfl ⟨_, rfl, ?_, HB9.out⟩
      rw [HPN.out]
      exact HI9.out
end Go.Proofs.Ytolpdidjabbipaa
