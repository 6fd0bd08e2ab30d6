/- The contract of the document's insertion into AVL trees. Trees that are balanced, whose keys rise, within their bounds: they stay so. No program is named here. The contract of the document's Same of lists of pairs. The contract of the document's tree into which pairs were put. One byte in a block of its own. No program is named here. The head of the statements of layer 7: what is shown of a tree of one node. The contract of the document's comparison of trees: of one and the same tree. The contract of the document's In of spans. Rows of trees: the cells of the i-th; their heads. No program is named here. The row of a tree's nodes, and the i-th of them. No program is named here. The contract of the document's Range of balanced trees. A region that draws its order, by an invariant; bytes appended to an empty row. No program is named here. -/
import Derived.Test.YtkfjhegehhahcaaDoorMSD
import Derived.Test.YtkfjhegehhahcaaDoorMSB
import Derived.Test.YtkfjhegehhahcaaDoorMSC
import Derived.Test.YtkfjhegehhahcaaDoorMSA
import Derived.Lib.SlBytesConst
import Derived.Deep.RegionHeld3
/- The contract of the document's insertion into AVL trees. -/
namespace Go.Proofs.YtkfjhegehhahcaaDoor
open Go.RowKit
set_option linter.unusedVariables false

theorem AT.put_mem (key val : List Int) : ∀ (a : AT) (p : KV), p ∈ (a.put key val).pairs → p = (key, val) ∨ p ∈ a.pairs := by
  intro a
  induction a with
  | nil =>
    intro p hp
    simp [AT.put, AT.pairs] at hp
    exact .inl hp
  | node l k v r ihl ihr =>
    intro p hp
    rw [AT.put_node] at hp
    simp only [AT.pairs, List.mem_append, List.mem_cons]
    split at hp
    · simp only [AT.pairs, List.mem_append, List.mem_cons] at hp
      rcases hp with hp | hp | hp
      · exact .inr (.inl hp)
      · exact .inl hp
      · exact .inr (.inr (.inr hp))
    · split at hp
      · rw [AT.level_pairs] at hp
        simp only [AT.pairs, List.mem_append, List.mem_cons] at hp
        rcases hp with hp | hp | hp
        · rcases ihl p hp with q | q
          · exact .inl q
          · exact .inr (.inl q)
        · exact .inr (.inr (.inl hp))
        · exact .inr (.inr (.inr hp))
      · rw [AT.level_pairs] at hp
        simp only [AT.pairs, List.mem_append, List.mem_cons] at hp
        rcases hp with hp | hp | hp
        · exact .inr (.inl hp)
        · exact .inr (.inr (.inl hp))
        · rcases ihr p hp with q | q
          · exact .inl q
          · exact .inr (.inr (.inr q))
theorem AT.put_lim {key val : List Int} (hk : key.length ≤ 80) (hv : val.length ≤ 1024) {a : AT} (h : Lim a.pairs) : Lim (a.put key val).pairs := fun p hp => by
  rcases AT.put_mem key val a p hp with rfl | q
  · exact ⟨hk, hv⟩
  · exact h p q
theorem Lim.mk {l : AT} {k v : List Int} {r : AT} (h1 : Lim l.pairs) (h2 : k.length ≤ 80) (h3 : v.length ≤ 1024) (h4 : Lim r.pairs) : Lim (AT.node l k v r).pairs := fun p hp => by
  simp only [AT.pairs, List.mem_append, List.mem_cons] at hp
  rcases hp with hp | rfl | hp
  · exact h1 p hp
  · exact ⟨h2, h3⟩
  · exact h4 p hp

set_option maxRecDepth 100000 in
set_option maxHeartbeats 4000000 in
theorem refPut_any (key val : List Int) (ka va : Option Addr) (kn kc vn vc : Nat) (hkl : key.length ≤ 80) (hvl : val.length ≤ 1024) : ∀ (a : AT) (h : TH) (w : World), InTree w h a.tr → Lim a.pairs → a.bal → a.depth ≤ 60 → InBytes w ka kn kc key → InBytes w va vn vc val →
    Calls Tryd.prog 30 #[h.v, .slice ka kn kc, .slice va vn vc] w (Tells w (a.put key val)) := by
  intro a
  induction a with
  | nil =>
    intro h w ht _ _ _ hkb hvb
    unfold TH.v
    obtain ⟨H, hp⟩ := ht.parts
    have h0 : ((h.tn : Int) == 0) = true := by have h2 : h.tn = 0 := hp.len.symm; simp [h2]
    obtain ⟨e1, e2, e3, e4⟩ := enter2 w h
    have HK := Lib.hid (And.intro hkb hvb)
    clear hp hkb hvb
    go_enter Tryd.func30, Tryd.ntmps30
    go_upto_region 1 with fail
    generalize ((w.alloc (.cells #[.int .i64 h.k, .slice h.ka h.kn h.kc, .slice h.va h.vn h.vc, .slice h.da h.dn h.dc, .slice h.ta h.tn h.tc] 25)).alloc (.cells #[.int .i64 0, .slice none 0 0, .slice none 0 0, .slice none 0 0, .slice none 0 0] 25)) = w0 at *
    have HX0 : Hid (LX w w0 h AT.nil.tr) := Lib.hid ⟨e1, e2, ht.lower e3, e3⟩
    have x4 := e1.cells.2.2.2.2
    clear e1 e2 e3 e4 ht
    go_wp2_with (first
      | (go_at_call 57
         refine (refNode_any .nil .nil hZ hZ ka va kn kc vn vc key val _ (inTree_nil _) (inTree_nil _) (HK.out.1.below HX0.out.b) (HK.out.2.below HX0.out.b)).mono ?_
         rintro _ w2 ⟨h2, rfl, hi2, hb2⟩
         unfold TH.v
         have HX2 := Lib.hid (HX0.out.below hb2)
         have HI2 := Lib.hid hi2
         clear hi2 hb2)
      | (refine wpList_store_box rfl 25 (.tmp 6) (.tmp 15) rfl (w.heap.size + 1) hZ h2 rfl rfl 25 HX2.out.res infoTree5 ?_
         intro w9 hbx9 hg9
         have HX9 := Lib.hid hbx9
         have HI9 := Lib.hid (AT.outBox HX2.out.res hg9 _ _ HI2.out)
         have HB9 : Hid (Below w.heap.size w w9) := Lib.hid (HX2.out.b.grown hg9 HX2.out.b.size (fun j hj => by injection hj; omega))
         clear hbx9 hg9))
    exact bodyPost_ret (v := h2.v) (result_tree Tryd.results30 _ HX9.out rfl Tryd.underlying25 infoTree5) rfl ⟨_, rfl, HI9.out, HB9.out⟩
  | node l k v r ihl ihr =>
    intro h w ht hlim hbal hd hkb hvb
    unfold TH.v
    obtain ⟨H, hp⟩ := ht.parts
    have l0 : 0 < (AT.node l k v r).tr.kids.length := by rw [AT.tr_kids]; simp
    have l1 : 1 < (AT.node l k v r).tr.kids.length := by rw [AT.tr_kids]; simp
    have ht1 : (1 : Int) < (h.tn : Int) := by have h2 : h.tn = 2 := hp.len.symm; omega
    have ht0 : 0 < h.tn := by omega
    have h0 : ((h.tn : Int) == 0) = false := by rw [beq_eq_false_iff_ne]; omega
    have HP := Lib.hid hp
    have HL := Lib.hid hlim.node
    have HBL : Hid (l.bal ∧ r.bal ∧ l.depth ≤ r.depth + 1 ∧ r.depth ≤ l.depth + 1) := Lib.hid hbal
    have HK := Lib.hid (And.intro hkb hvb)
    have IHL := Lib.hid ihl
    have IHR := Lib.hid ihr
    have HPN := Lib.hid (AT.put_node key val l k v r)
    obtain ⟨g, off, hta, -, -⟩ := hp.place (by omega)
    have HTA := Lib.hid hta
    obtain ⟨e1, e2, e3, e4⟩ := enter2 w h
    have HKB := Lib.hid (And.intro hkb.bytes hp.key.bytes)
    clear hp hta hlim hbal hkb hvb ihl ihr
    go_enter Tryd.func30, Tryd.ntmps30
    go_upto_region 1 with fail
    generalize ((w.alloc (.cells #[.int .i64 h.k, .slice h.ka h.kn h.kc, .slice h.va h.vn h.vc, .slice h.da h.dn h.dc, .slice h.ta h.tn h.tc] 25)).alloc (.cells #[.int .i64 0, .slice none 0 0, .slice none 0 0, .slice none 0 0, .slice none 0 0] 25)) = w0 at *
    have HX0 : Hid (LX w w0 h (AT.node l k v r).tr) := Lib.hid ⟨e1, e2, ht.lower e3, e3⟩
    obtain ⟨x0, x1, x2, x3, x4⟩ := e1.cells
    have cv1 := conv_key (HK.out.1.below e3)
    have cv2 : (convert 22 9 (.slice h.ka h.kn h.kc)).run Tryd.prog w0 = .ok (.string (strOfNums k)) w0 := conv_key (HP.out.below e3).key
    clear e1 e2 e3 e4 ht
    have he : ((strOfNums key).toList == (strOfNums k).toList) = (key == k) := str_eq HKB.out.1 HKB.out.2
    have hlt : Op.bytesLess (strOfNums key).toList (strOfNums k).toList = ltL key k := str_lt HKB.out.1 HKB.out.2
    go_upto_if 21 with fail
    clear he
    by_cases ce : key = k
    · have ce2 : (key == k) = true := by simp [ce]
      have HPN2 := Lib.hid (HPN.out.trans (if_pos ce))
      clear HPN
      have HPN := HPN2
      rw [ce2]
      clear ce ce2 hlt cv1 cv2 x0 x1 x2 x3 x4
      go_upto_region 4 with fail
      refine region_l (S := (fun W => W.cell? ⟨w.heap.size, 1, none⟩ = some (.slice h.ka h.kn h.kc) ∧ W.cell? ⟨w.heap.size, 2, none⟩ = some (.slice h.va h.vn h.vc) ∧ W.cell? ⟨w.heap.size, 4, none⟩ = some (.slice (some ⟨g, off, none⟩) h.tn h.tc) ∧ (W.cell? ⟨g, off, none⟩ = some (.int .i64 (H 0).k) ∧ W.cell? ⟨g, off + 1, none⟩ = some (.slice (H 0).ka (H 0).kn (H 0).kc) ∧ W.cell? ⟨g, off + 2, none⟩ = some (.slice (H 0).va (H 0).vn (H 0).vc) ∧ W.cell? ⟨g, off + 3, none⟩ = some (.slice (H 0).da (H 0).dn (H 0).dc) ∧ W.cell? ⟨g, off + 4, none⟩ = some (.slice (H 0).ta (H 0).tn (H 0).tc)) ∧ W.cell? ⟨g, off + 5, none⟩ = some (.int .i64 (H 1).k) ∧ W.cell? ⟨g, off + 5 + 1, none⟩ = some (.slice (H 1).ka (H 1).kn (H 1).kc) ∧ W.cell? ⟨g, off + 5 + 2, none⟩ = some (.slice (H 1).va (H 1).vn (H 1).vc) ∧ W.cell? ⟨g, off + 5 + 3, none⟩ = some (.slice (H 1).da (H 1).dn (H 1).dc) ∧ W.cell? ⟨g, off + 5 + 4, none⟩ = some (.slice (H 1).ta (H 1).tn (H 1).tc))) 11 (by kernel_rfl) ⟨HX0.out.drew.box.cells.2.1, HX0.out.drew.box.cells.2.2.1, (HX0.out.drew.box.cells.2.2.2.2).trans (by rw [HTA.out]), (HP.out.below HX0.out.drew.b).kid0 HTA.out (by omega), (HP.out.below HX0.out.drew.b).kid1 HTA.out (by omega)⟩ (fun hHeld => ?_)
      refine take_l (i := 0) (oi := ?oZ1) (v := ?vZ1) ?hiZ1 (by kernel_rfl) (by kernel_rfl) (by kernel_rfl) (by kernel_rfl) ?hQZ1 ?hwZ1 ?hyZ1 (by assumption) ?restZ1
      case hiZ1 => (simp only [List.getElem?_toArray, List.getElem?_cons_zero] <;> rfl)
      case hQZ1 => exact (fun _ _ _ h => h)
      case hwZ1 => rfl
      case hyZ1 => (intro w hSw; (try dsimp only at hSw); go_simp; try with_reducible rfl)
      (try simp only [Act.put, List.setIfInBounds_toArray, List.set_cons_zero, List.set_cons_succ])
      refine take_l (i := 1) (oi := ?oZ2) (v := ?vZ2) ?hiZ2 (by kernel_rfl) (by kernel_rfl) (by kernel_rfl) (by kernel_rfl) ?hQZ2 ?hwZ2 ?hyZ2 (by assumption) ?restZ2
      case hiZ2 => (simp only [List.getElem?_toArray, List.getElem?_cons_succ, List.getElem?_cons_zero] <;> rfl)
      case hQZ2 => exact (fun _ _ _ h => h)
      case hwZ2 => rfl
      case hyZ2 => (intro w hSw; (try dsimp only at hSw); go_simp; try with_reducible rfl)
      (try simp only [Act.put, List.setIfInBounds_toArray, List.set_cons_zero, List.set_cons_succ])
      refine take_l (i := 2) (oi := ?oZ3) (v := ?vZ3) ?hiZ3 (by kernel_rfl) (by kernel_rfl) (by kernel_rfl) (by kernel_rfl) ?hQZ3 ?hwZ3 ?hyZ3 (by assumption) ?restZ3
      case hiZ3 => (simp only [List.getElem?_toArray, List.getElem?_cons_succ, List.getElem?_cons_zero] <;> rfl)
      case hQZ3 => exact (fun _ _ _ h => h)
      case hwZ3 => rfl
      case hyZ3 => (intro w hSw; (try dsimp only at hSw); go_simp; try with_reducible rfl)
      (try simp only [Act.put, List.setIfInBounds_toArray, List.set_cons_zero, List.set_cons_succ])
      refine take_l (i := 3) (oi := ?oZ4) (v := ?vZ4) ?hiZ4 (by kernel_rfl) (by kernel_rfl) (by kernel_rfl) (by kernel_rfl) ?hQZ4 ?hwZ4 ?hyZ4 (by assumption) ?restZ4
      case hiZ4 => (simp only [List.getElem?_toArray, List.getElem?_cons_succ, List.getElem?_cons_zero] <;> rfl)
      case hQZ4 => exact (fun _ _ _ h => h)
      case hwZ4 => rfl
      case hyZ4 => (intro w hSw; (try dsimp only at hSw); go_simp; try with_reducible rfl)
      (try simp only [Act.put, List.setIfInBounds_toArray, List.set_cons_zero, List.set_cons_succ])
      refine take_l (i := 4) (oi := ?oZ5) (v := ?vZ5) ?hiZ5 (by kernel_rfl) (by kernel_rfl) (by kernel_rfl) (by kernel_rfl) ?hQZ5 ?hwZ5 ?hyZ5 (by assumption) ?restZ5
      case hiZ5 => (simp only [List.getElem?_toArray, List.getElem?_cons_succ, List.getElem?_cons_zero] <;> rfl)
      case hQZ5 => exact (fun _ _ _ h => h)
      case hwZ5 => rfl
      case hyZ5 => (intro w hSw; (try dsimp only at hSw); go_simp; try with_reducible rfl)
      (try simp only [Act.put, List.setIfInBounds_toArray, List.set_cons_zero, List.set_cons_succ])
      refine take_l (i := 5) (oi := ?oZ6) (v := ?vZ6) ?hiZ6 (by kernel_rfl) (by kernel_rfl) (by kernel_rfl) (by kernel_rfl) ?hQZ6 ?hwZ6 ?hyZ6 (by assumption) ?restZ6
      case hiZ6 => (simp only [List.getElem?_toArray, List.getElem?_cons_succ, List.getElem?_cons_zero] <;> rfl)
      case hQZ6 => exact (fun _ _ _ h => h)
      case hwZ6 => rfl
      case hyZ6 => (intro w hSw; (try dsimp only at hSw); go_simp; try with_reducible rfl)
      (try simp only [Act.put, List.setIfInBounds_toArray, List.set_cons_zero, List.set_cons_succ])
      refine take_l (i := 6) (oi := ?oZ7) (v := ?vZ7) ?hiZ7 (by kernel_rfl) (by kernel_rfl) (by kernel_rfl) (by kernel_rfl) ?hQZ7 ?hwZ7 ?hyZ7 (by assumption) ?restZ7
      case hiZ7 => (simp only [List.getElem?_toArray, List.getElem?_cons_succ, List.getElem?_cons_zero] <;> rfl)
      case hQZ7 => exact (fun _ _ _ h => h)
      case hwZ7 => rfl
      case hyZ7 => (intro w hSw; (try dsimp only at hSw); go_simp; try with_reducible rfl)
      (try simp only [Act.put, List.setIfInBounds_toArray, List.set_cons_zero, List.set_cons_succ])
      refine take_l (i := 7) (oi := ?oZ8) (v := ?vZ8) ?hiZ8 (by kernel_rfl) (by kernel_rfl) (by kernel_rfl) (by kernel_rfl) ?hQZ8 ?hwZ8 ?hyZ8 (by assumption) ?restZ8
      case hiZ8 => (simp only [List.getElem?_toArray, List.getElem?_cons_succ, List.getElem?_cons_zero] <;> rfl)
      case hQZ8 => exact (fun _ _ _ h => h)
      case hwZ8 => rfl
      case hyZ8 => (intro w hSw; (try dsimp only at hSw); go_simp; try with_reducible rfl)
      (try simp only [Act.put, List.setIfInBounds_toArray, List.set_cons_zero, List.set_cons_succ])
      refine take_l (i := 8) (oi := ?oZ9) (v := ?vZ9) ?hiZ9 (by kernel_rfl) (by kernel_rfl) (by kernel_rfl) (by kernel_rfl) ?hQZ9 ?hwZ9 ?hyZ9 (by assumption) ?restZ9
      case hiZ9 => (simp only [List.getElem?_toArray, List.getElem?_cons_succ, List.getElem?_cons_zero] <;> rfl)
      case hQZ9 => exact (fun _ _ _ h => h)
      case hwZ9 => rfl
      case hyZ9 => (intro w hSw; (try dsimp only at hSw); go_simp; try with_reducible rfl)
      (try simp only [Act.put, List.setIfInBounds_toArray, List.set_cons_zero, List.set_cons_succ])
      refine take_l (i := 9) (oi := ?oZ10) (v := ?vZ10) ?hiZ10 (by kernel_rfl) (by kernel_rfl) (by kernel_rfl) (by kernel_rfl) ?hQZ10 ?hwZ10 ?hyZ10 (by assumption) ?restZ10
      case hiZ10 => (simp only [List.getElem?_toArray, List.getElem?_cons_succ, List.getElem?_cons_zero] <;> rfl)
      case hQZ10 => exact (fun _ _ _ h => h)
      case hwZ10 => rfl
      case hyZ10 => (intro w hSw; (try dsimp only at hSw); go_simp; try with_reducible rfl)
      (try simp only [Act.put, List.setIfInBounds_toArray, List.set_cons_zero, List.set_cons_succ])
      refine one_l (i := 10) (o := ?oZ11) (by kernel_rfl) ?hiZ11 (fun K hK => ?stZ11)
      case hiZ11 => (simp only [List.getElem?_toArray, List.getElem?_cons_succ, List.getElem?_cons_zero] <;> rfl)
      go_simp
      go_at_call 57
      refine (refNode_any l r (H 0) (H 1) ka va kn kc vn vc key val _ ((HP.out.below HX0.out.drew.b).kids 0 l0) ((HP.out.below HX0.out.drew.b).kids 1 l1) (HK.out.1.below HX0.out.drew.b) (HK.out.2.below HX0.out.drew.b)).mono ?_
      rintro _ w2 ⟨h2, rfl, hi2, hb2⟩
      unfold TH.v
      have HX2 := Lib.hid (HX0.out.drew.below hb2)
      have HI2 := Lib.hid hi2
      clear hi2 hb2
      go_simp
      refine hK.out _ _ ?_ (fun hHeld => ?_)
      · (first | exact ⟨HX4.out.box.cells.2.1, HX4.out.box.cells.2.2.1, (HX4.out.box.cells.2.2.2.2).trans (by rw [HTA.out]), (HP.out.below HX4.out.b).kid0 HTA.out (by omega), (HP.out.below HX4.out.b).kid1 HTA.out (by omega)⟩ | exact ⟨HX3.out.box.cells.2.1, HX3.out.box.cells.2.2.1, (HX3.out.box.cells.2.2.2.2).trans (by rw [HTA.out]), (HP.out.below HX3.out.b).kid0 HTA.out (by omega), (HP.out.below HX3.out.b).kid1 HTA.out (by omega)⟩ | exact ⟨HX2.out.box.cells.2.1, HX2.out.box.cells.2.2.1, (HX2.out.box.cells.2.2.2.2).trans (by rw [HTA.out]), (HP.out.below HX2.out.b).kid0 HTA.out (by omega), (HP.out.below HX2.out.b).kid1 HTA.out (by omega)⟩ | exact ⟨HX0.out.drew.box.cells.2.1, HX0.out.drew.box.cells.2.2.1, (HX0.out.drew.box.cells.2.2.2.2).trans (by rw [HTA.out]), (HP.out.below HX0.out.drew.b).kid0 HTA.out (by omega), (HP.out.below HX0.out.drew.b).kid1 HTA.out (by omega)⟩)
      clear hK K
      (try simp only [Act.put, List.setIfInBounds_toArray, List.set_cons_zero, List.set_cons_succ])
      refine last_l (o := ?oZ12) (by kernel_rfl) ?hiZ12 (by kernel_rfl) (fun K hK => ?stZ12)
      case hiZ12 => (simp only [List.getElem?_toArray, List.getElem?_cons_succ, List.getElem?_cons_zero] <;> rfl)
      refine step_store_box rfl 25 (.tmp 6) (.tmp 32) rfl (w.heap.size + 1) hZ h2 rfl rfl 25 HX2.out.res infoTree5 ?_
      intro w9 hbx9 hg9
      have HX9 := Lib.hid hbx9
      have HI9 := Lib.hid (AT.outBox HX2.out.res hg9 _ _ HI2.out)
      have HB9 : Hid (Below w.heap.size w w9) := Lib.hid (HX2.out.b.grown hg9 HX2.out.b.size (fun j hj => by injection hj; omega))
      clear hbx9 hg9
      refine hK.out _ _ ?_
      clear hK K
      (try simp only [Act.put])
      
      clear hHeld
      go_wp2_with fail
      refine bodyPost_ret (v := h2.v) (result_tree Tryd.results30 _ HX9.out rfl Tryd.underlying25 infoTree5) rfl ⟨_, rfl, ?_, HB9.out⟩
      rw [HPN.out]
      exact HI9.out
    have ce2 : (key == k) = false := by simp [ce]
    have HPN1 := Lib.hid (HPN.out.trans (if_neg ce))
    rw [ce2]
    go_upto_if 38 with fail
    cases cl : ltL key k
    · have HPN2 := Lib.hid (HPN1.out.trans (if_neg (by rw [cl]; simp)))
      clear HPN HPN1
      have HPN := HPN2
      clear ce ce2 hlt cv1 cv2 x0 x1 x2 x3 x4 cl
      go_upto_region 7 with fail
      refine region_l (S := (fun W => W.cell? ⟨w.heap.size, 1, none⟩ = some (.slice h.ka h.kn h.kc) ∧ W.cell? ⟨w.heap.size, 2, none⟩ = some (.slice h.va h.vn h.vc) ∧ W.cell? ⟨w.heap.size, 4, none⟩ = some (.slice (some ⟨g, off, none⟩) h.tn h.tc) ∧ (W.cell? ⟨g, off, none⟩ = some (.int .i64 (H 0).k) ∧ W.cell? ⟨g, off + 1, none⟩ = some (.slice (H 0).ka (H 0).kn (H 0).kc) ∧ W.cell? ⟨g, off + 2, none⟩ = some (.slice (H 0).va (H 0).vn (H 0).vc) ∧ W.cell? ⟨g, off + 3, none⟩ = some (.slice (H 0).da (H 0).dn (H 0).dc) ∧ W.cell? ⟨g, off + 4, none⟩ = some (.slice (H 0).ta (H 0).tn (H 0).tc)) ∧ W.cell? ⟨g, off + 5, none⟩ = some (.int .i64 (H 1).k) ∧ W.cell? ⟨g, off + 5 + 1, none⟩ = some (.slice (H 1).ka (H 1).kn (H 1).kc) ∧ W.cell? ⟨g, off + 5 + 2, none⟩ = some (.slice (H 1).va (H 1).vn (H 1).vc) ∧ W.cell? ⟨g, off + 5 + 3, none⟩ = some (.slice (H 1).da (H 1).dn (H 1).dc) ∧ W.cell? ⟨g, off + 5 + 4, none⟩ = some (.slice (H 1).ta (H 1).tn (H 1).tc))) 17 (by kernel_rfl) ⟨HX0.out.drew.box.cells.2.1, HX0.out.drew.box.cells.2.2.1, (HX0.out.drew.box.cells.2.2.2.2).trans (by rw [HTA.out]), (HP.out.below HX0.out.drew.b).kid0 HTA.out (by omega), (HP.out.below HX0.out.drew.b).kid1 HTA.out (by omega)⟩ (fun hHeld => ?_)
      refine take_l (i := 0) (oi := ?oZ31) (v := ?vZ31) ?hiZ31 (by kernel_rfl) (by kernel_rfl) (by kernel_rfl) (by kernel_rfl) ?hQZ31 ?hwZ31 ?hyZ31 (by assumption) ?restZ31
      case hiZ31 => (simp only [List.getElem?_toArray, List.getElem?_cons_zero] <;> rfl)
      case hQZ31 => exact (fun _ _ _ h => h)
      case hwZ31 => rfl
      case hyZ31 => (intro w hSw; (try dsimp only at hSw); go_simp; try with_reducible rfl)
      (try simp only [Act.put, List.setIfInBounds_toArray, List.set_cons_zero, List.set_cons_succ])
      refine take_l (i := 1) (oi := ?oZ32) (v := ?vZ32) ?hiZ32 (by kernel_rfl) (by kernel_rfl) (by kernel_rfl) (by kernel_rfl) ?hQZ32 ?hwZ32 ?hyZ32 (by assumption) ?restZ32
      case hiZ32 => (simp only [List.getElem?_toArray, List.getElem?_cons_succ, List.getElem?_cons_zero] <;> rfl)
      case hQZ32 => exact (fun _ _ _ h => h)
      case hwZ32 => rfl
      case hyZ32 => (intro w hSw; (try dsimp only at hSw); go_simp; try with_reducible rfl)
      (try simp only [Act.put, List.setIfInBounds_toArray, List.set_cons_zero, List.set_cons_succ])
      refine take_l (i := 2) (oi := ?oZ33) (v := ?vZ33) ?hiZ33 (by kernel_rfl) (by kernel_rfl) (by kernel_rfl) (by kernel_rfl) ?hQZ33 ?hwZ33 ?hyZ33 (by assumption) ?restZ33
      case hiZ33 => (simp only [List.getElem?_toArray, List.getElem?_cons_succ, List.getElem?_cons_zero] <;> rfl)
      case hQZ33 => exact (fun _ _ _ h => h)
      case hwZ33 => rfl
      case hyZ33 => (intro w hSw; (try dsimp only at hSw); go_simp; try with_reducible rfl)
      (try simp only [Act.put, List.setIfInBounds_toArray, List.set_cons_zero, List.set_cons_succ])
      refine take_l (i := 3) (oi := ?oZ34) (v := ?vZ34) ?hiZ34 (by kernel_rfl) (by kernel_rfl) (by kernel_rfl) (by kernel_rfl) ?hQZ34 ?hwZ34 ?hyZ34 (by assumption) ?restZ34
      case hiZ34 => (simp only [List.getElem?_toArray, List.getElem?_cons_succ, List.getElem?_cons_zero] <;> rfl)
      case hQZ34 => exact (fun _ _ _ h => h)
      case hwZ34 => rfl
      case hyZ34 => (intro w hSw; (try dsimp only at hSw); go_simp; try with_reducible rfl)
      (try simp only [Act.put, List.setIfInBounds_toArray, List.set_cons_zero, List.set_cons_succ])
      refine take_l (i := 4) (oi := ?oZ35) (v := ?vZ35) ?hiZ35 (by kernel_rfl) (by kernel_rfl) (by kernel_rfl) (by kernel_rfl) ?hQZ35 ?hwZ35 ?hyZ35 (by assumption) ?restZ35
      case hiZ35 => (simp only [List.getElem?_toArray, List.getElem?_cons_succ, List.getElem?_cons_zero] <;> rfl)
      case hQZ35 => exact (fun _ _ _ h => h)
      case hwZ35 => rfl
      case hyZ35 => (intro w hSw; (try dsimp only at hSw); go_simp; try with_reducible rfl)
      (try simp only [Act.put, List.setIfInBounds_toArray, List.set_cons_zero, List.set_cons_succ])
      refine take_l (i := 5) (oi := ?oZ36) (v := ?vZ36) ?hiZ36 (by kernel_rfl) (by kernel_rfl) (by kernel_rfl) (by kernel_rfl) ?hQZ36 ?hwZ36 ?hyZ36 (by assumption) ?restZ36
      case hiZ36 => (simp only [List.getElem?_toArray, List.getElem?_cons_succ, List.getElem?_cons_zero] <;> rfl)
      case hQZ36 => exact (fun _ _ _ h => h)
      case hwZ36 => rfl
      case hyZ36 => (intro w hSw; (try dsimp only at hSw); go_simp; try with_reducible rfl)
      (try simp only [Act.put, List.setIfInBounds_toArray, List.set_cons_zero, List.set_cons_succ])
      refine take_l (i := 6) (oi := ?oZ37) (v := ?vZ37) ?hiZ37 (by kernel_rfl) (by kernel_rfl) (by kernel_rfl) (by kernel_rfl) ?hQZ37 ?hwZ37 ?hyZ37 (by assumption) ?restZ37
      case hiZ37 => (simp only [List.getElem?_toArray, List.getElem?_cons_succ, List.getElem?_cons_zero] <;> rfl)
      case hQZ37 => exact (fun _ _ _ h => h)
      case hwZ37 => rfl
      case hyZ37 => (intro w hSw; (try dsimp only at hSw); go_simp; try with_reducible rfl)
      (try simp only [Act.put, List.setIfInBounds_toArray, List.set_cons_zero, List.set_cons_succ])
      refine take_l (i := 7) (oi := ?oZ38) (v := ?vZ38) ?hiZ38 (by kernel_rfl) (by kernel_rfl) (by kernel_rfl) (by kernel_rfl) ?hQZ38 ?hwZ38 ?hyZ38 (by assumption) ?restZ38
      case hiZ38 => (simp only [List.getElem?_toArray, List.getElem?_cons_succ, List.getElem?_cons_zero] <;> rfl)
      case hQZ38 => exact (fun _ _ _ h => h)
      case hwZ38 => rfl
      case hyZ38 => (intro w hSw; (try dsimp only at hSw); go_simp; try with_reducible rfl)
      (try simp only [Act.put, List.setIfInBounds_toArray, List.set_cons_zero, List.set_cons_succ])
      refine take_l (i := 8) (oi := ?oZ39) (v := ?vZ39) ?hiZ39 (by kernel_rfl) (by kernel_rfl) (by kernel_rfl) (by kernel_rfl) ?hQZ39 ?hwZ39 ?hyZ39 (by assumption) ?restZ39
      case hiZ39 => (simp only [List.getElem?_toArray, List.getElem?_cons_succ, List.getElem?_cons_zero] <;> rfl)
      case hQZ39 => exact (fun _ _ _ h => h)
      case hwZ39 => rfl
      case hyZ39 => (intro w hSw; (try dsimp only at hSw); go_simp; try with_reducible rfl)
      (try simp only [Act.put, List.setIfInBounds_toArray, List.set_cons_zero, List.set_cons_succ])
      refine take_l (i := 9) (oi := ?oZ40) (v := ?vZ40) ?hiZ40 (by kernel_rfl) (by kernel_rfl) (by kernel_rfl) (by kernel_rfl) ?hQZ40 ?hwZ40 ?hyZ40 (by assumption) ?restZ40
      case hiZ40 => (simp only [List.getElem?_toArray, List.getElem?_cons_succ, List.getElem?_cons_zero] <;> rfl)
      case hQZ40 => exact (fun _ _ _ h => h)
      case hwZ40 => rfl
      case hyZ40 => (intro w hSw; (try dsimp only at hSw); go_simp; try with_reducible rfl)
      (try simp only [Act.put, List.setIfInBounds_toArray, List.set_cons_zero, List.set_cons_succ])
      refine take_l (i := 10) (oi := ?oZ41) (v := ?vZ41) ?hiZ41 (by kernel_rfl) (by kernel_rfl) (by kernel_rfl) (by kernel_rfl) ?hQZ41 ?hwZ41 ?hyZ41 (by assumption) ?restZ41
      case hiZ41 => (simp only [List.getElem?_toArray, List.getElem?_cons_succ, List.getElem?_cons_zero] <;> rfl)
      case hQZ41 => exact (fun _ _ _ h => h)
      case hwZ41 => rfl
      case hyZ41 => (intro w hSw; (try dsimp only at hSw); go_simp; try with_reducible rfl)
      (try simp only [Act.put, List.setIfInBounds_toArray, List.set_cons_zero, List.set_cons_succ])
      refine take_l (i := 11) (oi := ?oZ42) (v := ?vZ42) ?hiZ42 (by kernel_rfl) (by kernel_rfl) (by kernel_rfl) (by kernel_rfl) ?hQZ42 ?hwZ42 ?hyZ42 (by assumption) ?restZ42
      case hiZ42 => (simp only [List.getElem?_toArray, List.getElem?_cons_succ, List.getElem?_cons_zero] <;> rfl)
      case hQZ42 => exact (fun _ _ _ h => h)
      case hwZ42 => rfl
      case hyZ42 => (intro w hSw; (try dsimp only at hSw); go_simp; try with_reducible rfl)
      (try simp only [Act.put, List.setIfInBounds_toArray, List.set_cons_zero, List.set_cons_succ])
      refine take_l (i := 12) (oi := ?oZ43) (v := ?vZ43) ?hiZ43 (by kernel_rfl) (by kernel_rfl) (by kernel_rfl) (by kernel_rfl) ?hQZ43 ?hwZ43 ?hyZ43 (by assumption) ?restZ43
      case hiZ43 => (simp only [List.getElem?_toArray, List.getElem?_cons_succ, List.getElem?_cons_zero] <;> rfl)
      case hQZ43 => exact (fun _ _ _ h => h)
      case hwZ43 => rfl
      case hyZ43 => (intro w hSw; (try dsimp only at hSw); go_simp; try with_reducible rfl)
      (try simp only [Act.put, List.setIfInBounds_toArray, List.set_cons_zero, List.set_cons_succ])
      refine take_l (i := 13) (oi := ?oZ44) (v := ?vZ44) ?hiZ44 (by kernel_rfl) (by kernel_rfl) (by kernel_rfl) (by kernel_rfl) ?hQZ44 ?hwZ44 ?hyZ44 (by assumption) ?restZ44
      case hiZ44 => (simp only [List.getElem?_toArray, List.getElem?_cons_succ, List.getElem?_cons_zero] <;> rfl)
      case hQZ44 => exact (fun _ _ _ h => h)
      case hwZ44 => rfl
      case hyZ44 => (intro w hSw; (try dsimp only at hSw); go_simp; try with_reducible rfl)
      (try simp only [Act.put, List.setIfInBounds_toArray, List.set_cons_zero, List.set_cons_succ])
      refine one_l (i := 14) (o := ?oZ45) (by kernel_rfl) ?hiZ45 (fun K hK => ?stZ45)
      case hiZ45 => (simp only [List.getElem?_toArray, List.getElem?_cons_succ, List.getElem?_cons_zero] <;> rfl)
      go_simp
      go_at_call 30
      refine (IHR.out (H 1) _ ((HP.out.below HX0.out.drew.b).kids 1 l1) HL.out.2.2.2 HBL.out.2.1 (by simp only [AT.depth] at hd; omega) (HK.out.1.below HX0.out.drew.b) (HK.out.2.below HX0.out.drew.b)).mono ?_
      rintro _ w2 ⟨h2, rfl, hi2, hb2⟩
      unfold TH.v
      have HX2 := Lib.hid (HX0.out.drew.below hb2)
      have HI2 := Lib.hid hi2
      clear hi2 hb2
      go_simp
      refine hK.out _ _ ?_ (fun hHeld => ?_)
      · (first | exact ⟨HX4.out.box.cells.2.1, HX4.out.box.cells.2.2.1, (HX4.out.box.cells.2.2.2.2).trans (by rw [HTA.out]), (HP.out.below HX4.out.b).kid0 HTA.out (by omega), (HP.out.below HX4.out.b).kid1 HTA.out (by omega)⟩ | exact ⟨HX3.out.box.cells.2.1, HX3.out.box.cells.2.2.1, (HX3.out.box.cells.2.2.2.2).trans (by rw [HTA.out]), (HP.out.below HX3.out.b).kid0 HTA.out (by omega), (HP.out.below HX3.out.b).kid1 HTA.out (by omega)⟩ | exact ⟨HX2.out.box.cells.2.1, HX2.out.box.cells.2.2.1, (HX2.out.box.cells.2.2.2.2).trans (by rw [HTA.out]), (HP.out.below HX2.out.b).kid0 HTA.out (by omega), (HP.out.below HX2.out.b).kid1 HTA.out (by omega)⟩ | exact ⟨HX0.out.drew.box.cells.2.1, HX0.out.drew.box.cells.2.2.1, (HX0.out.drew.box.cells.2.2.2.2).trans (by rw [HTA.out]), (HP.out.below HX0.out.drew.b).kid0 HTA.out (by omega), (HP.out.below HX0.out.drew.b).kid1 HTA.out (by omega)⟩)
      clear hK K
      (try simp only [Act.put, List.setIfInBounds_toArray, List.set_cons_zero, List.set_cons_succ])
      refine one_l (i := 15) (o := ?oZ46) (by kernel_rfl) ?hiZ46 (fun K hK => ?stZ46)
      case hiZ46 => (simp only [List.getElem?_toArray, List.getElem?_cons_succ, List.getElem?_cons_zero] <;> rfl)
      go_simp
      go_at_call 57
      refine (refNode_any l (r.put key val) (H 0) h2 h.ka h.va h.kn h.kc h.vn h.vc k v _ ((HP.out.below HX2.out.b).kids 0 l0) HI2.out (HP.out.below HX2.out.b).key (HP.out.below HX2.out.b).val).mono ?_
      rintro _ w3 ⟨h3, rfl, hi3, hb3⟩
      unfold TH.v
      have HX3 := Lib.hid (HX2.out.below hb3)
      have HI3 := Lib.hid hi3
      clear hi3 hb3
      go_simp
      refine hK.out _ _ ?_ (fun hHeld => ?_)
      · (first | exact ⟨HX4.out.box.cells.2.1, HX4.out.box.cells.2.2.1, (HX4.out.box.cells.2.2.2.2).trans (by rw [HTA.out]), (HP.out.below HX4.out.b).kid0 HTA.out (by omega), (HP.out.below HX4.out.b).kid1 HTA.out (by omega)⟩ | exact ⟨HX3.out.box.cells.2.1, HX3.out.box.cells.2.2.1, (HX3.out.box.cells.2.2.2.2).trans (by rw [HTA.out]), (HP.out.below HX3.out.b).kid0 HTA.out (by omega), (HP.out.below HX3.out.b).kid1 HTA.out (by omega)⟩ | exact ⟨HX2.out.box.cells.2.1, HX2.out.box.cells.2.2.1, (HX2.out.box.cells.2.2.2.2).trans (by rw [HTA.out]), (HP.out.below HX2.out.b).kid0 HTA.out (by omega), (HP.out.below HX2.out.b).kid1 HTA.out (by omega)⟩ | exact ⟨HX0.out.drew.box.cells.2.1, HX0.out.drew.box.cells.2.2.1, (HX0.out.drew.box.cells.2.2.2.2).trans (by rw [HTA.out]), (HP.out.below HX0.out.drew.b).kid0 HTA.out (by omega), (HP.out.below HX0.out.drew.b).kid1 HTA.out (by omega)⟩)
      clear hK K
      (try simp only [Act.put, List.setIfInBounds_toArray, List.set_cons_zero, List.set_cons_succ])
      refine one_l (i := 16) (o := ?oZ47) (by kernel_rfl) ?hiZ47 (fun K hK => ?stZ47)
      case hiZ47 => (simp only [List.getElem?_toArray, List.getElem?_cons_succ, List.getElem?_cons_zero] <;> rfl)
      go_simp
      go_at_call 58
      refine (refLevel_any l k v (r.put key val) h3 _ HI3.out (Lim.mk HL.out.1 HL.out.2.1 HL.out.2.2.1 (AT.put_lim hkl hvl HL.out.2.2.2)) (by simp only [AT.depth] at hd; omega) (by have := (AT.put_bal key val r HBL.out.2.1).2.2; simp only [AT.depth] at hd; omega)).mono ?_
      rintro _ w4 ⟨h4, rfl, hi4, hb4⟩
      unfold TH.v
      have HX4 := Lib.hid (HX3.out.below hb4)
      have HI4 := Lib.hid hi4
      clear hi4 hb4
      go_simp
      refine hK.out _ _ ?_ (fun hHeld => ?_)
      · (first | exact ⟨HX4.out.box.cells.2.1, HX4.out.box.cells.2.2.1, (HX4.out.box.cells.2.2.2.2).trans (by rw [HTA.out]), (HP.out.below HX4.out.b).kid0 HTA.out (by omega), (HP.out.below HX4.out.b).kid1 HTA.out (by omega)⟩ | exact ⟨HX3.out.box.cells.2.1, HX3.out.box.cells.2.2.1, (HX3.out.box.cells.2.2.2.2).trans (by rw [HTA.out]), (HP.out.below HX3.out.b).kid0 HTA.out (by omega), (HP.out.below HX3.out.b).kid1 HTA.out (by omega)⟩ | exact ⟨HX2.out.box.cells.2.1, HX2.out.box.cells.2.2.1, (HX2.out.box.cells.2.2.2.2).trans (by rw [HTA.out]), (HP.out.below HX2.out.b).kid0 HTA.out (by omega), (HP.out.below HX2.out.b).kid1 HTA.out (by omega)⟩ | exact ⟨HX0.out.drew.box.cells.2.1, HX0.out.drew.box.cells.2.2.1, (HX0.out.drew.box.cells.2.2.2.2).trans (by rw [HTA.out]), (HP.out.below HX0.out.drew.b).kid0 HTA.out (by omega), (HP.out.below HX0.out.drew.b).kid1 HTA.out (by omega)⟩)
      clear hK K
      (try simp only [Act.put, List.setIfInBounds_toArray, List.set_cons_zero, List.set_cons_succ])
      refine last_l (o := ?oZ48) (by kernel_rfl) ?hiZ48 (by kernel_rfl) (fun K hK => ?stZ48)
      case hiZ48 => (simp only [List.getElem?_toArray, List.getElem?_cons_succ, List.getElem?_cons_zero] <;> rfl)
      refine step_store_box rfl 25 (.tmp 6) (.tmp 72) rfl (w.heap.size + 1) hZ h4 rfl rfl 25 HX4.out.res infoTree5 ?_
      intro w9 hbx9 hg9
      have HX9 := Lib.hid hbx9
      have HI9 := Lib.hid (AT.outBox HX4.out.res hg9 _ _ HI4.out)
      have HB9 : Hid (Below w.heap.size w w9) := Lib.hid (HX4.out.b.grown hg9 HX4.out.b.size (fun j hj => by injection hj; omega))
      clear hbx9 hg9
      refine hK.out _ _ ?_
      clear hK K
      (try simp only [Act.put])
      
      clear hHeld
      go_wp2_with fail
      refine bodyPost_ret (v := h4.v) (result_tree Tryd.results30 _ HX9.out rfl Tryd.underlying25 infoTree5) rfl ⟨_, rfl, ?_, HB9.out⟩
      rw [HPN.out]
      exact HI9.out
    · have HPN2 := Lib.hid (HPN1.out.trans (if_pos cl))
      clear HPN HPN1
      have HPN := HPN2
      clear ce ce2 hlt cv1 cv2 x0 x1 x2 x3 x4 cl
      go_upto_region 6 with fail
      refine region_l (S := (fun W => W.cell? ⟨w.heap.size, 1, none⟩ = some (.slice h.ka h.kn h.kc) ∧ W.cell? ⟨w.heap.size, 2, none⟩ = some (.slice h.va h.vn h.vc) ∧ W.cell? ⟨w.heap.size, 4, none⟩ = some (.slice (some ⟨g, off, none⟩) h.tn h.tc) ∧ (W.cell? ⟨g, off, none⟩ = some (.int .i64 (H 0).k) ∧ W.cell? ⟨g, off + 1, none⟩ = some (.slice (H 0).ka (H 0).kn (H 0).kc) ∧ W.cell? ⟨g, off + 2, none⟩ = some (.slice (H 0).va (H 0).vn (H 0).vc) ∧ W.cell? ⟨g, off + 3, none⟩ = some (.slice (H 0).da (H 0).dn (H 0).dc) ∧ W.cell? ⟨g, off + 4, none⟩ = some (.slice (H 0).ta (H 0).tn (H 0).tc)) ∧ W.cell? ⟨g, off + 5, none⟩ = some (.int .i64 (H 1).k) ∧ W.cell? ⟨g, off + 5 + 1, none⟩ = some (.slice (H 1).ka (H 1).kn (H 1).kc) ∧ W.cell? ⟨g, off + 5 + 2, none⟩ = some (.slice (H 1).va (H 1).vn (H 1).vc) ∧ W.cell? ⟨g, off + 5 + 3, none⟩ = some (.slice (H 1).da (H 1).dn (H 1).dc) ∧ W.cell? ⟨g, off + 5 + 4, none⟩ = some (.slice (H 1).ta (H 1).tn (H 1).tc))) 17 (by kernel_rfl) ⟨HX0.out.drew.box.cells.2.1, HX0.out.drew.box.cells.2.2.1, (HX0.out.drew.box.cells.2.2.2.2).trans (by rw [HTA.out]), (HP.out.below HX0.out.drew.b).kid0 HTA.out (by omega), (HP.out.below HX0.out.drew.b).kid1 HTA.out (by omega)⟩ (fun hHeld => ?_)
      refine take_l (i := 0) (oi := ?oZ13) (v := ?vZ13) ?hiZ13 (by kernel_rfl) (by kernel_rfl) (by kernel_rfl) (by kernel_rfl) ?hQZ13 ?hwZ13 ?hyZ13 (by assumption) ?restZ13
      case hiZ13 => (simp only [List.getElem?_toArray, List.getElem?_cons_zero] <;> rfl)
      case hQZ13 => exact (fun _ _ _ h => h)
      case hwZ13 => rfl
      case hyZ13 => (intro w hSw; (try dsimp only at hSw); go_simp; try with_reducible rfl)
      (try simp only [Act.put, List.setIfInBounds_toArray, List.set_cons_zero, List.set_cons_succ])
      refine take_l (i := 1) (oi := ?oZ14) (v := ?vZ14) ?hiZ14 (by kernel_rfl) (by kernel_rfl) (by kernel_rfl) (by kernel_rfl) ?hQZ14 ?hwZ14 ?hyZ14 (by assumption) ?restZ14
      case hiZ14 => (simp only [List.getElem?_toArray, List.getElem?_cons_succ, List.getElem?_cons_zero] <;> rfl)
      case hQZ14 => exact (fun _ _ _ h => h)
      case hwZ14 => rfl
      case hyZ14 => (intro w hSw; (try dsimp only at hSw); go_simp; try with_reducible rfl)
      (try simp only [Act.put, List.setIfInBounds_toArray, List.set_cons_zero, List.set_cons_succ])
      refine take_l (i := 2) (oi := ?oZ15) (v := ?vZ15) ?hiZ15 (by kernel_rfl) (by kernel_rfl) (by kernel_rfl) (by kernel_rfl) ?hQZ15 ?hwZ15 ?hyZ15 (by assumption) ?restZ15
      case hiZ15 => (simp only [List.getElem?_toArray, List.getElem?_cons_succ, List.getElem?_cons_zero] <;> rfl)
      case hQZ15 => exact (fun _ _ _ h => h)
      case hwZ15 => rfl
      case hyZ15 => (intro w hSw; (try dsimp only at hSw); go_simp; try with_reducible rfl)
      (try simp only [Act.put, List.setIfInBounds_toArray, List.set_cons_zero, List.set_cons_succ])
      refine take_l (i := 3) (oi := ?oZ16) (v := ?vZ16) ?hiZ16 (by kernel_rfl) (by kernel_rfl) (by kernel_rfl) (by kernel_rfl) ?hQZ16 ?hwZ16 ?hyZ16 (by assumption) ?restZ16
      case hiZ16 => (simp only [List.getElem?_toArray, List.getElem?_cons_succ, List.getElem?_cons_zero] <;> rfl)
      case hQZ16 => exact (fun _ _ _ h => h)
      case hwZ16 => rfl
      case hyZ16 => (intro w hSw; (try dsimp only at hSw); go_simp; try with_reducible rfl)
      (try simp only [Act.put, List.setIfInBounds_toArray, List.set_cons_zero, List.set_cons_succ])
      refine take_l (i := 4) (oi := ?oZ17) (v := ?vZ17) ?hiZ17 (by kernel_rfl) (by kernel_rfl) (by kernel_rfl) (by kernel_rfl) ?hQZ17 ?hwZ17 ?hyZ17 (by assumption) ?restZ17
      case hiZ17 => (simp only [List.getElem?_toArray, List.getElem?_cons_succ, List.getElem?_cons_zero] <;> rfl)
      case hQZ17 => exact (fun _ _ _ h => h)
      case hwZ17 => rfl
      case hyZ17 => (intro w hSw; (try dsimp only at hSw); go_simp; try with_reducible rfl)
      (try simp only [Act.put, List.setIfInBounds_toArray, List.set_cons_zero, List.set_cons_succ])
      refine take_l (i := 5) (oi := ?oZ18) (v := ?vZ18) ?hiZ18 (by kernel_rfl) (by kernel_rfl) (by kernel_rfl) (by kernel_rfl) ?hQZ18 ?hwZ18 ?hyZ18 (by assumption) ?restZ18
      case hiZ18 => (simp only [List.getElem?_toArray, List.getElem?_cons_succ, List.getElem?_cons_zero] <;> rfl)
      case hQZ18 => exact (fun _ _ _ h => h)
      case hwZ18 => rfl
      case hyZ18 => (intro w hSw; (try dsimp only at hSw); go_simp; try with_reducible rfl)
      (try simp only [Act.put, List.setIfInBounds_toArray, List.set_cons_zero, List.set_cons_succ])
      refine take_l (i := 7) (oi := ?oZ19) (v := ?vZ19) ?hiZ19 (by kernel_rfl) (by kernel_rfl) (by kernel_rfl) (by kernel_rfl) ?hQZ19 ?hwZ19 ?hyZ19 (by assumption) ?restZ19
      case hiZ19 => (simp only [List.getElem?_toArray, List.getElem?_cons_succ, List.getElem?_cons_zero] <;> rfl)
      case hQZ19 => exact (fun _ _ _ h => h)
      case hwZ19 => rfl
      case hyZ19 => (intro w hSw; (try dsimp only at hSw); go_simp; try with_reducible rfl)
      (try simp only [Act.put, List.setIfInBounds_toArray, List.set_cons_zero, List.set_cons_succ])
      refine take_l (i := 8) (oi := ?oZ20) (v := ?vZ20) ?hiZ20 (by kernel_rfl) (by kernel_rfl) (by kernel_rfl) (by kernel_rfl) ?hQZ20 ?hwZ20 ?hyZ20 (by assumption) ?restZ20
      case hiZ20 => (simp only [List.getElem?_toArray, List.getElem?_cons_succ, List.getElem?_cons_zero] <;> rfl)
      case hQZ20 => exact (fun _ _ _ h => h)
      case hwZ20 => rfl
      case hyZ20 => (intro w hSw; (try dsimp only at hSw); go_simp; try with_reducible rfl)
      (try simp only [Act.put, List.setIfInBounds_toArray, List.set_cons_zero, List.set_cons_succ])
      refine take_l (i := 9) (oi := ?oZ21) (v := ?vZ21) ?hiZ21 (by kernel_rfl) (by kernel_rfl) (by kernel_rfl) (by kernel_rfl) ?hQZ21 ?hwZ21 ?hyZ21 (by assumption) ?restZ21
      case hiZ21 => (simp only [List.getElem?_toArray, List.getElem?_cons_succ, List.getElem?_cons_zero] <;> rfl)
      case hQZ21 => exact (fun _ _ _ h => h)
      case hwZ21 => rfl
      case hyZ21 => (intro w hSw; (try dsimp only at hSw); go_simp; try with_reducible rfl)
      (try simp only [Act.put, List.setIfInBounds_toArray, List.set_cons_zero, List.set_cons_succ])
      refine take_l (i := 10) (oi := ?oZ22) (v := ?vZ22) ?hiZ22 (by kernel_rfl) (by kernel_rfl) (by kernel_rfl) (by kernel_rfl) ?hQZ22 ?hwZ22 ?hyZ22 (by assumption) ?restZ22
      case hiZ22 => (simp only [List.getElem?_toArray, List.getElem?_cons_succ, List.getElem?_cons_zero] <;> rfl)
      case hQZ22 => exact (fun _ _ _ h => h)
      case hwZ22 => rfl
      case hyZ22 => (intro w hSw; (try dsimp only at hSw); go_simp; try with_reducible rfl)
      (try simp only [Act.put, List.setIfInBounds_toArray, List.set_cons_zero, List.set_cons_succ])
      refine take_l (i := 11) (oi := ?oZ23) (v := ?vZ23) ?hiZ23 (by kernel_rfl) (by kernel_rfl) (by kernel_rfl) (by kernel_rfl) ?hQZ23 ?hwZ23 ?hyZ23 (by assumption) ?restZ23
      case hiZ23 => (simp only [List.getElem?_toArray, List.getElem?_cons_succ, List.getElem?_cons_zero] <;> rfl)
      case hQZ23 => exact (fun _ _ _ h => h)
      case hwZ23 => rfl
      case hyZ23 => (intro w hSw; (try dsimp only at hSw); go_simp; try with_reducible rfl)
      (try simp only [Act.put, List.setIfInBounds_toArray, List.set_cons_zero, List.set_cons_succ])
      refine take_l (i := 12) (oi := ?oZ24) (v := ?vZ24) ?hiZ24 (by kernel_rfl) (by kernel_rfl) (by kernel_rfl) (by kernel_rfl) ?hQZ24 ?hwZ24 ?hyZ24 (by assumption) ?restZ24
      case hiZ24 => (simp only [List.getElem?_toArray, List.getElem?_cons_succ, List.getElem?_cons_zero] <;> rfl)
      case hQZ24 => exact (fun _ _ _ h => h)
      case hwZ24 => rfl
      case hyZ24 => (intro w hSw; (try dsimp only at hSw); go_simp; try with_reducible rfl)
      (try simp only [Act.put, List.setIfInBounds_toArray, List.set_cons_zero, List.set_cons_succ])
      refine take_l (i := 13) (oi := ?oZ25) (v := ?vZ25) ?hiZ25 (by kernel_rfl) (by kernel_rfl) (by kernel_rfl) (by kernel_rfl) ?hQZ25 ?hwZ25 ?hyZ25 (by assumption) ?restZ25
      case hiZ25 => (simp only [List.getElem?_toArray, List.getElem?_cons_succ, List.getElem?_cons_zero] <;> rfl)
      case hQZ25 => exact (fun _ _ _ h => h)
      case hwZ25 => rfl
      case hyZ25 => (intro w hSw; (try dsimp only at hSw); go_simp; try with_reducible rfl)
      (try simp only [Act.put, List.setIfInBounds_toArray, List.set_cons_zero, List.set_cons_succ])
      refine take_l (i := 14) (oi := ?oZ26) (v := ?vZ26) ?hiZ26 (by kernel_rfl) (by kernel_rfl) (by kernel_rfl) (by kernel_rfl) ?hQZ26 ?hwZ26 ?hyZ26 (by assumption) ?restZ26
      case hiZ26 => (simp only [List.getElem?_toArray, List.getElem?_cons_succ, List.getElem?_cons_zero] <;> rfl)
      case hQZ26 => exact (fun _ _ _ h => h)
      case hwZ26 => rfl
      case hyZ26 => (intro w hSw; (try dsimp only at hSw); go_simp; try with_reducible rfl)
      (try simp only [Act.put, List.setIfInBounds_toArray, List.set_cons_zero, List.set_cons_succ])
      refine one_l (i := 6) (o := ?oZ27) (by kernel_rfl) ?hiZ27 (fun K hK => ?stZ27)
      case hiZ27 => (simp only [List.getElem?_toArray, List.getElem?_cons_succ, List.getElem?_cons_zero] <;> rfl)
      go_simp
      go_at_call 30
      refine (IHL.out (H 0) _ ((HP.out.below HX0.out.drew.b).kids 0 l0) HL.out.1 HBL.out.1 (by simp only [AT.depth] at hd; omega) (HK.out.1.below HX0.out.drew.b) (HK.out.2.below HX0.out.drew.b)).mono ?_
      rintro _ w2 ⟨h2, rfl, hi2, hb2⟩
      unfold TH.v
      have HX2 := Lib.hid (HX0.out.drew.below hb2)
      have HI2 := Lib.hid hi2
      clear hi2 hb2
      go_simp
      refine hK.out _ _ ?_ (fun hHeld => ?_)
      · (first | exact ⟨HX4.out.box.cells.2.1, HX4.out.box.cells.2.2.1, (HX4.out.box.cells.2.2.2.2).trans (by rw [HTA.out]), (HP.out.below HX4.out.b).kid0 HTA.out (by omega), (HP.out.below HX4.out.b).kid1 HTA.out (by omega)⟩ | exact ⟨HX3.out.box.cells.2.1, HX3.out.box.cells.2.2.1, (HX3.out.box.cells.2.2.2.2).trans (by rw [HTA.out]), (HP.out.below HX3.out.b).kid0 HTA.out (by omega), (HP.out.below HX3.out.b).kid1 HTA.out (by omega)⟩ | exact ⟨HX2.out.box.cells.2.1, HX2.out.box.cells.2.2.1, (HX2.out.box.cells.2.2.2.2).trans (by rw [HTA.out]), (HP.out.below HX2.out.b).kid0 HTA.out (by omega), (HP.out.below HX2.out.b).kid1 HTA.out (by omega)⟩ | exact ⟨HX0.out.drew.box.cells.2.1, HX0.out.drew.box.cells.2.2.1, (HX0.out.drew.box.cells.2.2.2.2).trans (by rw [HTA.out]), (HP.out.below HX0.out.drew.b).kid0 HTA.out (by omega), (HP.out.below HX0.out.drew.b).kid1 HTA.out (by omega)⟩)
      clear hK K
      (try simp only [Act.put, List.setIfInBounds_toArray, List.set_cons_zero, List.set_cons_succ])
      refine one_l (i := 15) (o := ?oZ28) (by kernel_rfl) ?hiZ28 (fun K hK => ?stZ28)
      case hiZ28 => (simp only [List.getElem?_toArray, List.getElem?_cons_succ, List.getElem?_cons_zero] <;> rfl)
      go_simp
      go_at_call 57
      refine (refNode_any (l.put key val) r h2 (H 1) h.ka h.va h.kn h.kc h.vn h.vc k v _ HI2.out ((HP.out.below HX2.out.b).kids 1 l1) (HP.out.below HX2.out.b).key (HP.out.below HX2.out.b).val).mono ?_
      rintro _ w3 ⟨h3, rfl, hi3, hb3⟩
      unfold TH.v
      have HX3 := Lib.hid (HX2.out.below hb3)
      have HI3 := Lib.hid hi3
      clear hi3 hb3
      go_simp
      refine hK.out _ _ ?_ (fun hHeld => ?_)
      · (first | exact ⟨HX4.out.box.cells.2.1, HX4.out.box.cells.2.2.1, (HX4.out.box.cells.2.2.2.2).trans (by rw [HTA.out]), (HP.out.below HX4.out.b).kid0 HTA.out (by omega), (HP.out.below HX4.out.b).kid1 HTA.out (by omega)⟩ | exact ⟨HX3.out.box.cells.2.1, HX3.out.box.cells.2.2.1, (HX3.out.box.cells.2.2.2.2).trans (by rw [HTA.out]), (HP.out.below HX3.out.b).kid0 HTA.out (by omega), (HP.out.below HX3.out.b).kid1 HTA.out (by omega)⟩ | exact ⟨HX2.out.box.cells.2.1, HX2.out.box.cells.2.2.1, (HX2.out.box.cells.2.2.2.2).trans (by rw [HTA.out]), (HP.out.below HX2.out.b).kid0 HTA.out (by omega), (HP.out.below HX2.out.b).kid1 HTA.out (by omega)⟩ | exact ⟨HX0.out.drew.box.cells.2.1, HX0.out.drew.box.cells.2.2.1, (HX0.out.drew.box.cells.2.2.2.2).trans (by rw [HTA.out]), (HP.out.below HX0.out.drew.b).kid0 HTA.out (by omega), (HP.out.below HX0.out.drew.b).kid1 HTA.out (by omega)⟩)
      clear hK K
      (try simp only [Act.put, List.setIfInBounds_toArray, List.set_cons_zero, List.set_cons_succ])
      refine one_l (i := 16) (o := ?oZ29) (by kernel_rfl) ?hiZ29 (fun K hK => ?stZ29)
      case hiZ29 => (simp only [List.getElem?_toArray, List.getElem?_cons_succ, List.getElem?_cons_zero] <;> rfl)
      go_simp
      go_at_call 58
      refine (refLevel_any (l.put key val) k v r h3 _ HI3.out (Lim.mk (AT.put_lim hkl hvl HL.out.1) HL.out.2.1 HL.out.2.2.1 HL.out.2.2.2) (by have := (AT.put_bal key val l HBL.out.1).2.2; simp only [AT.depth] at hd; omega) (by simp only [AT.depth] at hd; omega)).mono ?_
      rintro _ w4 ⟨h4, rfl, hi4, hb4⟩
      unfold TH.v
      have HX4 := Lib.hid (HX3.out.below hb4)
      have HI4 := Lib.hid hi4
      clear hi4 hb4
      go_simp
      refine hK.out _ _ ?_ (fun hHeld => ?_)
      · (first | exact ⟨HX4.out.box.cells.2.1, HX4.out.box.cells.2.2.1, (HX4.out.box.cells.2.2.2.2).trans (by rw [HTA.out]), (HP.out.below HX4.out.b).kid0 HTA.out (by omega), (HP.out.below HX4.out.b).kid1 HTA.out (by omega)⟩ | exact ⟨HX3.out.box.cells.2.1, HX3.out.box.cells.2.2.1, (HX3.out.box.cells.2.2.2.2).trans (by rw [HTA.out]), (HP.out.below HX3.out.b).kid0 HTA.out (by omega), (HP.out.below HX3.out.b).kid1 HTA.out (by omega)⟩ | exact ⟨HX2.out.box.cells.2.1, HX2.out.box.cells.2.2.1, (HX2.out.box.cells.2.2.2.2).trans (by rw [HTA.out]), (HP.out.below HX2.out.b).kid0 HTA.out (by omega), (HP.out.below HX2.out.b).kid1 HTA.out (by omega)⟩ | exact ⟨HX0.out.drew.box.cells.2.1, HX0.out.drew.box.cells.2.2.1, (HX0.out.drew.box.cells.2.2.2.2).trans (by rw [HTA.out]), (HP.out.below HX0.out.drew.b).kid0 HTA.out (by omega), (HP.out.below HX0.out.drew.b).kid1 HTA.out (by omega)⟩)
      clear hK K
      (try simp only [Act.put, List.setIfInBounds_toArray, List.set_cons_zero, List.set_cons_succ])
      refine last_l (o := ?oZ30) (by kernel_rfl) ?hiZ30 (by kernel_rfl) (fun K hK => ?stZ30)
      case hiZ30 => (simp only [List.getElem?_toArray, List.getElem?_cons_succ, List.getElem?_cons_zero] <;> rfl)
      refine step_store_box rfl 25 (.tmp 6) (.tmp 55) rfl (w.heap.size + 1) hZ h4 rfl rfl 25 HX4.out.res infoTree5 ?_
      intro w9 hbx9 hg9
      have HX9 := Lib.hid hbx9
      have HI9 := Lib.hid (AT.outBox HX4.out.res hg9 _ _ HI4.out)
      have HB9 : Hid (Below w.heap.size w w9) := Lib.hid (HX4.out.b.grown hg9 HX4.out.b.size (fun j hj => by injection hj; omega))
      clear hbx9 hg9
      refine hK.out _ _ ?_
      clear hK K
      (try simp only [Act.put])
      
      clear hHeld
      go_wp2_with fail
      refine bodyPost_ret (v := h4.v) (result_tree Tryd.results30 _ HX9.out rfl Tryd.underlying25 infoTree5) rfl ⟨_, rfl, ?_, HB9.out⟩
      rw [HPN.out]
      exact HI9.out
end Go.Proofs.YtkfjhegehhahcaaDoor

/- Trees that are balanced, whose keys rise, within their bounds: they stay so. No program is named here. -/
namespace Go.Proofs.YtkfjhegehhahcaaDoor
set_option linter.unusedVariables false

structure Good (a : AT) : Prop where
  bal : a.bal
  rise : Rise a.pairs
  lim : Lim a.pairs
theorem Good.nil : Good .nil := ⟨trivial, List.Pairwise.nil, fun p hp => by cases hp⟩
theorem AT.depth_le : ∀ a : AT, a.depth ≤ a.pairs.length := by
  intro a
  induction a with
  | nil => exact Nat.le_refl _
  | node l k v r ihl ihr =>
    simp only [AT.depth, AT.pairs, List.length_append, List.length_cons]
    omega
theorem Good.put {a : AT} (h : Good a) {key val : List Int} (hk : key.length ≤ 80) (hv : val.length ≤ 1024) : Good (a.put key val) := by
  refine ⟨(AT.put_bal key val a h.bal).1, ?_, ?_⟩
  · rw [AT.put_pairs key val a h.rise]
    have hr := h.rise
    unfold Rise at hr ⊢
    rw [List.pairwise_append, List.pairwise_cons]
    refine ⟨hr.filter _, ⟨fun q hq => (List.mem_filter.1 hq).2, hr.filter _⟩, fun p hp q hq => ?_⟩
    have h1 : ltL p.1 key = true := (List.mem_filter.1 hp).2
    rcases List.mem_cons.1 hq with rfl | hq
    · exact h1
    · exact ltL_trans h1 (List.mem_filter.1 hq).2
  · rw [AT.put_pairs key val a h.rise]
    intro p hp
    rcases List.mem_append.1 hp with hp | hp
    · exact h.lim p (List.mem_filter.1 hp).1
    · rcases List.mem_cons.1 hp with rfl | hp
      · exact ⟨hk, hv⟩
      · exact h.lim p (List.mem_filter.1 hp).1
theorem Good.del {a : AT} (h : Good a) (key : List Int) : Good (a.del key) := by
  refine ⟨(AT.del_bal key a h.bal).1, ?_, ?_⟩
  · rw [AT.del_pairs key a h.rise]
    exact List.Pairwise.filter _ h.rise
  · rw [AT.del_pairs key a h.rise]
    intro p hp
    exact h.lim p (List.mem_filter.1 hp).1
theorem Good.is {a : AT} (h : Good a) (hd : a.pairs.length ≤ 64) : isT a.tr = true := (isT_iff a.tr).2 ⟨a, rfl, h.bal, h.rise, h.lim, Nat.le_trans (AT.depth_le a) hd⟩
theorem AT.put_len (key val : List Int) {a : AT} (h : Rise a.pairs) : (a.put key val).pairs.length ≤ a.pairs.length + 1 := by
  rw [AT.put_pairs key val a h, List.length_append, List.length_cons]
  have h1 : (a.pairs.filter fun p => ltL p.1 key).length + (a.pairs.filter fun p => ltL key p.1).length ≤ a.pairs.length := by
    generalize a.pairs = l
    induction l with
    | nil => exact Nat.le_refl _
    | cons p l ih =>
      rw [List.filter_cons, List.filter_cons, List.length_cons]
      cases c1 : ltL p.1 key
      · cases c2 : ltL key p.1 <;> simp <;> omega
      · rw [ltL_asymm c1]
        simp
        omega
  omega
theorem AT.del_len (key : List Int) {a : AT} (h : Rise a.pairs) : (a.del key).pairs.length ≤ a.pairs.length := by
  rw [AT.del_pairs key a h]
  exact List.length_filter_le _ _
/-- How deep a balanced tree is at most. -/
theorem AT.deep_nodes : ∀ a : AT, a.bal → 2 ^ (a.depth / 2) ≤ a.pairs.length + 1 := by
  intro a
  induction a with
  | nil => intro _; exact Nat.le_refl _
  | node l k v r ihl ihr =>
    intro hb
    simp only [AT.bal] at hb
    have h1 := ihl hb.1
    have h2 := ihr hb.2.1
    simp only [AT.depth, AT.pairs, List.length_append, List.length_cons]
    have key : ∀ m x y : Nat, m ≤ x + 1 → m ≤ y + 1 → (m + 1) / 2 = (m - 1) / 2 + 1 ∨ m = 0 := fun m x y _ _ => by omega
    have mono : ∀ {p q : Nat}, p ≤ q → 2 ^ p ≤ 2 ^ q := fun h => Nat.pow_le_pow_right (by omega) h
    have a1 : 2 ^ ((max l.depth r.depth - 1) / 2) ≤ 2 ^ (l.depth / 2) := mono (by omega)
    have a2 : 2 ^ ((max l.depth r.depth - 1) / 2) ≤ 2 ^ (r.depth / 2) := mono (by omega)
    rcases Nat.eq_zero_or_pos (max l.depth r.depth) with h0 | h0
    · rw [h0]
      simp
    · have e : (max l.depth r.depth + 1) / 2 = (max l.depth r.depth - 1) / 2 + 1 := by omega
      rw [e, Nat.pow_succ]
      omega
theorem AT.shallow {a : AT} (hb : a.bal) (hn : a.pairs.length ≤ 500) : a.depth ≤ 60 := by
  have h := AT.deep_nodes a hb
  rcases Nat.lt_or_ge 60 a.depth with q | q
  · have h2 : 2 ^ 30 ≤ 2 ^ (a.depth / 2) := Nat.pow_le_pow_right (by omega) (by omega)
    omega
  · exact q
end Go.Proofs.YtkfjhegehhahcaaDoor

/- The contract of the document's Same of lists of pairs. -/
namespace Go.Proofs.YtkfjhegehhahcaaDoor
open Go.RowKit
set_option linter.unusedVariables false

/-- Heads, by number, and pairs. -/
def PairsD (w : World) (D : Nat → PH) (kvs : List KV) : Prop := ∀ i (h : i < kvs.length), InBytes w (D i).ka (D i).kn (D i).kc (kvs[i]).1 ∧ InBytes w (D i).va (D i).vn (D i).vc (kvs[i]).2
theorem PairsD.below {w w' : World} {D : Nat → PH} {kvs : List KV} (h : PairsD w D kvs) (hb : Below w.heap.size w w') : PairsD w' D kvs := fun i hi => ⟨(h i hi).1.below hb, (h i hi).2.below hb⟩
def pZ : PH := ⟨none, 0, 0, none, 0, 0⟩
theorem PairsIn.byD {w : World} {ps : List PH} {kvs : List KV} (h : PairsIn w ps kvs) : PairsD w (fun i => ps.getD i pZ) kvs := fun i hi => by
  have h1 : i < ps.length := by rw [h.1]; exact hi
  have e : ps.getD i pZ = ps[i] := by simp [List.getD, h1]
  dsimp only
  rw [e]
  exact h.2 i h1 hi
/-- The two cells of the i-th pair that came in. -/
theorem InRec.pair {w : World} {a : Option Addr} {n cap : Nat} {D : Nat → PH} (h : InRec recP w a n cap D) {g off : Nat} (e : a = some ⟨g, off, none⟩) (i : Nat) (hi : i < n) : w.cell? ⟨g, off + i * 2, none⟩ = some (.slice (D i).ka (D i).kn (D i).kc) ∧ w.cell? ⟨g, off + i * 2 + 1, none⟩ = some (.slice (D i).va (D i).vn (D i).vc) := by
  obtain ⟨g', off', e', _, hc⟩ := h.at (by omega)
  rw [e] at e'
  injection e' with e'
  injection e' with e1 e2
  subst e1 e2
  exact ⟨hc i hi 0 _ rfl, hc i hi 1 _ rfl⟩

set_option maxRecDepth 100000 in
set_option maxHeartbeats 4000000 in
theorem refSameP_any (kvs : List KV) (D D' : Nat → PH) (a a' : Option Addr) (n c c' : Nat) (w : World) (hn : n = kvs.length) (h1 : InRec recP w a n c D) (h2 : InRec recP w a' n c' D') (p1 : PairsD w D kvs) (p2 : PairsD w D' kvs) :
    Calls Tryd.prog 16 #[.slice a n c, .slice a' n c'] w (Says w (.bool true)) := by
  have HA := Lib.hid (And.intro h1 (And.intro h2 (And.intro p1 p2)))
  have hn63 : n ≤ 9223372036854775807 := by have q1 := h1.le; have q2 := h1.max; simp only [maxLen] at q2; omega
  clear h1 h2 p1 p2
  have hnn : ((n : Int) != (n : Int)) = false := by simp
  go_enter Tryd.func16, Tryd.ntmps16
  go_wp2_with fail
  go_loopw [5] (fun s5 wx => ∃ i : Nat, i ≤ n ∧ s5 = .int .i64 i ∧ Below w.heap.size w wx) (fun s5 _ => n - (intOf s5).toNat)
  case atStart => exact ⟨0, by omega, rfl, Below.refl _ _⟩
  case round =>
    obtain ⟨i, hi, rfl, hb⟩ := hrel
    by_cases hlt : i < n
    · have q1 : (i : Int) < (n : Int) := by omega
      have hik : i < kvs.length := by omega
      obtain ⟨g, off, ea, -, -⟩ := HA.out.1.at (by omega)
      obtain ⟨g', off', ea', -, -⟩ := HA.out.2.1.at (by omega)
      have hbd : Below w.heap.size w wr.drew := hb.drew
      have HS6 : Hid ((fun W => W.cell? ⟨g, off + i * 2, none⟩ = some (.slice (D i).ka (D i).kn (D i).kc) ∧ W.cell? ⟨g, off + i * 2 + 1, none⟩ = some (.slice (D i).va (D i).vn (D i).vc) ∧ W.cell? ⟨g', off' + i * 2, none⟩ = some (.slice (D' i).ka (D' i).kn (D' i).kc) ∧ W.cell? ⟨g', off' + i * 2 + 1, none⟩ = some (.slice (D' i).va (D' i).vn (D' i).vc) ∧ (convert 22 9 (.slice (D i).ka (D i).kn (D i).kc)).run Tryd.prog W = .ok (.string (strOfNums (kvs[i]).1)) W ∧ (convert 22 9 (.slice (D' i).ka (D' i).kn (D' i).kc)).run Tryd.prog W = .ok (.string (strOfNums (kvs[i]).1)) W ∧ (convert 22 9 (.slice (D i).va (D i).vn (D i).vc)).run Tryd.prog W = .ok (.string (strOfNums (kvs[i]).2)) W ∧ (convert 22 9 (.slice (D' i).va (D' i).vn (D' i).vc)).run Tryd.prog W = .ok (.string (strOfNums (kvs[i]).2)) W) wr.drew) := Lib.hid ⟨((HA.out.1.below hbd).pair ea i hlt).1, ((HA.out.1.below hbd).pair ea i hlt).2, ((HA.out.2.1.below hbd).pair ea' i hlt).1, ((HA.out.2.1.below hbd).pair ea' i hlt).2, conv_key ((HA.out.2.2.1.below hbd) i hik).1, conv_key ((HA.out.2.2.2.below hbd) i hik).1, conv_key ((HA.out.2.2.1.below hbd) i hik).2, conv_key ((HA.out.2.2.2.below hbd) i hik).2⟩
      have HBD := Lib.hid hbd
      clear hb hbd
      subst ea ea'
      go_upto_region 6 with fail
      refine wp_region_held_drew (S := (fun W => W.cell? ⟨g, off + i * 2, none⟩ = some (.slice (D i).ka (D i).kn (D i).kc) ∧ W.cell? ⟨g, off + i * 2 + 1, none⟩ = some (.slice (D i).va (D i).vn (D i).vc) ∧ W.cell? ⟨g', off' + i * 2, none⟩ = some (.slice (D' i).ka (D' i).kn (D' i).kc) ∧ W.cell? ⟨g', off' + i * 2 + 1, none⟩ = some (.slice (D' i).va (D' i).vn (D' i).vc) ∧ (convert 22 9 (.slice (D i).ka (D i).kn (D i).kc)).run Tryd.prog W = .ok (.string (strOfNums (kvs[i]).1)) W ∧ (convert 22 9 (.slice (D' i).ka (D' i).kn (D' i).kc)).run Tryd.prog W = .ok (.string (strOfNums (kvs[i]).1)) W ∧ (convert 22 9 (.slice (D i).va (D i).vn (D i).vc)).run Tryd.prog W = .ok (.string (strOfNums (kvs[i]).2)) W ∧ (convert 22 9 (.slice (D' i).va (D' i).vn (D' i).vc)).run Tryd.prog W = .ok (.string (strOfNums (kvs[i]).2)) W)) (by kernel_rfl) HS6.out (fun hHeld => ?_)
      refine take_w (i := 0) (oi := ?oZ1) (v := ?vZ1) ?hiZ1 (by kernel_rfl) (by kernel_rfl) (by kernel_rfl) ?hQZ1 ?hwZ1 ?hyZ1 (by assumption) ?restZ1
      case hiZ1 => (simp only [List.getElem?_toArray, List.getElem?_cons_zero] <;> rfl)
      case hQZ1 => exact (fun _ _ _ h => h)
      case hwZ1 => rfl
      case hyZ1 => (intro w hSw; (try dsimp only at hSw); go_simp; try with_reducible rfl)
      (try simp only [Act.put, List.setIfInBounds_toArray, List.set_cons_zero, List.set_cons_succ])
      refine take_w (i := 1) (oi := ?oZ2) (v := ?vZ2) ?hiZ2 (by kernel_rfl) (by kernel_rfl) (by kernel_rfl) ?hQZ2 ?hwZ2 ?hyZ2 (by assumption) ?restZ2
      case hiZ2 => (simp only [List.getElem?_toArray, List.getElem?_cons_succ, List.getElem?_cons_zero] <;> rfl)
      case hQZ2 => exact (fun _ _ _ h => h)
      case hwZ2 => rfl
      case hyZ2 => (intro w hSw; (try dsimp only at hSw); go_simp; try with_reducible rfl)
      (try simp only [Act.put, List.setIfInBounds_toArray, List.set_cons_zero, List.set_cons_succ])
      refine take_w (i := 2) (oi := ?oZ3) (v := ?vZ3) ?hiZ3 (by kernel_rfl) (by kernel_rfl) (by kernel_rfl) ?hQZ3 ?hwZ3 ?hyZ3 (by assumption) ?restZ3
      case hiZ3 => (simp only [List.getElem?_toArray, List.getElem?_cons_succ, List.getElem?_cons_zero] <;> rfl)
      case hQZ3 => exact (fun _ _ _ h => h)
      case hwZ3 => rfl
      case hyZ3 => (intro w hSw; (try dsimp only at hSw); go_simp; try with_reducible rfl)
      (try simp only [Act.put, List.setIfInBounds_toArray, List.set_cons_zero, List.set_cons_succ])
      refine take_w (i := 3) (oi := ?oZ4) (v := ?vZ4) ?hiZ4 (by kernel_rfl) (by kernel_rfl) (by kernel_rfl) ?hQZ4 ?hwZ4 ?hyZ4 (by assumption) ?restZ4
      case hiZ4 => (simp only [List.getElem?_toArray, List.getElem?_cons_succ, List.getElem?_cons_zero] <;> rfl)
      case hQZ4 => exact (fun _ _ _ h => h)
      case hwZ4 => rfl
      case hyZ4 => (intro w hSw; (try dsimp only at hSw); go_simp; try with_reducible rfl)
      (try simp only [Act.put, List.setIfInBounds_toArray, List.set_cons_zero, List.set_cons_succ])
      refine take_w (i := 4) (oi := ?oZ5) (v := ?vZ5) ?hiZ5 (by kernel_rfl) (by kernel_rfl) (by kernel_rfl) ?hQZ5 ?hwZ5 ?hyZ5 (by assumption) ?restZ5
      case hiZ5 => (simp only [List.getElem?_toArray, List.getElem?_cons_succ, List.getElem?_cons_zero] <;> rfl)
      case hQZ5 => exact (fun _ _ _ h => h)
      case hwZ5 => rfl
      case hyZ5 => (intro w hSw; (try dsimp only at hSw); go_simp; try with_reducible rfl)
      (try simp only [Act.put, List.setIfInBounds_toArray, List.set_cons_zero, List.set_cons_succ])
      refine take_w (i := 5) (oi := ?oZ6) (v := ?vZ6) ?hiZ6 (by kernel_rfl) (by kernel_rfl) (by kernel_rfl) ?hQZ6 ?hwZ6 ?hyZ6 (by assumption) ?restZ6
      case hiZ6 => (simp only [List.getElem?_toArray, List.getElem?_cons_succ, List.getElem?_cons_zero] <;> rfl)
      case hQZ6 => exact (fun _ _ _ h => h)
      case hwZ6 => rfl
      case hyZ6 => (intro w hSw; (try dsimp only at hSw); go_simp; try with_reducible rfl)
      (try simp only [Act.put, List.setIfInBounds_toArray, List.set_cons_zero, List.set_cons_succ])
      refine take_w (i := 6) (oi := ?oZ7) (v := ?vZ7) ?hiZ7 (by kernel_rfl) (by kernel_rfl) (by kernel_rfl) ?hQZ7 ?hwZ7 ?hyZ7 (by assumption) ?restZ7
      case hiZ7 => (simp only [List.getElem?_toArray, List.getElem?_cons_succ, List.getElem?_cons_zero] <;> rfl)
      case hQZ7 => exact (fun _ _ _ h => h)
      case hwZ7 => rfl
      case hyZ7 => (intro w hSw; (try dsimp only at hSw); go_simp; try with_reducible rfl)
      (try simp only [Act.put, List.setIfInBounds_toArray, List.set_cons_zero, List.set_cons_succ])
      refine take_w (i := 7) (oi := ?oZ8) (v := ?vZ8) ?hiZ8 (by kernel_rfl) (by kernel_rfl) (by kernel_rfl) ?hQZ8 ?hwZ8 ?hyZ8 (by assumption) ?restZ8
      case hiZ8 => (simp only [List.getElem?_toArray, List.getElem?_cons_succ, List.getElem?_cons_zero] <;> rfl)
      case hQZ8 => exact (fun _ _ _ h => h)
      case hwZ8 => rfl
      case hyZ8 => (intro w hSw; (try dsimp only at hSw); go_simp; try with_reducible rfl)
      (try simp only [Act.put, List.setIfInBounds_toArray, List.set_cons_zero, List.set_cons_succ])
      refine take_w (i := 8) (oi := ?oZ9) (v := ?vZ9) ?hiZ9 (by kernel_rfl) (by kernel_rfl) (by kernel_rfl) ?hQZ9 ?hwZ9 ?hyZ9 (by assumption) ?restZ9
      case hiZ9 => (simp only [List.getElem?_toArray, List.getElem?_cons_succ, List.getElem?_cons_zero] <;> rfl)
      case hQZ9 => exact (fun _ _ _ h => h)
      case hwZ9 => rfl
      case hyZ9 => (intro w hSw; (try dsimp only at hSw); go_simp; try with_reducible rfl)
      (try simp only [Act.put, List.setIfInBounds_toArray, List.set_cons_zero, List.set_cons_succ])
      refine take_w (i := 9) (oi := ?oZ10) (v := ?vZ10) ?hiZ10 (by kernel_rfl) (by kernel_rfl) (by kernel_rfl) ?hQZ10 ?hwZ10 ?hyZ10 (by assumption) ?restZ10
      case hiZ10 => (simp only [List.getElem?_toArray, List.getElem?_cons_succ, List.getElem?_cons_zero] <;> rfl)
      case hQZ10 => exact (fun _ _ _ h => h)
      case hwZ10 => rfl
      case hyZ10 => (intro w hSw; (try dsimp only at hSw); go_simp; try with_reducible rfl)
      (try simp only [Act.put, List.setIfInBounds_toArray, List.set_cons_zero, List.set_cons_succ])
      refine take_w (i := 10) (oi := ?oZ11) (v := ?vZ11) ?hiZ11 (by kernel_rfl) (by kernel_rfl) (by kernel_rfl) ?hQZ11 ?hwZ11 ?hyZ11 (by assumption) ?restZ11
      case hiZ11 => (simp only [List.getElem?_toArray, List.getElem?_cons_succ, List.getElem?_cons_zero] <;> rfl)
      case hQZ11 => exact (fun _ _ _ h => h)
      case hwZ11 => rfl
      case hyZ11 => (intro w hSw; (try dsimp only at hSw); go_simp; try with_reducible rfl)
      (try simp only [Act.put, List.setIfInBounds_toArray, List.set_cons_zero, List.set_cons_succ])
      refine take_w (i := 11) (oi := ?oZ12) (v := ?vZ12) ?hiZ12 (by kernel_rfl) (by kernel_rfl) (by kernel_rfl) ?hQZ12 ?hwZ12 ?hyZ12 (by assumption) ?restZ12
      case hiZ12 => (simp only [List.getElem?_toArray, List.getElem?_cons_succ, List.getElem?_cons_zero] <;> rfl)
      case hQZ12 => exact (fun _ _ _ h => h)
      case hwZ12 => rfl
      case hyZ12 => (intro w hSw; (try dsimp only at hSw); go_simp; try with_reducible rfl)
      (try simp only [Act.put, List.setIfInBounds_toArray, List.set_cons_zero, List.set_cons_succ])
      refine take_w (i := 12) (oi := ?oZ13) (v := ?vZ13) ?hiZ13 (by kernel_rfl) (by kernel_rfl) (by kernel_rfl) ?hQZ13 ?hwZ13 ?hyZ13 (by assumption) ?restZ13
      case hiZ13 => (simp only [List.getElem?_toArray, List.getElem?_cons_succ, List.getElem?_cons_zero] <;> rfl)
      case hQZ13 => exact (fun _ _ _ h => h)
      case hwZ13 => rfl
      case hyZ13 => (intro w hSw; (try dsimp only at hSw); go_simp; try with_reducible rfl)
      (try simp only [Act.put, List.setIfInBounds_toArray, List.set_cons_zero, List.set_cons_succ])
      refine take_w (i := 13) (oi := ?oZ14) (v := ?vZ14) ?hiZ14 (by kernel_rfl) (by kernel_rfl) (by kernel_rfl) ?hQZ14 ?hwZ14 ?hyZ14 (by assumption) ?restZ14
      case hiZ14 => (simp only [List.getElem?_toArray, List.getElem?_cons_succ, List.getElem?_cons_zero] <;> rfl)
      case hQZ14 => exact (fun _ _ _ h => h)
      case hwZ14 => rfl
      case hyZ14 => (intro w hSw; (try dsimp only at hSw); go_simp; try with_reducible rfl)
      (try simp only [Act.put, List.setIfInBounds_toArray, List.set_cons_zero, List.set_cons_succ])
      refine take_w (i := 14) (oi := ?oZ15) (v := ?vZ15) ?hiZ15 (by kernel_rfl) (by kernel_rfl) (by kernel_rfl) ?hQZ15 ?hwZ15 ?hyZ15 (by assumption) ?restZ15
      case hiZ15 => (simp only [List.getElem?_toArray, List.getElem?_cons_succ, List.getElem?_cons_zero] <;> rfl)
      case hQZ15 => exact (fun _ _ _ h => h)
      case hwZ15 => rfl
      case hyZ15 => (intro w hSw; (try dsimp only at hSw); go_simp; try with_reducible rfl)
      (try simp only [Act.put, List.setIfInBounds_toArray, List.set_cons_zero, List.set_cons_succ])
      refine take_w (i := 15) (oi := ?oZ16) (v := ?vZ16) ?hiZ16 (by kernel_rfl) (by kernel_rfl) (by kernel_rfl) ?hQZ16 ?hwZ16 ?hyZ16 (by assumption) ?restZ16
      case hiZ16 => (simp only [List.getElem?_toArray, List.getElem?_cons_succ, List.getElem?_cons_zero] <;> rfl)
      case hQZ16 => exact (fun _ _ _ h => h)
      case hwZ16 => rfl
      case hyZ16 => (intro w hSw; (try dsimp only at hSw); go_simp; try with_reducible rfl)
      (try simp only [Act.put, List.setIfInBounds_toArray, List.set_cons_zero, List.set_cons_succ])
      refine take_w (i := 16) (oi := ?oZ17) (v := ?vZ17) ?hiZ17 (by kernel_rfl) (by kernel_rfl) (by kernel_rfl) ?hQZ17 ?hwZ17 ?hyZ17 (by assumption) ?restZ17
      case hiZ17 => (simp only [List.getElem?_toArray, List.getElem?_cons_succ, List.getElem?_cons_zero] <;> rfl)
      case hQZ17 => exact (fun _ _ _ h => h)
      case hwZ17 => rfl
      case hyZ17 => (intro w hSw; (try dsimp only at hSw); go_simp; try with_reducible rfl)
      (try simp only [Act.put, List.setIfInBounds_toArray, List.set_cons_zero, List.set_cons_succ])
      refine take_w (i := 17) (oi := ?oZ18) (v := ?vZ18) ?hiZ18 (by kernel_rfl) (by kernel_rfl) (by kernel_rfl) ?hQZ18 ?hwZ18 ?hyZ18 (by assumption) ?restZ18
      case hiZ18 => (simp only [List.getElem?_toArray, List.getElem?_cons_succ, List.getElem?_cons_zero] <;> rfl)
      case hQZ18 => exact (fun _ _ _ h => h)
      case hwZ18 => rfl
      case hyZ18 => (intro w hSw; (try dsimp only at hSw); go_simp; try with_reducible rfl)
      (try simp only [Act.put, List.setIfInBounds_toArray, List.set_cons_zero, List.set_cons_succ])
      refine take_w (i := 18) (oi := ?oZ19) (v := ?vZ19) ?hiZ19 (by kernel_rfl) (by kernel_rfl) (by kernel_rfl) ?hQZ19 ?hwZ19 ?hyZ19 (by assumption) ?restZ19
      case hiZ19 => (simp only [List.getElem?_toArray, List.getElem?_cons_succ, List.getElem?_cons_zero] <;> rfl)
      case hQZ19 => exact (fun _ _ _ h => h)
      case hwZ19 => rfl
      case hyZ19 => (intro w hSw; (try dsimp only at hSw); go_simp; try with_reducible rfl)
      (try simp only [Act.put, List.setIfInBounds_toArray, List.set_cons_zero, List.set_cons_succ])
      refine take_w (i := 19) (oi := ?oZ20) (v := ?vZ20) ?hiZ20 (by kernel_rfl) (by kernel_rfl) (by kernel_rfl) ?hQZ20 ?hwZ20 ?hyZ20 (by assumption) ?restZ20
      case hiZ20 => (simp only [List.getElem?_toArray, List.getElem?_cons_succ, List.getElem?_cons_zero] <;> rfl)
      case hQZ20 => exact (fun _ _ _ h => h)
      case hwZ20 => rfl
      case hyZ20 => (intro w hSw; (try dsimp only at hSw); go_simp; try with_reducible rfl)
      (try simp only [Act.put, List.setIfInBounds_toArray, List.set_cons_zero, List.set_cons_succ])
      refine take_w (i := 20) (oi := ?oZ21) (v := ?vZ21) ?hiZ21 (by kernel_rfl) (by kernel_rfl) (by kernel_rfl) ?hQZ21 ?hwZ21 ?hyZ21 (by assumption) ?restZ21
      case hiZ21 => (simp only [List.getElem?_toArray, List.getElem?_cons_succ, List.getElem?_cons_zero] <;> rfl)
      case hQZ21 => exact (fun _ _ _ h => h)
      case hwZ21 => rfl
      case hyZ21 => (intro w hSw; (try dsimp only at hSw); go_simp; try with_reducible rfl)
      (try simp only [Act.put, List.setIfInBounds_toArray, List.set_cons_zero, List.set_cons_succ])
      refine take_w (i := 21) (oi := ?oZ22) (v := ?vZ22) ?hiZ22 (by kernel_rfl) (by kernel_rfl) (by kernel_rfl) ?hQZ22 ?hwZ22 ?hyZ22 (by assumption) ?restZ22
      case hiZ22 => (simp only [List.getElem?_toArray, List.getElem?_cons_succ, List.getElem?_cons_zero] <;> rfl)
      case hQZ22 => exact (fun _ _ _ h => h)
      case hwZ22 => rfl
      case hyZ22 => (intro w hSw; (try dsimp only at hSw); go_simp; try with_reducible rfl)
      (try simp only [Act.put, List.setIfInBounds_toArray, List.set_cons_zero, List.set_cons_succ])
      refine take_w (i := 22) (oi := ?oZ23) (v := ?vZ23) ?hiZ23 (by kernel_rfl) (by kernel_rfl) (by kernel_rfl) ?hQZ23 ?hwZ23 ?hyZ23 (by assumption) ?restZ23
      case hiZ23 => (simp only [List.getElem?_toArray, List.getElem?_cons_succ, List.getElem?_cons_zero] <;> rfl)
      case hQZ23 => exact (fun _ _ _ h => h)
      case hwZ23 => rfl
      case hyZ23 => (intro w hSw; (try dsimp only at hSw); go_simp; try with_reducible rfl)
      (try simp only [Act.put, List.setIfInBounds_toArray, List.set_cons_zero, List.set_cons_succ])
      refine take_w (i := 23) (oi := ?oZ24) (v := ?vZ24) ?hiZ24 (by kernel_rfl) (by kernel_rfl) (by kernel_rfl) ?hQZ24 ?hwZ24 ?hyZ24 (by assumption) ?restZ24
      case hiZ24 => (simp only [List.getElem?_toArray, List.getElem?_cons_succ, List.getElem?_cons_zero] <;> rfl)
      case hQZ24 => exact (fun _ _ _ h => h)
      case hwZ24 => rfl
      case hyZ24 => (intro w hSw; (try dsimp only at hSw); go_simp; try with_reducible rfl)
      (try simp only [Act.put, List.setIfInBounds_toArray, List.set_cons_zero, List.set_cons_succ])
      refine take_w (i := 24) (oi := ?oZ25) (v := ?vZ25) ?hiZ25 (by kernel_rfl) (by kernel_rfl) (by kernel_rfl) ?hQZ25 ?hwZ25 ?hyZ25 (by assumption) ?restZ25
      case hiZ25 => (simp only [List.getElem?_toArray, List.getElem?_cons_succ, List.getElem?_cons_zero] <;> rfl)
      case hQZ25 => exact (fun _ _ _ h => h)
      case hwZ25 => rfl
      case hyZ25 => (intro w hSw; (try dsimp only at hSw); go_simp; try with_reducible rfl)
      (try simp only [Act.put, List.setIfInBounds_toArray, List.set_cons_zero, List.set_cons_succ])
      refine take_w (i := 25) (oi := ?oZ26) (v := ?vZ26) ?hiZ26 (by kernel_rfl) (by kernel_rfl) (by kernel_rfl) ?hQZ26 ?hwZ26 ?hyZ26 (by assumption) ?restZ26
      case hiZ26 => (simp only [List.getElem?_toArray, List.getElem?_cons_succ, List.getElem?_cons_zero] <;> rfl)
      case hQZ26 => exact (fun _ _ _ h => h)
      case hwZ26 => rfl
      case hyZ26 => (intro w hSw; (try dsimp only at hSw); go_simp; try with_reducible rfl)
      (try simp only [Act.put, List.setIfInBounds_toArray, List.set_cons_zero, List.set_cons_succ])
      refine take_w (i := 26) (oi := ?oZ27) (v := ?vZ27) ?hiZ27 (by kernel_rfl) (by kernel_rfl) (by kernel_rfl) ?hQZ27 ?hwZ27 ?hyZ27 (by assumption) ?restZ27
      case hiZ27 => (simp only [List.getElem?_toArray, List.getElem?_cons_succ, List.getElem?_cons_zero] <;> rfl)
      case hQZ27 => exact (fun _ _ _ h => h)
      case hwZ27 => rfl
      case hyZ27 => (intro w hSw; (try dsimp only at hSw); go_simp; try with_reducible rfl)
      (try simp only [Act.put, List.setIfInBounds_toArray, List.set_cons_zero, List.set_cons_succ])
      refine take_w (i := 27) (oi := ?oZ28) (v := ?vZ28) ?hiZ28 (by kernel_rfl) (by kernel_rfl) (by kernel_rfl) ?hQZ28 ?hwZ28 ?hyZ28 (by assumption) ?restZ28
      case hiZ28 => (simp only [List.getElem?_toArray, List.getElem?_cons_succ, List.getElem?_cons_zero] <;> rfl)
      case hQZ28 => exact (fun _ _ _ h => h)
      case hwZ28 => rfl
      case hyZ28 => (intro w hSw; (try dsimp only at hSw); go_simp; try with_reducible rfl)
      (try simp only [Act.put, List.setIfInBounds_toArray, List.set_cons_zero, List.set_cons_succ])
      refine wpAnyH_done (by kernel_rfl) ?_ _
      clear hHeld
      clear HS6
      go_wp2_with fail
      exact ⟨⟨i + 1, by omega, by go_num, HBD.out⟩, by simp [intOf]; omega⟩
    · obtain rfl : i = n := by omega
      have q1 : ¬ (i : Int) < (i : Int) := by omega
      go_wp2_with fail
      go_ret
      exact ⟨rfl, hb⟩
end Go.Proofs.YtkfjhegehhahcaaDoor

/- The contract of the document's tree into which pairs were put. -/
namespace Go.Proofs.YtkfjhegehhahcaaDoor
open Go.RowKit
set_option linter.unusedVariables false

/-- The tree that grows, in its box. -/
structure GW (w W : World) (ht : TH) (a : AT) (i : Nat) : Prop where
  b : Below w.heap.size w W
  res : Box W 25 w.heap.size hZ
  box : Box W 25 (w.heap.size + 1) ht
  ti : InTree W ht a.tr
  good : Good a
  cnt : a.pairs.length ≤ i
section
variable {w W W' : World} {ht hn : TH} {a : AT} {i j : Nat}
theorem GW.below (x : GW w W ht a i) (hb : Below W.heap.size W W') : GW w W' ht a i := ⟨x.b.trans (hb.mono x.b.size), x.res.below hb x.res.lt, x.box.below hb x.box.lt, x.ti.lower hb, x.good, x.cnt⟩
theorem GW.drew (x : GW w W ht a i) : GW w W.drew ht a i := x.below (Below.refl _ _).drew
theorem GW.more (x : GW w W ht a i) (h : i ≤ j) : GW w W ht a j := ⟨x.b, x.res, x.box, x.ti, x.good, Nat.le_trans x.cnt h⟩
theorem GW.put (x : GW w W ht a i) (hx : Box W' 25 (w.heap.size + 1) hn) (hg : W.grownBy W' (some (w.heap.size + 1))) {key val : List Int} (hi : InTree W hn (a.put key val).tr) (hk : key.length ≤ 80) (hv : val.length ≤ 1024) : GW w W' hn (a.put key val) (i + 1) :=
  ⟨x.b.grown hg x.b.size (fun j hj => by injection hj; omega), x.res.grown hg (fun q => by injection q; omega), hx, AT.outBox x.box hg _ _ hi, x.good.put hk hv, Nat.le_trans (AT.put_len key val x.good.rise) (by have := x.cnt; omega)⟩
end
/-- The tree into which pairs were put, those that may be. -/
def growS (a : AT) (p : KV) : AT := if p.1.length ≤ 80 ∧ p.2.length ≤ 1024 then a.put p.1 p.2 else a
def grownL (l : List KV) : AT := l.foldl growS .nil
theorem grown_step {kvs : List KV} {i : Nat} {p : KV} (e : kvs[i]? = some p) : grownL (kvs.take (i + 1)) = growS (grownL (kvs.take i)) p := by
  unfold grownL
  rw [List.take_add_one, e, List.foldl_append]
  rfl
theorem grown_yes {kvs : List KV} {i : Nat} {key val : List Int} {a : AT} (e : kvs[i]? = some (key, val)) (ha : a = grownL (kvs.take i)) (h1 : key.length ≤ 80) (h2 : val.length ≤ 1024) : a.put key val = grownL (kvs.take (i + 1)) := by
  rw [grown_step e, growS, if_pos ⟨h1, h2⟩, ha]
theorem grown_no {kvs : List KV} {i : Nat} {key val : List Int} {a : AT} (e : kvs[i]? = some (key, val)) (ha : a = grownL (kvs.take i)) (h : ¬ (key.length ≤ 80 ∧ val.length ≤ 1024)) : a = grownL (kvs.take (i + 1)) := by
  rw [grown_step e, growS, if_neg h, ha]
/-- It answers the tree of the first sixty pairs, balanced. -/
def GrowsTo (w : World) (kvs : List KV) (e : Ending) (w' : World) : Prop := Good (grownL (kvs.take 60)) ∧ (grownL (kvs.take 60)).pairs.length ≤ 60 ∧ Tells w (grownL (kvs.take 60)) e w'
/-- It answers a tree of at most sixty pairs, balanced. -/
def Grows (w : World) (e : Ending) (w' : World) : Prop := ∃ a : AT, Good a ∧ a.pairs.length ≤ 60 ∧ Tells w a e w'
theorem enterG (w : World) : Box (w.alloc (.cells #[.int .i64 0, .slice none 0 0, .slice none 0 0, .slice none 0 0, .slice none 0 0] 25)) 25 w.heap.size hZ := Box.new w 25 hZ

set_option maxRecDepth 100000 in
set_option maxHeartbeats 4000000 in
theorem refGrown_is (kvs : List KV) (la : Option Addr) (n cap : Nat) (D : Nat → PH) (w : World) (hnl : n = kvs.length) (hin : InRec recP w la n cap D) (hpd : PairsD w D kvs) : Calls Tryd.prog 13 #[.slice la n cap] w (GrowsTo w kvs) := by
  have hkv : ∀ i, i < n → ∃ key val, kvs[i]? = some (key, val) ∧ InBytes w (D i).ka (D i).kn (D i).kc key ∧ InBytes w (D i).va (D i).vn (D i).vc val := fun i hi => ⟨_, _, List.getElem?_eq_getElem (by omega), hpd i (by omega)⟩
  have HNL := Lib.hid hnl
  have HIN := Lib.hid hin
  have HKVS := Lib.hid hkv
  clear hin hkv hpd hnl
  have hr := enterG w
  have s1 : (w.alloc (.cells #[.int .i64 0, .slice none 0 0, .slice none 0 0, .slice none 0 0, .slice none 0 0] 25)).heap.size = w.heap.size + 1 := by simp
  have hb0 : Below w.heap.size w (w.alloc (.cells #[.int .i64 0, .slice none 0 0, .slice none 0 0, .slice none 0 0, .slice none 0 0] 25)) := (Below.refl _ _).alloc (Nat.le_refl _) _
  have hx1 : Box ((w.alloc (.cells #[.int .i64 0, .slice none 0 0, .slice none 0 0, .slice none 0 0, .slice none 0 0] 25)).alloc (.cells #[.int .i64 0, .slice none 0 0, .slice none 0 0, .slice none 0 0, .slice none 0 0] 25)) 25 (w.heap.size + 1) hZ := by
    have q := Box.new (w.alloc (.cells #[.int .i64 0, .slice none 0 0, .slice none 0 0, .slice none 0 0, .slice none 0 0] 25)) 25 hZ
    rw [s1] at q
    exact q
  have hr1 := hr.below ((Below.refl (w.alloc (.cells #[.int .i64 0, .slice none 0 0, .slice none 0 0, .slice none 0 0, .slice none 0 0] 25)).heap.size (w.alloc (.cells #[.int .i64 0, .slice none 0 0, .slice none 0 0, .slice none 0 0, .slice none 0 0] 25))).alloc (Nat.le_refl _) (.cells #[.int .i64 0, .slice none 0 0, .slice none 0 0, .slice none 0 0, .slice none 0 0] 25)) hr.lt
  have hb1 : Below w.heap.size w ((w.alloc (.cells #[.int .i64 0, .slice none 0 0, .slice none 0 0, .slice none 0 0, .slice none 0 0] 25)).alloc (.cells #[.int .i64 0, .slice none 0 0, .slice none 0 0, .slice none 0 0, .slice none 0 0] 25)) := hb0.alloc (by rw [s1]; omega) _
  have HX := Lib.hid (And.intro hx1 (And.intro hr1 hb1))
  clear hr s1 hb0 hx1 hr1 hb1
  go_enter Tryd.func13, Tryd.ntmps13
  go_upto_region 2 with (first
    | (refine wpList_store_box rfl 25 (.tmp 3) (.tmp 5) rfl (w.heap.size + 1) hZ hZ rfl rfl 25 HX.out.1 infoTree5 ?_
       intro w2 hbx hg
       have HG2 : Hid (GW w w2 hZ .nil 0) := Lib.hid ⟨HX.out.2.2.grown hg HX.out.2.2.size (fun j hj => by injection hj; omega), HX.out.2.1.grown hg (fun q => by injection q; omega), hbx, inTree_nil w2, Good.nil, Nat.le_refl _⟩
       clear hbx hg))
  clear HX
  go_wp2_with fail
  go_loopw [4] (fun s4 wx => ∃ (i : Nat) (ht : TH) (a : AT), i ≤ n ∧ i ≤ 60 ∧ s4 = .int .i64 i ∧ GW w wx ht a i ∧ a = grownL (kvs.take i)) (fun s4 _ => n - (intOf s4).toNat)
  case atStart => exact ⟨0, hZ, .nil, by omega, by omega, rfl, HG2.out, by rw [List.take_zero]; rfl⟩
  case round =>
    clear HG2
    obtain ⟨i, ht, a, hi1, hi2, rfl, hgw, hga⟩ := hrel
    have HGA := Lib.hid hga
    clear hga
    have HG := Lib.hid hgw
    by_cases c1 : i < n
    · have q1 : (i : Int) < (n : Int) := by omega
      by_cases c2 : i < 60
      · have q2 : (i : Int) < 60 := by omega
        obtain ⟨key, val, hek, hk, hv⟩ := HKVS.out i c1
        have HEK := Lib.hid hek
        clear hek
        have HKV := Lib.hid (And.intro hk hv)
        have hkl := hk.len
        have hvl := hv.len
        obtain ⟨g, off, hea, -, -⟩ := HIN.out.at (by omega)
        obtain ⟨y0, y1⟩ := (HIN.out.below hgw.b).pair hea i c1
        have HEA := Lib.hid hea
        rw [hea]
        clear hea hk hv hgw
        by_cases c3 : (D i).kn ≤ 80
        · have q3 : ((D i).kn : Int) ≤ 80 := by omega
          by_cases c4 : (D i).vn ≤ 1024
          · have q4 : ((D i).vn : Int) ≤ 1024 := by omega
            go_upto_region 6 with fail
            clear y0 y1
            refine region_l (S := (fun W => (W.cell? ⟨(w.heap.size + 1), 0, none⟩ = some (.int .i64 ht.k) ∧ W.cell? ⟨(w.heap.size + 1), 1, none⟩ = some (.slice ht.ka ht.kn ht.kc) ∧ W.cell? ⟨(w.heap.size + 1), 2, none⟩ = some (.slice ht.va ht.vn ht.vc) ∧ W.cell? ⟨(w.heap.size + 1), 3, none⟩ = some (.slice ht.da ht.dn ht.dc) ∧ W.cell? ⟨(w.heap.size + 1), 4, none⟩ = some (.slice ht.ta ht.tn ht.tc)) ∧ W.cell? ⟨g, off + i * 2, none⟩ = some (.slice (D i).ka (D i).kn (D i).kc) ∧ W.cell? ⟨g, off + i * 2 + 1, none⟩ = some (.slice (D i).va (D i).vn (D i).vc))) 12 (by kernel_rfl) ⟨HG.out.drew.box.cells, ((HIN.out.below HG.out.drew.b).pair HEA.out i c1).1, ((HIN.out.below HG.out.drew.b).pair HEA.out i c1).2⟩ (fun hHeld => ?_)
            refine take_l (i := 0) (oi := ?oZ60) (v := ?vZ60) ?hiZ60 (by kernel_rfl) (by kernel_rfl) (by kernel_rfl) (by kernel_rfl) ?hQZ60 ?hwZ60 ?hyZ60 (by assumption) ?restZ60
            case hiZ60 => (simp only [List.getElem?_toArray, List.getElem?_cons_zero] <;> rfl)
            case hQZ60 => exact (fun _ _ _ h => h)
            case hwZ60 => rfl
            case hyZ60 => (intro w hSw; (try dsimp only at hSw); go_simp; try with_reducible rfl)
            (try simp only [Act.put, List.setIfInBounds_toArray, List.set_cons_zero, List.set_cons_succ])
            refine take_l (i := 1) (oi := ?oZ61) (v := ?vZ61) ?hiZ61 (by kernel_rfl) (by kernel_rfl) (by kernel_rfl) (by kernel_rfl) ?hQZ61 ?hwZ61 ?hyZ61 (by assumption) ?restZ61
            case hiZ61 => (simp only [List.getElem?_toArray, List.getElem?_cons_succ, List.getElem?_cons_zero] <;> rfl)
            case hQZ61 => exact (fun _ _ _ h => h)
            case hwZ61 => rfl
            case hyZ61 => (intro w hSw; (try dsimp only at hSw); go_simp; try with_reducible rfl)
            (try simp only [Act.put, List.setIfInBounds_toArray, List.set_cons_zero, List.set_cons_succ])
            refine take_l (i := 2) (oi := ?oZ62) (v := ?vZ62) ?hiZ62 (by kernel_rfl) (by kernel_rfl) (by kernel_rfl) (by kernel_rfl) ?hQZ62 ?hwZ62 ?hyZ62 (by assumption) ?restZ62
            case hiZ62 => (simp only [List.getElem?_toArray, List.getElem?_cons_succ, List.getElem?_cons_zero] <;> rfl)
            case hQZ62 => exact (fun _ _ _ h => h)
            case hwZ62 => rfl
            case hyZ62 => (intro w hSw; (try dsimp only at hSw); go_simp; try with_reducible rfl)
            (try simp only [Act.put, List.setIfInBounds_toArray, List.set_cons_zero, List.set_cons_succ])
            refine take_l (i := 3) (oi := ?oZ63) (v := ?vZ63) ?hiZ63 (by kernel_rfl) (by kernel_rfl) (by kernel_rfl) (by kernel_rfl) ?hQZ63 ?hwZ63 ?hyZ63 (by assumption) ?restZ63
            case hiZ63 => (simp only [List.getElem?_toArray, List.getElem?_cons_succ, List.getElem?_cons_zero] <;> rfl)
            case hQZ63 => exact (fun _ _ _ h => h)
            case hwZ63 => rfl
            case hyZ63 => (intro w hSw; (try dsimp only at hSw); go_simp; try with_reducible rfl)
            (try simp only [Act.put, List.setIfInBounds_toArray, List.set_cons_zero, List.set_cons_succ])
            refine take_l (i := 4) (oi := ?oZ64) (v := ?vZ64) ?hiZ64 (by kernel_rfl) (by kernel_rfl) (by kernel_rfl) (by kernel_rfl) ?hQZ64 ?hwZ64 ?hyZ64 (by assumption) ?restZ64
            case hiZ64 => (simp only [List.getElem?_toArray, List.getElem?_cons_succ, List.getElem?_cons_zero] <;> rfl)
            case hQZ64 => exact (fun _ _ _ h => h)
            case hwZ64 => rfl
            case hyZ64 => (intro w hSw; (try dsimp only at hSw); go_simp; try with_reducible rfl)
            (try simp only [Act.put, List.setIfInBounds_toArray, List.set_cons_zero, List.set_cons_succ])
            refine take_l (i := 5) (oi := ?oZ65) (v := ?vZ65) ?hiZ65 (by kernel_rfl) (by kernel_rfl) (by kernel_rfl) (by kernel_rfl) ?hQZ65 ?hwZ65 ?hyZ65 (by assumption) ?restZ65
            case hiZ65 => (simp only [List.getElem?_toArray, List.getElem?_cons_succ, List.getElem?_cons_zero] <;> rfl)
            case hQZ65 => exact (fun _ _ _ h => h)
            case hwZ65 => rfl
            case hyZ65 => (intro w hSw; (try dsimp only at hSw); go_simp; try with_reducible rfl)
            (try simp only [Act.put, List.setIfInBounds_toArray, List.set_cons_zero, List.set_cons_succ])
            refine take_l (i := 6) (oi := ?oZ66) (v := ?vZ66) ?hiZ66 (by kernel_rfl) (by kernel_rfl) (by kernel_rfl) (by kernel_rfl) ?hQZ66 ?hwZ66 ?hyZ66 (by assumption) ?restZ66
            case hiZ66 => (simp only [List.getElem?_toArray, List.getElem?_cons_succ, List.getElem?_cons_zero] <;> rfl)
            case hQZ66 => exact (fun _ _ _ h => h)
            case hwZ66 => rfl
            case hyZ66 => (intro w hSw; (try dsimp only at hSw); go_simp; try with_reducible rfl)
            (try simp only [Act.put, List.setIfInBounds_toArray, List.set_cons_zero, List.set_cons_succ])
            refine take_l (i := 7) (oi := ?oZ67) (v := ?vZ67) ?hiZ67 (by kernel_rfl) (by kernel_rfl) (by kernel_rfl) (by kernel_rfl) ?hQZ67 ?hwZ67 ?hyZ67 (by assumption) ?restZ67
            case hiZ67 => (simp only [List.getElem?_toArray, List.getElem?_cons_succ, List.getElem?_cons_zero] <;> rfl)
            case hQZ67 => exact (fun _ _ _ h => h)
            case hwZ67 => rfl
            case hyZ67 => (intro w hSw; (try dsimp only at hSw); go_simp; try with_reducible rfl)
            (try simp only [Act.put, List.setIfInBounds_toArray, List.set_cons_zero, List.set_cons_succ])
            refine take_l (i := 8) (oi := ?oZ68) (v := ?vZ68) ?hiZ68 (by kernel_rfl) (by kernel_rfl) (by kernel_rfl) (by kernel_rfl) ?hQZ68 ?hwZ68 ?hyZ68 (by assumption) ?restZ68
            case hiZ68 => (simp only [List.getElem?_toArray, List.getElem?_cons_succ, List.getElem?_cons_zero] <;> rfl)
            case hQZ68 => exact (fun _ _ _ h => h)
            case hwZ68 => rfl
            case hyZ68 => (intro w hSw; (try dsimp only at hSw); go_simp; try with_reducible rfl)
            (try simp only [Act.put, List.setIfInBounds_toArray, List.set_cons_zero, List.set_cons_succ])
            refine take_l (i := 9) (oi := ?oZ69) (v := ?vZ69) ?hiZ69 (by kernel_rfl) (by kernel_rfl) (by kernel_rfl) (by kernel_rfl) ?hQZ69 ?hwZ69 ?hyZ69 (by assumption) ?restZ69
            case hiZ69 => (simp only [List.getElem?_toArray, List.getElem?_cons_succ, List.getElem?_cons_zero] <;> rfl)
            case hQZ69 => exact (fun _ _ _ h => h)
            case hwZ69 => rfl
            case hyZ69 => (intro w hSw; (try dsimp only at hSw); go_simp; try with_reducible rfl)
            (try simp only [Act.put, List.setIfInBounds_toArray, List.set_cons_zero, List.set_cons_succ])
            refine take_l (i := 10) (oi := ?oZ70) (v := ?vZ70) ?hiZ70 (by kernel_rfl) (by kernel_rfl) (by kernel_rfl) (by kernel_rfl) ?hQZ70 ?hwZ70 ?hyZ70 (by assumption) ?restZ70
            case hiZ70 => (simp only [List.getElem?_toArray, List.getElem?_cons_succ, List.getElem?_cons_zero] <;> rfl)
            case hQZ70 => exact (fun _ _ _ h => h)
            case hwZ70 => rfl
            case hyZ70 => (intro w hSw; (try dsimp only at hSw); go_simp; try with_reducible rfl)
            (try simp only [Act.put, List.setIfInBounds_toArray, List.set_cons_zero, List.set_cons_succ])
            refine one_l (i := 11) (o := ?oZ71) (by kernel_rfl) ?hiZ71 (fun K hK => ?stZ71)
            case hiZ71 => (simp only [List.getElem?_toArray, List.getElem?_cons_succ, List.getElem?_cons_zero] <;> rfl)
            go_simp
            go_at_call 30
            refine (refPut_any key val (D i).ka (D i).va (D i).kn (D i).kc (D i).vn (D i).vc (by omega) (by omega) a ht _ HG.out.drew.ti HG.out.good.lim HG.out.good.bal (by have h1 := AT.depth_le a; have := HG.out.cnt; omega) (HKV.out.1.below HG.out.drew.b) (HKV.out.2.below HG.out.drew.b)).mono ?_
            rintro _ w6 ⟨h6, rfl, hi6, hb6⟩
            unfold TH.v
            have HG6 := Lib.hid (HG.out.drew.below hb6)
            have HI6 := Lib.hid hi6
            clear hi6 hb6
            go_simp
            refine hK.out _ _ ?_ (fun hHeld => ?_)
            · (first | exact ⟨HG6.out.box.cells, ((HIN.out.below HG6.out.b).pair HEA.out i c1).1, ((HIN.out.below HG6.out.b).pair HEA.out i c1).2⟩ | exact ⟨HG.out.drew.box.cells, ((HIN.out.below HG.out.drew.b).pair HEA.out i c1).1, ((HIN.out.below HG.out.drew.b).pair HEA.out i c1).2⟩)
            clear hK K
            (try simp only [Act.put, List.setIfInBounds_toArray, List.set_cons_zero, List.set_cons_succ])
            refine last_l (o := ?oZ72) (by kernel_rfl) ?hiZ72 (by kernel_rfl) (fun K hK => ?stZ72)
            case hiZ72 => (simp only [List.getElem?_toArray, List.getElem?_cons_succ, List.getElem?_cons_zero] <;> rfl)
            refine step_store_box rfl 25 (.tmp 3) (.tmp 43) rfl (w.heap.size + 1) ht h6 rfl rfl 25 HG6.out.box infoTree5 ?_
            intro w7 hbx hg
            have HG7 := Lib.hid (HG6.out.put hbx hg HI6.out (by omega : key.length ≤ 80) (by omega : val.length ≤ 1024))
            clear hbx hg
            refine hK.out _ _ ?_
            clear hK K
            (try simp only [Act.put])
            
            clear hHeld
            go_wp2_with fail
            exact ⟨⟨i + 1, h6, _, by omega, by omega, by go_num, HG7.out, grown_yes HEK.out HGA.out (by omega) (by omega)⟩, by simp [intOf]; omega⟩
          · have q4 : ¬ ((D i).vn : Int) ≤ 1024 := by omega
            go_wp2_with fail
            exact ⟨⟨i + 1, ht, a, by omega, by omega, by go_num, HG.out.more (by omega), grown_no HEK.out HGA.out (by omega)⟩, by simp [intOf]; omega⟩
        · have q3 : ¬ ((D i).kn : Int) ≤ 80 := by omega
          go_wp2_with fail
          exact ⟨⟨i + 1, ht, a, by omega, by omega, by go_num, HG.out.more (by omega), grown_no HEK.out HGA.out (by omega)⟩, by simp [intOf]; omega⟩
      · have q2 : ¬ (i : Int) < 60 := by omega
        clear hgw
        obtain ⟨x0, x1, x2, x3, x4⟩ := HG.out.box.cells
        go_wp2_with (first
          | (refine wpList_store_box rfl 25 (.tmp 2) (.tmp 44) rfl w.heap.size hZ ht rfl rfl 25 HG.out.res infoTree5 ?_
             intro w9 hbx9 hg9
             have HX9 := Lib.hid hbx9
             have HI9 := Lib.hid (AT.outBox HG.out.res hg9 _ _ HG.out.ti)
             have HB9 : Hid (Below w.heap.size w w9) := Lib.hid (HG.out.b.grown hg9 HG.out.b.size (fun j hj => by injection hj; omega))
             clear hbx9 hg9 x0 x1 x2 x3 x4))
        have hnl := HNL.out
        have e60 : a = grownL (kvs.take 60) := by
          rw [HGA.out]
          rcases (by omega : i = 60 ∨ kvs.length ≤ i) with q | q
          · rw [q]
          · rw [List.take_of_length_le q, List.take_of_length_le (by omega)]
        clear hnl
        exact bodyPost_ret (v := ht.v) (result_tree Tryd.results13 _ HX9.out rfl Tryd.underlying25 infoTree5) rfl ⟨by rw [← e60]; exact HG.out.good, by rw [← e60]; have := HG.out.cnt; omega, _, rfl, by rw [← e60]; exact HI9.out, HB9.out⟩
    · have q1 : ¬ (i : Int) < (n : Int) := by omega
      clear hgw
      obtain ⟨x0, x1, x2, x3, x4⟩ := HG.out.box.cells
      go_wp2_with (first
        | (refine wpList_store_box rfl 25 (.tmp 2) (.tmp 44) rfl w.heap.size hZ ht rfl rfl 25 HG.out.res infoTree5 ?_
           intro w9 hbx9 hg9
           have HX9 := Lib.hid hbx9
           have HI9 := Lib.hid (AT.outBox HG.out.res hg9 _ _ HG.out.ti)
           have HB9 : Hid (Below w.heap.size w w9) := Lib.hid (HG.out.b.grown hg9 HG.out.b.size (fun j hj => by injection hj; omega))
           clear hbx9 hg9 x0 x1 x2 x3 x4))
      have hnl := HNL.out
      have e60 : a = grownL (kvs.take 60) := by
        rw [HGA.out]
        rcases (by omega : i = 60 ∨ kvs.length ≤ i) with q | q
        · rw [q]
        · rw [List.take_of_length_le q, List.take_of_length_le (by omega)]
      clear hnl
      exact bodyPost_ret (v := ht.v) (result_tree Tryd.results13 _ HX9.out rfl Tryd.underlying25 infoTree5) rfl ⟨by rw [← e60]; exact HG.out.good, by rw [← e60]; have := HG.out.cnt; omega, _, rfl, by rw [← e60]; exact HI9.out, HB9.out⟩
/-- Any row of pairs is the row of some list. -/
theorem pairs_list {w : World} {n : Nat} {D : Nat → PH} (hkv : ∀ i, i < n → ∃ key val, InBytes w (D i).ka (D i).kn (D i).kc key ∧ InBytes w (D i).va (D i).vn (D i).vc val) : ∃ kvs : List KV, n = kvs.length ∧ PairsD w D kvs := by
  induction n with
  | zero => exact ⟨[], rfl, fun i hi => by simp at hi⟩
  | succ n ih =>
    obtain ⟨kvs, e, h⟩ := ih (fun i hi => hkv i (by omega))
    obtain ⟨key, val, h1, h2⟩ := hkv n (by omega)
    refine ⟨kvs ++ [(key, val)], by simp [e], fun i hi => ?_⟩
    by_cases c : i < kvs.length
    · rw [List.getElem_append_left c]
      exact h i c
    · have e0 : i = n := by simp at hi; omega
      subst e0
      have e2 : (kvs ++ [(key, val)])[i] = (key, val) := by simp [e]
      rw [e2]
      exact ⟨h1, h2⟩
theorem refGrown_any (la : Option Addr) (n cap : Nat) (D : Nat → PH) (w : World) (hin : InRec recP w la n cap D) (hkv : ∀ i, i < n → ∃ key val, InBytes w (D i).ka (D i).kn (D i).kc key ∧ InBytes w (D i).va (D i).vn (D i).vc val) : Calls Tryd.prog 13 #[.slice la n cap] w (Grows w) := by
  obtain ⟨kvs, e, h⟩ := pairs_list hkv
  refine (refGrown_is kvs la n cap D w e hin h).mono ?_
  rintro _ w' ⟨h1, h2, h3⟩
  exact ⟨_, h1, h2, h3⟩
end Go.Proofs.YtkfjhegehhahcaaDoor

/- One byte in a block of its own. No program is named here. -/
namespace Go.Proofs.YtkfjhegehhahcaaDoor
open Go.RowKit
set_option linter.unusedVariables false

/-- One byte in a block of its own. -/
theorem in_one {w : World} {g : Nat} {t : TypeId} {z : Int} {fr : Nat × Nat} (h : w.heap[g]? = some (.cells #[.int .u8 z] t fr)) (h0 : 0 ≤ z) (h1 : z ≤ 255) : InBytes w (some ⟨g, 0, none⟩) 1 1 [z] := by
  have hlt : g < w.heap.size := by
    rcases Nat.lt_or_ge g w.heap.size with hlt | hge
    · exact hlt
    · rw [Array.getElem?_eq_none hge] at h
      cases h
  have hseg : Seg .u8 w g 0 [z] := fun i hi => by
    have hi0 : i = 0 := by simpa using hi
    subst hi0
    rw [cell_of_row w g (0 + 0) _ _ fr h]
    rfl
  exact ⟨rfl, (fun x hx => by simp at hx; omega), Nat.le_refl _, by simp [maxLen], (fun h => by cases h), fun _ => ⟨g, 0, rfl, hlt, hseg⟩⟩
theorem alloc_size (w : World) (o : Obj) : (w.alloc o).heap.size = w.heap.size + 1 := by simp
end Go.Proofs.YtkfjhegehhahcaaDoor

/- The head of the statements of layer 7: what is shown of a tree of one node. -/
namespace Go.Proofs.YtkfjhegehhahcaaDoor
open Go.RowKit
set_option linter.unusedVariables false

def upN : AT := .node .nil [97] [] .nil
theorem upN_eq : grownL ([([97], [])].take 60) = upN := by simp [grownL, growS, AT.put, upN]
theorem upN_good : Good upN := by
  have h := Good.nil.put (key := [97]) (val := []) (by decide) (by decide)
  exact h
theorem upN_is : isT upN.tr = true := upN_good.is (by decide)
theorem upN_show : showA 1 [] [] true upN = .mk 1 [97] [] [] [.mk 0 [] [] [] [], .mk 0 [] [] [] []] := by simp [showA, upN, inS, ltL]
theorem upN_count : countT upN.tr ≤ 500 := by
  have e : upN.tr = .mk 1 [97] [] [] [.mk 0 [] [] [] [], .mk 0 [] [] [] []] := rfl
  rw [e, count_pair, countT_eq]
  decide
theorem conv_97 (W : World) (g : Nat) (hg : W.heap.size = g) : (convert 22 22 (.slice (some ⟨g, 0, none⟩) 1 1)).run Tryd.prog (W.alloc (.cells #[.int .u8 97] 5)) = .ok (.slice (some ⟨g, 0, none⟩) 1 1) (W.alloc (.cells #[.int .u8 97] 5 (1, 2))) := by
  subst hg
  exact Lib.run_convert_bytes_const W 22 5 #[.int .u8 97] 1 1 Tryd.underlying22 Tryd.underlying5
theorem one_pair (w : World) (ty : TypeId) (p : PH) : InRec recP (w.alloc (.cells #[.slice p.ka p.kn p.kc, .slice p.va p.vn p.vc] ty)) (some ⟨w.heap.size, 0, none⟩) 1 1 (fun i => [p].getD i pZ) := by
  have h : OwnR recP (w.alloc (.cells #[.slice p.ka p.kn p.kc, .slice p.va p.vn p.vc] ty)) 0 ty (.slice (some ⟨w.heap.size, 0, none⟩) 1 1) [p] :=
    ⟨rfl, .inr ⟨w.heap.size, 1, _, rfl, Nat.zero_le _, heap_alloc_new w _, Nat.le_refl _, by simp [maxLen], rfl, rfl⟩⟩
  exact (h.inRec pZ).2

set_option maxRecDepth 100000 in
set_option maxHeartbeats 8000000 in
theorem up7_any (w : World) (hT : TabLies w) : Calls Tryd.prog 6 #[] w (Says w (.bool true)) := by
  have heq : ∀ (W : World) (p q : Int), (binOp .eql 31 (.iface 34 (.int .i64 p)) (.iface 34 (.int .i64 q))).run Tryd.prog W = .ok (.bool (p == q)) W := fun W p q => eql_code p q W
  have hcd1 : codeV 1 = .iface 34 (.int .i64 1) := rfl
  have hc0 : (convert 22 22 (.slice (some ⟨w.heap.size, 0, none⟩) 1 1)).run Tryd.prog (w.alloc (.cells #[.int .u8 97] 5)) = .ok (.slice (some ⟨w.heap.size, 0, none⟩) 1 1) (w.alloc (.cells #[.int .u8 97] 5 (1, 2))) := conv_97 w _ rfl
  have q1 : Below w.heap.size w (w.alloc (.cells #[.int .u8 97] 5 (1, 2))) := (Below.refl _ _).alloc (Nat.le_refl _) _
  have q2 : Below w.heap.size w ((w.alloc (.cells #[.int .u8 97] 5 (1, 2))).alloc (.cells #[.slice (some ⟨w.heap.size, 0, none⟩) 1 1, .slice none 0 0] 51)) := q1.alloc (by simp) _
  have hb0 : InBytes (w.alloc (.cells #[.int .u8 97] 5 (1, 2))) (some ⟨w.heap.size, 0, none⟩) 1 1 [97] := in_one (heap_alloc_new w (.cells #[.int .u8 97] 5 (1, 2))) (by omega) (by omega)
  have hr0 := one_pair (w.alloc (.cells #[.int .u8 97] 5 (1, 2))) 51 (⟨some ⟨w.heap.size, 0, none⟩, 1, 1, none, 0, 0⟩ : PH)
  rw [alloc_size] at hr0
  have HG : Hid (InRec recP ((w.alloc (.cells #[.int .u8 97] 5 (1, 2))).alloc (.cells #[.slice (some ⟨w.heap.size, 0, none⟩) 1 1, .slice none 0 0] 51)) (some ⟨w.heap.size + 1, 0, none⟩) 1 1 (fun i => [(⟨some ⟨w.heap.size, 0, none⟩, 1, 1, none, 0, 0⟩ : PH)].getD i pZ) ∧ PairsD ((w.alloc (.cells #[.int .u8 97] 5 (1, 2))).alloc (.cells #[.slice (some ⟨w.heap.size, 0, none⟩) 1 1, .slice none 0 0] 51)) (fun i => [(⟨some ⟨w.heap.size, 0, none⟩, 1, 1, none, 0, 0⟩ : PH)].getD i pZ) [([97], [])] ∧ Below w.heap.size w ((w.alloc (.cells #[.int .u8 97] 5 (1, 2))).alloc (.cells #[.slice (some ⟨w.heap.size, 0, none⟩) 1 1, .slice none 0 0] 51))) := Lib.hid ⟨hr0, fun i hi => by
    have e : i = 0 := by simp at hi; omega
    subst e
    exact ⟨hb0.below ((Below.refl _ _).alloc (Nat.le_refl _) _), none_in _⟩, q2⟩
  have HT := Lib.hid hT
  clear q1 q2 hb0 hr0 hT
  go_enter Tryd.func6, Tryd.ntmps6
  go_upto_region 2 with (first
    | (go_at_call 13
       refine (refGrown_is [([97], [])] (some ⟨w.heap.size + 1, 0, none⟩) 1 1 (fun i => [(⟨some ⟨w.heap.size, 0, none⟩, 1, 1, none, 0, 0⟩ : PH)].getD i pZ) _ rfl HG.out.1 HG.out.2.1).mono ?_
       unfold GrowsTo
       rw [upN_eq]
       rintro _ w2 ⟨-, -, h2, rfl, hi2, hb2⟩
       have HI2 := Lib.hid hi2
       have HB2 : Hid (Below w.heap.size w w2) := Lib.hid (HG.out.2.2.trans (hb2.mono HG.out.2.2.size))
       clear hi2 hb2)
    | (refine wpList_store_box rfl 25 (.tmp 1) (.tmp 10) rfl w2.heap.size hZ h2 rfl rfl 25 (Box.new w2 25 hZ) infoTree5 ?_
       intro w2b hbx hg
       have qq : Below w2.heap.size w2 w2b := ((Below.refl w2.heap.size w2).alloc (Nat.le_refl _) _).grown hg (by simp) (fun j hj => by injection hj; omega)
       have HX3 : Hid (Box w2b 25 w2.heap.size h2 ∧ InTree w2b h2 upN.tr ∧ Below w.heap.size w w2b) := Lib.hid ⟨hbx, HI2.out.lower qq, HB2.out.trans (qq.mono HB2.out.size)⟩
       clear hbx hg qq))
  generalize w2.heap.size = g1 at *
  obtain ⟨x0, x1, x2, x3, x4⟩ := HX3.out.1.cells
  clear HG HI2 HB2 hc0
  go_upto_region 3 with (first
    | (go_at_call 8
       refine (prove_ok 1 (by omega) (by omega) upN h2 ⟨none, 0, 0, none, 0, 0, true⟩ [] [] _ HX3.out.2.1 ⟨none_in _, none_in _⟩ upN_is upN_count (HT.out.below HX3.out.2.2 (Nat.le_refl _))).mono ?_
       unfold ProveOk
       rw [upN_show]
       rintro _ w4 ⟨h4, rfl, hf4, hb4⟩
       have HF4 : Hid (InTree w4 h4 (.mk 1 [97] [] [] [.mk 0 [] [] [] [], .mk 0 [] [] [] []])) := Lib.hid (hf4.self (Nat.le_refl _))
       have HX4 : Hid (Box w4 25 g1 h2 ∧ InTree w4 h2 upN.tr ∧ Below w.heap.size w w4) := Lib.hid ⟨HX3.out.1.below hb4 HX3.out.1.lt, HX3.out.2.1.lower hb4, HX3.out.2.2.trans (hb4.mono HX3.out.2.2.size)⟩
       clear hf4 hb4 x0 x1 x2 x3 x4)
    | (refine wpList_store_box rfl 25 (.tmp 2) (.tmp 15) rfl w4.heap.size hZ h4 rfl rfl 25 (Box.new w4 25 hZ) infoTree5 ?_
       intro w4b hbx hg
       have qq : Below w4.heap.size w4 w4b := ((Below.refl w4.heap.size w4).alloc (Nat.le_refl _) _).grown hg (by simp) (fun j hj => by injection hj; omega)
       have HX5 : Hid (Box w4b 25 g1 h2 ∧ InTree w4b h2 upN.tr ∧ Box w4b 25 w4.heap.size h4 ∧ InTree w4b h4 (.mk 1 [97] [] [] [.mk 0 [] [] [] [], .mk 0 [] [] [] []]) ∧ Below w.heap.size w w4b) := Lib.hid ⟨HX4.out.1.below qq HX4.out.1.lt, HX4.out.2.1.lower qq, hbx, HF4.out.lower qq, HX4.out.2.2.trans (qq.mono HX4.out.2.2.size)⟩
       clear hbx hg qq))
  generalize w4.heap.size = g2 at *
  obtain ⟨x0, x1, x2, x3, x4⟩ := HX5.out.1.cells
  go_upto_region 4 with (first
    | (go_at_call 8
       refine (prove_arg 0 upN.tr h2 ⟨none, 0, 0, none, 0, 0, false⟩ [] [] _ HX5.out.2.1 ⟨none_in _, none_in _⟩ (by omega) (by omega) (by omega)).mono ?_
       rintro _ w6 ⟨h6, rfl, -, hb6⟩
       rw [hcd1]
       have HX6 : Hid (Box w6 25 g2 h4 ∧ InTree w6 h4 (.mk 1 [97] [] [] [.mk 0 [] [] [] [], .mk 0 [] [] [] []]) ∧ Below w.heap.size w w6) := Lib.hid ⟨HX5.out.2.2.1.below hb6 HX5.out.2.2.1.lt, HX5.out.2.2.2.1.lower hb6, HX5.out.2.2.2.2.trans (hb6.mono HX5.out.2.2.2.2.size)⟩
       clear hb6 x0 x1 x2 x3 x4)
    | (refine wpList_store_box rfl 25 (.tmp 4) (.tmp 21) rfl w6.heap.size hZ h6 rfl rfl 25 (Box.new w6 25 hZ) infoTree5 ?_
       intro w6b hbx hg
       have qq : Below w6.heap.size w6 w6b := ((Below.refl w6.heap.size w6).alloc (Nat.le_refl _) _).grown hg (by simp) (fun j hj => by injection hj; omega)
       have HX7 : Hid (Box w6b 25 g2 h4 ∧ InTree w6b h4 (.mk 1 [97] [] [] [.mk 0 [] [] [] [], .mk 0 [] [] [] []]) ∧ Below w.heap.size w w6b) := Lib.hid ⟨HX6.out.1.below qq HX6.out.1.lt, HX6.out.2.1.lower qq, HX6.out.2.2.trans (qq.mono HX6.out.2.2.size)⟩
       clear hbx hg qq))
  obtain ⟨x0, x1, x2, x3, x4⟩ := HX7.out.1.cells
  obtain ⟨H, hp⟩ := HX7.out.2.1.parts
  have hk : (h4.k == 1) = true := by rw [hp.hk]; rfl
  have hkey : InBytes w6b h4.ka h4.kn h4.kc [97] := hp.key
  have cv : (convert 22 9 (.slice h4.ka h4.kn h4.kc)).run Tryd.prog w6b = .ok (.string ⟨#[97]⟩) w6b := conv_key hkey
  clear hp hkey
  go_wp2_with fail
  go_ret
  exact ⟨rfl, HX7.out.2.2⟩
end Go.Proofs.YtkfjhegehhahcaaDoor

/- The contract of the document's comparison of trees: of one and the same tree. -/
namespace Go.Proofs.YtkfjhegehhahcaaDoor
open Go.RowKit
set_option linter.unusedVariables false

theorem conv_of' {w : World} {a : Option Addr} {n cap : Nat} {bs : List Int} (h : InBytes w a n cap bs) :
    (convert 22 9 (.slice a n cap)).run Tryd.prog w = .ok (.string (strOfNums bs)) w :=
  conv_in (P := Tryd.prog) h 22 5 9 Tryd.underlying22 Tryd.underlying5 Tryd.underlying9
/-- Two boxes, side by side. -/
structure Two (w W : World) (h h' : TH) : Prop where
  bx : Box W 25 w.heap.size h
  by' : Box W 25 (w.heap.size + 1) h'
  b : Below w.heap.size w W
theorem Two.below {w W W' : World} {h h' : TH} (d : Two w W h h') (hb : Below W.heap.size W W') : Two w W' h h' := ⟨d.bx.below hb d.bx.lt, d.by'.below hb d.by'.lt, d.b.trans (hb.mono d.b.size)⟩
theorem Two.drew {w W : World} {h h' : TH} (d : Two w W h h') : Two w W.drew h h' := d.below (Below.refl _ _).drew
theorem Two.new (w : World) (h h' : TH) : Two w ((w.alloc (.cells #[.int .i64 h.k, .slice h.ka h.kn h.kc, .slice h.va h.vn h.vc, .slice h.da h.dn h.dc, .slice h.ta h.tn h.tc] 25)).alloc (.cells #[.int .i64 h'.k, .slice h'.ka h'.kn h'.kc, .slice h'.va h'.vn h'.vc, .slice h'.da h'.dn h'.dc, .slice h'.ta h'.tn h'.tc] 25)) h h' :=
  ⟨(Box.new w _ h).below ((Below.refl _ _).alloc (Nat.le_refl _) _) (by simp), by have := Box.new (w.alloc (.cells #[.int .i64 h.k, .slice h.ka h.kn h.kc, .slice h.va h.vn h.vc, .slice h.da h.dn h.dc, .slice h.ta h.tn h.tc] 25)) 25 h'; simpa using this, ((Below.refl w.heap.size w).alloc (Nat.le_refl _) _).alloc (by simp) _⟩

set_option maxRecDepth 100000 in
set_option maxHeartbeats 4000000 in
theorem refSame_any : ∀ (t : Tr) (h h' : TH) (w : World), InTree w h t → InTree w h' t →
    Calls Tryd.prog 9 #[h.v, h'.v] w (Says w (.bool true)) := by
  intro t
  induction t using Tr.ind with
  | h t ih =>
  intro h h' w ht ht'
  unfold TH.v
  obtain ⟨H, hp⟩ := ht.parts
  obtain ⟨H', hp'⟩ := ht'.parts
  have HP := Lib.hid (And.intro hp hp')
  have htl := hp.len
  have htl' := hp'.len
  have htm := Nat.le_trans hp.sl.le hp.sl.max
  simp only [maxLen] at htm
  have k1 : (h.k != h'.k) = false := by rw [hp.hk, hp'.hk]; simp
  have k2 : ((h.tn : Int) != (h'.tn : Int)) = false := by rw [← htl, ← htl']; simp
  have IH := Lib.hid ih
  clear hp hp' ht ht' ih
  have HD := Lib.hid (Two.new w h h')
  go_enter Tryd.func9, Tryd.ntmps9
  go_upto_region 1 with fail
  generalize (w.alloc (.cells #[.int .i64 h.k, .slice h.ka h.kn h.kc, .slice h.va h.vn h.vc, .slice h.da h.dn h.dc, .slice h.ta h.tn h.tc] 25)).alloc (.cells #[.int .i64 h'.k, .slice h'.ka h'.kn h'.kc, .slice h'.va h'.vn h'.vc, .slice h'.da h'.dn h'.dc, .slice h'.ta h'.tn h'.tc] 25) = w0 at *
  obtain ⟨x0, x1, x2, x3, x4⟩ := HD.out.bx.cells
  obtain ⟨y0, y1, y2, y3, y4⟩ := HD.out.by'.cells
  have c1 := conv_of' (HP.out.1.below HD.out.b).key
  have c2 := conv_of' (HP.out.1.below HD.out.b).val
  have c3 := conv_of' (HP.out.1.below HD.out.b).dig
  have d1 := conv_of' (HP.out.2.below HD.out.b).key
  have d2 := conv_of' (HP.out.2.below HD.out.b).val
  have d3 := conv_of' (HP.out.2.below HD.out.b).dig
  have htl2 : h'.tn = h.tn := by omega
  have HL := Lib.hid htl2
  clear htl2 htl'
  go_wp2_with fail
  clear x0 x1 x2 x3 x4 y0 y1 y2 y3 y4 c1 c2 c3 d1 d2 d3
  go_loopw [5] (fun s5 wx => ∃ i : Nat, i ≤ h.tn ∧ s5 = .int .i64 i ∧ Two w wx h h') (fun s5 _ => h.tn - (intOf s5).toNat)
  case atStart => exact ⟨0, by omega, rfl, HD.out⟩
  case round =>
    clear HD
    obtain ⟨i, hi, rfl, hd⟩ := hrel
    have HD := Lib.hid hd
    have x4 := hd.bx.cells.2.2.2.2
    clear hd
    by_cases hlt : i < h.tn
    · have q1 : (i : Int) < (h.tn : Int) := by omega
      have hlt' : i < h'.tn := by rw [HL.out]; exact hlt
      have q2 : (i : Int) < (h'.tn : Int) := by omega
      have him : i < t.kids.length := by omega
      obtain ⟨g, off, hta, _, _⟩ := (HP.out.1.below HD.out.b).place (by omega)
      obtain ⟨g', off', hta', _, _⟩ := (HP.out.2.below HD.out.b).place (by omega)
      have HTA := Lib.hid (And.intro hta hta')
      clear hta hta'
      go_upto_region 6 with fail
      clear x4
      refine wp_region_held_drew (S := (fun W => W.cell? ⟨w.heap.size, 4, none⟩ = some (.slice (some ⟨g, off, none⟩) h.tn h.tc) ∧ W.cell? ⟨(w.heap.size + 1), 4, none⟩ = some (.slice (some ⟨g', off', none⟩) h'.tn h'.tc) ∧ (W.cell? ⟨g, off + i * 5, none⟩ = some (.int .i64 (H i).k) ∧ W.cell? ⟨g, off + i * 5 + 1, none⟩ = some (.slice (H i).ka (H i).kn (H i).kc) ∧ W.cell? ⟨g, off + i * 5 + 2, none⟩ = some (.slice (H i).va (H i).vn (H i).vc) ∧ W.cell? ⟨g, off + i * 5 + 3, none⟩ = some (.slice (H i).da (H i).dn (H i).dc) ∧ W.cell? ⟨g, off + i * 5 + 4, none⟩ = some (.slice (H i).ta (H i).tn (H i).tc)) ∧ W.cell? ⟨g', off' + i * 5, none⟩ = some (.int .i64 (H' i).k) ∧ W.cell? ⟨g', off' + i * 5 + 1, none⟩ = some (.slice (H' i).ka (H' i).kn (H' i).kc) ∧ W.cell? ⟨g', off' + i * 5 + 2, none⟩ = some (.slice (H' i).va (H' i).vn (H' i).vc) ∧ W.cell? ⟨g', off' + i * 5 + 3, none⟩ = some (.slice (H' i).da (H' i).dn (H' i).dc) ∧ W.cell? ⟨g', off' + i * 5 + 4, none⟩ = some (.slice (H' i).ta (H' i).tn (H' i).tc))) (by kernel_rfl) ⟨(HD.out.drew.bx.cells.2.2.2.2).trans (by rw [HTA.out.1]), (HD.out.drew.by'.cells.2.2.2.2).trans (by rw [HTA.out.2]), (HP.out.1.below HD.out.drew.b).cellsAt HTA.out.1 i hlt, (HP.out.2.below HD.out.drew.b).cellsAt HTA.out.2 i hlt'⟩ (fun hHeld => ?_)
      refine take_w (i := 0) (oi := ?oZ1) (v := ?vZ1) ?hiZ1 (by kernel_rfl) (by kernel_rfl) (by kernel_rfl) ?hQZ1 ?hwZ1 ?hyZ1 (by assumption) ?restZ1
      case hiZ1 => (simp only [List.getElem?_toArray, List.getElem?_cons_zero] <;> rfl)
      case hQZ1 => exact (fun _ _ _ h => h)
      case hwZ1 => rfl
      case hyZ1 => (intro w hSw; (try dsimp only at hSw); go_simp; try with_reducible rfl)
      (try simp only [Act.put, List.setIfInBounds_toArray, List.set_cons_zero, List.set_cons_succ])
      refine take_w (i := 1) (oi := ?oZ2) (v := ?vZ2) ?hiZ2 (by kernel_rfl) (by kernel_rfl) (by kernel_rfl) ?hQZ2 ?hwZ2 ?hyZ2 (by assumption) ?restZ2
      case hiZ2 => (simp only [List.getElem?_toArray, List.getElem?_cons_succ, List.getElem?_cons_zero] <;> rfl)
      case hQZ2 => exact (fun _ _ _ h => h)
      case hwZ2 => rfl
      case hyZ2 => (intro w hSw; (try dsimp only at hSw); go_simp; try with_reducible rfl)
      (try simp only [Act.put, List.setIfInBounds_toArray, List.set_cons_zero, List.set_cons_succ])
      refine take_w (i := 2) (oi := ?oZ3) (v := ?vZ3) ?hiZ3 (by kernel_rfl) (by kernel_rfl) (by kernel_rfl) ?hQZ3 ?hwZ3 ?hyZ3 (by assumption) ?restZ3
      case hiZ3 => (simp only [List.getElem?_toArray, List.getElem?_cons_succ, List.getElem?_cons_zero] <;> rfl)
      case hQZ3 => exact (fun _ _ _ h => h)
      case hwZ3 => rfl
      case hyZ3 => (intro w hSw; (try dsimp only at hSw); go_simp; try with_reducible rfl)
      (try simp only [Act.put, List.setIfInBounds_toArray, List.set_cons_zero, List.set_cons_succ])
      refine take_w (i := 3) (oi := ?oZ4) (v := ?vZ4) ?hiZ4 (by kernel_rfl) (by kernel_rfl) (by kernel_rfl) ?hQZ4 ?hwZ4 ?hyZ4 (by assumption) ?restZ4
      case hiZ4 => (simp only [List.getElem?_toArray, List.getElem?_cons_succ, List.getElem?_cons_zero] <;> rfl)
      case hQZ4 => exact (fun _ _ _ h => h)
      case hwZ4 => rfl
      case hyZ4 => (intro w hSw; (try dsimp only at hSw); go_simp; try with_reducible rfl)
      (try simp only [Act.put, List.setIfInBounds_toArray, List.set_cons_zero, List.set_cons_succ])
      refine take_w (i := 4) (oi := ?oZ5) (v := ?vZ5) ?hiZ5 (by kernel_rfl) (by kernel_rfl) (by kernel_rfl) ?hQZ5 ?hwZ5 ?hyZ5 (by assumption) ?restZ5
      case hiZ5 => (simp only [List.getElem?_toArray, List.getElem?_cons_succ, List.getElem?_cons_zero] <;> rfl)
      case hQZ5 => exact (fun _ _ _ h => h)
      case hwZ5 => rfl
      case hyZ5 => (intro w hSw; (try dsimp only at hSw); go_simp; try with_reducible rfl)
      (try simp only [Act.put, List.setIfInBounds_toArray, List.set_cons_zero, List.set_cons_succ])
      refine take_w (i := 5) (oi := ?oZ6) (v := ?vZ6) ?hiZ6 (by kernel_rfl) (by kernel_rfl) (by kernel_rfl) ?hQZ6 ?hwZ6 ?hyZ6 (by assumption) ?restZ6
      case hiZ6 => (simp only [List.getElem?_toArray, List.getElem?_cons_succ, List.getElem?_cons_zero] <;> rfl)
      case hQZ6 => exact (fun _ _ _ h => h)
      case hwZ6 => rfl
      case hyZ6 => (intro w hSw; (try dsimp only at hSw); go_simp; try with_reducible rfl)
      (try simp only [Act.put, List.setIfInBounds_toArray, List.set_cons_zero, List.set_cons_succ])
      refine take_w (i := 6) (oi := ?oZ7) (v := ?vZ7) ?hiZ7 (by kernel_rfl) (by kernel_rfl) (by kernel_rfl) ?hQZ7 ?hwZ7 ?hyZ7 (by assumption) ?restZ7
      case hiZ7 => (simp only [List.getElem?_toArray, List.getElem?_cons_succ, List.getElem?_cons_zero] <;> rfl)
      case hQZ7 => exact (fun _ _ _ h => h)
      case hwZ7 => rfl
      case hyZ7 => (intro w hSw; (try dsimp only at hSw); go_simp; try with_reducible rfl)
      (try simp only [Act.put, List.setIfInBounds_toArray, List.set_cons_zero, List.set_cons_succ])
      refine take_w (i := 7) (oi := ?oZ8) (v := ?vZ8) ?hiZ8 (by kernel_rfl) (by kernel_rfl) (by kernel_rfl) ?hQZ8 ?hwZ8 ?hyZ8 (by assumption) ?restZ8
      case hiZ8 => (simp only [List.getElem?_toArray, List.getElem?_cons_succ, List.getElem?_cons_zero] <;> rfl)
      case hQZ8 => exact (fun _ _ _ h => h)
      case hwZ8 => rfl
      case hyZ8 => (intro w hSw; (try dsimp only at hSw); go_simp; try with_reducible rfl)
      (try simp only [Act.put, List.setIfInBounds_toArray, List.set_cons_zero, List.set_cons_succ])
      refine take_w (i := 8) (oi := ?oZ9) (v := ?vZ9) ?hiZ9 (by kernel_rfl) (by kernel_rfl) (by kernel_rfl) ?hQZ9 ?hwZ9 ?hyZ9 (by assumption) ?restZ9
      case hiZ9 => (simp only [List.getElem?_toArray, List.getElem?_cons_succ, List.getElem?_cons_zero] <;> rfl)
      case hQZ9 => exact (fun _ _ _ h => h)
      case hwZ9 => rfl
      case hyZ9 => (intro w hSw; (try dsimp only at hSw); go_simp; try with_reducible rfl)
      (try simp only [Act.put, List.setIfInBounds_toArray, List.set_cons_zero, List.set_cons_succ])
      refine take_w (i := 9) (oi := ?oZ10) (v := ?vZ10) ?hiZ10 (by kernel_rfl) (by kernel_rfl) (by kernel_rfl) ?hQZ10 ?hwZ10 ?hyZ10 (by assumption) ?restZ10
      case hiZ10 => (simp only [List.getElem?_toArray, List.getElem?_cons_succ, List.getElem?_cons_zero] <;> rfl)
      case hQZ10 => exact (fun _ _ _ h => h)
      case hwZ10 => rfl
      case hyZ10 => (intro w hSw; (try dsimp only at hSw); go_simp; try with_reducible rfl)
      (try simp only [Act.put, List.setIfInBounds_toArray, List.set_cons_zero, List.set_cons_succ])
      refine wpAnyH_ready (rs := [10]) (by kernel_rfl) (by simp) ?_
      refine AllReadyH.cons (o := ?oZ11) ?hiZ11 (fun K hK => ?stZ11) AllReadyH.nil
      case hiZ11 => (simp only [List.getElem?_toArray, List.getElem?_cons_succ, List.getElem?_cons_zero] <;> rfl)
      go_simp
      go_at_call 9
      refine (IH.out _ (List.getElem_mem him) (H i) (H' i) _ ((HP.out.1.below HD.out.drew.b).kids i him) ((HP.out.2.below HD.out.drew.b).kids i him)).mono ?_
      rintro _ w1 ⟨rfl, hb1⟩
      have HD1 := Lib.hid (HD.out.drew.below hb1)
      clear hb1
      go_simp
      refine hK.out _ _ ?_ (fun hHeld => ?_)
      · (first | exact ⟨(HD1.out.bx.cells.2.2.2.2).trans (by rw [HTA.out.1]), (HD1.out.by'.cells.2.2.2.2).trans (by rw [HTA.out.2]), (HP.out.1.below HD1.out.b).cellsAt HTA.out.1 i hlt, (HP.out.2.below HD1.out.b).cellsAt HTA.out.2 i hlt'⟩ | exact ⟨(HD.out.drew.bx.cells.2.2.2.2).trans (by rw [HTA.out.1]), (HD.out.drew.by'.cells.2.2.2.2).trans (by rw [HTA.out.2]), (HP.out.1.below HD.out.drew.b).cellsAt HTA.out.1 i hlt, (HP.out.2.below HD.out.drew.b).cellsAt HTA.out.2 i hlt'⟩)
      clear hK K
      (try simp only [Act.put, List.setIfInBounds_toArray, List.set_cons_zero, List.set_cons_succ])
      refine take_w (i := 11) (oi := ?oZ12) (v := ?vZ12) ?hiZ12 (by kernel_rfl) (by kernel_rfl) (by kernel_rfl) ?hQZ12 ?hwZ12 ?hyZ12 (by assumption) ?restZ12
      case hiZ12 => (simp only [List.getElem?_toArray, List.getElem?_cons_succ, List.getElem?_cons_zero] <;> rfl)
      case hQZ12 => exact (fun _ _ _ h => h)
      case hwZ12 => rfl
      case hyZ12 => (intro w hSw; (try dsimp only at hSw); go_simp; try with_reducible rfl)
      (try simp only [Act.put, List.setIfInBounds_toArray, List.set_cons_zero, List.set_cons_succ])
      refine wpAnyH_done (by kernel_rfl) ?_ _
      
      clear hHeld
      go_wp2_with fail
      exact ⟨⟨i + 1, by omega, by go_num, HD1.out⟩, by simp [intOf]; omega⟩
    · obtain rfl : i = h.tn := by omega
      have q1 : ¬ (h.tn : Int) < (h.tn : Int) := by omega
      go_wp2_with fail
      go_ret
      exact ⟨rfl, HD.out.b⟩
end Go.Proofs.YtkfjhegehhahcaaDoor

/- The contract of the document's In of spans. -/
namespace Go.Proofs.YtkfjhegehhahcaaDoor
open Go.RowKit
set_option linter.unusedVariables false

set_option maxRecDepth 100000 in
set_option maxHeartbeats 4000000 in
theorem refIn_any (h : DH) (f t key : List Int) (ka : Option Addr) (kn kc : Nat) (w : World) (hs : SpanIn w h f t) (hk : InBytes w ka kn kc key) : Calls Tryd.prog 25 #[h.v, .slice ka kn kc] w (Says w (.bool (inS f t h.out key))) := by
  unfold DH.v
  have q0 : Below w.heap.size w (w.alloc (.cells #[.slice h.ka h.kn h.kc, .slice h.va h.vn h.vc, .bool h.out] 27)) := (Below.refl _ _).alloc (Nat.le_refl _) _
  obtain ⟨x0, x1, x2⟩ := (DH.box w 27 h).three
  have cv0 := conv_key (hs.below q0).f
  have cv1 := conv_key (hs.below q0).t
  have cv2 := conv_key (hk.below q0)
  have hl0 : Op.bytesLess (strOfNums f).toList (strOfNums key).toList = ltL f key := str_lt hs.f.bytes hk.bytes
  have he0 : ((strOfNums f).toList == (strOfNums key).toList) = (f == key) := str_eq hs.f.bytes hk.bytes
  have hl1 : Op.bytesLess (strOfNums key).toList (strOfNums t).toList = ltL key t := str_lt hk.bytes hs.t.bytes
  have hle := le_not f key
  have HB := Lib.hid q0
  clear q0 hs hk
  have HE : Hid (inS f t h.out key = (!ltL key f && (h.out || ltL key t))) := Lib.hid rfl
  go_enter Tryd.func25, Tryd.ntmps25
  go_upto_region 1 with fail
  generalize (w.alloc (.cells #[.slice h.ka h.kn h.kc, .slice h.va h.vn h.vc, .bool h.out] 27)) = w0 at *
  generalize hio : inS f t h.out key = io at *
  clear hio
  generalize h.out = oo at *
  rw [← he0, ← hl0] at hle
  clear he0 hl0
  cases c0 : ltL key f with
  | true =>
    have HC0 := Lib.hid c0
    rw [c0, Bool.not_true] at hle
    clear c0
    go_wp2_with fail
    go_ret
    exact ⟨by rw [HE.out, HC0.out]; rfl, HB.out⟩
  | false =>
    have HC0 := Lib.hid c0
    rw [c0, Bool.not_false] at hle
    clear c0
    cases oo with
    | true =>
      go_wp2_with fail
      go_ret
      exact ⟨by rw [HE.out, HC0.out]; rfl, HB.out⟩
    | false =>
      go_wp2_with fail
      go_ret
      exact ⟨by rw [HE.out, HC0.out]; rfl, HB.out⟩
end Go.Proofs.YtkfjhegehhahcaaDoor

/- Rows of trees: the cells of the i-th; their heads. No program is named here. -/
namespace Go.Proofs.YtkfjhegehhahcaaDoor
open Go.RowKit
set_option linter.unusedVariables false

/-- The cells of the i-th tree of a row. -/
theorem OwnT.at {W : World} {base : Nat} {ty : TypeId} {a : Option Addr} {n c : Nat} {hs : List TH} (h : OwnT W base ty (.slice a n c) hs) (hl : hs.length = n) (i : Nat) (hi : i < hs.length) :
    ∃ g, a = some ⟨g, 0, none⟩ ∧ W.cell? ⟨g, i * 5, none⟩ = some (.int .i64 (hs[i]).k) ∧ W.cell? ⟨g, i * 5 + 1, none⟩ = some (.slice (hs[i]).ka (hs[i]).kn (hs[i]).kc) ∧ W.cell? ⟨g, i * 5 + 2, none⟩ = some (.slice (hs[i]).va (hs[i]).vn (hs[i]).vc) ∧ W.cell? ⟨g, i * 5 + 3, none⟩ = some (.slice (hs[i]).da (hs[i]).dn (hs[i]).dc) ∧ W.cell? ⟨g, i * 5 + 4, none⟩ = some (.slice (hs[i]).ta (hs[i]).tn (hs[i]).tc) := by
  rcases h.form with ⟨_, h2⟩ | ⟨g, c', h1, _, _, _, _, hc⟩
  · rw [h2] at hi
    simp at hi
  · injection h1 with h1
    refine ⟨g, h1, ?_, ?_, ?_, ?_, ?_⟩
    · exact hc _ _ (cellsT_get hs i 0 hi (by omega))
    · exact hc _ _ (cellsT_get hs i 1 hi (by omega))
    · exact hc _ _ (cellsT_get hs i 2 hi (by omega))
    · exact hc _ _ (cellsT_get hs i 3 hi (by omega))
    · exact hc _ _ (cellsT_get hs i 4 hi (by omega))
theorem Heads.lower {w w' : World} {hs : List TH} {ts : List Tr} (h : Heads w hs ts) (hb : Below w.heap.size w w') : Heads w' hs ts := ⟨h.1, fun i h1 h2 => (h.2 i h1 h2).lower hb⟩
end Go.Proofs.YtkfjhegehhahcaaDoor

/- The row of a tree's nodes, and the i-th of them. No program is named here. -/
namespace Go.Proofs.YtkfjhegehhahcaaDoor
open Go.RowKit
set_option linter.unusedVariables false

/-- The i-th node of a full tree. -/
theorem AT.node_at (a : AT) (i : Nat) (hi : i < (listT a.tr).length) : ∃ l k v r, (listT a.tr)[i] = (AT.node l k v r).tr ∧ (listT a.tr).getD i (.mk 0 [] [] [] []) = (AT.node l k v r).tr ∧ AT.node l k v r ∈ a.nodes ∧ a.pairs[i]? = some (k, v) := by
  have e := AT.tr_list a
  have hi2 : i < a.nodes.length := by rw [e] at hi; simpa using hi
  cases hn : a.nodes[i] with
  | nil => exact absurd (AT.nodes_node a _ (List.getElem_mem hi2)) (by rw [hn]; simp [AT.isNil])
  | node l k v r =>
    have h1 : (listT a.tr)[i] = (AT.node l k v r).tr := by
      simp only [e, List.getElem_map, hn]
    refine ⟨l, k, v, r, h1, ?_, by rw [← hn]; exact List.getElem_mem hi2, ?_⟩
    · rw [List.getD, List.getElem?_eq_getElem hi, Option.getD_some, h1]
    · rw [← AT.nodes_kv, List.getElem?_map, List.getElem?_eq_getElem hi2, hn]
      rfl
theorem check_zeroR {t : Tr} (h : checkT t = 0) : formedT t = true ∧ deepT t 64 = false := by
  unfold checkT at h
  split at h
  · cases h
  · split at h
    · exact ⟨by assumption, by rename_i q _; simpa using q⟩
    · cases h
/-- A row of trees, and the memory that was there. -/
structure LS (w W : World) (a : Option Addr) (n c : Nat) (hs : List TH) (ts : List Tr) : Prop where
  o : OwnT W w.heap.size 25 (.slice a n c) hs
  hh : Heads W hs ts
  b : Below w.heap.size w W
theorem LS.below {w W W' : World} {a : Option Addr} {n c : Nat} {hs : List TH} {ts : List Tr} (x : LS w W a n c hs ts) (hb : Below W.heap.size W W') : LS w W' a n c hs ts :=
  ⟨x.o.keep hb, x.hh.lower hb, x.b.trans (hb.mono x.b.size)⟩
theorem LS.drew {w W : World} {a : Option Addr} {n c : Nat} {hs : List TH} {ts : List Tr} (x : LS w W a n c hs ts) : LS w W.drew a n c hs ts := x.below (Below.refl _ _).drew
theorem LS.cells {w W : World} {g n c : Nat} {hs : List TH} {ts : List Tr} (x : LS w W (some ⟨g, 0, none⟩) n c hs ts) (hl : hs.length = n) (i : Nat) (hi : i < hs.length) : W.cell? ⟨g, i * 5, none⟩ = some (.int .i64 (hs[i]).k) ∧ W.cell? ⟨g, i * 5 + 1, none⟩ = some (.slice (hs[i]).ka (hs[i]).kn (hs[i]).kc) ∧ W.cell? ⟨g, i * 5 + 2, none⟩ = some (.slice (hs[i]).va (hs[i]).vn (hs[i]).vc) ∧ W.cell? ⟨g, i * 5 + 3, none⟩ = some (.slice (hs[i]).da (hs[i]).dn (hs[i]).dc) ∧ W.cell? ⟨g, i * 5 + 4, none⟩ = some (.slice (hs[i]).ta (hs[i]).tn (hs[i]).tc) := by
  obtain ⟨g', e, h⟩ := x.o.at hl i hi
  injection e with e
  injection e with e
  subst e
  exact h
/-- The row, and the parts of one of its trees. -/
structure LN (w W : World) (a : Option Addr) (n c : Nat) (hs : List TH) (ts : List Tr) (hh : TH) (x : AT) (H : Nat → TH) : Prop where
  s : LS w W a n c hs ts
  p : TreeAt W hh x.tr H
theorem LN.below {w W W' : World} {a : Option Addr} {n c : Nat} {hs : List TH} {ts : List Tr} {hh : TH} {x : AT} {H : Nat → TH} (d : LN w W a n c hs ts hh x H) (hb : Below W.heap.size W W') : LN w W' a n c hs ts hh x H := ⟨d.s.below hb, d.p.below hb⟩
theorem LN.drew {w W : World} {a : Option Addr} {n c : Nat} {hs : List TH} {ts : List Tr} {hh : TH} {x : AT} {H : Nat → TH} (d : LN w W a n c hs ts hh x H) : LN w W.drew a n c hs ts hh x H := d.below (Below.refl _ _).drew
theorem LS.key {w W : World} {a : Option Addr} {n c : Nat} {hs : List TH} {ts : List Tr} (x : LS w W a n c hs ts) (i : Nat) (h1 : i < hs.length) (h2 : i < ts.length) {l : AT} {k v : List Int} {r : AT} (e : ts[i] = (AT.node l k v r).tr) : InBytes W (hs[i]).ka (hs[i]).kn (hs[i]).kc k ∧ InBytes W (hs[i]).va (hs[i]).vn (hs[i]).vc v := by
  have q := x.hh.2 i h1 h2
  rw [e] at q
  obtain ⟨H, hp⟩ := q.parts
  exact ⟨hp.key, hp.val⟩
end Go.Proofs.YtkfjhegehhahcaaDoor

/- The contract of the document's Range of balanced trees. -/
namespace Go.Proofs.YtkfjhegehhahcaaDoor
open Go.RowKit
set_option linter.unusedVariables false

theorem infoPair : (Tryd.prog.info? 51).map (fun i => (i.zero, i.size, i.bytes)) = some (some (.agg #[.slice none 0 0, .slice none 0 0]), 2, 48) := by kernel_rfl
/-- The row of trees, the span's box, and the row of pairs that grows from block b3 on. -/
structure RG (w W : World) (sp : DH) (b3 : Nat) (a : Option Addr) (n c : Nat) (hs : List TH) (ts : List Tr) (rv : Value) (rs : List PH) : Prop where
  b : Below w.heap.size w W
  o : OwnT W w.heap.size 25 (.slice a n c) hs
  hw : Heads w hs ts
  box : RBox recD W 27 (w.heap.size + 1) sp
  row : OwnR recP W b3 51 rv rs
  rb : b3 ≤ W.heap.size
  wb : w.heap.size + 2 ≤ b3
  lb : ∀ g, (Value.slice a n c).ownBlock = some g → g < b3
section
variable {w W W' : World} {sp : DH} {b3 : Nat} {a : Option Addr} {n c : Nat} {hs : List TH} {ts : List Tr} {rv rv' : Value} {rs : List PH} {p : PH}
theorem RG.ls (x : RG w W sp b3 a n c hs ts rv rs) : LS w W a n c hs ts := ⟨x.o, x.hw.lower x.b, x.b⟩
theorem RG.below (x : RG w W sp b3 a n c hs ts rv rs) (hb : Below W.heap.size W W') : RG w W' sp b3 a n c hs ts rv rs :=
  ⟨x.b.trans (hb.mono x.b.size), x.o.keep hb, x.hw, x.box.below hb x.box.lt, x.row.keep hb, Nat.le_trans x.rb hb.size, x.wb, x.lb⟩
theorem RG.drew (x : RG w W sp b3 a n c hs ts rv rs) : RG w W.drew sp b3 a n c hs ts rv rs := x.below (Below.refl _ _).drew
theorem RG.app (x : RG w W sp b3 a n c hs ts rv rs) (hg : W.grownBy W' rv.ownBlock) (ho : OwnR recP W' b3 51 rv' (rs ++ [p])) : RG w W' sp b3 a n c hs ts rv' (rs ++ [p]) := by
  refine ⟨x.b.grown hg x.b.size (fun j hj => by have h1 := (x.row.base_le hj).1; have h2 := x.wb; omega), ?_, x.hw, x.box.grown hg (fun q => by have h1 := (x.row.base_le q.symm).1; have h2 := x.wb; omega), ho, Nat.le_trans x.rb hg.size, x.wb, x.lb⟩
  refine World.ownsRow.kept x.o hg ?_
  cases hb : (Value.slice a n c).ownBlock with
  | none => exact .inl rfl
  | some g =>
    right
    intro q
    have h1 := (x.row.base_le q.symm).1
    have h2 := x.lb g hb
    omega
end
/-- What the document's Range tells. -/
def Ranges (w : World) (kvs : List KV) (e : Ending) (w' : World) : Prop := ∃ ra r rc rs, e = .returned (.slice ra r rc) ∧ OwnR recP w' w.heap.size 51 (.slice ra r rc) rs ∧ rs.length = r ∧ PairsIn w rs kvs ∧ Below w.heap.size w w'
theorem filter_in {l : List KV} {i : Nat} {p : KV} {q : KV → Bool} (e : l[i]? = some p) (h : q p = true) : (l.take (i + 1)).filter q = (l.take i).filter q ++ [p] := by
  rw [List.take_add_one, e, List.filter_append]
  simp [h]
theorem filter_out {l : List KV} {i : Nat} {p : KV} {q : KV → Bool} (e : l[i]? = some p) (h : q p = false) : (l.take (i + 1)).filter q = (l.take i).filter q := by
  rw [List.take_add_one, e, List.filter_append]
  simp [h]
/-- At the entry: the tree's box, the span's box. -/
theorem enterS (w : World) (h : TH) (sp : DH) : Box ((w.alloc (.cells #[.int .i64 h.k, .slice h.ka h.kn h.kc, .slice h.va h.vn h.vc, .slice h.da h.dn h.dc, .slice h.ta h.tn h.tc] 25)).alloc (.cells #[.slice sp.ka sp.kn sp.kc, .slice sp.va sp.vn sp.vc, .bool sp.out] 27)) 25 w.heap.size h ∧ RBox recD ((w.alloc (.cells #[.int .i64 h.k, .slice h.ka h.kn h.kc, .slice h.va h.vn h.vc, .slice h.da h.dn h.dc, .slice h.ta h.tn h.tc] 25)).alloc (.cells #[.slice sp.ka sp.kn sp.kc, .slice sp.va sp.vn sp.vc, .bool sp.out] 27)) 27 (w.heap.size + 1) sp ∧ Below w.heap.size w ((w.alloc (.cells #[.int .i64 h.k, .slice h.ka h.kn h.kc, .slice h.va h.vn h.vc, .slice h.da h.dn h.dc, .slice h.ta h.tn h.tc] 25)).alloc (.cells #[.slice sp.ka sp.kn sp.kc, .slice sp.va sp.vn sp.vc, .bool sp.out] 27)) ∧ ((w.alloc (.cells #[.int .i64 h.k, .slice h.ka h.kn h.kc, .slice h.va h.vn h.vc, .slice h.da h.dn h.dc, .slice h.ta h.tn h.tc] 25)).alloc (.cells #[.slice sp.ka sp.kn sp.kc, .slice sp.va sp.vn sp.vc, .bool sp.out] 27)).heap.size = w.heap.size + 2 := by
  have s1 : (w.alloc (.cells #[.int .i64 h.k, .slice h.ka h.kn h.kc, .slice h.va h.vn h.vc, .slice h.da h.dn h.dc, .slice h.ta h.tn h.tc] 25)).heap.size = w.heap.size + 1 := by simp
  have q1 : Below w.heap.size w (w.alloc (.cells #[.int .i64 h.k, .slice h.ka h.kn h.kc, .slice h.va h.vn h.vc, .slice h.da h.dn h.dc, .slice h.ta h.tn h.tc] 25)) := (Below.refl _ _).alloc (Nat.le_refl _) _
  have x1 := Box.new w 25 h
  have x2 := DH.box (w.alloc (.cells #[.int .i64 h.k, .slice h.ka h.kn h.kc, .slice h.va h.vn h.vc, .slice h.da h.dn h.dc, .slice h.ta h.tn h.tc] 25)) 27 sp
  rw [s1] at x2
  exact ⟨x1.below ((Below.refl _ _).alloc (Nat.le_refl _) _) x1.lt, x2, q1.alloc (by rw [s1]; omega) _, by simp⟩

set_option maxRecDepth 100000 in
set_option maxHeartbeats 4000000 in
theorem refRange_any (a : AT) (h : TH) (sp : DH) (f t : List Int) (w : World) (ht : InTree w h a.tr) (hlim : Lim a.pairs) (hcn : countT a.tr ≤ 500) (hs : SpanIn w sp f t) : Calls Tryd.prog 17 #[h.v, sp.v] w (Ranges w (a.pairs.filter (fun p => inS f t sp.out p.1))) := by
  unfold TH.v DH.v
  obtain ⟨ti, hti, htz⟩ := Option.map_eq_some_iff.1 infoPair
  simp only [Prod.mk.injEq] at htz
  obtain ⟨hz0, hz1, hz2⟩ := htz
  have HTI := Lib.hid (And.intro hti (And.intro hz0 (And.intro hz1 hz2)))
  clear hti hz0 hz1 hz2
  obtain ⟨e1, e2, e3, e4⟩ := enterS w h sp
  have HSP := Lib.hid hs
  have hfo := (AT.tr_formed a).2 hlim
  have hln := list_len a.tr hfo
  have hlp : (listT a.tr).length = a.pairs.length := by rw [AT.tr_list, List.length_map, ← AT.nodes_kv, List.length_map]
  generalize hn : (listT a.tr).length = n at hln hlp
  have HN := Lib.hid (And.intro hn hlp)
  have hn5 : n ≤ 500 := by omega
  have HFO := Lib.hid hfo
  clear hs hfo hln hn hlp
  go_enter Tryd.func17, Tryd.ntmps17
  go_upto_region 1 with fail
  generalize ((w.alloc (.cells #[.int .i64 h.k, .slice h.ka h.kn h.kc, .slice h.va h.vn h.vc, .slice h.da h.dn h.dc, .slice h.ta h.tn h.tc] 25)).alloc (.cells #[.slice sp.ka sp.kn sp.kc, .slice sp.va sp.vn sp.vc, .bool sp.out] 27)) = w0 at *
  obtain ⟨x0, x1, x2, x3, x4⟩ := e1.cells
  have HX := Lib.hid (And.intro e2 (And.intro e3 e4))
  have HT := Lib.hid ht
  clear e1 e2 e3 e4 ht
  go_upto_region 3 with (first
    | (go_at_call 19
       refine (refList_any a.tr h w _ HT.out HX.out.2.1 HFO.out hcn).mono ?_
       rintro _ w3 ⟨v3, hs, rfl, ho3, hh3, hb3⟩
       obtain ⟨la, lc, hv3⟩ := ho3.sl
       rw [hh3.1, HN.out.1] at hv3
       subst hv3
       have HG3 : Hid (RG w w3 sp w3.heap.size la n lc hs (listT a.tr) (.slice none 0 0) []) := Lib.hid ⟨HX.out.2.1.trans (hb3.mono HX.out.2.1.size), ho3.weak HX.out.2.1.size, hh3, HX.out.1.below hb3 HX.out.1.lt, OwnR.nil _ _ _ _, Nat.le_refl _, by have := hb3.size; have := HX.out.2.2; omega, fun g hg => by
         rcases ho3.form with ⟨q1, _⟩ | ⟨g', c', q1, _, q3, _⟩
         · rw [q1] at hg
           cases hg
         · rw [q1] at hg
           have e : g' = g := Option.some.inj hg
           subst e
           exact q3⟩
       clear ho3 hh3 hb3 x0 x1 x2 x3 x4))
  go_wp2_with fail
  generalize w3.heap.size = b3 at *
  go_loopw [5, 7] (fun s5 s7 wx => ∃ (i : Nat) (ra : Option Addr) (r rc : Nat) (rs : List PH), i ≤ n ∧ s5 = .slice ra r rc ∧ rs.length = r ∧ s7 = .int .i64 i ∧ RG w wx sp b3 la n lc hs (listT a.tr) (.slice ra r rc) rs ∧ PairsIn w rs ((a.pairs.take i).filter (fun p => inS f t sp.out p.1))) (fun _ s7 _ => n - (intOf s7).toNat)
  case atStart => exact ⟨0, none, 0, 0, [], by omega, rfl, rfl, rfl, HG3.out, PairsIn.nil _⟩
  case round =>
    clear HG3
    obtain ⟨i, ra, r, rc, rs, hi, rfl, hrl, rfl, hrg, hpin⟩ := hrel
    have HPIN := Lib.hid hpin
    have hr5 : r ≤ 500 := by
      have h1 := hpin.1
      have h2 := List.length_filter_le (fun p : KV => inS f t sp.out p.1) (a.pairs.take i)
      rw [List.length_take] at h2
      omega
    by_cases hlt : i < n
    · have q1 : (i : Int) < (n : Int) := by omega
      have hhl : hs.length = n := hrg.hw.1.trans HN.out.1
      have him : i < hs.length := by omega
      have him2 : i < (listT a.tr).length := by rw [HN.out.1]; exact hlt
      obtain ⟨g, hga, -⟩ := hrg.o.at hhl i him
      subst hga
      obtain ⟨l, k, v, rr, e1, -, -, e4⟩ := AT.node_at a i him2
      have HE1 := Lib.hid e1
      have HE4 := Lib.hid e4
      have HKV : Hid (InBytes w (hs[i]).ka (hs[i]).kn (hs[i]).kc k ∧ InBytes w (hs[i]).va (hs[i]).vn (hs[i]).vc v) := Lib.hid (by
        have q := hrg.hw.2 i him him2
        rw [e1] at q
        obtain ⟨H, hp⟩ := q.parts
        exact ⟨hp.key, hp.val⟩)
      have HL := Lib.hid hrg
      clear hrg hpin e1 e4
      cases hin : inS f t sp.out k with
      | false =>
        have HIN := Lib.hid hin
        clear hin
        go_upto_region 6 with fail
        refine wp_region_held_drew (S := (fun W => (W.cell? ⟨(w.heap.size + 1), 0, none⟩ = some (.slice sp.ka sp.kn sp.kc) ∧ W.cell? ⟨(w.heap.size + 1), 1, none⟩ = some (.slice sp.va sp.vn sp.vc) ∧ W.cell? ⟨(w.heap.size + 1), 2, none⟩ = some (.bool sp.out)) ∧ W.cell? ⟨g, i * 5 + 1, none⟩ = some (.slice (hs[i]).ka (hs[i]).kn (hs[i]).kc))) (by kernel_rfl) ⟨HL.out.drew.box.three, (HL.out.drew.ls.cells hhl i him).2.1⟩ (fun hHeld => ?_)
        refine take_w (i := 0) (oi := ?oZ44) (v := ?vZ44) ?hiZ44 (by kernel_rfl) (by kernel_rfl) (by kernel_rfl) ?hQZ44 ?hwZ44 ?hyZ44 (by assumption) ?restZ44
        case hiZ44 => (simp only [List.getElem?_toArray, List.getElem?_cons_zero] <;> rfl)
        case hQZ44 => exact (fun _ _ _ h => h)
        case hwZ44 => rfl
        case hyZ44 => (intro w hSw; (try dsimp only at hSw); go_simp; try with_reducible rfl)
        (try simp only [Act.put, List.setIfInBounds_toArray, List.set_cons_zero, List.set_cons_succ])
        refine take_w (i := 1) (oi := ?oZ45) (v := ?vZ45) ?hiZ45 (by kernel_rfl) (by kernel_rfl) (by kernel_rfl) ?hQZ45 ?hwZ45 ?hyZ45 (by assumption) ?restZ45
        case hiZ45 => (simp only [List.getElem?_toArray, List.getElem?_cons_succ, List.getElem?_cons_zero] <;> rfl)
        case hQZ45 => exact (fun _ _ _ h => h)
        case hwZ45 => rfl
        case hyZ45 => (intro w hSw; (try dsimp only at hSw); go_simp; try with_reducible rfl)
        (try simp only [Act.put, List.setIfInBounds_toArray, List.set_cons_zero, List.set_cons_succ])
        refine take_w (i := 2) (oi := ?oZ46) (v := ?vZ46) ?hiZ46 (by kernel_rfl) (by kernel_rfl) (by kernel_rfl) ?hQZ46 ?hwZ46 ?hyZ46 (by assumption) ?restZ46
        case hiZ46 => (simp only [List.getElem?_toArray, List.getElem?_cons_succ, List.getElem?_cons_zero] <;> rfl)
        case hQZ46 => exact (fun _ _ _ h => h)
        case hwZ46 => rfl
        case hyZ46 => (intro w hSw; (try dsimp only at hSw); go_simp; try with_reducible rfl)
        (try simp only [Act.put, List.setIfInBounds_toArray, List.set_cons_zero, List.set_cons_succ])
        refine take_w (i := 3) (oi := ?oZ47) (v := ?vZ47) ?hiZ47 (by kernel_rfl) (by kernel_rfl) (by kernel_rfl) ?hQZ47 ?hwZ47 ?hyZ47 (by assumption) ?restZ47
        case hiZ47 => (simp only [List.getElem?_toArray, List.getElem?_cons_succ, List.getElem?_cons_zero] <;> rfl)
        case hQZ47 => exact (fun _ _ _ h => h)
        case hwZ47 => rfl
        case hyZ47 => (intro w hSw; (try dsimp only at hSw); go_simp; try with_reducible rfl)
        (try simp only [Act.put, List.setIfInBounds_toArray, List.set_cons_zero, List.set_cons_succ])
        refine take_w (i := 4) (oi := ?oZ48) (v := ?vZ48) ?hiZ48 (by kernel_rfl) (by kernel_rfl) (by kernel_rfl) ?hQZ48 ?hwZ48 ?hyZ48 (by assumption) ?restZ48
        case hiZ48 => (simp only [List.getElem?_toArray, List.getElem?_cons_succ, List.getElem?_cons_zero] <;> rfl)
        case hQZ48 => exact (fun _ _ _ h => h)
        case hwZ48 => rfl
        case hyZ48 => (intro w hSw; (try dsimp only at hSw); go_simp; try with_reducible rfl)
        (try simp only [Act.put, List.setIfInBounds_toArray, List.set_cons_zero, List.set_cons_succ])
        refine take_w (i := 5) (oi := ?oZ49) (v := ?vZ49) ?hiZ49 (by kernel_rfl) (by kernel_rfl) (by kernel_rfl) ?hQZ49 ?hwZ49 ?hyZ49 (by assumption) ?restZ49
        case hiZ49 => (simp only [List.getElem?_toArray, List.getElem?_cons_succ, List.getElem?_cons_zero] <;> rfl)
        case hQZ49 => exact (fun _ _ _ h => h)
        case hwZ49 => rfl
        case hyZ49 => (intro w hSw; (try dsimp only at hSw); go_simp; try with_reducible rfl)
        (try simp only [Act.put, List.setIfInBounds_toArray, List.set_cons_zero, List.set_cons_succ])
        refine wpAnyH_ready (rs := [6]) (by kernel_rfl) (by simp) ?_
        refine AllReadyH.cons (o := ?oZ50) ?hiZ50 (fun K hK => ?stZ50) AllReadyH.nil
        case hiZ50 => (simp only [List.getElem?_toArray, List.getElem?_cons_succ, List.getElem?_cons_zero] <;> rfl)
        go_simp
        go_at_call 25
        refine (refIn_any sp f t k (hs[i]).ka (hs[i]).kn (hs[i]).kc _ (HSP.out.below HL.out.drew.ls.b) (HL.out.drew.ls.key i him him2 HE1.out).1).mono ?_
        rintro _ w6 ⟨rfl, hb6⟩
        have HL6 := Lib.hid (HL.out.drew.below hb6)
        rw [HIN.out]
        clear hb6
        go_simp
        refine hK.out _ _ ?_ (fun hHeld => ?_)
        · (first | exact ⟨HL6.out.box.three, (HL6.out.ls.cells hhl i him).2.1⟩ | exact ⟨HL.out.drew.box.three, (HL.out.drew.ls.cells hhl i him).2.1⟩)
        clear hK K
        (try simp only [Act.put, List.setIfInBounds_toArray, List.set_cons_zero, List.set_cons_succ])
        refine take_w (i := 7) (oi := ?oZ51) (v := ?vZ51) ?hiZ51 (by kernel_rfl) (by kernel_rfl) (by kernel_rfl) ?hQZ51 ?hwZ51 ?hyZ51 (by assumption) ?restZ51
        case hiZ51 => (simp only [List.getElem?_toArray, List.getElem?_cons_succ, List.getElem?_cons_zero] <;> rfl)
        case hQZ51 => exact (fun _ _ _ h => h)
        case hwZ51 => rfl
        case hyZ51 => (intro w hSw; (try dsimp only at hSw); go_simp; try with_reducible rfl)
        (try simp only [Act.put, List.setIfInBounds_toArray, List.set_cons_zero, List.set_cons_succ])
        refine wpAnyH_done (by kernel_rfl) ?_ _
        clear hHeld
        go_wp2_with fail
        exact ⟨⟨i + 1, ra, r, rc, rs, by omega, rfl, hrl, by go_num, HL6.out, by rw [filter_out HE4.out HIN.out]; exact HPIN.out⟩, by simp [intOf]; omega⟩
      | true =>
        have HIN := Lib.hid hin
        clear hin
        go_upto_region 6 with fail
        refine wp_region_held_drew (S := (fun W => (W.cell? ⟨(w.heap.size + 1), 0, none⟩ = some (.slice sp.ka sp.kn sp.kc) ∧ W.cell? ⟨(w.heap.size + 1), 1, none⟩ = some (.slice sp.va sp.vn sp.vc) ∧ W.cell? ⟨(w.heap.size + 1), 2, none⟩ = some (.bool sp.out)) ∧ W.cell? ⟨g, i * 5 + 1, none⟩ = some (.slice (hs[i]).ka (hs[i]).kn (hs[i]).kc))) (by kernel_rfl) ⟨HL.out.drew.box.three, (HL.out.drew.ls.cells hhl i him).2.1⟩ (fun hHeld => ?_)
        refine take_w (i := 0) (oi := ?oZ52) (v := ?vZ52) ?hiZ52 (by kernel_rfl) (by kernel_rfl) (by kernel_rfl) ?hQZ52 ?hwZ52 ?hyZ52 (by assumption) ?restZ52
        case hiZ52 => (simp only [List.getElem?_toArray, List.getElem?_cons_zero] <;> rfl)
        case hQZ52 => exact (fun _ _ _ h => h)
        case hwZ52 => rfl
        case hyZ52 => (intro w hSw; (try dsimp only at hSw); go_simp; try with_reducible rfl)
        (try simp only [Act.put, List.setIfInBounds_toArray, List.set_cons_zero, List.set_cons_succ])
        refine take_w (i := 1) (oi := ?oZ53) (v := ?vZ53) ?hiZ53 (by kernel_rfl) (by kernel_rfl) (by kernel_rfl) ?hQZ53 ?hwZ53 ?hyZ53 (by assumption) ?restZ53
        case hiZ53 => (simp only [List.getElem?_toArray, List.getElem?_cons_succ, List.getElem?_cons_zero] <;> rfl)
        case hQZ53 => exact (fun _ _ _ h => h)
        case hwZ53 => rfl
        case hyZ53 => (intro w hSw; (try dsimp only at hSw); go_simp; try with_reducible rfl)
        (try simp only [Act.put, List.setIfInBounds_toArray, List.set_cons_zero, List.set_cons_succ])
        refine take_w (i := 2) (oi := ?oZ54) (v := ?vZ54) ?hiZ54 (by kernel_rfl) (by kernel_rfl) (by kernel_rfl) ?hQZ54 ?hwZ54 ?hyZ54 (by assumption) ?restZ54
        case hiZ54 => (simp only [List.getElem?_toArray, List.getElem?_cons_succ, List.getElem?_cons_zero] <;> rfl)
        case hQZ54 => exact (fun _ _ _ h => h)
        case hwZ54 => rfl
        case hyZ54 => (intro w hSw; (try dsimp only at hSw); go_simp; try with_reducible rfl)
        (try simp only [Act.put, List.setIfInBounds_toArray, List.set_cons_zero, List.set_cons_succ])
        refine take_w (i := 3) (oi := ?oZ55) (v := ?vZ55) ?hiZ55 (by kernel_rfl) (by kernel_rfl) (by kernel_rfl) ?hQZ55 ?hwZ55 ?hyZ55 (by assumption) ?restZ55
        case hiZ55 => (simp only [List.getElem?_toArray, List.getElem?_cons_succ, List.getElem?_cons_zero] <;> rfl)
        case hQZ55 => exact (fun _ _ _ h => h)
        case hwZ55 => rfl
        case hyZ55 => (intro w hSw; (try dsimp only at hSw); go_simp; try with_reducible rfl)
        (try simp only [Act.put, List.setIfInBounds_toArray, List.set_cons_zero, List.set_cons_succ])
        refine take_w (i := 4) (oi := ?oZ56) (v := ?vZ56) ?hiZ56 (by kernel_rfl) (by kernel_rfl) (by kernel_rfl) ?hQZ56 ?hwZ56 ?hyZ56 (by assumption) ?restZ56
        case hiZ56 => (simp only [List.getElem?_toArray, List.getElem?_cons_succ, List.getElem?_cons_zero] <;> rfl)
        case hQZ56 => exact (fun _ _ _ h => h)
        case hwZ56 => rfl
        case hyZ56 => (intro w hSw; (try dsimp only at hSw); go_simp; try with_reducible rfl)
        (try simp only [Act.put, List.setIfInBounds_toArray, List.set_cons_zero, List.set_cons_succ])
        refine take_w (i := 5) (oi := ?oZ57) (v := ?vZ57) ?hiZ57 (by kernel_rfl) (by kernel_rfl) (by kernel_rfl) ?hQZ57 ?hwZ57 ?hyZ57 (by assumption) ?restZ57
        case hiZ57 => (simp only [List.getElem?_toArray, List.getElem?_cons_succ, List.getElem?_cons_zero] <;> rfl)
        case hQZ57 => exact (fun _ _ _ h => h)
        case hwZ57 => rfl
        case hyZ57 => (intro w hSw; (try dsimp only at hSw); go_simp; try with_reducible rfl)
        (try simp only [Act.put, List.setIfInBounds_toArray, List.set_cons_zero, List.set_cons_succ])
        refine wpAnyH_ready (rs := [6]) (by kernel_rfl) (by simp) ?_
        refine AllReadyH.cons (o := ?oZ58) ?hiZ58 (fun K hK => ?stZ58) AllReadyH.nil
        case hiZ58 => (simp only [List.getElem?_toArray, List.getElem?_cons_succ, List.getElem?_cons_zero] <;> rfl)
        go_simp
        go_at_call 25
        refine (refIn_any sp f t k (hs[i]).ka (hs[i]).kn (hs[i]).kc _ (HSP.out.below HL.out.drew.ls.b) (HL.out.drew.ls.key i him him2 HE1.out).1).mono ?_
        rintro _ w6 ⟨rfl, hb6⟩
        have HL6 := Lib.hid (HL.out.drew.below hb6)
        rw [HIN.out]
        clear hb6
        go_simp
        refine hK.out _ _ ?_ (fun hHeld => ?_)
        · (first | exact ⟨HL6.out.box.three, (HL6.out.ls.cells hhl i him).2.1⟩ | exact ⟨HL.out.drew.box.three, (HL.out.drew.ls.cells hhl i him).2.1⟩)
        clear hK K
        (try simp only [Act.put, List.setIfInBounds_toArray, List.set_cons_zero, List.set_cons_succ])
        refine take_w (i := 7) (oi := ?oZ59) (v := ?vZ59) ?hiZ59 (by kernel_rfl) (by kernel_rfl) (by kernel_rfl) ?hQZ59 ?hwZ59 ?hyZ59 (by assumption) ?restZ59
        case hiZ59 => (simp only [List.getElem?_toArray, List.getElem?_cons_succ, List.getElem?_cons_zero] <;> rfl)
        case hQZ59 => exact (fun _ _ _ h => h)
        case hwZ59 => rfl
        case hyZ59 => (intro w hSw; (try dsimp only at hSw); go_simp; try with_reducible rfl)
        (try simp only [Act.put, List.setIfInBounds_toArray, List.set_cons_zero, List.set_cons_succ])
        refine wpAnyH_done (by kernel_rfl) ?_ _
        clear hHeld
        go_upto_region 8 with fail
        refine wp_region_held_drew (S := (fun W => W.cell? ⟨g, i * 5 + 1, none⟩ = some (.slice (hs[i]).ka (hs[i]).kn (hs[i]).kc) ∧ W.cell? ⟨g, i * 5 + 2, none⟩ = some (.slice (hs[i]).va (hs[i]).vn (hs[i]).vc))) (by kernel_rfl) ⟨(HL6.out.drew.ls.cells hhl i him).2.1, (HL6.out.drew.ls.cells hhl i him).2.2.1⟩ (fun hHeld => ?_)
        refine take_w (i := 0) (oi := ?oZ29) (v := ?vZ29) ?hiZ29 (by kernel_rfl) (by kernel_rfl) (by kernel_rfl) ?hQZ29 ?hwZ29 ?hyZ29 (by assumption) ?restZ29
        case hiZ29 => (simp only [List.getElem?_toArray, List.getElem?_cons_zero] <;> rfl)
        case hQZ29 => exact (fun _ _ _ h => h)
        case hwZ29 => rfl
        case hyZ29 => (intro w hSw; (try dsimp only at hSw); go_simp; try with_reducible rfl)
        (try simp only [Act.put, List.setIfInBounds_toArray, List.set_cons_zero, List.set_cons_succ])
        refine take_w (i := 1) (oi := ?oZ30) (v := ?vZ30) ?hiZ30 (by kernel_rfl) (by kernel_rfl) (by kernel_rfl) ?hQZ30 ?hwZ30 ?hyZ30 (by assumption) ?restZ30
        case hiZ30 => (simp only [List.getElem?_toArray, List.getElem?_cons_succ, List.getElem?_cons_zero] <;> rfl)
        case hQZ30 => exact (fun _ _ _ h => h)
        case hwZ30 => rfl
        case hyZ30 => (intro w hSw; (try dsimp only at hSw); go_simp; try with_reducible rfl)
        (try simp only [Act.put, List.setIfInBounds_toArray, List.set_cons_zero, List.set_cons_succ])
        refine take_w (i := 2) (oi := ?oZ31) (v := ?vZ31) ?hiZ31 (by kernel_rfl) (by kernel_rfl) (by kernel_rfl) ?hQZ31 ?hwZ31 ?hyZ31 (by assumption) ?restZ31
        case hiZ31 => (simp only [List.getElem?_toArray, List.getElem?_cons_succ, List.getElem?_cons_zero] <;> rfl)
        case hQZ31 => exact (fun _ _ _ h => h)
        case hwZ31 => rfl
        case hyZ31 => (intro w hSw; (try dsimp only at hSw); go_simp; try with_reducible rfl)
        (try simp only [Act.put, List.setIfInBounds_toArray, List.set_cons_zero, List.set_cons_succ])
        refine take_w (i := 3) (oi := ?oZ32) (v := ?vZ32) ?hiZ32 (by kernel_rfl) (by kernel_rfl) (by kernel_rfl) ?hQZ32 ?hwZ32 ?hyZ32 (by assumption) ?restZ32
        case hiZ32 => (simp only [List.getElem?_toArray, List.getElem?_cons_succ, List.getElem?_cons_zero] <;> rfl)
        case hQZ32 => exact (fun _ _ _ h => h)
        case hwZ32 => rfl
        case hyZ32 => (intro w hSw; (try dsimp only at hSw); go_simp; try with_reducible rfl)
        (try simp only [Act.put, List.setIfInBounds_toArray, List.set_cons_zero, List.set_cons_succ])
        refine take_w (i := 4) (oi := ?oZ33) (v := ?vZ33) ?hiZ33 (by kernel_rfl) (by kernel_rfl) (by kernel_rfl) ?hQZ33 ?hwZ33 ?hyZ33 (by assumption) ?restZ33
        case hiZ33 => (simp only [List.getElem?_toArray, List.getElem?_cons_succ, List.getElem?_cons_zero] <;> rfl)
        case hQZ33 => exact (fun _ _ _ h => h)
        case hwZ33 => rfl
        case hyZ33 => (intro w hSw; (try dsimp only at hSw); go_simp; try with_reducible rfl)
        (try simp only [Act.put, List.setIfInBounds_toArray, List.set_cons_zero, List.set_cons_succ])
        refine take_w (i := 5) (oi := ?oZ34) (v := ?vZ34) ?hiZ34 (by kernel_rfl) (by kernel_rfl) (by kernel_rfl) ?hQZ34 ?hwZ34 ?hyZ34 (by assumption) ?restZ34
        case hiZ34 => (simp only [List.getElem?_toArray, List.getElem?_cons_succ, List.getElem?_cons_zero] <;> rfl)
        case hQZ34 => exact (fun _ _ _ h => h)
        case hwZ34 => rfl
        case hyZ34 => (intro w hSw; (try dsimp only at hSw); go_simp; try with_reducible rfl)
        (try simp only [Act.put, List.setIfInBounds_toArray, List.set_cons_zero, List.set_cons_succ])
        refine take_w (i := 6) (oi := ?oZ35) (v := ?vZ35) ?hiZ35 (by kernel_rfl) (by kernel_rfl) (by kernel_rfl) ?hQZ35 ?hwZ35 ?hyZ35 (by assumption) ?restZ35
        case hiZ35 => (simp only [List.getElem?_toArray, List.getElem?_cons_succ, List.getElem?_cons_zero] <;> rfl)
        case hQZ35 => exact (fun _ _ _ h => h)
        case hwZ35 => rfl
        case hyZ35 => (intro w hSw; (try dsimp only at hSw); go_simp; try with_reducible rfl)
        (try simp only [Act.put, List.setIfInBounds_toArray, List.set_cons_zero, List.set_cons_succ])
        refine take_w (i := 7) (oi := ?oZ36) (v := ?vZ36) ?hiZ36 (by kernel_rfl) (by kernel_rfl) (by kernel_rfl) ?hQZ36 ?hwZ36 ?hyZ36 (by assumption) ?restZ36
        case hiZ36 => (simp only [List.getElem?_toArray, List.getElem?_cons_succ, List.getElem?_cons_zero] <;> rfl)
        case hQZ36 => exact (fun _ _ _ h => h)
        case hwZ36 => rfl
        case hyZ36 => (intro w hSw; (try dsimp only at hSw); go_simp; try with_reducible rfl)
        (try simp only [Act.put, List.setIfInBounds_toArray, List.set_cons_zero, List.set_cons_succ])
        refine take_w (i := 8) (oi := ?oZ37) (v := ?vZ37) ?hiZ37 (by kernel_rfl) (by kernel_rfl) (by kernel_rfl) ?hQZ37 ?hwZ37 ?hyZ37 (by assumption) ?restZ37
        case hiZ37 => (simp only [List.getElem?_toArray, List.getElem?_cons_succ, List.getElem?_cons_zero] <;> rfl)
        case hQZ37 => exact (fun _ _ _ h => h)
        case hwZ37 => rfl
        case hyZ37 => (intro w hSw; (try dsimp only at hSw); go_simp; try with_reducible rfl)
        (try simp only [Act.put, List.setIfInBounds_toArray, List.set_cons_zero, List.set_cons_succ])
        refine take_w (i := 9) (oi := ?oZ38) (v := ?vZ38) ?hiZ38 (by kernel_rfl) (by kernel_rfl) (by kernel_rfl) ?hQZ38 ?hwZ38 ?hyZ38 (by assumption) ?restZ38
        case hiZ38 => (simp only [List.getElem?_toArray, List.getElem?_cons_succ, List.getElem?_cons_zero] <;> rfl)
        case hQZ38 => exact (fun _ _ _ h => h)
        case hwZ38 => rfl
        case hyZ38 => (intro w hSw; (try dsimp only at hSw); go_simp; try with_reducible rfl)
        (try simp only [Act.put, List.setIfInBounds_toArray, List.set_cons_zero, List.set_cons_succ])
        refine take_w (i := 10) (oi := ?oZ39) (v := ?vZ39) ?hiZ39 (by kernel_rfl) (by kernel_rfl) (by kernel_rfl) ?hQZ39 ?hwZ39 ?hyZ39 (by assumption) ?restZ39
        case hiZ39 => (simp only [List.getElem?_toArray, List.getElem?_cons_succ, List.getElem?_cons_zero] <;> rfl)
        case hQZ39 => exact (fun _ _ _ h => h)
        case hwZ39 => rfl
        case hyZ39 => (intro w hSw; (try dsimp only at hSw); go_simp; try with_reducible rfl)
        (try simp only [Act.put, List.setIfInBounds_toArray, List.set_cons_zero, List.set_cons_succ])
        refine take_w (i := 11) (oi := ?oZ40) (v := ?vZ40) ?hiZ40 (by kernel_rfl) (by kernel_rfl) (by kernel_rfl) ?hQZ40 ?hwZ40 ?hyZ40 (by assumption) ?restZ40
        case hiZ40 => (simp only [List.getElem?_toArray, List.getElem?_cons_succ, List.getElem?_cons_zero] <;> rfl)
        case hQZ40 => exact (fun _ _ _ h => h)
        case hwZ40 => rfl
        case hyZ40 => (intro w hSw; (try dsimp only at hSw); go_simp; try with_reducible rfl)
        (try simp only [Act.put, List.setIfInBounds_toArray, List.set_cons_zero, List.set_cons_succ])
        refine wpAnyH_ready (rs := [12]) (by kernel_rfl) (by simp) ?_
        refine AllReadyH.cons (o := ?oZ41) ?hiZ41 (fun K hK => ?stZ41) AllReadyH.nil
        case hiZ41 => (simp only [List.getElem?_toArray, List.getElem?_cons_succ, List.getElem?_cons_zero] <;> rfl)
        go_simp
        refine hK.out _ _ ?_ (fun hHeld => ?_)
        · (first | exact ⟨(HL9.out.ls.cells hhl i him).2.1, (HL9.out.ls.cells hhl i him).2.2.1⟩ | exact ⟨(HL6.out.drew.ls.cells hhl i him).2.1, (HL6.out.drew.ls.cells hhl i him).2.2.1⟩ | exact ⟨((HL6.out.drew.below ((Below.refl _ _).alloc (Nat.le_refl _) _)).ls.cells hhl i him).2.1, ((HL6.out.drew.below ((Below.refl _ _).alloc (Nat.le_refl _) _)).ls.cells hhl i him).2.2.1⟩)
        clear hK K
        (try simp only [Act.put, List.setIfInBounds_toArray, List.set_cons_zero, List.set_cons_succ])
        refine wpAnyH_ready (rs := [13]) (by kernel_rfl) (by simp) ?_
        refine AllReadyH.cons (o := ?oZ42) ?hiZ42 (fun K hK => ?stZ42) AllReadyH.nil
        case hiZ42 => (simp only [List.getElem?_toArray, List.getElem?_cons_succ, List.getElem?_cons_zero] <;> rfl)
        have qa : Below w6.drew.heap.size w6.drew (w6.drew.alloc (.cells #[.slice (hs[i]).ka (hs[i]).kn (hs[i]).kc, .slice (hs[i]).va (hs[i]).vn (hs[i]).vc] 51)) := (Below.refl _ _).alloc (Nat.le_refl _) _
        have HLA := Lib.hid (HL6.out.drew.below qa)
        refine step_append_rec _ rfl (.tmp 25) (.tmp 37) 45 rfl recP b3 51 ti _ 48 Tryd.underlying45 HTI.out.1 HTI.out.2.1 HTI.out.2.2.1 HTI.out.2.2.2 rfl (.slice ra r rc) rs rfl HLA.out.row w6.heap.size 1 (⟨(hs[i]).ka, (hs[i]).kn, (hs[i]).kc, (hs[i]).va, (hs[i]).vn, (hs[i]).vc⟩ : PH) rfl (RBox.cell (c := recP) (r := (⟨(hs[i]).ka, (hs[i]).kn, (hs[i]).kc, (hs[i]).va, (hs[i]).vn, (hs[i]).vc⟩ : PH)) (heap_alloc_new w6.drew _)) ?_ (by omega) HLA.out.rb ?_
        · rw [hrl]
          omega
        intro v9 w9 ho9 hg9 hw9 _
        obtain ⟨ra9, rc9, hv9⟩ := ho9.sl
        have hlen9 : (rs ++ [(⟨(hs[i]).ka, (hs[i]).kn, (hs[i]).kc, (hs[i]).va, (hs[i]).vn, (hs[i]).vc⟩ : PH)]).length = r + 1 := by simp [hrl]
        rw [hlen9] at hv9
        subst hv9
        have HL9 := Lib.hid (HLA.out.app hg9 ho9)
        have HLE9 := Lib.hid hlen9
        clear ho9 hg9 hlen9 qa
        refine hK.out _ _ ?_ (fun hHeld => ?_)
        · (first | exact ⟨(HL9.out.ls.cells hhl i him).2.1, (HL9.out.ls.cells hhl i him).2.2.1⟩ | exact ⟨(HL6.out.drew.ls.cells hhl i him).2.1, (HL6.out.drew.ls.cells hhl i him).2.2.1⟩ | exact ⟨((HL6.out.drew.below ((Below.refl _ _).alloc (Nat.le_refl _) _)).ls.cells hhl i him).2.1, ((HL6.out.drew.below ((Below.refl _ _).alloc (Nat.le_refl _) _)).ls.cells hhl i him).2.2.1⟩)
        clear hK K
        (try simp only [Act.put, List.setIfInBounds_toArray, List.set_cons_zero, List.set_cons_succ])
        refine take_w (i := 14) (oi := ?oZ43) (v := ?vZ43) ?hiZ43 (by kernel_rfl) (by kernel_rfl) (by kernel_rfl) ?hQZ43 ?hwZ43 ?hyZ43 (by assumption) ?restZ43
        case hiZ43 => (simp only [List.getElem?_toArray, List.getElem?_cons_succ, List.getElem?_cons_zero] <;> rfl)
        case hQZ43 => exact (fun _ _ _ h => h)
        case hwZ43 => rfl
        case hyZ43 => (intro w hSw; (try dsimp only at hSw); go_simp; try with_reducible rfl)
        (try simp only [Act.put, List.setIfInBounds_toArray, List.set_cons_zero, List.set_cons_succ])
        refine wpAnyH_done (by kernel_rfl) ?_ _
        clear hHeld
        go_wp2_with fail
        exact ⟨⟨i + 1, ra9, r + 1, rc9, _, by omega, rfl, HLE9.out, by go_num, HL9.out, by rw [filter_in HE4.out HIN.out]; exact HPIN.out.snoc HKV.out.1 HKV.out.2⟩, by simp [intOf]; omega⟩
    · obtain rfl : i = n := by omega
      have q1 : ¬ (i : Int) < (i : Int) := by omega
      go_wp2_with fail
      go_ret
      refine ⟨ra, r, rc, rs, rfl, hrg.row.weak (by have := hrg.wb; omega), hrl, ?_, hrg.b⟩
      have hp := HPIN.out
      rw [List.take_of_length_le (by have := HN.out.2; omega)] at hp
      exact hp
end Go.Proofs.YtkfjhegehhahcaaDoor

/- A region that draws its order, by an invariant; bytes appended to an empty row. No program is named here. -/
namespace Go.Proofs.YtkfjhegehhahcaaDoor
open Go.RowKit
set_option linter.unusedVariables false

/-- Whatever the order: what holds of the frame and the world (J), by what has come up, is kept by each operation that may come up. -/
theorem wpAnyH_inv {P : Program} {md : Region.Mode} {ops : Array Oper} {Q : Exit → Act → World → Prop} {S : World → Prop} (J : Array Bool → Act → World → Prop) (m : Array Bool → Nat)
    (hstep : ∀ listed a w, J listed a w → ∀ i ∈ Region.ready md ops listed, m (listed.setIfInBounds i true) < m listed ∧ wpOp P ops Q i (fun a' w' => S w' ∧ J (listed.setIfInBounds i true) a' w') a w)
    (hdone : ∀ listed a w, J listed a w → Region.ready md ops listed = [] → Q .normal a w) :
    ∀ (fuel : Nat) (listed : Array Bool) (a : Act) (w : World), J listed a w → m listed ≤ fuel → wpAnyH P md ops Q S fuel listed a w
  | 0, listed, a, w, hJ, hm => by
    have h0 : Region.ready md ops listed = [] := by
      cases hr : Region.ready md ops listed with
      | nil => rfl
      | cons i r =>
        have := (hstep listed a w hJ i (by rw [hr]; exact List.mem_cons_self)).1
        omega
    exact ⟨h0, hdone listed a w hJ h0⟩
  | fuel + 1, listed, a, w, hJ, hm =>
    ⟨hdone listed a w hJ, fun i hi => by
      obtain ⟨h1, h2⟩ := hstep listed a w hJ i hi
      exact wpOp_mono (fun a' w' h' => ⟨h'.1, wpAnyH_inv J m hstep hdone fuel _ a' w' h'.2 (by omega)⟩) h2⟩
/-- append([]byte{}, bs...): bytes in new memory; nothing that was there is written. -/
theorem run_append_empty {P : Program} (w : World) (t ty e : TypeId) (i : TypeInfo) (z : Value) (ht : P.underlying t = some (.slice e)) (hi : P.info? e = some i) (hz : i.zero = some z) (hsize : i.size = 1) (hby : i.bytes = 1) (hzs : z.cells.size = 1)
    (g0 : Nat) (hg : w.heap[g0]? = some (.cells #[] e (0, 0))) (ad : Option Addr) (n cap : Nat) (r : List Int) (hin : InBytes w ad n cap r) (hn : n ≤ 100000) :
    ∃ a c w', (Builtin.append_ #[t, t] ty #[.slice (some ⟨g0, 0, none⟩) 0 0, .slice ad n cap]).run P w = .ok (.slice a n c) w' ∧ InBytes w' a n c r ∧ (∀ x, a = some x → (x.block = g0 ∨ w.heap.size ≤ x.block) ∧ x.block < w'.heap.size) ∧ Below w.heap.size w w' := by
  have hown : w.ownsRow 0 e 1 (.slice (some ⟨g0, 0, none⟩) 0 0) 0 [] := ⟨rfl, .inr ⟨g0, 0, #[], rfl, Nat.zero_le _, hg, Nat.le_refl _, Nat.zero_le _, rfl, rfl⟩⟩
  have hlen := hin.len
  have hempty : n = 0 → r = [] := fun h => List.eq_nil_of_length_eq_zero (by omega)
  have hres : n = 0 → InBytes w (some ⟨g0, 0, none⟩) n 0 r := fun h => by
    subst h
    rw [hempty rfl]
    exact ⟨rfl, (fun z hz => by cases hz), Nat.le_refl _, Nat.zero_le _, (fun q => by cases q), fun q => by omega⟩
  by_cases h0 : n = 0
  · have hr := hempty h0
    have hR := hres h0
    subst h0
    subst hr
    refine ⟨some ⟨g0, 0, none⟩, 0, w, ?_, hR, fun x q => by injection q with q; rw [← q]; exact ⟨.inl rfl, (Array.getElem?_eq_some_iff.1 hg).1⟩, Below.refl _ _⟩
    cases ad with
    | none =>
      obtain rfl : cap = 0 := hin.nil rfl
      exact run_append_owned_none (P := P) (w := w) 0 t ty e i 1 ht hi _ 0 [] hown
    | some ad =>
      have hh := run_append_room (P := P) w t ty e i ht hi g0 0 0 #[] hg ad 0 cap [] (by simp) (fun j u hu => by simp at hu) (fun u hu => by cases hu) (Nat.le_refl _) (by simp)
      rw [hh]
      simp only [List.take_nil, List.drop_nil, List.nil_append]
      have e1 : w.setRow g0 #[] = w := setRow_self w g0 #[] e (0, 0) hg
      rw [e1]
  · obtain ⟨g, off, rfl, _, hseg⟩ := hin.place (by omega)
    have hnews : ∀ (j : Nat) (u : Value), (r.map (Value.int .u8))[j]? = some u → w.cell? ((⟨g, off, none⟩ : Addr).add j) = some u := hseg.news
    obtain ⟨v', w', hr, h2, _, _⟩ := run_append_own (P := P) w 0 t ty e i z 1 1 ht hi hz hsize hby hzs (by omega) _ 0 [] hown ⟨g, off, none⟩ n cap (r.map (Value.int .u8)) (by simp [hlen]) hnews (by simp [Value.oneCell']) (by simp only [maxLen]; omega) (by omega) (Nat.zero_le _)
    have hr2 := run_append_grow (P := P) w t ty e i z ht hi hz ⟨g0, 0, none⟩ 0 0 [] (by simp) (fun j u hu => by simp at hu) ⟨g, off, none⟩ n cap (r.map (Value.int .u8)) (by simp [hlen, hsize]) hnews (by omega) (by omega) (growslice_fits (by omega) (by rw [hby]; omega))
    rw [hr] at hr2
    injection hr2 with e1 e2
    rw [e1, e2] at h2 hr
    simp only [Nat.zero_add, List.nil_append] at h2 hr
    exact ⟨_, _, _, hr, InBytes.of_own (zs := r) h2 hin.bytes, fun x q => by injection q with q; rw [← q]; exact ⟨.inr (Nat.le_refl _), by simp⟩, ((Below.refl w.heap.size w).drew).alloc (Nat.le_refl _) _⟩
theorem step_append_empty {P : Program} (w : World) {ops : Array Oper} {o : Oper} {a : Act} {K : Act → World → Prop} {Q : Exit → Act → World → Prop} {E : Prop} (hgd : o.guard = none) (s x : Operand) (t : TypeId)
    (ho : o.op = .call { callee := .builtin .append, args := #[s, x], argTypes := #[t, t] }) (e : TypeId) (i : TypeInfo) (z : Value) (ht : P.underlying t = some (.slice e)) (hi : P.info? e = some i) (hz : i.zero = some z) (hsize : i.size = 1) (hby : i.bytes = 1) (hzs : z.cells.size = 1)
    (g0 : Nat) (hs : a.eval s = .slice (some ⟨g0, 0, none⟩) 0 0) (hg : w.heap[g0]? = some (.cells #[] e (0, 0))) (ad : Option Addr) (n cap : Nat) (r : List Int) (hx : a.eval x = .slice ad n cap) (hin : InBytes w ad n cap r) (hn : n ≤ 100000)
    (h : ∀ b c w', InBytes w' b n c r → (∀ y, b = some y → (y.block = g0 ∨ w.heap.size ≤ y.block) ∧ y.block < w'.heap.size) → Below w.heap.size w w' → K (a.put o.dst (.slice b n c)) w') : if Region.wanted o (yielded ops a.tmps) = true then Oper.wp P o a w K Q else E := by
  have hw : Region.wanted o (yielded ops a.tmps) = true := by simp [Region.wanted, hgd]
  rw [if_pos hw]
  obtain ⟨b, c, w', hr, h1, h2, h3⟩ := run_append_empty (P := P) w t o.type e i z ht hi hz hsize hby hzs g0 hg ad n cap r hin hn
  unfold Oper.wp execOp
  simp only [ho, resolve, invoke, builtin, Sem.run_bind, Sem.run_pure, Result.andThen_ok, List.map_toArray, List.map_cons, List.map_nil, hs, hx, hr]
  exact h b c w' h1 h2 h3
end Go.Proofs.YtkfjhegehhahcaaDoor
