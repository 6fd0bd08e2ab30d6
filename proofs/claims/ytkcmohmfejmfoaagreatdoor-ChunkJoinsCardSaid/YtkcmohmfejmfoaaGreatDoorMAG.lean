/- The contract of the document's insertion into AVL trees. Trees that are balanced, whose keys rise, within their bounds: they stay so. No program is named here. Rows of pairs of a key and a value. No program is named here. Pairs by their heads' numbers. No function is named here. The contract of the document's tree into which pairs were put. One byte in a block of its own. No program is named here. A tree of one node, as several heads of statements grow it. The document's measure of a tree: has it few enough parts? What the statements ask of errors: which Code one is. The heads of the statements of layer 11: the document's examples; whether a tree is small. Whether several trees are small, as the statements of layer 11 ask. The contract of the document's fill. The contract of the document's Dark. The contract of the document's Join. errors.As of a Spot. errors.Is of a Spot, at the Code that it holds. What the statements ask of a Spot: the contract of their Is. The contract of the document's comparison of trees: of one and the same tree. A law's own box of its tree. -/
import Derived.Test.YtkcmohmfejmfoaaGreatDoorMAF
import Derived.Test.YtkcmohmfejmfoaaGreatDoorMAC
import Derived.Test.YtkcmohmfejmfoaaGreatDoorMAB
import Derived.Test.YtkcmohmfejmfoaaGreatDoorMAA
import Derived.Test.YtkcmohmfejmfoaaGreatDoorMAE
import Derived.Lib.SlBytesConst
import Derived.Test.YtkcmohmfejmfoaaGreatDoorMAD
import Derived.LaidEql
import Derived.Stop.Asserts
import Derived.RowKitTokens
/- The contract of the document's insertion into AVL trees. -/
namespace Go.Proofs.YtkcmohmfejmfoaaGreatDoor
open Go.RowKit
set_option linter.unusedVariables false

theorem AT.put_mem (key val : List Int) : ∀ (a : AT) (p : KV), p ∈ (a.put key val).pairs → p = (key, val) ∨ p ∈ a.pairs := by
  intro a
  induction a with
  | nil =>
    intro p hp
    simp [AT.put, AT.pairs] at hp
    exact .inl hp
  | node l k v r ihl ihr =>
    intro p hp
    rw [AT.put_node] at hp
    simp only [AT.pairs, List.mem_append, List.mem_cons]
    split at hp
    · simp only [AT.pairs, List.mem_append, List.mem_cons] at hp
      rcases hp with hp | hp | hp
      · exact .inr (.inl hp)
      · exact .inl hp
      · exact .inr (.inr (.inr hp))
    · split at hp
      · rw [AT.level_pairs] at hp
        simp only [AT.pairs, List.mem_append, List.mem_cons] at hp
        rcases hp with hp | hp | hp
        · rcases ihl p hp with q | q
          · exact .inl q
          · exact .inr (.inl q)
        · exact .inr (.inr (.inl hp))
        · exact .inr (.inr (.inr hp))
      · rw [AT.level_pairs] at hp
        simp only [AT.pairs, List.mem_append, List.mem_cons] at hp
        rcases hp with hp | hp | hp
        · exact .inr (.inl hp)
        · exact .inr (.inr (.inl hp))
        · rcases ihr p hp with q | q
          · exact .inl q
          · exact .inr (.inr (.inr q))
theorem AT.put_lim {key val : List Int} (hk : key.length ≤ 80) (hv : val.length ≤ 1024) {a : AT} (h : Lim a.pairs) : Lim (a.put key val).pairs := fun p hp => by
  rcases AT.put_mem key val a p hp with rfl | q
  · exact ⟨hk, hv⟩
  · exact h p q
theorem Lim.mk {l : AT} {k v : List Int} {r : AT} (h1 : Lim l.pairs) (h2 : k.length ≤ 80) (h3 : v.length ≤ 1024) (h4 : Lim r.pairs) : Lim (AT.node l k v r).pairs := fun p hp => by
  simp only [AT.pairs, List.mem_append, List.mem_cons] at hp
  rcases hp with hp | rfl | hp
  · exact h1 p hp
  · exact ⟨h2, h3⟩
  · exact h4 p hp

set_option maxRecDepth 100000 in
set_option maxHeartbeats 4000000 in
theorem refPut_any (key val : List Int) (ka va : Option Addr) (kn kc vn vc : Nat) (hkl : key.length ≤ 80) (hvl : val.length ≤ 1024) : ∀ (a : AT) (h : TH) (w : World), InTree w h a.tr → Lim a.pairs → a.bal → a.depth ≤ 60 → InBytes w ka kn kc key → InBytes w va vn vc val →
    Calls Tryz.prog 34 #[h.v, .slice ka kn kc, .slice va vn vc] w (Tells w (a.put key val)) := by
  intro a
  induction a with
  | nil =>
    intro h w ht _ _ _ hkb hvb
    unfold TH.v
    obtain ⟨H, hp⟩ := ht.parts
    have h0 : ((h.tn : Int) == 0) = true := by have h2 : h.tn = 0 := hp.len.symm; simp [h2]
    obtain ⟨e1, e2, e3, e4⟩ := enter2 w h
    have HK := Lib.hid (And.intro hkb hvb)
    clear hp hkb hvb
    go_enter Tryz.func34, Tryz.ntmps34
    go_upto_region 1 with fail
    generalize ((w.alloc (.cells #[.int .i64 h.k, .slice h.ka h.kn h.kc, .slice h.va h.vn h.vc, .slice h.da h.dn h.dc, .slice h.ta h.tn h.tc] 25)).alloc (.cells #[.int .i64 0, .slice none 0 0, .slice none 0 0, .slice none 0 0, .slice none 0 0] 25)) = w0 at *
    have HX0 : Hid (LX w w0 h AT.nil.tr) := Lib.hid ⟨e1, e2, ht.lower e3, e3⟩
    have x4 := e1.cells.2.2.2.2
    clear e1 e2 e3 e4 ht
    go_wp2_with (first
      | (go_at_call 58
         refine (refNode_any .nil .nil hZ hZ ka va kn kc vn vc key val _ (inTree_nil _) (inTree_nil _) (HK.out.1.below HX0.out.b) (HK.out.2.below HX0.out.b)).mono ?_
         rintro _ w2 ⟨h2, rfl, hi2, hb2⟩
         unfold TH.v
         have HX2 := Lib.hid (HX0.out.below hb2)
         have HI2 := Lib.hid hi2
         clear hi2 hb2)
      | (refine wpList_store_box rfl 25 (.tmp 6) (.tmp 15) rfl (w.heap.size + 1) hZ h2 rfl rfl 25 HX2.out.res infoTree5 ?_
         intro w9 hbx9 hg9
         have HX9 := Lib.hid hbx9
         have HI9 := Lib.hid (AT.outBox HX2.out.res hg9 _ _ HI2.out)
         have HB9 : Hid (Below w.heap.size w w9) := Lib.hid (HX2.out.b.grown hg9 HX2.out.b.size (fun j hj => by injection hj; omega))
         clear hbx9 hg9))
    exact bodyPost_ret (v := h2.v) (result_tree Tryz.results34 _ HX9.out rfl Tryz.underlying25 infoTree5) rfl ⟨_, rfl, HI9.out, HB9.out⟩
  | node l k v r ihl ihr =>
    intro h w ht hlim hbal hd hkb hvb
    unfold TH.v
    obtain ⟨H, hp⟩ := ht.parts
    have l0 : 0 < (AT.node l k v r).tr.kids.length := by rw [AT.tr_kids]; simp
    have l1 : 1 < (AT.node l k v r).tr.kids.length := by rw [AT.tr_kids]; simp
    have ht1 : (1 : Int) < (h.tn : Int) := by have h2 : h.tn = 2 := hp.len.symm; omega
    have ht0 : 0 < h.tn := by omega
    have h0 : ((h.tn : Int) == 0) = false := by rw [beq_eq_false_iff_ne]; omega
    have HP := Lib.hid hp
    have HL := Lib.hid hlim.node
    have HBL : Hid (l.bal ∧ r.bal ∧ l.depth ≤ r.depth + 1 ∧ r.depth ≤ l.depth + 1) := Lib.hid hbal
    have HK := Lib.hid (And.intro hkb hvb)
    have IHL := Lib.hid ihl
    have IHR := Lib.hid ihr
    have HPN := Lib.hid (AT.put_node key val l k v r)
    obtain ⟨g, off, hta, -, -⟩ := hp.place (by omega)
    have HTA := Lib.hid hta
    obtain ⟨e1, e2, e3, e4⟩ := enter2 w h
    have HKB := Lib.hid (And.intro hkb.bytes hp.key.bytes)
    clear hp hta hlim hbal hkb hvb ihl ihr
    go_enter Tryz.func34, Tryz.ntmps34
    go_upto_region 1 with fail
    generalize ((w.alloc (.cells #[.int .i64 h.k, .slice h.ka h.kn h.kc, .slice h.va h.vn h.vc, .slice h.da h.dn h.dc, .slice h.ta h.tn h.tc] 25)).alloc (.cells #[.int .i64 0, .slice none 0 0, .slice none 0 0, .slice none 0 0, .slice none 0 0] 25)) = w0 at *
    have HX0 : Hid (LX w w0 h (AT.node l k v r).tr) := Lib.hid ⟨e1, e2, ht.lower e3, e3⟩
    obtain ⟨x0, x1, x2, x3, x4⟩ := e1.cells
    have cv1 := conv_key (HK.out.1.below e3)
    have cv2 : (convert 22 9 (.slice h.ka h.kn h.kc)).run Tryz.prog w0 = .ok (.string (strOfNums k)) w0 := conv_key (HP.out.below e3).key
    clear e1 e2 e3 e4 ht
    have he : ((strOfNums key).toList == (strOfNums k).toList) = (key == k) := str_eq HKB.out.1 HKB.out.2
    have hlt : Op.bytesLess (strOfNums key).toList (strOfNums k).toList = ltL key k := str_lt HKB.out.1 HKB.out.2
    go_upto_if 21 with fail
    clear he
    by_cases ce : key = k
    · have ce2 : (key == k) = true := by simp [ce]
      have HPN2 := Lib.hid (HPN.out.trans (if_pos ce))
      clear HPN
      have HPN := HPN2
      rw [ce2]
      clear ce ce2 hlt cv1 cv2 x0 x1 x2 x3 x4
      go_upto_region 4 with fail
      refine region_l (S := (fun W => W.cell? ⟨w.heap.size, 1, none⟩ = some (.slice h.ka h.kn h.kc) ∧ W.cell? ⟨w.heap.size, 2, none⟩ = some (.slice h.va h.vn h.vc) ∧ W.cell? ⟨w.heap.size, 4, none⟩ = some (.slice (some ⟨g, off, none⟩) h.tn h.tc) ∧ (W.cell? ⟨g, off, none⟩ = some (.int .i64 (H 0).k) ∧ W.cell? ⟨g, off + 1, none⟩ = some (.slice (H 0).ka (H 0).kn (H 0).kc) ∧ W.cell? ⟨g, off + 2, none⟩ = some (.slice (H 0).va (H 0).vn (H 0).vc) ∧ W.cell? ⟨g, off + 3, none⟩ = some (.slice (H 0).da (H 0).dn (H 0).dc) ∧ W.cell? ⟨g, off + 4, none⟩ = some (.slice (H 0).ta (H 0).tn (H 0).tc)) ∧ W.cell? ⟨g, off + 5, none⟩ = some (.int .i64 (H 1).k) ∧ W.cell? ⟨g, off + 5 + 1, none⟩ = some (.slice (H 1).ka (H 1).kn (H 1).kc) ∧ W.cell? ⟨g, off + 5 + 2, none⟩ = some (.slice (H 1).va (H 1).vn (H 1).vc) ∧ W.cell? ⟨g, off + 5 + 3, none⟩ = some (.slice (H 1).da (H 1).dn (H 1).dc) ∧ W.cell? ⟨g, off + 5 + 4, none⟩ = some (.slice (H 1).ta (H 1).tn (H 1).tc))) 11 (by kernel_rfl) ⟨HX0.out.drew.box.cells.2.1, HX0.out.drew.box.cells.2.2.1, (HX0.out.drew.box.cells.2.2.2.2).trans (by rw [HTA.out]), (HP.out.below HX0.out.drew.b).kid0 HTA.out (by omega), (HP.out.below HX0.out.drew.b).kid1 HTA.out (by omega)⟩ (fun hHeld => ?_)
      refine take_l (i := 0) (oi := ?oZ1) (v := ?vZ1) ?hiZ1 (by kernel_rfl) (by kernel_rfl) (by kernel_rfl) (by kernel_rfl) ?hQZ1 ?hwZ1 ?hyZ1 (by assumption) ?restZ1
      case hiZ1 => (simp only [List.getElem?_toArray, List.getElem?_cons_zero] <;> rfl)
      case hQZ1 => exact (fun _ _ _ h => h)
      case hwZ1 => rfl
      case hyZ1 => (intro w hSw; (try dsimp only at hSw); go_simp; try with_reducible rfl)
      (try simp only [Act.put, List.setIfInBounds_toArray, List.set_cons_zero, List.set_cons_succ])
      refine take_l (i := 1) (oi := ?oZ2) (v := ?vZ2) ?hiZ2 (by kernel_rfl) (by kernel_rfl) (by kernel_rfl) (by kernel_rfl) ?hQZ2 ?hwZ2 ?hyZ2 (by assumption) ?restZ2
      case hiZ2 => (simp only [List.getElem?_toArray, List.getElem?_cons_succ, List.getElem?_cons_zero] <;> rfl)
      case hQZ2 => exact (fun _ _ _ h => h)
      case hwZ2 => rfl
      case hyZ2 => (intro w hSw; (try dsimp only at hSw); go_simp; try with_reducible rfl)
      (try simp only [Act.put, List.setIfInBounds_toArray, List.set_cons_zero, List.set_cons_succ])
      refine take_l (i := 2) (oi := ?oZ3) (v := ?vZ3) ?hiZ3 (by kernel_rfl) (by kernel_rfl) (by kernel_rfl) (by kernel_rfl) ?hQZ3 ?hwZ3 ?hyZ3 (by assumption) ?restZ3
      case hiZ3 => (simp only [List.getElem?_toArray, List.getElem?_cons_succ, List.getElem?_cons_zero] <;> rfl)
      case hQZ3 => exact (fun _ _ _ h => h)
      case hwZ3 => rfl
      case hyZ3 => (intro w hSw; (try dsimp only at hSw); go_simp; try with_reducible rfl)
      (try simp only [Act.put, List.setIfInBounds_toArray, List.set_cons_zero, List.set_cons_succ])
      refine take_l (i := 3) (oi := ?oZ4) (v := ?vZ4) ?hiZ4 (by kernel_rfl) (by kernel_rfl) (by kernel_rfl) (by kernel_rfl) ?hQZ4 ?hwZ4 ?hyZ4 (by assumption) ?restZ4
      case hiZ4 => (simp only [List.getElem?_toArray, List.getElem?_cons_succ, List.getElem?_cons_zero] <;> rfl)
      case hQZ4 => exact (fun _ _ _ h => h)
      case hwZ4 => rfl
      case hyZ4 => (intro w hSw; (try dsimp only at hSw); go_simp; try with_reducible rfl)
      (try simp only [Act.put, List.setIfInBounds_toArray, List.set_cons_zero, List.set_cons_succ])
      refine take_l (i := 4) (oi := ?oZ5) (v := ?vZ5) ?hiZ5 (by kernel_rfl) (by kernel_rfl) (by kernel_rfl) (by kernel_rfl) ?hQZ5 ?hwZ5 ?hyZ5 (by assumption) ?restZ5
      case hiZ5 => (simp only [List.getElem?_toArray, List.getElem?_cons_succ, List.getElem?_cons_zero] <;> rfl)
      case hQZ5 => exact (fun _ _ _ h => h)
      case hwZ5 => rfl
      case hyZ5 => (intro w hSw; (try dsimp only at hSw); go_simp; try with_reducible rfl)
      (try simp only [Act.put, List.setIfInBounds_toArray, List.set_cons_zero, List.set_cons_succ])
      refine take_l (i := 5) (oi := ?oZ6) (v := ?vZ6) ?hiZ6 (by kernel_rfl) (by kernel_rfl) (by kernel_rfl) (by kernel_rfl) ?hQZ6 ?hwZ6 ?hyZ6 (by assumption) ?restZ6
      case hiZ6 => (simp only [List.getElem?_toArray, List.getElem?_cons_succ, List.getElem?_cons_zero] <;> rfl)
      case hQZ6 => exact (fun _ _ _ h => h)
      case hwZ6 => rfl
      case hyZ6 => (intro w hSw; (try dsimp only at hSw); go_simp; try with_reducible rfl)
      (try simp only [Act.put, List.setIfInBounds_toArray, List.set_cons_zero, List.set_cons_succ])
      refine take_l (i := 6) (oi := ?oZ7) (v := ?vZ7) ?hiZ7 (by kernel_rfl) (by kernel_rfl) (by kernel_rfl) (by kernel_rfl) ?hQZ7 ?hwZ7 ?hyZ7 (by assumption) ?restZ7
      case hiZ7 => (simp only [List.getElem?_toArray, List.getElem?_cons_succ, List.getElem?_cons_zero] <;> rfl)
      case hQZ7 => exact (fun _ _ _ h => h)
      case hwZ7 => rfl
      case hyZ7 => (intro w hSw; (try dsimp only at hSw); go_simp; try with_reducible rfl)
      (try simp only [Act.put, List.setIfInBounds_toArray, List.set_cons_zero, List.set_cons_succ])
      refine take_l (i := 7) (oi := ?oZ8) (v := ?vZ8) ?hiZ8 (by kernel_rfl) (by kernel_rfl) (by kernel_rfl) (by kernel_rfl) ?hQZ8 ?hwZ8 ?hyZ8 (by assumption) ?restZ8
      case hiZ8 => (simp only [List.getElem?_toArray, List.getElem?_cons_succ, List.getElem?_cons_zero] <;> rfl)
      case hQZ8 => exact (fun _ _ _ h => h)
      case hwZ8 => rfl
      case hyZ8 => (intro w hSw; (try dsimp only at hSw); go_simp; try with_reducible rfl)
      (try simp only [Act.put, List.setIfInBounds_toArray, List.set_cons_zero, List.set_cons_succ])
      refine take_l (i := 8) (oi := ?oZ9) (v := ?vZ9) ?hiZ9 (by kernel_rfl) (by kernel_rfl) (by kernel_rfl) (by kernel_rfl) ?hQZ9 ?hwZ9 ?hyZ9 (by assumption) ?restZ9
      case hiZ9 => (simp only [List.getElem?_toArray, List.getElem?_cons_succ, List.getElem?_cons_zero] <;> rfl)
      case hQZ9 => exact (fun _ _ _ h => h)
      case hwZ9 => rfl
      case hyZ9 => (intro w hSw; (try dsimp only at hSw); go_simp; try with_reducible rfl)
      (try simp only [Act.put, List.setIfInBounds_toArray, List.set_cons_zero, List.set_cons_succ])
      refine take_l (i := 9) (oi := ?oZ10) (v := ?vZ10) ?hiZ10 (by kernel_rfl) (by kernel_rfl) (by kernel_rfl) (by kernel_rfl) ?hQZ10 ?hwZ10 ?hyZ10 (by assumption) ?restZ10
      case hiZ10 => (simp only [List.getElem?_toArray, List.getElem?_cons_succ, List.getElem?_cons_zero] <;> rfl)
      case hQZ10 => exact (fun _ _ _ h => h)
      case hwZ10 => rfl
      case hyZ10 => (intro w hSw; (try dsimp only at hSw); go_simp; try with_reducible rfl)
      (try simp only [Act.put, List.setIfInBounds_toArray, List.set_cons_zero, List.set_cons_succ])
      refine one_l (i := 10) (o := ?oZ11) (by kernel_rfl) ?hiZ11 (fun K hK => ?stZ11)
      case hiZ11 => (simp only [List.getElem?_toArray, List.getElem?_cons_succ, List.getElem?_cons_zero] <;> rfl)
      go_simp
      go_at_call 58
      refine (refNode_any l r (H 0) (H 1) ka va kn kc vn vc key val _ ((HP.out.below HX0.out.drew.b).kids 0 l0) ((HP.out.below HX0.out.drew.b).kids 1 l1) (HK.out.1.below HX0.out.drew.b) (HK.out.2.below HX0.out.drew.b)).mono ?_
      rintro _ w2 ⟨h2, rfl, hi2, hb2⟩
      unfold TH.v
      have HX2 := Lib.hid (HX0.out.drew.below hb2)
      have HI2 := Lib.hid hi2
      clear hi2 hb2
      go_simp
      refine hK.out _ _ ?_ (fun hHeld => ?_)
      · (first | exact ⟨HX4.out.box.cells.2.1, HX4.out.box.cells.2.2.1, (HX4.out.box.cells.2.2.2.2).trans (by rw [HTA.out]), (HP.out.below HX4.out.b).kid0 HTA.out (by omega), (HP.out.below HX4.out.b).kid1 HTA.out (by omega)⟩ | exact ⟨HX3.out.box.cells.2.1, HX3.out.box.cells.2.2.1, (HX3.out.box.cells.2.2.2.2).trans (by rw [HTA.out]), (HP.out.below HX3.out.b).kid0 HTA.out (by omega), (HP.out.below HX3.out.b).kid1 HTA.out (by omega)⟩ | exact ⟨HX2.out.box.cells.2.1, HX2.out.box.cells.2.2.1, (HX2.out.box.cells.2.2.2.2).trans (by rw [HTA.out]), (HP.out.below HX2.out.b).kid0 HTA.out (by omega), (HP.out.below HX2.out.b).kid1 HTA.out (by omega)⟩ | exact ⟨HX0.out.drew.box.cells.2.1, HX0.out.drew.box.cells.2.2.1, (HX0.out.drew.box.cells.2.2.2.2).trans (by rw [HTA.out]), (HP.out.below HX0.out.drew.b).kid0 HTA.out (by omega), (HP.out.below HX0.out.drew.b).kid1 HTA.out (by omega)⟩)
      clear hK K
      (try simp only [Act.put, List.setIfInBounds_toArray, List.set_cons_zero, List.set_cons_succ])
      refine last_l (o := ?oZ12) (by kernel_rfl) ?hiZ12 (by kernel_rfl) (fun K hK => ?stZ12)
      case hiZ12 => (simp only [List.getElem?_toArray, List.getElem?_cons_succ, List.getElem?_cons_zero] <;> rfl)
      refine step_store_box rfl 25 (.tmp 6) (.tmp 32) rfl (w.heap.size + 1) hZ h2 rfl rfl 25 HX2.out.res infoTree5 ?_
      intro w9 hbx9 hg9
      have HX9 := Lib.hid hbx9
      have HI9 := Lib.hid (AT.outBox HX2.out.res hg9 _ _ HI2.out)
      have HB9 : Hid (Below w.heap.size w w9) := Lib.hid (HX2.out.b.grown hg9 HX2.out.b.size (fun j hj => by injection hj; omega))
      clear hbx9 hg9
      refine hK.out _ _ ?_
      clear hK K
      (try simp only [Act.put])
      
      clear hHeld
      go_wp2_with fail
      refine bodyPost_ret (v := h2.v) (result_tree Tryz.results34 _ HX9.out rfl Tryz.underlying25 infoTree5) rfl ⟨_, rfl, ?_, HB9.out⟩
      rw [HPN.out]
      exact HI9.out
    have ce2 : (key == k) = false := by simp [ce]
    have HPN1 := Lib.hid (HPN.out.trans (if_neg ce))
    rw [ce2]
    go_upto_if 38 with fail
    cases cl : ltL key k
    · have HPN2 := Lib.hid (HPN1.out.trans (if_neg (by rw [cl]; simp)))
      clear HPN HPN1
      have HPN := HPN2
      clear ce ce2 hlt cv1 cv2 x0 x1 x2 x3 x4 cl
      go_upto_region 7 with fail
      refine region_l (S := (fun W => W.cell? ⟨w.heap.size, 1, none⟩ = some (.slice h.ka h.kn h.kc) ∧ W.cell? ⟨w.heap.size, 2, none⟩ = some (.slice h.va h.vn h.vc) ∧ W.cell? ⟨w.heap.size, 4, none⟩ = some (.slice (some ⟨g, off, none⟩) h.tn h.tc) ∧ (W.cell? ⟨g, off, none⟩ = some (.int .i64 (H 0).k) ∧ W.cell? ⟨g, off + 1, none⟩ = some (.slice (H 0).ka (H 0).kn (H 0).kc) ∧ W.cell? ⟨g, off + 2, none⟩ = some (.slice (H 0).va (H 0).vn (H 0).vc) ∧ W.cell? ⟨g, off + 3, none⟩ = some (.slice (H 0).da (H 0).dn (H 0).dc) ∧ W.cell? ⟨g, off + 4, none⟩ = some (.slice (H 0).ta (H 0).tn (H 0).tc)) ∧ W.cell? ⟨g, off + 5, none⟩ = some (.int .i64 (H 1).k) ∧ W.cell? ⟨g, off + 5 + 1, none⟩ = some (.slice (H 1).ka (H 1).kn (H 1).kc) ∧ W.cell? ⟨g, off + 5 + 2, none⟩ = some (.slice (H 1).va (H 1).vn (H 1).vc) ∧ W.cell? ⟨g, off + 5 + 3, none⟩ = some (.slice (H 1).da (H 1).dn (H 1).dc) ∧ W.cell? ⟨g, off + 5 + 4, none⟩ = some (.slice (H 1).ta (H 1).tn (H 1).tc))) 17 (by kernel_rfl) ⟨HX0.out.drew.box.cells.2.1, HX0.out.drew.box.cells.2.2.1, (HX0.out.drew.box.cells.2.2.2.2).trans (by rw [HTA.out]), (HP.out.below HX0.out.drew.b).kid0 HTA.out (by omega), (HP.out.below HX0.out.drew.b).kid1 HTA.out (by omega)⟩ (fun hHeld => ?_)
      refine take_l (i := 0) (oi := ?oZ31) (v := ?vZ31) ?hiZ31 (by kernel_rfl) (by kernel_rfl) (by kernel_rfl) (by kernel_rfl) ?hQZ31 ?hwZ31 ?hyZ31 (by assumption) ?restZ31
      case hiZ31 => (simp only [List.getElem?_toArray, List.getElem?_cons_zero] <;> rfl)
      case hQZ31 => exact (fun _ _ _ h => h)
      case hwZ31 => rfl
      case hyZ31 => (intro w hSw; (try dsimp only at hSw); go_simp; try with_reducible rfl)
      (try simp only [Act.put, List.setIfInBounds_toArray, List.set_cons_zero, List.set_cons_succ])
      refine take_l (i := 1) (oi := ?oZ32) (v := ?vZ32) ?hiZ32 (by kernel_rfl) (by kernel_rfl) (by kernel_rfl) (by kernel_rfl) ?hQZ32 ?hwZ32 ?hyZ32 (by assumption) ?restZ32
      case hiZ32 => (simp only [List.getElem?_toArray, List.getElem?_cons_succ, List.getElem?_cons_zero] <;> rfl)
      case hQZ32 => exact (fun _ _ _ h => h)
      case hwZ32 => rfl
      case hyZ32 => (intro w hSw; (try dsimp only at hSw); go_simp; try with_reducible rfl)
      (try simp only [Act.put, List.setIfInBounds_toArray, List.set_cons_zero, List.set_cons_succ])
      refine take_l (i := 2) (oi := ?oZ33) (v := ?vZ33) ?hiZ33 (by kernel_rfl) (by kernel_rfl) (by kernel_rfl) (by kernel_rfl) ?hQZ33 ?hwZ33 ?hyZ33 (by assumption) ?restZ33
      case hiZ33 => (simp only [List.getElem?_toArray, List.getElem?_cons_succ, List.getElem?_cons_zero] <;> rfl)
      case hQZ33 => exact (fun _ _ _ h => h)
      case hwZ33 => rfl
      case hyZ33 => (intro w hSw; (try dsimp only at hSw); go_simp; try with_reducible rfl)
      (try simp only [Act.put, List.setIfInBounds_toArray, List.set_cons_zero, List.set_cons_succ])
      refine take_l (i := 3) (oi := ?oZ34) (v := ?vZ34) ?hiZ34 (by kernel_rfl) (by kernel_rfl) (by kernel_rfl) (by kernel_rfl) ?hQZ34 ?hwZ34 ?hyZ34 (by assumption) ?restZ34
      case hiZ34 => (simp only [List.getElem?_toArray, List.getElem?_cons_succ, List.getElem?_cons_zero] <;> rfl)
      case hQZ34 => exact (fun _ _ _ h => h)
      case hwZ34 => rfl
      case hyZ34 => (intro w hSw; (try dsimp only at hSw); go_simp; try with_reducible rfl)
      (try simp only [Act.put, List.setIfInBounds_toArray, List.set_cons_zero, List.set_cons_succ])
      refine take_l (i := 4) (oi := ?oZ35) (v := ?vZ35) ?hiZ35 (by kernel_rfl) (by kernel_rfl) (by kernel_rfl) (by kernel_rfl) ?hQZ35 ?hwZ35 ?hyZ35 (by assumption) ?restZ35
      case hiZ35 => (simp only [List.getElem?_toArray, List.getElem?_cons_succ, List.getElem?_cons_zero] <;> rfl)
      case hQZ35 => exact (fun _ _ _ h => h)
      case hwZ35 => rfl
      case hyZ35 => (intro w hSw; (try dsimp only at hSw); go_simp; try with_reducible rfl)
      (try simp only [Act.put, List.setIfInBounds_toArray, List.set_cons_zero, List.set_cons_succ])
      refine take_l (i := 5) (oi := ?oZ36) (v := ?vZ36) ?hiZ36 (by kernel_rfl) (by kernel_rfl) (by kernel_rfl) (by kernel_rfl) ?hQZ36 ?hwZ36 ?hyZ36 (by assumption) ?restZ36
      case hiZ36 => (simp only [List.getElem?_toArray, List.getElem?_cons_succ, List.getElem?_cons_zero] <;> rfl)
      case hQZ36 => exact (fun _ _ _ h => h)
      case hwZ36 => rfl
      case hyZ36 => (intro w hSw; (try dsimp only at hSw); go_simp; try with_reducible rfl)
      (try simp only [Act.put, List.setIfInBounds_toArray, List.set_cons_zero, List.set_cons_succ])
      refine take_l (i := 6) (oi := ?oZ37) (v := ?vZ37) ?hiZ37 (by kernel_rfl) (by kernel_rfl) (by kernel_rfl) (by kernel_rfl) ?hQZ37 ?hwZ37 ?hyZ37 (by assumption) ?restZ37
      case hiZ37 => (simp only [List.getElem?_toArray, List.getElem?_cons_succ, List.getElem?_cons_zero] <;> rfl)
      case hQZ37 => exact (fun _ _ _ h => h)
      case hwZ37 => rfl
      case hyZ37 => (intro w hSw; (try dsimp only at hSw); go_simp; try with_reducible rfl)
      (try simp only [Act.put, List.setIfInBounds_toArray, List.set_cons_zero, List.set_cons_succ])
      refine take_l (i := 7) (oi := ?oZ38) (v := ?vZ38) ?hiZ38 (by kernel_rfl) (by kernel_rfl) (by kernel_rfl) (by kernel_rfl) ?hQZ38 ?hwZ38 ?hyZ38 (by assumption) ?restZ38
      case hiZ38 => (simp only [List.getElem?_toArray, List.getElem?_cons_succ, List.getElem?_cons_zero] <;> rfl)
      case hQZ38 => exact (fun _ _ _ h => h)
      case hwZ38 => rfl
      case hyZ38 => (intro w hSw; (try dsimp only at hSw); go_simp; try with_reducible rfl)
      (try simp only [Act.put, List.setIfInBounds_toArray, List.set_cons_zero, List.set_cons_succ])
      refine take_l (i := 8) (oi := ?oZ39) (v := ?vZ39) ?hiZ39 (by kernel_rfl) (by kernel_rfl) (by kernel_rfl) (by kernel_rfl) ?hQZ39 ?hwZ39 ?hyZ39 (by assumption) ?restZ39
      case hiZ39 => (simp only [List.getElem?_toArray, List.getElem?_cons_succ, List.getElem?_cons_zero] <;> rfl)
      case hQZ39 => exact (fun _ _ _ h => h)
      case hwZ39 => rfl
      case hyZ39 => (intro w hSw; (try dsimp only at hSw); go_simp; try with_reducible rfl)
      (try simp only [Act.put, List.setIfInBounds_toArray, List.set_cons_zero, List.set_cons_succ])
      refine take_l (i := 9) (oi := ?oZ40) (v := ?vZ40) ?hiZ40 (by kernel_rfl) (by kernel_rfl) (by kernel_rfl) (by kernel_rfl) ?hQZ40 ?hwZ40 ?hyZ40 (by assumption) ?restZ40
      case hiZ40 => (simp only [List.getElem?_toArray, List.getElem?_cons_succ, List.getElem?_cons_zero] <;> rfl)
      case hQZ40 => exact (fun _ _ _ h => h)
      case hwZ40 => rfl
      case hyZ40 => (intro w hSw; (try dsimp only at hSw); go_simp; try with_reducible rfl)
      (try simp only [Act.put, List.setIfInBounds_toArray, List.set_cons_zero, List.set_cons_succ])
      refine take_l (i := 10) (oi := ?oZ41) (v := ?vZ41) ?hiZ41 (by kernel_rfl) (by kernel_rfl) (by kernel_rfl) (by kernel_rfl) ?hQZ41 ?hwZ41 ?hyZ41 (by assumption) ?restZ41
      case hiZ41 => (simp only [List.getElem?_toArray, List.getElem?_cons_succ, List.getElem?_cons_zero] <;> rfl)
      case hQZ41 => exact (fun _ _ _ h => h)
      case hwZ41 => rfl
      case hyZ41 => (intro w hSw; (try dsimp only at hSw); go_simp; try with_reducible rfl)
      (try simp only [Act.put, List.setIfInBounds_toArray, List.set_cons_zero, List.set_cons_succ])
      refine take_l (i := 11) (oi := ?oZ42) (v := ?vZ42) ?hiZ42 (by kernel_rfl) (by kernel_rfl) (by kernel_rfl) (by kernel_rfl) ?hQZ42 ?hwZ42 ?hyZ42 (by assumption) ?restZ42
      case hiZ42 => (simp only [List.getElem?_toArray, List.getElem?_cons_succ, List.getElem?_cons_zero] <;> rfl)
      case hQZ42 => exact (fun _ _ _ h => h)
      case hwZ42 => rfl
      case hyZ42 => (intro w hSw; (try dsimp only at hSw); go_simp; try with_reducible rfl)
      (try simp only [Act.put, List.setIfInBounds_toArray, List.set_cons_zero, List.set_cons_succ])
      refine take_l (i := 12) (oi := ?oZ43) (v := ?vZ43) ?hiZ43 (by kernel_rfl) (by kernel_rfl) (by kernel_rfl) (by kernel_rfl) ?hQZ43 ?hwZ43 ?hyZ43 (by assumption) ?restZ43
      case hiZ43 => (simp only [List.getElem?_toArray, List.getElem?_cons_succ, List.getElem?_cons_zero] <;> rfl)
      case hQZ43 => exact (fun _ _ _ h => h)
      case hwZ43 => rfl
      case hyZ43 => (intro w hSw; (try dsimp only at hSw); go_simp; try with_reducible rfl)
      (try simp only [Act.put, List.setIfInBounds_toArray, List.set_cons_zero, List.set_cons_succ])
      refine take_l (i := 13) (oi := ?oZ44) (v := ?vZ44) ?hiZ44 (by kernel_rfl) (by kernel_rfl) (by kernel_rfl) (by kernel_rfl) ?hQZ44 ?hwZ44 ?hyZ44 (by assumption) ?restZ44
      case hiZ44 => (simp only [List.getElem?_toArray, List.getElem?_cons_succ, List.getElem?_cons_zero] <;> rfl)
      case hQZ44 => exact (fun _ _ _ h => h)
      case hwZ44 => rfl
      case hyZ44 => (intro w hSw; (try dsimp only at hSw); go_simp; try with_reducible rfl)
      (try simp only [Act.put, List.setIfInBounds_toArray, List.set_cons_zero, List.set_cons_succ])
      refine one_l (i := 14) (o := ?oZ45) (by kernel_rfl) ?hiZ45 (fun K hK => ?stZ45)
      case hiZ45 => (simp only [List.getElem?_toArray, List.getElem?_cons_succ, List.getElem?_cons_zero] <;> rfl)
      go_simp
      go_at_call 34
      refine (IHR.out (H 1) _ ((HP.out.below HX0.out.drew.b).kids 1 l1) HL.out.2.2.2 HBL.out.2.1 (by simp only [AT.depth] at hd; omega) (HK.out.1.below HX0.out.drew.b) (HK.out.2.below HX0.out.drew.b)).mono ?_
      rintro _ w2 ⟨h2, rfl, hi2, hb2⟩
      unfold TH.v
      have HX2 := Lib.hid (HX0.out.drew.below hb2)
      have HI2 := Lib.hid hi2
      clear hi2 hb2
      go_simp
      refine hK.out _ _ ?_ (fun hHeld => ?_)
      · (first | exact ⟨HX4.out.box.cells.2.1, HX4.out.box.cells.2.2.1, (HX4.out.box.cells.2.2.2.2).trans (by rw [HTA.out]), (HP.out.below HX4.out.b).kid0 HTA.out (by omega), (HP.out.below HX4.out.b).kid1 HTA.out (by omega)⟩ | exact ⟨HX3.out.box.cells.2.1, HX3.out.box.cells.2.2.1, (HX3.out.box.cells.2.2.2.2).trans (by rw [HTA.out]), (HP.out.below HX3.out.b).kid0 HTA.out (by omega), (HP.out.below HX3.out.b).kid1 HTA.out (by omega)⟩ | exact ⟨HX2.out.box.cells.2.1, HX2.out.box.cells.2.2.1, (HX2.out.box.cells.2.2.2.2).trans (by rw [HTA.out]), (HP.out.below HX2.out.b).kid0 HTA.out (by omega), (HP.out.below HX2.out.b).kid1 HTA.out (by omega)⟩ | exact ⟨HX0.out.drew.box.cells.2.1, HX0.out.drew.box.cells.2.2.1, (HX0.out.drew.box.cells.2.2.2.2).trans (by rw [HTA.out]), (HP.out.below HX0.out.drew.b).kid0 HTA.out (by omega), (HP.out.below HX0.out.drew.b).kid1 HTA.out (by omega)⟩)
      clear hK K
      (try simp only [Act.put, List.setIfInBounds_toArray, List.set_cons_zero, List.set_cons_succ])
      refine one_l (i := 15) (o := ?oZ46) (by kernel_rfl) ?hiZ46 (fun K hK => ?stZ46)
      case hiZ46 => (simp only [List.getElem?_toArray, List.getElem?_cons_succ, List.getElem?_cons_zero] <;> rfl)
      go_simp
      go_at_call 58
      refine (refNode_any l (r.put key val) (H 0) h2 h.ka h.va h.kn h.kc h.vn h.vc k v _ ((HP.out.below HX2.out.b).kids 0 l0) HI2.out (HP.out.below HX2.out.b).key (HP.out.below HX2.out.b).val).mono ?_
      rintro _ w3 ⟨h3, rfl, hi3, hb3⟩
      unfold TH.v
      have HX3 := Lib.hid (HX2.out.below hb3)
      have HI3 := Lib.hid hi3
      clear hi3 hb3
      go_simp
      refine hK.out _ _ ?_ (fun hHeld => ?_)
      · (first | exact ⟨HX4.out.box.cells.2.1, HX4.out.box.cells.2.2.1, (HX4.out.box.cells.2.2.2.2).trans (by rw [HTA.out]), (HP.out.below HX4.out.b).kid0 HTA.out (by omega), (HP.out.below HX4.out.b).kid1 HTA.out (by omega)⟩ | exact ⟨HX3.out.box.cells.2.1, HX3.out.box.cells.2.2.1, (HX3.out.box.cells.2.2.2.2).trans (by rw [HTA.out]), (HP.out.below HX3.out.b).kid0 HTA.out (by omega), (HP.out.below HX3.out.b).kid1 HTA.out (by omega)⟩ | exact ⟨HX2.out.box.cells.2.1, HX2.out.box.cells.2.2.1, (HX2.out.box.cells.2.2.2.2).trans (by rw [HTA.out]), (HP.out.below HX2.out.b).kid0 HTA.out (by omega), (HP.out.below HX2.out.b).kid1 HTA.out (by omega)⟩ | exact ⟨HX0.out.drew.box.cells.2.1, HX0.out.drew.box.cells.2.2.1, (HX0.out.drew.box.cells.2.2.2.2).trans (by rw [HTA.out]), (HP.out.below HX0.out.drew.b).kid0 HTA.out (by omega), (HP.out.below HX0.out.drew.b).kid1 HTA.out (by omega)⟩)
      clear hK K
      (try simp only [Act.put, List.setIfInBounds_toArray, List.set_cons_zero, List.set_cons_succ])
      refine one_l (i := 16) (o := ?oZ47) (by kernel_rfl) ?hiZ47 (fun K hK => ?stZ47)
      case hiZ47 => (simp only [List.getElem?_toArray, List.getElem?_cons_succ, List.getElem?_cons_zero] <;> rfl)
      go_simp
      go_at_call 59
      refine (refLevel_any l k v (r.put key val) h3 _ HI3.out (Lim.mk HL.out.1 HL.out.2.1 HL.out.2.2.1 (AT.put_lim hkl hvl HL.out.2.2.2)) (by simp only [AT.depth] at hd; omega) (by have := (AT.put_bal key val r HBL.out.2.1).2.2; simp only [AT.depth] at hd; omega)).mono ?_
      rintro _ w4 ⟨h4, rfl, hi4, hb4⟩
      unfold TH.v
      have HX4 := Lib.hid (HX3.out.below hb4)
      have HI4 := Lib.hid hi4
      clear hi4 hb4
      go_simp
      refine hK.out _ _ ?_ (fun hHeld => ?_)
      · (first | exact ⟨HX4.out.box.cells.2.1, HX4.out.box.cells.2.2.1, (HX4.out.box.cells.2.2.2.2).trans (by rw [HTA.out]), (HP.out.below HX4.out.b).kid0 HTA.out (by omega), (HP.out.below HX4.out.b).kid1 HTA.out (by omega)⟩ | exact ⟨HX3.out.box.cells.2.1, HX3.out.box.cells.2.2.1, (HX3.out.box.cells.2.2.2.2).trans (by rw [HTA.out]), (HP.out.below HX3.out.b).kid0 HTA.out (by omega), (HP.out.below HX3.out.b).kid1 HTA.out (by omega)⟩ | exact ⟨HX2.out.box.cells.2.1, HX2.out.box.cells.2.2.1, (HX2.out.box.cells.2.2.2.2).trans (by rw [HTA.out]), (HP.out.below HX2.out.b).kid0 HTA.out (by omega), (HP.out.below HX2.out.b).kid1 HTA.out (by omega)⟩ | exact ⟨HX0.out.drew.box.cells.2.1, HX0.out.drew.box.cells.2.2.1, (HX0.out.drew.box.cells.2.2.2.2).trans (by rw [HTA.out]), (HP.out.below HX0.out.drew.b).kid0 HTA.out (by omega), (HP.out.below HX0.out.drew.b).kid1 HTA.out (by omega)⟩)
      clear hK K
      (try simp only [Act.put, List.setIfInBounds_toArray, List.set_cons_zero, List.set_cons_succ])
      refine last_l (o := ?oZ48) (by kernel_rfl) ?hiZ48 (by kernel_rfl) (fun K hK => ?stZ48)
      case hiZ48 => (simp only [List.getElem?_toArray, List.getElem?_cons_succ, List.getElem?_cons_zero] <;> rfl)
      refine step_store_box rfl 25 (.tmp 6) (.tmp 72) rfl (w.heap.size + 1) hZ h4 rfl rfl 25 HX4.out.res infoTree5 ?_
      intro w9 hbx9 hg9
      have HX9 := Lib.hid hbx9
      have HI9 := Lib.hid (AT.outBox HX4.out.res hg9 _ _ HI4.out)
      have HB9 : Hid (Below w.heap.size w w9) := Lib.hid (HX4.out.b.grown hg9 HX4.out.b.size (fun j hj => by injection hj; omega))
      clear hbx9 hg9
      refine hK.out _ _ ?_
      clear hK K
      (try simp only [Act.put])
      
      clear hHeld
      go_wp2_with fail
      refine bodyPost_ret (v := h4.v) (result_tree Tryz.results34 _ HX9.out rfl Tryz.underlying25 infoTree5) rfl ⟨_, rfl, ?_, HB9.out⟩
      rw [HPN.out]
      exact HI9.out
    · have HPN2 := Lib.hid (HPN1.out.trans (if_pos cl))
      clear HPN HPN1
      have HPN := HPN2
      clear ce ce2 hlt cv1 cv2 x0 x1 x2 x3 x4 cl
      go_upto_region 6 with fail
      refine region_l (S := (fun W => W.cell? ⟨w.heap.size, 1, none⟩ = some (.slice h.ka h.kn h.kc) ∧ W.cell? ⟨w.heap.size, 2, none⟩ = some (.slice h.va h.vn h.vc) ∧ W.cell? ⟨w.heap.size, 4, none⟩ = some (.slice (some ⟨g, off, none⟩) h.tn h.tc) ∧ (W.cell? ⟨g, off, none⟩ = some (.int .i64 (H 0).k) ∧ W.cell? ⟨g, off + 1, none⟩ = some (.slice (H 0).ka (H 0).kn (H 0).kc) ∧ W.cell? ⟨g, off + 2, none⟩ = some (.slice (H 0).va (H 0).vn (H 0).vc) ∧ W.cell? ⟨g, off + 3, none⟩ = some (.slice (H 0).da (H 0).dn (H 0).dc) ∧ W.cell? ⟨g, off + 4, none⟩ = some (.slice (H 0).ta (H 0).tn (H 0).tc)) ∧ W.cell? ⟨g, off + 5, none⟩ = some (.int .i64 (H 1).k) ∧ W.cell? ⟨g, off + 5 + 1, none⟩ = some (.slice (H 1).ka (H 1).kn (H 1).kc) ∧ W.cell? ⟨g, off + 5 + 2, none⟩ = some (.slice (H 1).va (H 1).vn (H 1).vc) ∧ W.cell? ⟨g, off + 5 + 3, none⟩ = some (.slice (H 1).da (H 1).dn (H 1).dc) ∧ W.cell? ⟨g, off + 5 + 4, none⟩ = some (.slice (H 1).ta (H 1).tn (H 1).tc))) 17 (by kernel_rfl) ⟨HX0.out.drew.box.cells.2.1, HX0.out.drew.box.cells.2.2.1, (HX0.out.drew.box.cells.2.2.2.2).trans (by rw [HTA.out]), (HP.out.below HX0.out.drew.b).kid0 HTA.out (by omega), (HP.out.below HX0.out.drew.b).kid1 HTA.out (by omega)⟩ (fun hHeld => ?_)
      refine take_l (i := 0) (oi := ?oZ13) (v := ?vZ13) ?hiZ13 (by kernel_rfl) (by kernel_rfl) (by kernel_rfl) (by kernel_rfl) ?hQZ13 ?hwZ13 ?hyZ13 (by assumption) ?restZ13
      case hiZ13 => (simp only [List.getElem?_toArray, List.getElem?_cons_zero] <;> rfl)
      case hQZ13 => exact (fun _ _ _ h => h)
      case hwZ13 => rfl
      case hyZ13 => (intro w hSw; (try dsimp only at hSw); go_simp; try with_reducible rfl)
      (try simp only [Act.put, List.setIfInBounds_toArray, List.set_cons_zero, List.set_cons_succ])
      refine take_l (i := 1) (oi := ?oZ14) (v := ?vZ14) ?hiZ14 (by kernel_rfl) (by kernel_rfl) (by kernel_rfl) (by kernel_rfl) ?hQZ14 ?hwZ14 ?hyZ14 (by assumption) ?restZ14
      case hiZ14 => (simp only [List.getElem?_toArray, List.getElem?_cons_succ, List.getElem?_cons_zero] <;> rfl)
      case hQZ14 => exact (fun _ _ _ h => h)
      case hwZ14 => rfl
      case hyZ14 => (intro w hSw; (try dsimp only at hSw); go_simp; try with_reducible rfl)
      (try simp only [Act.put, List.setIfInBounds_toArray, List.set_cons_zero, List.set_cons_succ])
      refine take_l (i := 2) (oi := ?oZ15) (v := ?vZ15) ?hiZ15 (by kernel_rfl) (by kernel_rfl) (by kernel_rfl) (by kernel_rfl) ?hQZ15 ?hwZ15 ?hyZ15 (by assumption) ?restZ15
      case hiZ15 => (simp only [List.getElem?_toArray, List.getElem?_cons_succ, List.getElem?_cons_zero] <;> rfl)
      case hQZ15 => exact (fun _ _ _ h => h)
      case hwZ15 => rfl
      case hyZ15 => (intro w hSw; (try dsimp only at hSw); go_simp; try with_reducible rfl)
      (try simp only [Act.put, List.setIfInBounds_toArray, List.set_cons_zero, List.set_cons_succ])
      refine take_l (i := 3) (oi := ?oZ16) (v := ?vZ16) ?hiZ16 (by kernel_rfl) (by kernel_rfl) (by kernel_rfl) (by kernel_rfl) ?hQZ16 ?hwZ16 ?hyZ16 (by assumption) ?restZ16
      case hiZ16 => (simp only [List.getElem?_toArray, List.getElem?_cons_succ, List.getElem?_cons_zero] <;> rfl)
      case hQZ16 => exact (fun _ _ _ h => h)
      case hwZ16 => rfl
      case hyZ16 => (intro w hSw; (try dsimp only at hSw); go_simp; try with_reducible rfl)
      (try simp only [Act.put, List.setIfInBounds_toArray, List.set_cons_zero, List.set_cons_succ])
      refine take_l (i := 4) (oi := ?oZ17) (v := ?vZ17) ?hiZ17 (by kernel_rfl) (by kernel_rfl) (by kernel_rfl) (by kernel_rfl) ?hQZ17 ?hwZ17 ?hyZ17 (by assumption) ?restZ17
      case hiZ17 => (simp only [List.getElem?_toArray, List.getElem?_cons_succ, List.getElem?_cons_zero] <;> rfl)
      case hQZ17 => exact (fun _ _ _ h => h)
      case hwZ17 => rfl
      case hyZ17 => (intro w hSw; (try dsimp only at hSw); go_simp; try with_reducible rfl)
      (try simp only [Act.put, List.setIfInBounds_toArray, List.set_cons_zero, List.set_cons_succ])
      refine take_l (i := 5) (oi := ?oZ18) (v := ?vZ18) ?hiZ18 (by kernel_rfl) (by kernel_rfl) (by kernel_rfl) (by kernel_rfl) ?hQZ18 ?hwZ18 ?hyZ18 (by assumption) ?restZ18
      case hiZ18 => (simp only [List.getElem?_toArray, List.getElem?_cons_succ, List.getElem?_cons_zero] <;> rfl)
      case hQZ18 => exact (fun _ _ _ h => h)
      case hwZ18 => rfl
      case hyZ18 => (intro w hSw; (try dsimp only at hSw); go_simp; try with_reducible rfl)
      (try simp only [Act.put, List.setIfInBounds_toArray, List.set_cons_zero, List.set_cons_succ])
      refine take_l (i := 7) (oi := ?oZ19) (v := ?vZ19) ?hiZ19 (by kernel_rfl) (by kernel_rfl) (by kernel_rfl) (by kernel_rfl) ?hQZ19 ?hwZ19 ?hyZ19 (by assumption) ?restZ19
      case hiZ19 => (simp only [List.getElem?_toArray, List.getElem?_cons_succ, List.getElem?_cons_zero] <;> rfl)
      case hQZ19 => exact (fun _ _ _ h => h)
      case hwZ19 => rfl
      case hyZ19 => (intro w hSw; (try dsimp only at hSw); go_simp; try with_reducible rfl)
      (try simp only [Act.put, List.setIfInBounds_toArray, List.set_cons_zero, List.set_cons_succ])
      refine take_l (i := 8) (oi := ?oZ20) (v := ?vZ20) ?hiZ20 (by kernel_rfl) (by kernel_rfl) (by kernel_rfl) (by kernel_rfl) ?hQZ20 ?hwZ20 ?hyZ20 (by assumption) ?restZ20
      case hiZ20 => (simp only [List.getElem?_toArray, List.getElem?_cons_succ, List.getElem?_cons_zero] <;> rfl)
      case hQZ20 => exact (fun _ _ _ h => h)
      case hwZ20 => rfl
      case hyZ20 => (intro w hSw; (try dsimp only at hSw); go_simp; try with_reducible rfl)
      (try simp only [Act.put, List.setIfInBounds_toArray, List.set_cons_zero, List.set_cons_succ])
      refine take_l (i := 9) (oi := ?oZ21) (v := ?vZ21) ?hiZ21 (by kernel_rfl) (by kernel_rfl) (by kernel_rfl) (by kernel_rfl) ?hQZ21 ?hwZ21 ?hyZ21 (by assumption) ?restZ21
      case hiZ21 => (simp only [List.getElem?_toArray, List.getElem?_cons_succ, List.getElem?_cons_zero] <;> rfl)
      case hQZ21 => exact (fun _ _ _ h => h)
      case hwZ21 => rfl
      case hyZ21 => (intro w hSw; (try dsimp only at hSw); go_simp; try with_reducible rfl)
      (try simp only [Act.put, List.setIfInBounds_toArray, List.set_cons_zero, List.set_cons_succ])
      refine take_l (i := 10) (oi := ?oZ22) (v := ?vZ22) ?hiZ22 (by kernel_rfl) (by kernel_rfl) (by kernel_rfl) (by kernel_rfl) ?hQZ22 ?hwZ22 ?hyZ22 (by assumption) ?restZ22
      case hiZ22 => (simp only [List.getElem?_toArray, List.getElem?_cons_succ, List.getElem?_cons_zero] <;> rfl)
      case hQZ22 => exact (fun _ _ _ h => h)
      case hwZ22 => rfl
      case hyZ22 => (intro w hSw; (try dsimp only at hSw); go_simp; try with_reducible rfl)
      (try simp only [Act.put, List.setIfInBounds_toArray, List.set_cons_zero, List.set_cons_succ])
      refine take_l (i := 11) (oi := ?oZ23) (v := ?vZ23) ?hiZ23 (by kernel_rfl) (by kernel_rfl) (by kernel_rfl) (by kernel_rfl) ?hQZ23 ?hwZ23 ?hyZ23 (by assumption) ?restZ23
      case hiZ23 => (simp only [List.getElem?_toArray, List.getElem?_cons_succ, List.getElem?_cons_zero] <;> rfl)
      case hQZ23 => exact (fun _ _ _ h => h)
      case hwZ23 => rfl
      case hyZ23 => (intro w hSw; (try dsimp only at hSw); go_simp; try with_reducible rfl)
      (try simp only [Act.put, List.setIfInBounds_toArray, List.set_cons_zero, List.set_cons_succ])
      refine take_l (i := 12) (oi := ?oZ24) (v := ?vZ24) ?hiZ24 (by kernel_rfl) (by kernel_rfl) (by kernel_rfl) (by kernel_rfl) ?hQZ24 ?hwZ24 ?hyZ24 (by assumption) ?restZ24
      case hiZ24 => (simp only [List.getElem?_toArray, List.getElem?_cons_succ, List.getElem?_cons_zero] <;> rfl)
      case hQZ24 => exact (fun _ _ _ h => h)
      case hwZ24 => rfl
      case hyZ24 => (intro w hSw; (try dsimp only at hSw); go_simp; try with_reducible rfl)
      (try simp only [Act.put, List.setIfInBounds_toArray, List.set_cons_zero, List.set_cons_succ])
      refine take_l (i := 13) (oi := ?oZ25) (v := ?vZ25) ?hiZ25 (by kernel_rfl) (by kernel_rfl) (by kernel_rfl) (by kernel_rfl) ?hQZ25 ?hwZ25 ?hyZ25 (by assumption) ?restZ25
      case hiZ25 => (simp only [List.getElem?_toArray, List.getElem?_cons_succ, List.getElem?_cons_zero] <;> rfl)
      case hQZ25 => exact (fun _ _ _ h => h)
      case hwZ25 => rfl
      case hyZ25 => (intro w hSw; (try dsimp only at hSw); go_simp; try with_reducible rfl)
      (try simp only [Act.put, List.setIfInBounds_toArray, List.set_cons_zero, List.set_cons_succ])
      refine take_l (i := 14) (oi := ?oZ26) (v := ?vZ26) ?hiZ26 (by kernel_rfl) (by kernel_rfl) (by kernel_rfl) (by kernel_rfl) ?hQZ26 ?hwZ26 ?hyZ26 (by assumption) ?restZ26
      case hiZ26 => (simp only [List.getElem?_toArray, List.getElem?_cons_succ, List.getElem?_cons_zero] <;> rfl)
      case hQZ26 => exact (fun _ _ _ h => h)
      case hwZ26 => rfl
      case hyZ26 => (intro w hSw; (try dsimp only at hSw); go_simp; try with_reducible rfl)
      (try simp only [Act.put, List.setIfInBounds_toArray, List.set_cons_zero, List.set_cons_succ])
      refine one_l (i := 6) (o := ?oZ27) (by kernel_rfl) ?hiZ27 (fun K hK => ?stZ27)
      case hiZ27 => (simp only [List.getElem?_toArray, List.getElem?_cons_succ, List.getElem?_cons_zero] <;> rfl)
      go_simp
      go_at_call 34
      refine (IHL.out (H 0) _ ((HP.out.below HX0.out.drew.b).kids 0 l0) HL.out.1 HBL.out.1 (by simp only [AT.depth] at hd; omega) (HK.out.1.below HX0.out.drew.b) (HK.out.2.below HX0.out.drew.b)).mono ?_
      rintro _ w2 ⟨h2, rfl, hi2, hb2⟩
      unfold TH.v
      have HX2 := Lib.hid (HX0.out.drew.below hb2)
      have HI2 := Lib.hid hi2
      clear hi2 hb2
      go_simp
      refine hK.out _ _ ?_ (fun hHeld => ?_)
      · (first | exact ⟨HX4.out.box.cells.2.1, HX4.out.box.cells.2.2.1, (HX4.out.box.cells.2.2.2.2).trans (by rw [HTA.out]), (HP.out.below HX4.out.b).kid0 HTA.out (by omega), (HP.out.below HX4.out.b).kid1 HTA.out (by omega)⟩ | exact ⟨HX3.out.box.cells.2.1, HX3.out.box.cells.2.2.1, (HX3.out.box.cells.2.2.2.2).trans (by rw [HTA.out]), (HP.out.below HX3.out.b).kid0 HTA.out (by omega), (HP.out.below HX3.out.b).kid1 HTA.out (by omega)⟩ | exact ⟨HX2.out.box.cells.2.1, HX2.out.box.cells.2.2.1, (HX2.out.box.cells.2.2.2.2).trans (by rw [HTA.out]), (HP.out.below HX2.out.b).kid0 HTA.out (by omega), (HP.out.below HX2.out.b).kid1 HTA.out (by omega)⟩ | exact ⟨HX0.out.drew.box.cells.2.1, HX0.out.drew.box.cells.2.2.1, (HX0.out.drew.box.cells.2.2.2.2).trans (by rw [HTA.out]), (HP.out.below HX0.out.drew.b).kid0 HTA.out (by omega), (HP.out.below HX0.out.drew.b).kid1 HTA.out (by omega)⟩)
      clear hK K
      (try simp only [Act.put, List.setIfInBounds_toArray, List.set_cons_zero, List.set_cons_succ])
      refine one_l (i := 15) (o := ?oZ28) (by kernel_rfl) ?hiZ28 (fun K hK => ?stZ28)
      case hiZ28 => (simp only [List.getElem?_toArray, List.getElem?_cons_succ, List.getElem?_cons_zero] <;> rfl)
      go_simp
      go_at_call 58
      refine (refNode_any (l.put key val) r h2 (H 1) h.ka h.va h.kn h.kc h.vn h.vc k v _ HI2.out ((HP.out.below HX2.out.b).kids 1 l1) (HP.out.below HX2.out.b).key (HP.out.below HX2.out.b).val).mono ?_
      rintro _ w3 ⟨h3, rfl, hi3, hb3⟩
      unfold TH.v
      have HX3 := Lib.hid (HX2.out.below hb3)
      have HI3 := Lib.hid hi3
      clear hi3 hb3
      go_simp
      refine hK.out _ _ ?_ (fun hHeld => ?_)
      · (first | exact ⟨HX4.out.box.cells.2.1, HX4.out.box.cells.2.2.1, (HX4.out.box.cells.2.2.2.2).trans (by rw [HTA.out]), (HP.out.below HX4.out.b).kid0 HTA.out (by omega), (HP.out.below HX4.out.b).kid1 HTA.out (by omega)⟩ | exact ⟨HX3.out.box.cells.2.1, HX3.out.box.cells.2.2.1, (HX3.out.box.cells.2.2.2.2).trans (by rw [HTA.out]), (HP.out.below HX3.out.b).kid0 HTA.out (by omega), (HP.out.below HX3.out.b).kid1 HTA.out (by omega)⟩ | exact ⟨HX2.out.box.cells.2.1, HX2.out.box.cells.2.2.1, (HX2.out.box.cells.2.2.2.2).trans (by rw [HTA.out]), (HP.out.below HX2.out.b).kid0 HTA.out (by omega), (HP.out.below HX2.out.b).kid1 HTA.out (by omega)⟩ | exact ⟨HX0.out.drew.box.cells.2.1, HX0.out.drew.box.cells.2.2.1, (HX0.out.drew.box.cells.2.2.2.2).trans (by rw [HTA.out]), (HP.out.below HX0.out.drew.b).kid0 HTA.out (by omega), (HP.out.below HX0.out.drew.b).kid1 HTA.out (by omega)⟩)
      clear hK K
      (try simp only [Act.put, List.setIfInBounds_toArray, List.set_cons_zero, List.set_cons_succ])
      refine one_l (i := 16) (o := ?oZ29) (by kernel_rfl) ?hiZ29 (fun K hK => ?stZ29)
      case hiZ29 => (simp only [List.getElem?_toArray, List.getElem?_cons_succ, List.getElem?_cons_zero] <;> rfl)
      go_simp
      go_at_call 59
      refine (refLevel_any (l.put key val) k v r h3 _ HI3.out (Lim.mk (AT.put_lim hkl hvl HL.out.1) HL.out.2.1 HL.out.2.2.1 HL.out.2.2.2) (by have := (AT.put_bal key val l HBL.out.1).2.2; simp only [AT.depth] at hd; omega) (by simp only [AT.depth] at hd; omega)).mono ?_
      rintro _ w4 ⟨h4, rfl, hi4, hb4⟩
      unfold TH.v
      have HX4 := Lib.hid (HX3.out.below hb4)
      have HI4 := Lib.hid hi4
      clear hi4 hb4
      go_simp
      refine hK.out _ _ ?_ (fun hHeld => ?_)
      · (first | exact ⟨HX4.out.box.cells.2.1, HX4.out.box.cells.2.2.1, (HX4.out.box.cells.2.2.2.2).trans (by rw [HTA.out]), (HP.out.below HX4.out.b).kid0 HTA.out (by omega), (HP.out.below HX4.out.b).kid1 HTA.out (by omega)⟩ | exact ⟨HX3.out.box.cells.2.1, HX3.out.box.cells.2.2.1, (HX3.out.box.cells.2.2.2.2).trans (by rw [HTA.out]), (HP.out.below HX3.out.b).kid0 HTA.out (by omega), (HP.out.below HX3.out.b).kid1 HTA.out (by omega)⟩ | exact ⟨HX2.out.box.cells.2.1, HX2.out.box.cells.2.2.1, (HX2.out.box.cells.2.2.2.2).trans (by rw [HTA.out]), (HP.out.below HX2.out.b).kid0 HTA.out (by omega), (HP.out.below HX2.out.b).kid1 HTA.out (by omega)⟩ | exact ⟨HX0.out.drew.box.cells.2.1, HX0.out.drew.box.cells.2.2.1, (HX0.out.drew.box.cells.2.2.2.2).trans (by rw [HTA.out]), (HP.out.below HX0.out.drew.b).kid0 HTA.out (by omega), (HP.out.below HX0.out.drew.b).kid1 HTA.out (by omega)⟩)
      clear hK K
      (try simp only [Act.put, List.setIfInBounds_toArray, List.set_cons_zero, List.set_cons_succ])
      refine last_l (o := ?oZ30) (by kernel_rfl) ?hiZ30 (by kernel_rfl) (fun K hK => ?stZ30)
      case hiZ30 => (simp only [List.getElem?_toArray, List.getElem?_cons_succ, List.getElem?_cons_zero] <;> rfl)
      refine step_store_box rfl 25 (.tmp 6) (.tmp 55) rfl (w.heap.size + 1) hZ h4 rfl rfl 25 HX4.out.res infoTree5 ?_
      intro w9 hbx9 hg9
      have HX9 := Lib.hid hbx9
      have HI9 := Lib.hid (AT.outBox HX4.out.res hg9 _ _ HI4.out)
      have HB9 : Hid (Below w.heap.size w w9) := Lib.hid (HX4.out.b.grown hg9 HX4.out.b.size (fun j hj => by injection hj; omega))
      clear hbx9 hg9
      refine hK.out _ _ ?_
      clear hK K
      (try simp only [Act.put])
      
      clear hHeld
      go_wp2_with fail
      refine bodyPost_ret (v := h4.v) (result_tree Tryz.results34 _ HX9.out rfl Tryz.underlying25 infoTree5) rfl ⟨_, rfl, ?_, HB9.out⟩
      rw [HPN.out]
      exact HI9.out
end Go.Proofs.YtkcmohmfejmfoaaGreatDoor

/- Trees that are balanced, whose keys rise, within their bounds: they stay so. No program is named here. -/
namespace Go.Proofs.YtkcmohmfejmfoaaGreatDoor
set_option linter.unusedVariables false

structure Good (a : AT) : Prop where
  bal : a.bal
  rise : Rise a.pairs
  lim : Lim a.pairs
theorem Good.nil : Good .nil := ⟨trivial, List.Pairwise.nil, fun p hp => by cases hp⟩
theorem AT.depth_le : ∀ a : AT, a.depth ≤ a.pairs.length := by
  intro a
  induction a with
  | nil => exact Nat.le_refl _
  | node l k v r ihl ihr =>
    simp only [AT.depth, AT.pairs, List.length_append, List.length_cons]
    omega
theorem Good.put {a : AT} (h : Good a) {key val : List Int} (hk : key.length ≤ 80) (hv : val.length ≤ 1024) : Good (a.put key val) := by
  refine ⟨(AT.put_bal key val a h.bal).1, ?_, ?_⟩
  · rw [AT.put_pairs key val a h.rise]
    have hr := h.rise
    unfold Rise at hr ⊢
    rw [List.pairwise_append, List.pairwise_cons]
    refine ⟨hr.filter _, ⟨fun q hq => (List.mem_filter.1 hq).2, hr.filter _⟩, fun p hp q hq => ?_⟩
    have h1 : ltL p.1 key = true := (List.mem_filter.1 hp).2
    rcases List.mem_cons.1 hq with rfl | hq
    · exact h1
    · exact ltL_trans h1 (List.mem_filter.1 hq).2
  · rw [AT.put_pairs key val a h.rise]
    intro p hp
    rcases List.mem_append.1 hp with hp | hp
    · exact h.lim p (List.mem_filter.1 hp).1
    · rcases List.mem_cons.1 hp with rfl | hp
      · exact ⟨hk, hv⟩
      · exact h.lim p (List.mem_filter.1 hp).1
theorem AT.put_len (key val : List Int) {a : AT} (h : Rise a.pairs) : (a.put key val).pairs.length ≤ a.pairs.length + 1 := by
  rw [AT.put_pairs key val a h, List.length_append, List.length_cons]
  have h1 : (a.pairs.filter fun p => ltL p.1 key).length + (a.pairs.filter fun p => ltL key p.1).length ≤ a.pairs.length := by
    generalize a.pairs = l
    induction l with
    | nil => exact Nat.le_refl _
    | cons p l ih =>
      rw [List.filter_cons, List.filter_cons, List.length_cons]
      cases c1 : ltL p.1 key
      · cases c2 : ltL key p.1 <;> simp <;> omega
      · rw [ltL_asymm c1]
        simp
        omega
  omega
end Go.Proofs.YtkcmohmfejmfoaaGreatDoor

/- Rows of pairs of a key and a value. No program is named here. -/
namespace Go.Proofs.YtkcmohmfejmfoaaGreatDoor
open Go.RowKit
set_option linter.unusedVariables false

/-- The head of a pair: its two cells. -/
structure PH where
  ka : Option Addr
  kn : Nat
  kc : Nat
  va : Option Addr
  vn : Nat
  vc : Nat
def recP : Rec PH where
  cells := fun p => [.slice p.ka p.kn p.kc, .slice p.va p.vn p.vc]
  sz := 2
  pos := by omega
  len := fun _ => rfl
  one := fun r u hu => by
    simp at hu
    rcases hu with rfl | rfl <;> rfl
/-- A slice's cell. -/
def isSl (u : Value) : Prop := ∃ a n c, u = .slice a n c
/-- Heads and pairs, side by side. -/
def PairsIn (w : World) (ps : List PH) (kvs : List KV) : Prop := ps.length = kvs.length ∧ ∀ i (h1 : i < ps.length) (h2 : i < kvs.length), InBytes w (ps[i]).ka (ps[i]).kn (ps[i]).kc (kvs[i]).1 ∧ InBytes w (ps[i]).va (ps[i]).vn (ps[i]).vc (kvs[i]).2
end Go.Proofs.YtkcmohmfejmfoaaGreatDoor

/- Pairs by their heads' numbers. No function is named here. -/
namespace Go.Proofs.YtkcmohmfejmfoaaGreatDoor
open Go.RowKit
set_option linter.unusedVariables false

/-- Heads, by number, and pairs. -/
def PairsD (w : World) (D : Nat → PH) (kvs : List KV) : Prop := ∀ i (h : i < kvs.length), InBytes w (D i).ka (D i).kn (D i).kc (kvs[i]).1 ∧ InBytes w (D i).va (D i).vn (D i).vc (kvs[i]).2
def pZ : PH := ⟨none, 0, 0, none, 0, 0⟩
/-- The two cells of the i-th pair that came in. -/
theorem InRec.pair {w : World} {a : Option Addr} {n cap : Nat} {D : Nat → PH} (h : InRec recP w a n cap D) {g off : Nat} (e : a = some ⟨g, off, none⟩) (i : Nat) (hi : i < n) : w.cell? ⟨g, off + i * 2, none⟩ = some (.slice (D i).ka (D i).kn (D i).kc) ∧ w.cell? ⟨g, off + i * 2 + 1, none⟩ = some (.slice (D i).va (D i).vn (D i).vc) := by
  obtain ⟨g', off', e', _, hc⟩ := h.at (by omega)
  rw [e] at e'
  injection e' with e'
  injection e' with e1 e2
  subst e1 e2
  exact ⟨hc i hi 0 _ rfl, hc i hi 1 _ rfl⟩
end Go.Proofs.YtkcmohmfejmfoaaGreatDoor

/- The contract of the document's tree into which pairs were put. -/
namespace Go.Proofs.YtkcmohmfejmfoaaGreatDoor
open Go.RowKit
set_option linter.unusedVariables false

/-- The tree that grows, in its box. -/
structure GW (w W : World) (ht : TH) (a : AT) (i : Nat) : Prop where
  b : Below w.heap.size w W
  res : Box W 25 w.heap.size hZ
  box : Box W 25 (w.heap.size + 1) ht
  ti : InTree W ht a.tr
  good : Good a
  cnt : a.pairs.length ≤ i
section
variable {w W W' : World} {ht hn : TH} {a : AT} {i j : Nat}
theorem GW.below (x : GW w W ht a i) (hb : Below W.heap.size W W') : GW w W' ht a i := ⟨x.b.trans (hb.mono x.b.size), x.res.below hb x.res.lt, x.box.below hb x.box.lt, x.ti.lower hb, x.good, x.cnt⟩
theorem GW.drew (x : GW w W ht a i) : GW w W.drew ht a i := x.below (Below.refl _ _).drew
theorem GW.more (x : GW w W ht a i) (h : i ≤ j) : GW w W ht a j := ⟨x.b, x.res, x.box, x.ti, x.good, Nat.le_trans x.cnt h⟩
theorem GW.put (x : GW w W ht a i) (hx : Box W' 25 (w.heap.size + 1) hn) (hg : W.grownBy W' (some (w.heap.size + 1))) {key val : List Int} (hi : InTree W hn (a.put key val).tr) (hk : key.length ≤ 80) (hv : val.length ≤ 1024) : GW w W' hn (a.put key val) (i + 1) :=
  ⟨x.b.grown hg x.b.size (fun j hj => by injection hj; omega), x.res.grown hg (fun q => by injection q; omega), hx, AT.outBox x.box hg _ _ hi, x.good.put hk hv, Nat.le_trans (AT.put_len key val x.good.rise) (by have := x.cnt; omega)⟩
end
/-- The tree into which pairs were put, those that may be. -/
def growS (a : AT) (p : KV) : AT := if p.1.length ≤ 80 ∧ p.2.length ≤ 1024 then a.put p.1 p.2 else a
def grownL (l : List KV) : AT := l.foldl growS .nil
theorem grown_step {kvs : List KV} {i : Nat} {p : KV} (e : kvs[i]? = some p) : grownL (kvs.take (i + 1)) = growS (grownL (kvs.take i)) p := by
  unfold grownL
  rw [List.take_add_one, e, List.foldl_append]
  rfl
theorem grown_yes {kvs : List KV} {i : Nat} {key val : List Int} {a : AT} (e : kvs[i]? = some (key, val)) (ha : a = grownL (kvs.take i)) (h1 : key.length ≤ 80) (h2 : val.length ≤ 1024) : a.put key val = grownL (kvs.take (i + 1)) := by
  rw [grown_step e, growS, if_pos ⟨h1, h2⟩, ha]
theorem grown_no {kvs : List KV} {i : Nat} {key val : List Int} {a : AT} (e : kvs[i]? = some (key, val)) (ha : a = grownL (kvs.take i)) (h : ¬ (key.length ≤ 80 ∧ val.length ≤ 1024)) : a = grownL (kvs.take (i + 1)) := by
  rw [grown_step e, growS, if_neg h, ha]
/-- It answers the tree of the first sixty pairs, balanced. -/
def GrowsTo (w : World) (kvs : List KV) (e : Ending) (w' : World) : Prop := Good (grownL (kvs.take 60)) ∧ (grownL (kvs.take 60)).pairs.length ≤ 60 ∧ Tells w (grownL (kvs.take 60)) e w'
/-- It answers a tree of at most sixty pairs, balanced. -/
def Grows (w : World) (e : Ending) (w' : World) : Prop := ∃ a : AT, Good a ∧ a.pairs.length ≤ 60 ∧ Tells w a e w'
theorem enterG (w : World) : Box (w.alloc (.cells #[.int .i64 0, .slice none 0 0, .slice none 0 0, .slice none 0 0, .slice none 0 0] 25)) 25 w.heap.size hZ := Box.new w 25 hZ

set_option maxRecDepth 100000 in
set_option maxHeartbeats 4000000 in
theorem refGrown_is (kvs : List KV) (la : Option Addr) (n cap : Nat) (D : Nat → PH) (w : World) (hnl : n = kvs.length) (hin : InRec recP w la n cap D) (hpd : PairsD w D kvs) : Calls Tryz.prog 13 #[.slice la n cap] w (GrowsTo w kvs) := by
  have hkv : ∀ i, i < n → ∃ key val, kvs[i]? = some (key, val) ∧ InBytes w (D i).ka (D i).kn (D i).kc key ∧ InBytes w (D i).va (D i).vn (D i).vc val := fun i hi => ⟨_, _, List.getElem?_eq_getElem (by omega), hpd i (by omega)⟩
  have HNL := Lib.hid hnl
  have HIN := Lib.hid hin
  have HKVS := Lib.hid hkv
  clear hin hkv hpd hnl
  have hr := enterG w
  have s1 : (w.alloc (.cells #[.int .i64 0, .slice none 0 0, .slice none 0 0, .slice none 0 0, .slice none 0 0] 25)).heap.size = w.heap.size + 1 := by simp
  have hb0 : Below w.heap.size w (w.alloc (.cells #[.int .i64 0, .slice none 0 0, .slice none 0 0, .slice none 0 0, .slice none 0 0] 25)) := (Below.refl _ _).alloc (Nat.le_refl _) _
  have hx1 : Box ((w.alloc (.cells #[.int .i64 0, .slice none 0 0, .slice none 0 0, .slice none 0 0, .slice none 0 0] 25)).alloc (.cells #[.int .i64 0, .slice none 0 0, .slice none 0 0, .slice none 0 0, .slice none 0 0] 25)) 25 (w.heap.size + 1) hZ := by
    have q := Box.new (w.alloc (.cells #[.int .i64 0, .slice none 0 0, .slice none 0 0, .slice none 0 0, .slice none 0 0] 25)) 25 hZ
    rw [s1] at q
    exact q
  have hr1 := hr.below ((Below.refl (w.alloc (.cells #[.int .i64 0, .slice none 0 0, .slice none 0 0, .slice none 0 0, .slice none 0 0] 25)).heap.size (w.alloc (.cells #[.int .i64 0, .slice none 0 0, .slice none 0 0, .slice none 0 0, .slice none 0 0] 25))).alloc (Nat.le_refl _) (.cells #[.int .i64 0, .slice none 0 0, .slice none 0 0, .slice none 0 0, .slice none 0 0] 25)) hr.lt
  have hb1 : Below w.heap.size w ((w.alloc (.cells #[.int .i64 0, .slice none 0 0, .slice none 0 0, .slice none 0 0, .slice none 0 0] 25)).alloc (.cells #[.int .i64 0, .slice none 0 0, .slice none 0 0, .slice none 0 0, .slice none 0 0] 25)) := hb0.alloc (by rw [s1]; omega) _
  have HX := Lib.hid (And.intro hx1 (And.intro hr1 hb1))
  clear hr s1 hb0 hx1 hr1 hb1
  go_enter Tryz.func13, Tryz.ntmps13
  go_upto_region 2 with (first
    | (refine wpList_store_box rfl 25 (.tmp 3) (.tmp 5) rfl (w.heap.size + 1) hZ hZ rfl rfl 25 HX.out.1 infoTree5 ?_
       intro w2 hbx hg
       have HG2 : Hid (GW w w2 hZ .nil 0) := Lib.hid ⟨HX.out.2.2.grown hg HX.out.2.2.size (fun j hj => by injection hj; omega), HX.out.2.1.grown hg (fun q => by injection q; omega), hbx, inTree_nil w2, Good.nil, Nat.le_refl _⟩
       clear hbx hg))
  clear HX
  go_wp2_with fail
  go_loopw [4] (fun s4 wx => ∃ (i : Nat) (ht : TH) (a : AT), i ≤ n ∧ i ≤ 60 ∧ s4 = .int .i64 i ∧ GW w wx ht a i ∧ a = grownL (kvs.take i)) (fun s4 _ => n - (intOf s4).toNat)
  case atStart => exact ⟨0, hZ, .nil, by omega, by omega, rfl, HG2.out, by rw [List.take_zero]; rfl⟩
  case round =>
    clear HG2
    obtain ⟨i, ht, a, hi1, hi2, rfl, hgw, hga⟩ := hrel
    have HGA := Lib.hid hga
    clear hga
    have HG := Lib.hid hgw
    by_cases c1 : i < n
    · have q1 : (i : Int) < (n : Int) := by omega
      by_cases c2 : i < 60
      · have q2 : (i : Int) < 60 := by omega
        obtain ⟨key, val, hek, hk, hv⟩ := HKVS.out i c1
        have HEK := Lib.hid hek
        clear hek
        have HKV := Lib.hid (And.intro hk hv)
        have hkl := hk.len
        have hvl := hv.len
        obtain ⟨g, off, hea, -, -⟩ := HIN.out.at (by omega)
        obtain ⟨y0, y1⟩ := (HIN.out.below hgw.b).pair hea i c1
        have HEA := Lib.hid hea
        rw [hea]
        clear hea hk hv hgw
        by_cases c3 : (D i).kn ≤ 80
        · have q3 : ((D i).kn : Int) ≤ 80 := by omega
          by_cases c4 : (D i).vn ≤ 1024
          · have q4 : ((D i).vn : Int) ≤ 1024 := by omega
            go_upto_region 6 with fail
            clear y0 y1
            refine region_l (S := (fun W => (W.cell? ⟨(w.heap.size + 1), 0, none⟩ = some (.int .i64 ht.k) ∧ W.cell? ⟨(w.heap.size + 1), 1, none⟩ = some (.slice ht.ka ht.kn ht.kc) ∧ W.cell? ⟨(w.heap.size + 1), 2, none⟩ = some (.slice ht.va ht.vn ht.vc) ∧ W.cell? ⟨(w.heap.size + 1), 3, none⟩ = some (.slice ht.da ht.dn ht.dc) ∧ W.cell? ⟨(w.heap.size + 1), 4, none⟩ = some (.slice ht.ta ht.tn ht.tc)) ∧ W.cell? ⟨g, off + i * 2, none⟩ = some (.slice (D i).ka (D i).kn (D i).kc) ∧ W.cell? ⟨g, off + i * 2 + 1, none⟩ = some (.slice (D i).va (D i).vn (D i).vc))) 12 (by kernel_rfl) ⟨HG.out.drew.box.cells, ((HIN.out.below HG.out.drew.b).pair HEA.out i c1).1, ((HIN.out.below HG.out.drew.b).pair HEA.out i c1).2⟩ (fun hHeld => ?_)
            refine take_l (i := 0) (oi := ?oZ60) (v := ?vZ60) ?hiZ60 (by kernel_rfl) (by kernel_rfl) (by kernel_rfl) (by kernel_rfl) ?hQZ60 ?hwZ60 ?hyZ60 (by assumption) ?restZ60
            case hiZ60 => (simp only [List.getElem?_toArray, List.getElem?_cons_zero] <;> rfl)
            case hQZ60 => exact (fun _ _ _ h => h)
            case hwZ60 => rfl
            case hyZ60 => (intro w hSw; (try dsimp only at hSw); go_simp; try with_reducible rfl)
            (try simp only [Act.put, List.setIfInBounds_toArray, List.set_cons_zero, List.set_cons_succ])
            refine take_l (i := 1) (oi := ?oZ61) (v := ?vZ61) ?hiZ61 (by kernel_rfl) (by kernel_rfl) (by kernel_rfl) (by kernel_rfl) ?hQZ61 ?hwZ61 ?hyZ61 (by assumption) ?restZ61
            case hiZ61 => (simp only [List.getElem?_toArray, List.getElem?_cons_succ, List.getElem?_cons_zero] <;> rfl)
            case hQZ61 => exact (fun _ _ _ h => h)
            case hwZ61 => rfl
            case hyZ61 => (intro w hSw; (try dsimp only at hSw); go_simp; try with_reducible rfl)
            (try simp only [Act.put, List.setIfInBounds_toArray, List.set_cons_zero, List.set_cons_succ])
            refine take_l (i := 2) (oi := ?oZ62) (v := ?vZ62) ?hiZ62 (by kernel_rfl) (by kernel_rfl) (by kernel_rfl) (by kernel_rfl) ?hQZ62 ?hwZ62 ?hyZ62 (by assumption) ?restZ62
            case hiZ62 => (simp only [List.getElem?_toArray, List.getElem?_cons_succ, List.getElem?_cons_zero] <;> rfl)
            case hQZ62 => exact (fun _ _ _ h => h)
            case hwZ62 => rfl
            case hyZ62 => (intro w hSw; (try dsimp only at hSw); go_simp; try with_reducible rfl)
            (try simp only [Act.put, List.setIfInBounds_toArray, List.set_cons_zero, List.set_cons_succ])
            refine take_l (i := 3) (oi := ?oZ63) (v := ?vZ63) ?hiZ63 (by kernel_rfl) (by kernel_rfl) (by kernel_rfl) (by kernel_rfl) ?hQZ63 ?hwZ63 ?hyZ63 (by assumption) ?restZ63
            case hiZ63 => (simp only [List.getElem?_toArray, List.getElem?_cons_succ, List.getElem?_cons_zero] <;> rfl)
            case hQZ63 => exact (fun _ _ _ h => h)
            case hwZ63 => rfl
            case hyZ63 => (intro w hSw; (try dsimp only at hSw); go_simp; try with_reducible rfl)
            (try simp only [Act.put, List.setIfInBounds_toArray, List.set_cons_zero, List.set_cons_succ])
            refine take_l (i := 4) (oi := ?oZ64) (v := ?vZ64) ?hiZ64 (by kernel_rfl) (by kernel_rfl) (by kernel_rfl) (by kernel_rfl) ?hQZ64 ?hwZ64 ?hyZ64 (by assumption) ?restZ64
            case hiZ64 => (simp only [List.getElem?_toArray, List.getElem?_cons_succ, List.getElem?_cons_zero] <;> rfl)
            case hQZ64 => exact (fun _ _ _ h => h)
            case hwZ64 => rfl
            case hyZ64 => (intro w hSw; (try dsimp only at hSw); go_simp; try with_reducible rfl)
            (try simp only [Act.put, List.setIfInBounds_toArray, List.set_cons_zero, List.set_cons_succ])
            refine take_l (i := 5) (oi := ?oZ65) (v := ?vZ65) ?hiZ65 (by kernel_rfl) (by kernel_rfl) (by kernel_rfl) (by kernel_rfl) ?hQZ65 ?hwZ65 ?hyZ65 (by assumption) ?restZ65
            case hiZ65 => (simp only [List.getElem?_toArray, List.getElem?_cons_succ, List.getElem?_cons_zero] <;> rfl)
            case hQZ65 => exact (fun _ _ _ h => h)
            case hwZ65 => rfl
            case hyZ65 => (intro w hSw; (try dsimp only at hSw); go_simp; try with_reducible rfl)
            (try simp only [Act.put, List.setIfInBounds_toArray, List.set_cons_zero, List.set_cons_succ])
            refine take_l (i := 6) (oi := ?oZ66) (v := ?vZ66) ?hiZ66 (by kernel_rfl) (by kernel_rfl) (by kernel_rfl) (by kernel_rfl) ?hQZ66 ?hwZ66 ?hyZ66 (by assumption) ?restZ66
            case hiZ66 => (simp only [List.getElem?_toArray, List.getElem?_cons_succ, List.getElem?_cons_zero] <;> rfl)
            case hQZ66 => exact (fun _ _ _ h => h)
            case hwZ66 => rfl
            case hyZ66 => (intro w hSw; (try dsimp only at hSw); go_simp; try with_reducible rfl)
            (try simp only [Act.put, List.setIfInBounds_toArray, List.set_cons_zero, List.set_cons_succ])
            refine take_l (i := 7) (oi := ?oZ67) (v := ?vZ67) ?hiZ67 (by kernel_rfl) (by kernel_rfl) (by kernel_rfl) (by kernel_rfl) ?hQZ67 ?hwZ67 ?hyZ67 (by assumption) ?restZ67
            case hiZ67 => (simp only [List.getElem?_toArray, List.getElem?_cons_succ, List.getElem?_cons_zero] <;> rfl)
            case hQZ67 => exact (fun _ _ _ h => h)
            case hwZ67 => rfl
            case hyZ67 => (intro w hSw; (try dsimp only at hSw); go_simp; try with_reducible rfl)
            (try simp only [Act.put, List.setIfInBounds_toArray, List.set_cons_zero, List.set_cons_succ])
            refine take_l (i := 8) (oi := ?oZ68) (v := ?vZ68) ?hiZ68 (by kernel_rfl) (by kernel_rfl) (by kernel_rfl) (by kernel_rfl) ?hQZ68 ?hwZ68 ?hyZ68 (by assumption) ?restZ68
            case hiZ68 => (simp only [List.getElem?_toArray, List.getElem?_cons_succ, List.getElem?_cons_zero] <;> rfl)
            case hQZ68 => exact (fun _ _ _ h => h)
            case hwZ68 => rfl
            case hyZ68 => (intro w hSw; (try dsimp only at hSw); go_simp; try with_reducible rfl)
            (try simp only [Act.put, List.setIfInBounds_toArray, List.set_cons_zero, List.set_cons_succ])
            refine take_l (i := 9) (oi := ?oZ69) (v := ?vZ69) ?hiZ69 (by kernel_rfl) (by kernel_rfl) (by kernel_rfl) (by kernel_rfl) ?hQZ69 ?hwZ69 ?hyZ69 (by assumption) ?restZ69
            case hiZ69 => (simp only [List.getElem?_toArray, List.getElem?_cons_succ, List.getElem?_cons_zero] <;> rfl)
            case hQZ69 => exact (fun _ _ _ h => h)
            case hwZ69 => rfl
            case hyZ69 => (intro w hSw; (try dsimp only at hSw); go_simp; try with_reducible rfl)
            (try simp only [Act.put, List.setIfInBounds_toArray, List.set_cons_zero, List.set_cons_succ])
            refine take_l (i := 10) (oi := ?oZ70) (v := ?vZ70) ?hiZ70 (by kernel_rfl) (by kernel_rfl) (by kernel_rfl) (by kernel_rfl) ?hQZ70 ?hwZ70 ?hyZ70 (by assumption) ?restZ70
            case hiZ70 => (simp only [List.getElem?_toArray, List.getElem?_cons_succ, List.getElem?_cons_zero] <;> rfl)
            case hQZ70 => exact (fun _ _ _ h => h)
            case hwZ70 => rfl
            case hyZ70 => (intro w hSw; (try dsimp only at hSw); go_simp; try with_reducible rfl)
            (try simp only [Act.put, List.setIfInBounds_toArray, List.set_cons_zero, List.set_cons_succ])
            refine one_l (i := 11) (o := ?oZ71) (by kernel_rfl) ?hiZ71 (fun K hK => ?stZ71)
            case hiZ71 => (simp only [List.getElem?_toArray, List.getElem?_cons_succ, List.getElem?_cons_zero] <;> rfl)
            go_simp
            go_at_call 34
            refine (refPut_any key val (D i).ka (D i).va (D i).kn (D i).kc (D i).vn (D i).vc (by omega) (by omega) a ht _ HG.out.drew.ti HG.out.good.lim HG.out.good.bal (by have h1 := AT.depth_le a; have := HG.out.cnt; omega) (HKV.out.1.below HG.out.drew.b) (HKV.out.2.below HG.out.drew.b)).mono ?_
            rintro _ w6 ⟨h6, rfl, hi6, hb6⟩
            unfold TH.v
            have HG6 := Lib.hid (HG.out.drew.below hb6)
            have HI6 := Lib.hid hi6
            clear hi6 hb6
            go_simp
            refine hK.out _ _ ?_ (fun hHeld => ?_)
            · (first | exact ⟨HG6.out.box.cells, ((HIN.out.below HG6.out.b).pair HEA.out i c1).1, ((HIN.out.below HG6.out.b).pair HEA.out i c1).2⟩ | exact ⟨HG.out.drew.box.cells, ((HIN.out.below HG.out.drew.b).pair HEA.out i c1).1, ((HIN.out.below HG.out.drew.b).pair HEA.out i c1).2⟩)
            clear hK K
            (try simp only [Act.put, List.setIfInBounds_toArray, List.set_cons_zero, List.set_cons_succ])
            refine last_l (o := ?oZ72) (by kernel_rfl) ?hiZ72 (by kernel_rfl) (fun K hK => ?stZ72)
            case hiZ72 => (simp only [List.getElem?_toArray, List.getElem?_cons_succ, List.getElem?_cons_zero] <;> rfl)
            refine step_store_box rfl 25 (.tmp 3) (.tmp 43) rfl (w.heap.size + 1) ht h6 rfl rfl 25 HG6.out.box infoTree5 ?_
            intro w7 hbx hg
            have HG7 := Lib.hid (HG6.out.put hbx hg HI6.out (by omega : key.length ≤ 80) (by omega : val.length ≤ 1024))
            clear hbx hg
            refine hK.out _ _ ?_
            clear hK K
            (try simp only [Act.put])
            
            clear hHeld
            go_wp2_with fail
            exact ⟨⟨i + 1, h6, _, by omega, by omega, by go_num, HG7.out, grown_yes HEK.out HGA.out (by omega) (by omega)⟩, by simp [intOf]; omega⟩
          · have q4 : ¬ ((D i).vn : Int) ≤ 1024 := by omega
            go_wp2_with fail
            exact ⟨⟨i + 1, ht, a, by omega, by omega, by go_num, HG.out.more (by omega), grown_no HEK.out HGA.out (by omega)⟩, by simp [intOf]; omega⟩
        · have q3 : ¬ ((D i).kn : Int) ≤ 80 := by omega
          go_wp2_with fail
          exact ⟨⟨i + 1, ht, a, by omega, by omega, by go_num, HG.out.more (by omega), grown_no HEK.out HGA.out (by omega)⟩, by simp [intOf]; omega⟩
      · have q2 : ¬ (i : Int) < 60 := by omega
        clear hgw
        obtain ⟨x0, x1, x2, x3, x4⟩ := HG.out.box.cells
        go_wp2_with (first
          | (refine wpList_store_box rfl 25 (.tmp 2) (.tmp 44) rfl w.heap.size hZ ht rfl rfl 25 HG.out.res infoTree5 ?_
             intro w9 hbx9 hg9
             have HX9 := Lib.hid hbx9
             have HI9 := Lib.hid (AT.outBox HG.out.res hg9 _ _ HG.out.ti)
             have HB9 : Hid (Below w.heap.size w w9) := Lib.hid (HG.out.b.grown hg9 HG.out.b.size (fun j hj => by injection hj; omega))
             clear hbx9 hg9 x0 x1 x2 x3 x4))
        have hnl := HNL.out
        have e60 : a = grownL (kvs.take 60) := by
          rw [HGA.out]
          rcases (by omega : i = 60 ∨ kvs.length ≤ i) with q | q
          · rw [q]
          · rw [List.take_of_length_le q, List.take_of_length_le (by omega)]
        clear hnl
        exact bodyPost_ret (v := ht.v) (result_tree Tryz.results13 _ HX9.out rfl Tryz.underlying25 infoTree5) rfl ⟨by rw [← e60]; exact HG.out.good, by rw [← e60]; have := HG.out.cnt; omega, _, rfl, by rw [← e60]; exact HI9.out, HB9.out⟩
    · have q1 : ¬ (i : Int) < (n : Int) := by omega
      clear hgw
      obtain ⟨x0, x1, x2, x3, x4⟩ := HG.out.box.cells
      go_wp2_with (first
        | (refine wpList_store_box rfl 25 (.tmp 2) (.tmp 44) rfl w.heap.size hZ ht rfl rfl 25 HG.out.res infoTree5 ?_
           intro w9 hbx9 hg9
           have HX9 := Lib.hid hbx9
           have HI9 := Lib.hid (AT.outBox HG.out.res hg9 _ _ HG.out.ti)
           have HB9 : Hid (Below w.heap.size w w9) := Lib.hid (HG.out.b.grown hg9 HG.out.b.size (fun j hj => by injection hj; omega))
           clear hbx9 hg9 x0 x1 x2 x3 x4))
      have hnl := HNL.out
      have e60 : a = grownL (kvs.take 60) := by
        rw [HGA.out]
        rcases (by omega : i = 60 ∨ kvs.length ≤ i) with q | q
        · rw [q]
        · rw [List.take_of_length_le q, List.take_of_length_le (by omega)]
      clear hnl
      exact bodyPost_ret (v := ht.v) (result_tree Tryz.results13 _ HX9.out rfl Tryz.underlying25 infoTree5) rfl ⟨by rw [← e60]; exact HG.out.good, by rw [← e60]; have := HG.out.cnt; omega, _, rfl, by rw [← e60]; exact HI9.out, HB9.out⟩
end Go.Proofs.YtkcmohmfejmfoaaGreatDoor

/- One byte in a block of its own. No program is named here. -/
namespace Go.Proofs.YtkcmohmfejmfoaaGreatDoor
open Go.RowKit
set_option linter.unusedVariables false

/-- One byte in a block of its own. -/
theorem in_one {w : World} {g : Nat} {t : TypeId} {z : Int} {fr : Nat × Nat} (h : w.heap[g]? = some (.cells #[.int .u8 z] t fr)) (h0 : 0 ≤ z) (h1 : z ≤ 255) : InBytes w (some ⟨g, 0, none⟩) 1 1 [z] := by
  have hlt : g < w.heap.size := by
    rcases Nat.lt_or_ge g w.heap.size with hlt | hge
    · exact hlt
    · rw [Array.getElem?_eq_none hge] at h
      cases h
  have hseg : Seg .u8 w g 0 [z] := fun i hi => by
    have hi0 : i = 0 := by simpa using hi
    subst hi0
    rw [cell_of_row w g (0 + 0) _ _ fr h]
    rfl
  exact ⟨rfl, (fun x hx => by simp at hx; omega), Nat.le_refl _, by simp [maxLen], (fun h => by cases h), fun _ => ⟨g, 0, rfl, hlt, hseg⟩⟩
theorem alloc_size (w : World) (o : Obj) : (w.alloc o).heap.size = w.heap.size + 1 := by simp
end Go.Proofs.YtkcmohmfejmfoaaGreatDoor

/- A tree of one node, as several heads of statements grow it. -/
namespace Go.Proofs.YtkcmohmfejmfoaaGreatDoor
open Go.RowKit
set_option linter.unusedVariables false

def upN : AT := .node .nil [97] [] .nil
theorem upN_eq : grownL ([([97], [])].take 60) = upN := by simp [grownL, growS, AT.put, upN]
theorem upN_count : countT upN.tr ≤ 500 := by
  have e : upN.tr = .mk 1 [97] [] [] [.mk 0 [] [] [] [], .mk 0 [] [] [] []] := rfl
  rw [e, countT_eq]
  simp only [Tr.kids, List.map_cons, List.map_nil, List.sum_cons, List.sum_nil]
  rw [countT_eq]
  simp [Tr.kids]
theorem conv_97 (W : World) (g : Nat) (hg : W.heap.size = g) : (convert 22 22 (.slice (some ⟨g, 0, none⟩) 1 1)).run Tryz.prog (W.alloc (.cells #[.int .u8 97] 5)) = .ok (.slice (some ⟨g, 0, none⟩) 1 1) (W.alloc (.cells #[.int .u8 97] 5 (1, 2))) := by
  subst hg
  exact Lib.run_convert_bytes_const W 22 5 #[.int .u8 97] 1 1 Tryz.underlying22 Tryz.underlying5
theorem one_pair (w : World) (ty : TypeId) (p : PH) : InRec recP (w.alloc (.cells #[.slice p.ka p.kn p.kc, .slice p.va p.vn p.vc] ty)) (some ⟨w.heap.size, 0, none⟩) 1 1 (fun i => [p].getD i pZ) := by
  have h : OwnR recP (w.alloc (.cells #[.slice p.ka p.kn p.kc, .slice p.va p.vn p.vc] ty)) 0 ty (.slice (some ⟨w.heap.size, 0, none⟩) 1 1) [p] :=
    ⟨rfl, .inr ⟨w.heap.size, 1, _, rfl, Nat.zero_le _, heap_alloc_new w _, Nat.le_refl _, by simp [maxLen], rfl, rfl⟩⟩
  exact (h.inRec pZ).2

end Go.Proofs.YtkcmohmfejmfoaaGreatDoor

/- The document's measure of a tree: has it few enough parts? -/
namespace Go.Proofs.YtkcmohmfejmfoaaGreatDoor
open Go.RowKit
set_option linter.unusedVariables false

/-- A number from -1 to 500; where it is not below 0, the tree is small. -/
def LightPost (w : World) (t : Tr) (left : Int) (e : Ending) (w' : World) : Prop :=
  ∃ r : Int, e = .returned (.int .i64 r) ∧ -1 ≤ r ∧ r ≤ 500 ∧ (0 ≤ r → LightOK t ∧ (countT t : Int) = left - r) ∧ Below w.heap.size w w'

set_option maxRecDepth 100000 in
set_option maxHeartbeats 4000000 in
theorem light_any : ∀ (t : Tr) (h : TH) (left : Int) (dep : Int) (w : World), InTree w h t → -1 ≤ left → left ≤ 500 → 0 ≤ dep → dep ≤ 200 → 
    Calls Tryz.prog 16 #[h.v, .int .i64 left, .int .i64 dep] w (LightPost w t left) := by
  intro t
  induction t using Tr.ind with
  | h t ih =>
  intro h left dep w ht hl1 hl2 hd1 hd2
  unfold TH.v
  obtain ⟨H, hp⟩ := ht.parts
  have hkl := hp.key.len
  have hvl := hp.val.len
  have hdl := hp.dig.len
  have htl := hp.len
  have hkm := Nat.le_trans hp.key.le hp.key.max
  have hvm := Nat.le_trans hp.val.le hp.val.max
  have hdm := Nat.le_trans hp.dig.le hp.dig.max
  have htm := Nat.le_trans hp.sl.le hp.sl.max
  have htc := hp.sl.le
  simp only [maxLen] at hkm hvm hdm htm
  have HP := Lib.hid hp
  have IH := Lib.hid ih
  clear hp ht ih
  have hbox := Box.new w 25 h
  have HX := Lib.hid hbox
  obtain ⟨x0, x1, x2, x3, x4⟩ := hbox.cells
  clear hbox
  go_enter Tryz.func16, Tryz.ntmps16
  by_cases c0 : dep = 0
  · subst c0
    go_wp2_with fail
    go_ret
    exact ⟨_, rfl, by omega, by omega, fun h => by omega, (Below.refl _ _).alloc (Nat.le_refl _) _⟩
  by_cases c1 : left - 1 < 0
  · go_wp2_with fail
    go_ret
    exact ⟨_, rfl, by omega, by omega, fun h => by omega, (Below.refl _ _).alloc (Nat.le_refl _) _⟩
  by_cases c2 : left - 1 < (h.tn : Int)
  · go_wp2_with fail
    go_ret
    exact ⟨_, rfl, by omega, by omega, fun h => by omega, (Below.refl _ _).alloc (Nat.le_refl _) _⟩
  by_cases c3 : (3000 : Int) < (h.kn : Int)
  · go_wp2_with fail
    go_ret
    exact ⟨_, rfl, by omega, by omega, fun h => by omega, (Below.refl _ _).alloc (Nat.le_refl _) _⟩
  by_cases c4 : (3000 : Int) < (h.vn : Int)
  · go_wp2_with fail
    go_ret
    exact ⟨_, rfl, by omega, by omega, fun h => by omega, (Below.refl _ _).alloc (Nat.le_refl _) _⟩
  by_cases c5 : (3000 : Int) < (h.dn : Int)
  · go_wp2_with fail
    go_ret
    exact ⟨_, rfl, by omega, by omega, fun h => by omega, (Below.refl _ _).alloc (Nat.le_refl _) _⟩
  go_wp2_with fail
  clear x0 x1 x2 x3 x4
  go_loopw [1, 7] (fun s1 s7 wx => ∃ (i : Nat) (l : Int), i ≤ h.tn ∧ 0 ≤ l ∧ l ≤ 500 ∧ s1 = .int .i64 l ∧ s7 = .int .i64 i ∧ Box wx 25 w.heap.size h ∧ Below w.heap.size w wx ∧ (∀ j (hj : j < t.kids.length), j < i → LightOK t.kids[j]) ∧ l = left - 1 - (((t.kids.take i).map countT).sum : Nat)) (fun _ s7 _ => h.tn - (intOf s7).toNat)
  case atStart => exact ⟨0, left - 1, by omega, by omega, by omega, by go_num, rfl, HX.out, (Below.refl _ _).alloc (Nat.le_refl _) _, (fun j hj h => by omega), by simp⟩
  case round =>
    obtain ⟨i, l, hi, hl0, hl5, rfl, rfl, hbx, hbw, hok, hsum⟩ := hrel
    have hx4 := hbx.cells.2.2.2.2
    have HBX := Lib.hid hbx
    have HBW := Lib.hid hbw
    have HOK := Lib.hid (And.intro hok hsum)
    clear hbx hbw hok hsum HX
    by_cases hlt : i < h.tn
    · have q1 : (i : Int) < (h.tn : Int) := by omega
      obtain ⟨g, off, hta, hg, hcs⟩ := (HP.out.below HBW.out).place (by omega)
      rw [hta] at hx4
      obtain ⟨k0, k1, k2, k3, k4⟩ := hcs i hlt
      clear hcs hta
      have him : i < t.kids.length := by omega
      go_upto_region 8 with (first
        | (go_at_call 16
           refine (IH.out _ (List.getElem_mem him) (H i) l (dep - 1) _ ((HP.out.below HBW.out).kids i him) (by omega) (by omega) (by omega) (by omega)).mono ?_
           rintro _ w1 ⟨r, rfl, hr1, hr2, hrok, hb1⟩
           have HB1 : Hid (Below w.heap.size w w1) := Lib.hid (HBW.out.trans (hb1.mono HBW.out.size))
           have HX1 := Lib.hid (HBX.out.below hb1 HBX.out.lt)
           have HR := Lib.hid hrok
           clear hb1 hrok))
      clear hx4 k0 k1 k2 k3 k4
      by_cases hr : r < 0
      · go_wp2_with fail
        go_ret
        exact ⟨_, rfl, by omega, by omega, fun h => by omega, HB1.out⟩
      · go_wp2_with fail
        exact ⟨⟨i + 1, r, by omega, by omega, by omega, rfl, by go_num, HX1.out, HB1.out, (fun j hj hji => by
          by_cases hij : j = i
          · subst hij; exact (HR.out (by omega)).1
          · exact HOK.out.1 j hj (by omega)), by
          have h1 := (HR.out (by omega)).2
          have h2 := HOK.out.2
          rw [List.take_succ_eq_append_getElem him, List.map_append, List.sum_append]
          simp only [List.map_cons, List.map_nil, List.sum_cons, List.sum_nil]
          omega⟩, by simp [intOf]; omega⟩
    · obtain rfl : i = h.tn := by omega
      have q1 : ¬ (h.tn : Int) < (h.tn : Int) := by omega
      go_wp2_with fail
      go_ret
      exact ⟨_, rfl, by omega, by omega, fun _ => ⟨.mk t (by omega) (by omega) (by omega) (by omega) fun j hj => HOK.out.1 j hj (by omega), by
        have h2 := HOK.out.2
        rw [List.take_of_length_le (by omega)] at h2
        rw [countT_eq]
        omega⟩, HBW.out⟩
end Go.Proofs.YtkcmohmfejmfoaaGreatDoor

/- What the statements ask of errors: which Code one is. -/
namespace Go.Proofs.YtkcmohmfejmfoaaGreatDoor
open Go.RowKit
set_option linter.unusedVariables false

set_option maxRecDepth 100000 in
set_option maxHeartbeats 1000000 in
theorem code_any (k : Nat) (hk : k ≤ 13) (w : World) :
    Calls Tryz.prog 12 #[codeV k] w (fun e w' => e = .returned (.int .i64 k) ∧ ∃ m, w' = w.drewN m) := by
  have hq := eql_code
  unfold codeV
  go_enter Tryz.func12, Tryz.ntmps12
  by_cases h0 : k = 0
  · subst h0
    rw [if_pos rfl]
    go_wp2_with fail
    go_ret
    exact ⟨rfl, 0, rfl⟩
  · rw [if_neg h0]
    go_wp2_with fail
    go_loopw [3] (fun c wx => ∃ j : Nat, 1 ≤ j ∧ j ≤ k ∧ c = .int .i64 j ∧ wx = w) (fun c _ => 14 - (intOf c).toNat)
    case atStart => exact ⟨1, by omega, by omega, rfl, rfl⟩
    case round =>
      obtain ⟨j, hj1, hjk, rfl, rfl⟩ := hrel
      have h13 : (j : Int) ≤ 13 := by omega
      by_cases he : j = k
      · subst he
        have hb : ((j : Int) == (j : Int)) = true := by simp
        go_wp2_with fail
        go_ret
        exact ⟨rfl, 0, rfl⟩
      · have hb : ((k : Int) == (j : Int)) = false := by simp; omega
        go_wp2_with fail
        exact ⟨⟨j + 1, by omega, by omega, by go_num, trivial⟩, by simp [intOf]; omega⟩
end Go.Proofs.YtkcmohmfejmfoaaGreatDoor

/- The heads of the statements of layer 11: the document's examples; whether a tree is small. -/
namespace Go.Proofs.YtkcmohmfejmfoaaGreatDoor
open Go.RowKit
set_option linter.unusedVariables false

theorem upN_check : checkT upN.tr = 0 := AT.checked (by intro p hp; simp [upN, AT.pairs] at hp; subst hp; simp) (by decide)
theorem cut_upN : cutX 1 upN.tr 0 = (0, .mk 3 [] [] (digA 1 upN) [], [upN.tr]) := by
  have ht : toldD 1 upN.tr = 0 := toldD_some (k := 1) (by omega) (by omega) upN_check (AT.digs (by omega) upN)
  unfold cutX
  rw [if_neg (by simp), if_neg (by rw [ht]; simp), if_neg (by rw [AT.tr_full]; simp), toA_tr]
  rfl
theorem cut_formed (d : List Int) : checkT (.mk 3 [] [] d []) = 0 := by
  unfold checkT
  rw [deepT_eq, formedT_eq]
  rfl
theorem cut_cuts (d : List Int) : cutsT (.mk 3 [] [] d []) = [d] := by
  rw [cutsT_eq]
  rfl
theorem cut_count (d : List Int) : countT (.mk 3 [] [] d []) ≤ 500 := by
  rw [countT_eq]
  show 1 + (([] : List Tr).map countT).sum ≤ 500
  simp
theorem join_up : joinX 1 (.mk 3 [] [] [] []) [] = (3, none, tNil) := by
  unfold joinX
  rw [if_neg (by simp), if_neg (by rw [cut_formed]; simp), if_pos (.inl (by rw [cut_cuts]; simp))]
theorem count_cut (d : List Int) : countX (.mk 3 [] [] d []) = 1 := by
  unfold countX
  rw [if_pos (cut_formed d), cut_cuts]
  rfl
theorem no_trees (w : World) : TreesAt w none 0 0 [] (fun _ => hNil) := ⟨⟨Nat.le_refl _, by simp [maxLen], fun _ => rfl, fun q => absurd q (Nat.lt_irrefl 0)⟩, rfl, fun i hi => absurd hi (Nat.not_lt_zero i)⟩

set_option maxRecDepth 100000 in
set_option maxHeartbeats 4000000 in
theorem small11_any (t : Tr) (h : TH) (w : World) (ht : InTree w h t) : Calls Tryz.prog 5 #[h.v] w (fun e w' => ∃ b, e = .returned (.bool b) ∧ (b = true → LightOK t ∧ countT t ≤ 200) ∧ Below w.heap.size w w') := by
  unfold TH.v
  have hbox := Box.new w 25 h
  obtain ⟨x0, x1, x2, x3, x4⟩ := hbox.cells
  have HT := Lib.hid ht
  clear hbox ht
  go_enter Tryz.func5, Tryz.ntmps5
  go_wp2_with (first
    | (go_at_call 16
       refine (light_any t h 200 100 _ ?_ (by omega) (by omega) (by omega) (by omega)).mono ?_
       · exact HT.out.lower ((Below.refl _ _).alloc (Nat.le_refl _) _)
       rintro _ w1 ⟨r, rfl, hr1, hr2, hok, hb1⟩
       have HB1 : Hid (Below w.heap.size w w1) := Lib.hid (((Below.refl w.heap.size w).alloc (Nat.le_refl _) _).trans (hb1.mono (by simp)))
       have HOK := Lib.hid hok
       clear hb1 hok))
  all_goals
    go_ret
    refine ⟨_, rfl, fun hb => ?_, HB1.out⟩
    have h1 : 0 ≤ r := by simpa using hb
    have h2 := HOK.out h1
    exact ⟨h2.1, by omega⟩

set_option maxRecDepth 100000 in
set_option maxHeartbeats 4000000 in
theorem up11_any (w : World) (hT : TabLies w) : Calls Tryz.prog 4 #[] w (Says w (.bool true)) := by
  have heq : ∀ (W : World) (p q : Int), (binOp .eql 30 (.iface 42 (.int .i64 p)) (.iface 42 (.int .i64 q))).run Tryz.prog W = .ok (.bool (p == q)) W := fun W p q => eql_code p q W
  have hc0 : (convert 22 22 (.slice (some ⟨w.heap.size, 0, none⟩) 1 1)).run Tryz.prog (w.alloc (.cells #[.int .u8 97] 5)) = .ok (.slice (some ⟨w.heap.size, 0, none⟩) 1 1) (w.alloc (.cells #[.int .u8 97] 5 (1, 2))) := conv_97 w _ rfl
  have q1 : Below w.heap.size w (w.alloc (.cells #[.int .u8 97] 5 (1, 2))) := (Below.refl _ _).alloc (Nat.le_refl _) _
  have q2 : Below w.heap.size w ((w.alloc (.cells #[.int .u8 97] 5 (1, 2))).alloc (.cells #[.slice (some ⟨w.heap.size, 0, none⟩) 1 1, .slice none 0 0] 48)) := q1.alloc (by simp) _
  have hb0 : InBytes (w.alloc (.cells #[.int .u8 97] 5 (1, 2))) (some ⟨w.heap.size, 0, none⟩) 1 1 [97] := in_one (heap_alloc_new w (.cells #[.int .u8 97] 5 (1, 2))) (by omega) (by omega)
  have hr0 := one_pair (w.alloc (.cells #[.int .u8 97] 5 (1, 2))) 48 (⟨some ⟨w.heap.size, 0, none⟩, 1, 1, none, 0, 0⟩ : PH)
  rw [alloc_size] at hr0
  have HG : Hid (InRec recP ((w.alloc (.cells #[.int .u8 97] 5 (1, 2))).alloc (.cells #[.slice (some ⟨w.heap.size, 0, none⟩) 1 1, .slice none 0 0] 48)) (some ⟨w.heap.size + 1, 0, none⟩) 1 1 (fun i => [(⟨some ⟨w.heap.size, 0, none⟩, 1, 1, none, 0, 0⟩ : PH)].getD i pZ) ∧ PairsD ((w.alloc (.cells #[.int .u8 97] 5 (1, 2))).alloc (.cells #[.slice (some ⟨w.heap.size, 0, none⟩) 1 1, .slice none 0 0] 48)) (fun i => [(⟨some ⟨w.heap.size, 0, none⟩, 1, 1, none, 0, 0⟩ : PH)].getD i pZ) [([97], [])] ∧ Below w.heap.size w ((w.alloc (.cells #[.int .u8 97] 5 (1, 2))).alloc (.cells #[.slice (some ⟨w.heap.size, 0, none⟩) 1 1, .slice none 0 0] 48))) := Lib.hid ⟨hr0, fun i hi => by
    have e : i = 0 := by simp at hi; omega
    subst e
    exact ⟨hb0.below ((Below.refl _ _).alloc (Nat.le_refl _) _), none_in _⟩, q2⟩
  have HT := Lib.hid hT
  clear q1 q2 hb0 hr0 hT
  go_enter Tryz.func4, Tryz.ntmps4
  go_upto_region 2 with (first
    | (go_at_call 13
       refine (refGrown_is [([97], [])] (some ⟨w.heap.size + 1, 0, none⟩) 1 1 (fun i => [(⟨some ⟨w.heap.size, 0, none⟩, 1, 1, none, 0, 0⟩ : PH)].getD i pZ) _ rfl HG.out.1 HG.out.2.1).mono ?_
       unfold GrowsTo
       rw [upN_eq]
       rintro _ w2 ⟨-, -, h2, rfl, hi2, hb2⟩
       have HI2 := Lib.hid hi2
       have HB2 : Hid (Below w.heap.size w w2) := Lib.hid (HG.out.2.2.trans (hb2.mono HG.out.2.2.size))
       clear hi2 hb2)
    | (refine wpList_store_box rfl 25 (.tmp 1) (.tmp 11) rfl w2.heap.size hZ h2 rfl rfl 25 (Box.new w2 25 hZ) infoTree5 ?_
       intro w2b hbx hg
       have qq : Below w2.heap.size w2 w2b := ((Below.refl w2.heap.size w2).alloc (Nat.le_refl _) _).grown hg (by simp) (fun j hj => by injection hj; omega)
       have HX3 : Hid (Box w2b 25 w2.heap.size h2 ∧ InTree w2b h2 upN.tr ∧ Below w.heap.size w w2b) := Lib.hid ⟨hbx, HI2.out.lower qq, HB2.out.trans (qq.mono HB2.out.size)⟩
       clear hbx hg qq))
  generalize w2.heap.size = g1 at *
  obtain ⟨x0, x1, x2, x3, x4⟩ := HX3.out.1.cells
  clear HG HI2 HB2 hc0
  go_upto_region 3 with (first
    | (go_at_call 14
       refine (ccut_any 1 (by omega) (by omega) upN.tr h2 0 (by omega) (by omega) _ HX3.out.2.1 upN_count (HT.out.below HX3.out.2.2 (Nat.le_refl _))).mono ?_
       rw [cut_upN]
       unfold CutTold
       rintro _ w4 ⟨h4, a4, n4, c4, H4, rfl, hi4, ht4, hb4⟩
       rw [show codeV ((0, .mk 3 [] [] (digA 1 upN) [], [upN.tr]) : Nat × Tr × List Tr).1 = .nilIface from rfl]
       have hn4 : n4 = 1 := ht4.len.symm
       subst hn4
       have HI4 := Lib.hid hi4
       have HB4 : Hid (Below w.heap.size w w4) := Lib.hid (HX3.out.2.2.trans (hb4.mono HX3.out.2.2.size))
       clear hi4 ht4 hb4 x0 x1 x2 x3 x4)
    | (refine wpList_store_box rfl 25 (.tmp 2) (.tmp 15) rfl w4.heap.size hZ h4 rfl rfl 25 (Box.new w4 25 hZ) infoTree5 ?_
       intro w4b hbx hg
       have qq : Below w4.heap.size w4 w4b := ((Below.refl w4.heap.size w4).alloc (Nat.le_refl _) _).grown hg (by simp) (fun j hj => by injection hj; omega)
       have HX5 : Hid (Box w4b 25 w4.heap.size h4 ∧ InTree w4b h4 (.mk 3 [] [] (digA 1 upN) []) ∧ Below w.heap.size w w4b) := Lib.hid ⟨hbx, HI4.out.lower qq, HB4.out.trans (qq.mono HB4.out.size)⟩
       clear hbx hg qq))
  generalize w4.heap.size = g2 at *
  clear HX3 HI4 HB4
  go_upto_region 4 with (first
    | (go_at_call 7
       refine (cjoin_any 1 (by omega) (by omega) (.mk 3 [] [] [] []) ⟨3, none, 0, 0, none, 0, 0, none, 0, 0, none, 0, 0⟩ none 0 0 [] (fun _ => hNil) _ (inTree_leaf (by omega) (by omega) (none_in _)) (no_trees _) (cut_count []) (by intro p hp; cases hp) (by simp) (HT.out.below HX5.out.2.2 (Nat.le_refl _))).mono ?_
       rw [join_up]
       unfold JoinTold
       rintro _ w6 ⟨h6, v6, rfl, -, hv6, hb6⟩
       have hv7 : v6 = .iface 42 (.int .i64 3) := hv6
       subst hv7
       have HX6 : Hid (Box w6 25 g2 h4 ∧ InTree w6 h4 (.mk 3 [] [] (digA 1 upN) []) ∧ Below w.heap.size w w6) := Lib.hid ⟨HX5.out.1.below hb6 HX5.out.1.lt, HX5.out.2.1.lower hb6, HX5.out.2.2.trans (hb6.mono HX5.out.2.2.size)⟩
       clear hv6 hb6)
    | (refine wpList_store_box rfl 25 (.tmp 5) (.tmp 21) rfl w6.heap.size hZ h6 rfl rfl 25 (Box.new w6 25 hZ) infoTree5 ?_
       intro w6b hbx hg
       have qq : Below w6.heap.size w6 w6b := ((Below.refl w6.heap.size w6).alloc (Nat.le_refl _) _).grown hg (by simp) (fun j hj => by injection hj; omega)
       have HX7 : Hid (Box w6b 25 g2 h4 ∧ InTree w6b h4 (.mk 3 [] [] (digA 1 upN) []) ∧ Below w.heap.size w w6b) := Lib.hid ⟨HX6.out.1.below qq HX6.out.1.lt, HX6.out.2.1.lower qq, HX6.out.2.2.trans (qq.mono HX6.out.2.2.size)⟩
       clear hbx hg qq))
  clear HX5 HX6
  obtain ⟨x0, x1, x2, x3, x4⟩ := HX7.out.1.cells
  have e3 : (h4.k == 3) = true := by
    obtain ⟨H7, hp7⟩ := HX7.out.2.1.parts
    rw [hp7.hk]
    rfl
  go_wp2_with (first
    | (go_at_call 15
       refine (ccount_any (.mk 3 [] [] (digA 1 upN) []) h4 _ HX7.out.2.1 (cut_count _)).mono ?_
       rw [count_cut]
       rintro _ w8 ⟨rfl, hb8⟩
       have HB8 : Hid (Below w.heap.size w w8) := Lib.hid (HX7.out.2.2.trans (hb8.mono HX7.out.2.2.size))
       clear hb8 x0 x1 x2 x3 x4))
  go_ret
  exact ⟨rfl, HB8.out⟩
end Go.Proofs.YtkcmohmfejmfoaaGreatDoor

/- Whether several trees are small, as the statements of layer 11 ask. -/
namespace Go.Proofs.YtkcmohmfejmfoaaGreatDoor
open Go.RowKit
set_option linter.unusedVariables false

/-- What all tells. -/
def AllPost (w : World) (n : Nat) (ts : List Tr) (e : Ending) (w' : World) : Prop := ∃ b, e = .returned (.bool b) ∧ (b = true → n ≤ 40 ∧ ∀ p ∈ ts, LightOK p ∧ countT p ≤ 200) ∧ Below w.heap.size w w'

set_option maxRecDepth 100000 in
set_option maxHeartbeats 4000000 in
theorem all11_any (a : Option Addr) (n c : Nat) (ts : List Tr) (H : Nat → TH) (w : World) (hx : TreesAt w a n c ts H) : Calls Tryz.prog 6 #[.slice a n c] w (AllPost w n ts) := by
  have HX := Lib.hid hx
  have hl := hx.len
  have hmx := Nat.le_trans hx.sl.le hx.sl.max
  simp only [maxLen] at hmx
  have hsm : ∀ (hh : TH) (p : Tr) (W : World), InTree W hh p → Calls Tryz.prog 5 #[.agg #[.int .i64 hh.k, .slice hh.ka hh.kn hh.kc, .slice hh.va hh.vn hh.vc, .slice hh.da hh.dn hh.dc, .slice hh.ta hh.tn hh.tc]] W (fun e w' => ∃ b, e = .returned (.bool b) ∧ (b = true → LightOK p ∧ countT p ≤ 200) ∧ Below W.heap.size W w') := fun hh p W q => small11_any p hh W q
  have HSM := Lib.hid hsm
  clear hx hsm
  by_cases h40 : 40 < n
  · have q5 : (40 : Int) < (n : Int) := by omega
    go_enter Tryz.func6, Tryz.ntmps6
    go_wp2_with fail
    go_ret
    exact ⟨false, rfl, fun q => (by cases q), Below.refl _ _⟩
  have q5 : ¬ (40 : Int) < (n : Int) := by omega
  go_enter Tryz.func6, Tryz.ntmps6
  go_wp2_with fail
  go_loopw [3] (fun s3 wx => ∃ i : Nat, i ≤ n ∧ s3 = .int .i64 i ∧ Below w.heap.size w wx ∧ (∀ j (hj : j < i) (h2 : j < ts.length), LightOK ts[j] ∧ countT ts[j] ≤ 200)) (fun s3 _ => n - (intOf s3).toNat)
  case atStart => exact ⟨0, Nat.zero_le _, rfl, Below.refl _ _, fun j hj => absurd hj (Nat.not_lt_zero j)⟩
  case round =>
    obtain ⟨i, hi, rfl, hb, hall⟩ := hrel
    have HB := Lib.hid hb
    have HA := Lib.hid hall
    clear hb hall
    by_cases hlt : i < n
    · have q1 : (i : Int) < (n : Int) := by omega
      obtain ⟨g, off, ea, hcs⟩ := HX.out.place (by omega)
      obtain ⟨k0, k1, k2, k3, k4⟩ := hcs wr HB.out i hlt
      have hil : i < ts.length := by omega
      have HQ := Lib.hid ((HX.out.all i hil).lower HB.out)
      subst ea
      clear hcs
      go_wp2_with (first
        | (go_at_call 5
           (with_reducible refine (HSM.out (H i) ts[i] _ ?_).mono ?_)
           · exact HQ.out
           rintro _ w4 ⟨b4, rfl, hok4, hb4⟩
           have HK4 := Lib.hid hok4
           have HB4 : Hid (Below w.heap.size w w4) := Lib.hid (HB.out.trans (hb4.mono HB.out.size))
           clear hok4 hb4 k0 k1 k2 k3 k4))
      · go_ret
        exact ⟨false, rfl, fun q => (by cases q), HB4.out⟩
      · exact ⟨⟨i + 1, by omega, by go_num, HB4.out, fun j hj h2 => by
          by_cases e : j = i
          · subst e
            exact HK4.out (by simpa using ‹(!b4) = false›)
          · exact HA.out j (by omega) h2⟩, by simp [intOf]; omega⟩
    · obtain rfl : i = n := by omega
      have q1 : ¬ (i : Int) < (i : Int) := by omega
      go_wp2_with fail
      go_ret
      exact ⟨true, rfl, fun _ => ⟨by omega, fun p hp => by
        obtain ⟨j, hj, e⟩ := List.getElem_of_mem hp
        rw [← e]
        exact HA.out j (by omega) hj⟩, HB.out⟩
end Go.Proofs.YtkcmohmfejmfoaaGreatDoor

/- The contract of the document's fill. -/
namespace Go.Proofs.YtkcmohmfejmfoaaGreatDoor
open Go.RowKit
set_option linter.unusedVariables false

/-- What the document's fill tells: a tree, and how many parts were taken. -/
def FillRPost (w : World) (j : Nat) (t : AT) (e : Ending) (w' : World) : Prop := ∃ h', e = .returned (.tuple #[TH.v h', .int .i64 (j : Nat)]) ∧ InTree w' h' t.tr ∧ Below w.heap.size w w'

set_option maxRecDepth 100000 in
set_option maxHeartbeats 8000000 in
theorem fillRNil_any (wb : World) (a : Option Addr) (n c : Nat) (ps : List AT) (Hs : Nat → TH) (hps : TreesAt wb a n c (ps.map AT.tr) Hs) (hn : n ≤ 500) (i : Nat) (h : TH) (w : World) (ht : InTree wb h PT.nil.tr) (hbw : Below wb.heap.size wb w) : Calls Tryz.prog 30 #[.agg #[.int .i64 h.k, .slice h.ka h.kn h.kc, .slice h.va h.vn h.vc, .slice h.da h.dn h.dc, .slice h.ta h.tn h.tc], .slice a n c, .int .i64 (i : Nat)] w (FillRPost w i AT.nil) := by
  have HD := Lib.hid (JX.enter w h)
  have HBW := Lib.hid hbw
  obtain ⟨H, hpt⟩ := ht.parts
  have HP := Lib.hid hpt
  have HTI := Lib.hid ht
  have HKK := Lib.hid hpt.hk
  clear hbw hpt ht
  clear hps
  have e0 : (h.k == 0) = true := by rw [HKK.out]; rfl
  have e3 : (h.k == 3) = false := by rw [HKK.out]; rfl
  go_enter Tryz.func30, Tryz.ntmps30
  go_upto_region 1 with fail
  generalize ((w.alloc (.cells #[.int .i64 h.k, .slice h.ka h.kn h.kc, .slice h.va h.vn h.vc, .slice h.da h.dn h.dc, .slice h.ta h.tn h.tc] 25)).alloc (.cells #[.int .i64 0, .slice none 0 0, .slice none 0 0, .slice none 0 0, .slice none 0 0] 25)) = w0 at *
  obtain ⟨x0, x1, x2, x3, x4⟩ := HD.out.box.cells
  go_wp2_with (first
    | (refine wpList_store_box rfl 25 (.tmp 6) (.tmp 24) rfl (w.heap.size + 1) hZ (h) rfl rfl 25 HD.out.res infoTree5 ?_
       intro w9 hbx9 hg9
       have HX9 := Lib.hid hbx9
       have HG9 := Lib.hid hg9
       have HB9 : Hid (Below w.heap.size w w9) := Lib.hid (HD.out.b.grown hg9 HD.out.b.size (fun j hj => by injection hj; omega))
       clear hbx9 hg9))
  exact bodyPost_ret (v := .tuple #[TH.v h, .int .i64 (i : Nat)]) (Box.result Tryz.results30 _ HX9.out rfl Tryz.underlying25 infoTree5) rfl ⟨h, rfl, HTI.out.lower (HBW.out.trans (HB9.out.mono HBW.out.size)), HB9.out⟩

set_option maxRecDepth 100000 in
set_option maxHeartbeats 8000000 in
theorem fillRCut_any (wb : World) (a : Option Addr) (n c : Nat) (ps : List AT) (Hs : Nat → TH) (hps : TreesAt wb a n c (ps.map AT.tr) Hs) (hn : n ≤ 500) (d : List Int) (i : Nat) (h : TH) (w : World) (ht : InTree wb h (PT.cut d).tr) (hbw : Below wb.heap.size wb w) (hi : i < ps.length) : Calls Tryz.prog 30 #[.agg #[.int .i64 h.k, .slice h.ka h.kn h.kc, .slice h.va h.vn h.vc, .slice h.da h.dn h.dc, .slice h.ta h.tn h.tc], .slice a n c, .int .i64 (i : Nat)] w (FillRPost w (i + 1) ps[i]) := by
  have hlen : ps.length = n := by
    have q := hps.len
    rwa [List.length_map] at q
  have hin : i < n := by omega
  obtain ⟨ga, offa, hae, hcell⟩ := hps.place (by omega)
  subst hae
  have HTR : Hid (InTree wb (Hs i) (ps[i]).tr) := Lib.hid (by
    have q := hps.all i (by rw [List.length_map]; exact hi)
    rwa [List.getElem_map] at q)
  have HCE := Lib.hid hcell
  have HD := Lib.hid (JX.enter w h)
  have HBW := Lib.hid hbw
  obtain ⟨H, hpt⟩ := ht.parts
  have HP := Lib.hid hpt
  have HTI := Lib.hid ht
  have HKK := Lib.hid hpt.hk
  clear hbw hpt ht
  clear hps hcell
  have e3 : (h.k == 3) = true := by rw [HKK.out]; rfl
  have hin1 : (i : Int) < (n : Int) := by omega
  have e1 : IntKind.i64.wrap ((i : Int) + 1) = (i : Int) + 1 := IntWalk.i64_in _ (by omega)
  go_enter Tryz.func30, Tryz.ntmps30
  go_upto_region 1 with fail
  generalize ((w.alloc (.cells #[.int .i64 h.k, .slice h.ka h.kn h.kc, .slice h.va h.vn h.vc, .slice h.da h.dn h.dc, .slice h.ta h.tn h.tc] 25)).alloc (.cells #[.int .i64 0, .slice none 0 0, .slice none 0 0, .slice none 0 0, .slice none 0 0] 25)) = w0 at *
  obtain ⟨x0, x1, x2, x3, x4⟩ := HD.out.box.cells
  obtain ⟨y0, y1, y2, y3, y4⟩ := HCE.out w0 (HBW.out.trans (HD.out.b.mono HBW.out.size)) i hin
  go_wp2_with (first
    | (refine wpList_store_box rfl 25 (.tmp 6) (.tmp 18) rfl (w.heap.size + 1) hZ (Hs i) rfl rfl 25 HD.out.res infoTree5 ?_
       intro w9 hbx9 hg9
       have HX9 := Lib.hid hbx9
       have HG9 := Lib.hid hg9
       have HB9 : Hid (Below w.heap.size w w9) := Lib.hid (HD.out.b.grown hg9 HD.out.b.size (fun j hj => by injection hj; omega))
       clear hbx9 hg9))
  exact bodyPost_ret (v := .tuple #[TH.v (Hs i), .int .i64 ((i : Int) + 1)]) (Box.result Tryz.results30 _ HX9.out rfl Tryz.underlying25 infoTree5) rfl ⟨Hs i, rfl, HTR.out.lower (HBW.out.trans (HB9.out.mono HBW.out.size)), HB9.out⟩

set_option maxRecDepth 100000 in
set_option maxHeartbeats 8000000 in
theorem fillRNode_any (wb : World) (a : Option Addr) (n c : Nat) (l : PT) (key val : List Int) (r : PT) (i : Nat) (h : TH) (w : World) (ht : InTree wb h (PT.shown l key val r).tr) (hbw : Below wb.heap.size wb w) (j1 j2 : Nat) (al ar : AT)
    (ihl : ∀ (h : TH) (w : World), InTree wb h l.tr → Below wb.heap.size wb w → Calls Tryz.prog 30 #[.agg #[.int .i64 h.k, .slice h.ka h.kn h.kc, .slice h.va h.vn h.vc, .slice h.da h.dn h.dc, .slice h.ta h.tn h.tc], .slice a n c, .int .i64 (i : Nat)] w (FillRPost w j1 al))
    (ihr : ∀ (h : TH) (w : World), InTree wb h r.tr → Below wb.heap.size wb w → Calls Tryz.prog 30 #[.agg #[.int .i64 h.k, .slice h.ka h.kn h.kc, .slice h.va h.vn h.vc, .slice h.da h.dn h.dc, .slice h.ta h.tn h.tc], .slice a n c, .int .i64 (j1 : Nat)] w (FillRPost w j2 ar)) :
    Calls Tryz.prog 30 #[.agg #[.int .i64 h.k, .slice h.ka h.kn h.kc, .slice h.va h.vn h.vc, .slice h.da h.dn h.dc, .slice h.ta h.tn h.tc], .slice a n c, .int .i64 (i : Nat)] w (FillRPost w j2 (AT.node al key val ar)) := by
  have HTN : Hid (h.tn = 2) := Lib.hid (by obtain ⟨H, hp⟩ := ht.parts; exact hp.len.symm)
  have l0 : 0 < (PT.shown l key val r).tr.kids.length := by show 0 < 2; omega
  have l1 : 1 < (PT.shown l key val r).tr.kids.length := by show 1 < 2; omega
  have IHL := Lib.hid ihl
  have IHR := Lib.hid ihr
  have HD := Lib.hid (JX.enter w h)
  have HBW := Lib.hid hbw
  obtain ⟨H, hpt⟩ := ht.parts
  have HP := Lib.hid hpt
  have HTI := Lib.hid ht
  have HKK := Lib.hid hpt.hk
  clear hbw hpt ht
  clear ihl ihr
  have e0 : (h.k == 0) = false := by rw [HKK.out]; rfl
  have e3 : (h.k == 3) = false := by rw [HKK.out]; rfl
  go_enter Tryz.func30, Tryz.ntmps30
  go_upto_region 1 with fail
  generalize ((w.alloc (.cells #[.int .i64 h.k, .slice h.ka h.kn h.kc, .slice h.va h.vn h.vc, .slice h.da h.dn h.dc, .slice h.ta h.tn h.tc] 25)).alloc (.cells #[.int .i64 0, .slice none 0 0, .slice none 0 0, .slice none 0 0, .slice none 0 0] 25)) = w0 at *
  obtain ⟨x0, x1, x2, x3, x4⟩ := HD.out.box.cells
  obtain ⟨g, off, hta, hg, -⟩ := HP.out.place (by rw [HTN.out]; omega)
  have HTA := Lib.hid hta
  rw [hta] at x4
  obtain ⟨y0, y1, y2, y3, y4⟩ := (HP.out.below (HBW.out.trans (HD.out.b.mono HBW.out.size))).kid0 HTA.out (by rw [HTN.out]; omega)
  clear hta hg
  have ht0 : 0 < h.tn := by rw [HTN.out]; omega
  have ht1 : (1 : Int) < (h.tn : Int) := by rw [HTN.out]; omega
  go_upto_region 6 with (first
  | (go_at_call 30
     refine (IHL.out (H 0) _ (HP.out.kids 0 l0) (HBW.out.trans (HD.out.b.mono HBW.out.size))).mono ?_
     rintro _ w1 ⟨h1, rfl, ht1, hbw1⟩
     unfold TH.v
     have HDw1 := Lib.hid (HD.out.below hbw1)
     have Hht1 := Lib.hid ht1
     have HBBw1 := Lib.hid hbw1
     clear ht1 hbw1 x0 x1 x2 x3 x4 y0 y1 y2 y3 y4))
  have b2 : Below w1.heap.size w1 (w1.alloc (.cells #[.int .i64 h1.k, .slice h1.ka h1.kn h1.kc, .slice h1.va h1.vn h1.vc, .slice h1.da h1.dn h1.dc, .slice h1.ta h1.tn h1.tc] 25)) := (Below.refl _ _).alloc (Nat.le_refl _) _
  have HD2 := Lib.hid (HDw1.out.below b2)
  have HL2 := Lib.hid (Box.new w1 25 h1)
  have HT2 := Lib.hid (Hht1.out.lower b2)
  clear b2 HDw1 Hht1 HBBw1
  generalize (w1.alloc (.cells #[.int .i64 h1.k, .slice h1.ka h1.kn h1.kc, .slice h1.va h1.vn h1.vc, .slice h1.da h1.dn h1.dc, .slice h1.ta h1.tn h1.tc] 25)) = w2 at *
  generalize w1.heap.size = L1 at *
  obtain ⟨x0, x1, x2, x3, x4⟩ := HD2.out.box.cells
  rw [HTA.out] at x4
  obtain ⟨y0, y1, y2, y3, y4⟩ := (HP.out.below (HBW.out.trans (HD2.out.b.mono HBW.out.size))).kid1 HTA.out (by rw [HTN.out]; omega)
  go_upto_region 7 with (first
  | (go_at_call 30
     refine (IHR.out (H 1) _ (HP.out.kids 1 l1) (HBW.out.trans (HD2.out.b.mono HBW.out.size))).mono ?_
     rintro _ w3 ⟨h2, rfl, ht2, hbw3⟩
     unfold TH.v
     have HDw3 := Lib.hid (HD2.out.below hbw3)
     have Hht2 := Lib.hid ht2
     have HBBw3 := Lib.hid hbw3
     clear ht2 hbw3 x0 x1 x2 x3 x4 y0 y1 y2 y3 y4))
  have b4 : Below w3.heap.size w3 (w3.alloc (.cells #[.int .i64 h2.k, .slice h2.ka h2.kn h2.kc, .slice h2.va h2.vn h2.vc, .slice h2.da h2.dn h2.dc, .slice h2.ta h2.tn h2.tc] 25)) := (Below.refl _ _).alloc (Nat.le_refl _) _
  have HD4 := Lib.hid (HDw3.out.below b4)
  have HL4 := Lib.hid ((HL2.out.below HBBw3.out HL2.out.lt).below b4 (HL2.out.below HBBw3.out HL2.out.lt).lt)
  have HR4 := Lib.hid (Box.new w3 25 h2)
  have HTL4 := Lib.hid ((HT2.out.lower HBBw3.out).lower b4)
  have HTR4 := Lib.hid (Hht2.out.lower b4)
  clear b4 HDw3 Hht2 HBBw3 HD2 HL2 HT2
  generalize (w3.alloc (.cells #[.int .i64 h2.k, .slice h2.ka h2.kn h2.kc, .slice h2.va h2.vn h2.vc, .slice h2.da h2.dn h2.dc, .slice h2.ta h2.tn h2.tc] 25)) = w4 at *
  generalize w3.heap.size = L2 at *
  obtain ⟨x0, x1, x2, x3, x4⟩ := HD4.out.box.cells
  obtain ⟨y0, y1, y2, y3, y4⟩ := HL4.out.cells
  obtain ⟨z0, z1, z2, z3, z4⟩ := HR4.out.cells
  have b5 : Below w4.heap.size w4 (w4.alloc (.cells #[.int .i64 h1.k, .slice h1.ka h1.kn h1.kc, .slice h1.va h1.vn h1.vc, .slice h1.da h1.dn h1.dc, .slice h1.ta h1.tn h1.tc, .int .i64 h2.k, .slice h2.ka h2.kn h2.kc, .slice h2.va h2.vn h2.vc, .slice h2.da h2.dn h2.dc, .slice h2.ta h2.tn h2.tc] 25)) := (Below.refl _ _).alloc (Nat.le_refl _) _
  have HD5 := Lib.hid (HD4.out.below b5)
  have HTW : Hid (Two5 (w4.alloc (.cells #[.int .i64 h1.k, .slice h1.ka h1.kn h1.kc, .slice h1.va h1.vn h1.vc, .slice h1.da h1.dn h1.dc, .slice h1.ta h1.tn h1.tc, .int .i64 h2.k, .slice h2.ka h2.kn h2.kc, .slice h2.va h2.vn h2.vc, .slice h2.da h2.dn h2.dc, .slice h2.ta h2.tn h2.tc] 25)) 25 w4.heap.size h1 h2) := Lib.hid (Two5.new w4 25 h1 h2)
  have HTL5 := Lib.hid (HTL4.out.lower b5)
  have HTR5 := Lib.hid (HTR4.out.lower b5)
  have HZ4 : Hid (w.heap.size + 1 < w4.heap.size) := Lib.hid HD4.out.res.lt
  clear b5
  go_wp2_with (first
  | (refine wpList_store_box rfl 25 (.tmp 6) (.tmp 53) rfl (w.heap.size + 1) hZ (⟨1, h.ka, h.kn, h.kc, h.va, h.vn, h.vc, none, 0, 0, some ⟨w4.heap.size, 0, none⟩, 2, 2⟩) rfl rfl 25 HD5.out.res infoTree5 ?_
     intro w9 hbx9 hg9
     have HX9 := Lib.hid hbx9
     have HG9 := Lib.hid hg9
     have HB9 : Hid (Below w.heap.size w w9) := Lib.hid (HD5.out.b.grown hg9 HD5.out.b.size (fun j hj => by injection hj; omega))
     clear hbx9 hg9))
  refine bodyPost_ret (v := .tuple #[TH.v ⟨1, h.ka, h.kn, h.kc, h.va, h.vn, h.vc, none, 0, 0, some ⟨w4.heap.size, 0, none⟩, 2, 2⟩, .int .i64 (j2 : Nat)]) (Box.result Tryz.results30 _ HX9.out rfl Tryz.underlying25 infoTree5) rfl ⟨⟨1, h.ka, h.kn, h.kc, h.va, h.vn, h.vc, none, 0, 0, some ⟨w4.heap.size, 0, none⟩, 2, 2⟩, rfl, ?_, HB9.out⟩
  have hx9 : Two5 w9 25 w4.heap.size h1 h2 := (HG9.out.block _ HTW.out.lt (fun e => by injection e; have := HZ4.out; omega)).trans HTW.out
  have hB9 := HBW.out.trans (HB9.out.mono HBW.out.size)
  exact AT.inNode hx9 (AT.outBox HD5.out.res HG9.out _ _ HTL5.out) (AT.outBox HD5.out.res HG9.out _ _ HTR5.out) (HP.out.key.below hB9) (HP.out.val.below hB9)
theorem refFill_any (wb : World) (a : Option Addr) (n c : Nat) (ps : List AT) (Hs : Nat → TH) (hps : TreesAt wb a n c (ps.map AT.tr) Hs) (hn : n ≤ 500) : ∀ (p : PT), darkP p = false → ∀ (i : Nat) (h : TH) (w : World), i + (cutsP p).length ≤ ps.length → InTree wb h p.tr → Below wb.heap.size wb w → Calls Tryz.prog 30 #[.agg #[.int .i64 h.k, .slice h.ka h.kn h.kc, .slice h.va h.vn h.vc, .slice h.da h.dn h.dc, .slice h.ta h.tn h.tc], .slice a n c, .int .i64 (i : Nat)] w (FillRPost w (i + (cutsP p).length) (fillA p (ps.drop i)).1) := by
  intro p
  induction p with
  | nil => exact fun hd i h w hi ht hbw => fillRNil_any wb a n c ps Hs hps hn i h w ht hbw
  | cut d =>
    intro hd i h w hi ht hbw
    have hi2 : i < ps.length := by
      have q : i + 1 ≤ ps.length := hi
      omega
    rw [List.drop_eq_getElem_cons hi2]
    exact fillRCut_any wb a n c ps Hs hps hn d i h w ht hbw hi2
  | shown l key val r ihl ihr =>
    intro hd i h w hi ht hbw
    rw [darkP, Bool.or_eq_false_iff] at hd
    have e : (cutsP (.shown l key val r)).length = (cutsP l).length + (cutsP r).length := by rw [cutsP, List.length_append]
    rw [e] at hi ⊢
    have e2 : (fillA l (ps.drop i)).2 = ps.drop (i + (cutsP l).length) := by rw [fill_drop l _ hd.1, List.drop_drop]
    have e3 : (fillA (.shown l key val r) (ps.drop i)).1 = .node (fillA l (ps.drop i)).1 key val (fillA r (ps.drop (i + (cutsP l).length))).1 := by rw [fillA, e2]
    rw [e3, ← Nat.add_assoc]
    exact fillRNode_any wb a n c l key val r i h w ht hbw (i + (cutsP l).length) (i + (cutsP l).length + (cutsP r).length) _ _ (fun h w q1 q2 => ihl hd.1 i h w (by omega) q1 q2) (fun h w q1 q2 => ihr hd.2 (i + (cutsP l).length) h w (by omega) q1 q2)
  | dark l key d r ihl ihr => exact fun hd => by cases hd
end Go.Proofs.YtkcmohmfejmfoaaGreatDoor

/- The contract of the document's Dark. -/
namespace Go.Proofs.YtkcmohmfejmfoaaGreatDoor
open Go.RowKit
set_option linter.unusedVariables false

/-- Whether there is a dark node. -/
def darkT (t : Tr) : Bool := t.fold fun t rs => t.k == 2 || rs.any id
theorem darkT_eq (t : Tr) : darkT t = (t.k == 2 || t.kids.any darkT) := by
  unfold darkT
  rw [Tr.fold_eq]
  simp [List.any_map, Function.comp_def]
theorem darkT_P : ∀ p : PT, darkT p.tr = darkP p := by
  intro p
  induction p with
  | nil => rw [darkT_eq]; rfl
  | cut d => rw [darkT_eq]; rfl
  | shown l key v r ihl ihr =>
    rw [darkT_eq]
    show (false || [l.tr, r.tr].any darkT) = (darkP l || darkP r)
    simp [ihl, ihr]
  | dark l key d r ihl ihr => rw [darkT_eq]; rfl
theorem dark_to {t : Tr} (hf : formedT t = true) : darkT t = darkP (toP t) := by
  obtain ⟨p, rfl⟩ := PT.of t hf
  rw [darkT_P, toP_tr]
theorem any_take11 {α : Type} (l : List α) (p : α → Bool) (i : Nat) (hi : i < l.length) : (l.take (i + 1)).any p = ((l.take i).any p || p l[i]) := by
  rw [List.take_succ_eq_append_getElem hi, List.any_append]
  simp

set_option maxRecDepth 100000 in
set_option maxHeartbeats 8000000 in
theorem refDark_any : ∀ (t : Tr) (h : TH) (w : World), InTree w h t → Calls Tryz.prog 27 #[.agg #[.int .i64 h.k, .slice h.ka h.kn h.kc, .slice h.va h.vn h.vc, .slice h.da h.dn h.dc, .slice h.ta h.tn h.tc]] w (Says w (.bool (darkT t))) := by
  intro t
  induction t using Tr.ind with
  | h t ih =>
  intro h w ht
  obtain ⟨H, hp⟩ := ht.parts
  have htl := hp.len
  have HK := Lib.hid hp.hk
  have htm := Nat.le_trans hp.sl.le hp.sl.max
  have htc := hp.sl.le
  simp only [maxLen] at htm
  have HP := Lib.hid hp
  have IH := Lib.hid ih
  clear hp ht ih
  have hbox := Box.new w 25 h
  have HX := Lib.hid hbox
  obtain ⟨x0, x1, x2, x3, x4⟩ := hbox.cells
  clear hbox
  have HB : Hid (Below w.heap.size w (w.alloc (.cells #[.int .i64 h.k, .slice h.ka h.kn h.kc, .slice h.va h.vn h.vc, .slice h.da h.dn h.dc, .slice h.ta h.tn h.tc] 25))) := Lib.hid ((Below.refl _ _).alloc (Nat.le_refl _) _)
  go_enter Tryz.func27, Tryz.ntmps27
  by_cases hk2 : h.k = 2
  · have e2 : (h.k == 2) = true := by rw [hk2]; rfl
    have hd : darkT t = true := by rw [darkT_eq, ← HK.out, e2]; rfl
    have HDD := Lib.hid hd
    clear hk2 hd
    go_wp2_with fail
    go_ret
    exact ⟨by rw [HDD.out]; rfl, HB.out⟩
  have e2 : (h.k == 2) = false := by simpa using hk2
  have HK2 : Hid ((t.k == 2) = false) := Lib.hid (by rw [← HK.out]; exact e2)
  clear hk2
  go_wp2_with fail
  clear x0 x1 x2 x3 x4 e2
  go_loopw [3] (fun s3 wx => ∃ i : Nat, i ≤ h.tn ∧ s3 = .int .i64 i ∧ Box wx 25 w.heap.size h ∧ Below w.heap.size w wx ∧ (t.kids.take i).any darkT = false) (fun s3 _ => h.tn - (intOf s3).toNat)
  case atStart => exact ⟨0, by omega, rfl, HX.out, HB.out, by simp⟩
  case round =>
    clear HX HB
    obtain ⟨i, hi, rfl, hbx, hbw, hany⟩ := hrel
    have hx4 := hbx.cells.2.2.2.2
    have HBX := Lib.hid hbx
    have HBW := Lib.hid hbw
    have HA := Lib.hid hany
    clear hbx hbw hany
    by_cases hlt : i < h.tn
    · have q1 : (i : Int) < (h.tn : Int) := by omega
      obtain ⟨g, off, hta, hg, hcs⟩ := (HP.out.below HBW.out).place (by omega)
      rw [hta] at hx4
      obtain ⟨k0, k1, k2, k3, k4⟩ := hcs i hlt
      have him : i < t.kids.length := by omega
      clear hcs hta
      go_upto_region 7 with (first
      | (go_at_call 27
         refine (IH.out _ (List.getElem_mem him) (H i) _ ((HP.out.below HBW.out).kids i him)).mono ?_
         rintro _ w1 ⟨rfl, hb1⟩
         have HB1 : Hid (Below w.heap.size w w1) := Lib.hid (HBW.out.trans (hb1.mono HBW.out.size))
         have HX1 := Lib.hid (HBX.out.below hb1 HBX.out.lt)
         generalize hr : darkT t.kids[i] = r
         have HR := Lib.hid hr
         clear hb1 hr))
      clear hx4 k0 k1 k2 k3 k4
      cases r
      · go_wp2_with fail
        exact ⟨⟨i + 1, by omega, by go_num, HX1.out, HB1.out, by rw [any_take11 _ _ i him, HA.out, HR.out]; rfl⟩, by simp [intOf]; omega⟩
      · go_wp2_with fail
        go_ret
        have hd : darkT t = true := by rw [darkT_eq, any_at i him HR.out, Bool.or_true]
        exact ⟨by rw [hd]; rfl, HB1.out⟩
    · obtain rfl : i = h.tn := by omega
      have q1 : ¬ (h.tn : Int) < (h.tn : Int) := by omega
      go_wp2_with fail
      go_ret
      have hA := HA.out
      rw [List.take_of_length_le (by omega)] at hA
      have hd : darkT t = false := by rw [darkT_eq, HK2.out, hA]; rfl
      exact ⟨by rw [hd]; rfl, HBW.out⟩
end Go.Proofs.YtkcmohmfejmfoaaGreatDoor

/- The contract of the document's Join. -/
namespace Go.Proofs.YtkcmohmfejmfoaaGreatDoor
open Go.RowKit
set_option linter.unusedVariables false

/-- A tree and two numbers as results. -/
theorem result_three {P : Program} {fn : Func} {p q r : Tmp} {ty : TypeId} (hr : fn.results = #[.cell p ty, .tmp q, .tmp r]) (tmps : Array Value) {w : World} {g : Nat} {t : TypeId} {h : TH} {fs : Array Field} (hx : Box w t g h)
    (hp : tmps.getD p undef = .pointer (some ⟨g, 0, none⟩)) (hu : P.underlying ty = some (.struct fs)) (hi : (P.info? ty).map (·.size) = some 5) :
    (results fn tmps).run P w = .ok (.tuple #[h.v, tmps.getD q undef, tmps.getD r undef]) w := by
  have hp' : tmps[p]?.getD undef = .pointer (some ⟨g, 0, none⟩) := by simpa using hp
  have hl := run_loadVar_row (P := P) w g t ty _ _ (.struct fs) hx hu rfl hi
  simp [results, hr, hp', asAddr, hl, TH.v]
/-- The place that the document tells: -1 if there is none. -/
def atV : Option Nat → Int
  | none => -1
  | some i => i
/-- What the document's Join tells. -/
def RJoinTold (w : World) (r : Nat × Option Nat × Tr) (e : Ending) (w' : World) : Prop := ∃ h', e = .returned (.tuple #[TH.v h', .int .i64 (r.1 : Nat), .int .i64 (atV r.2.1)]) ∧ InTree w' h' r.2.2 ∧ Below w.heap.size w w'
theorem bad_stepJ {x : Int} {t : Tr} {i : Nat} {ps : List Tr} (hi : i < ps.length) : badX x t i (ps.drop i) = if fitsX x t i ps[i] = 0 then badX x t (i + 1) (ps.drop (i + 1)) else some (i, fitsX x t i ps[i]) := by
  rw [List.drop_eq_getElem_cons hi, badX]

set_option maxRecDepth 100000 in
set_option maxHeartbeats 8000000 in
theorem refJoin_any (x : Int) (hx1 : -9223372036854775808 ≤ x) (hx2 : x ≤ 9223372036854775807) (gk ck : Nat) (t : Tr) (h : TH) (a : Option Addr) (n c : Nat) (ps : List Tr) (H : Nat → TH) (w : World) (ht : InTree w h t) (hps : TreesAt w a n c ps H) (hc : countT t ≤ 500) (hn : ps.length ≤ 500) (hks : Seg .u32 w gk 0 kTab) (hgk : gk < w.heap.size) : Calls Tryz.prog 8 #[.agg (Value.slice (some ⟨gk, 0, none⟩) 64 ck :: hTab.map (Value.int .u32)).toArray, .int .i64 x, .agg #[.int .i64 h.k, .slice h.ka h.kn h.kc, .slice h.va h.vn h.vc, .slice h.da h.dn h.dc, .slice h.ta h.tn h.tc], .slice a n c] w (RJoinTold w (joinX x t ps)) := by
  have HD := Lib.hid (FW11.enter w gk ck h hZ hks hgk)
  have HT := Lib.hid ht
  have HPS := Lib.hid hps
  have hlen := hps.len
  have HLEN := Lib.hid hlen
  obtain ⟨rr, hrr⟩ : ∃ rr, joinX x t ps = rr := ⟨_, rfl⟩
  rw [hrr]
  have HRR := Lib.hid hrr
  rw [hlen] at hn
  clear ht hps hks hgk hrr hlen
  change Hid (FW11 w (((w.alloc (.cells (Value.slice (some ⟨gk, 0, none⟩) 64 ck :: hTab.map (Value.int .u32)).toArray 39)).alloc (.cells #[.int .i64 h.k, .slice h.ka h.kn h.kc, .slice h.va h.vn h.vc, .slice h.da h.dn h.dc, .slice h.ta h.tn h.tc] 25)).alloc (.cells #[.int .i64 0, .slice none 0 0, .slice none 0 0, .slice none 0 0, .slice none 0 0] 25)) gk ck h hZ) at HD
  go_enter Tryz.func8, Tryz.ntmps8
  go_upto_region 1 with fail
  generalize (((w.alloc (.cells (Value.slice (some ⟨gk, 0, none⟩) 64 ck :: hTab.map (Value.int .u32)).toArray 39)).alloc (.cells #[.int .i64 h.k, .slice h.ka h.kn h.kc, .slice h.va h.vn h.vc, .slice h.da h.dn h.dc, .slice h.ta h.tn h.tc] 25)).alloc (.cells #[.int .i64 0, .slice none 0 0, .slice none 0 0, .slice none 0 0, .slice none 0 0] 25)) = w0 at *
  obtain ⟨x0, x1, x2, x3, x4⟩ := HD.out.d.box.cells
  by_cases c1 : x < 1
  · have HE : Hid (rr = (1, none, tNil)) := Lib.hid (by rw [← HRR.out]; unfold joinX; rw [if_pos (by omega)])
    go_wp2_with (first
    | (refine wpList_store_box rfl 25 (.tmp 8) (.tmp 22) rfl (w.heap.size + 2) hZ (hZ) rfl rfl 25 HD.out.box2 infoTree5 ?_
       intro w9 hbx9 hg9
       have HX9 := Lib.hid hbx9
       have HB9 : Hid (Below w.heap.size w w9) := Lib.hid (HD.out.b.grown hg9 HD.out.b.size (fun j hj => by injection hj; omega))
       clear hbx9 hg9))
    exact bodyPost_ret (v := .tuple #[TH.v hZ, .int .i64 1, .int .i64 (-1)]) (result_three Tryz.results8 _ HX9.out rfl Tryz.underlying25 infoTree5) rfl ⟨hZ, by rw [HE.out]; rfl, by rw [HE.out]; exact inTree_nil w9, HB9.out⟩
  by_cases c2 : (32 : Int) < x
  · have HE : Hid (rr = (1, none, tNil)) := Lib.hid (by rw [← HRR.out]; unfold joinX; rw [if_pos (by omega)])
    go_wp2_with (first
    | (refine wpList_store_box rfl 25 (.tmp 8) (.tmp 22) rfl (w.heap.size + 2) hZ (hZ) rfl rfl 25 HD.out.box2 infoTree5 ?_
       intro w9 hbx9 hg9
       have HX9 := Lib.hid hbx9
       have HB9 : Hid (Below w.heap.size w w9) := Lib.hid (HD.out.b.grown hg9 HD.out.b.size (fun j hj => by injection hj; omega))
       clear hbx9 hg9))
    exact bodyPost_ret (v := .tuple #[TH.v hZ, .int .i64 1, .int .i64 (-1)]) (result_three Tryz.results8 _ HX9.out rfl Tryz.underlying25 infoTree5) rfl ⟨hZ, by rw [HE.out]; rfl, by rw [HE.out]; exact inTree_nil w9, HB9.out⟩
  obtain ⟨k, hk⟩ : ∃ k : Nat, x = (k : Int) := ⟨x.toNat, by omega⟩
  subst hk
  have HK12 : Hid (1 ≤ k ∧ k ≤ 32) := Lib.hid ⟨by omega, by omega⟩
  have HX12 : Hid (¬ ¬ (1 ≤ (k : Int) ∧ (k : Int) ≤ 32)) := Lib.hid (by simp only [Classical.not_not]; omega)
  go_upto_region 3 with fail
  clear c1 c2
  by_cases hck : checkT t = 0
  case neg =>
    have HE : Hid (rr = (checkT t, none, tNil)) := Lib.hid (by rw [← HRR.out]; unfold joinX; rw [if_neg HX12.out, if_pos hck])
    have hcc : ((checkT t : Int) != 0) = true := by simp; omega
    clear hck
    go_wp2_with (first
    | (go_at_call 26
       refine (refCheck_any t h _ (HT.out.lower HD.out.b)).mono ?_
       rintro _ w3 ⟨rfl, hb3⟩
       have HD3 := Lib.hid (HD.out.below hb3)
       clear hb3 x0 x1 x2 x3 x4)
    | (refine wpList_store_box rfl 25 (.tmp 8) (.tmp 27) rfl (w.heap.size + 2) hZ (hZ) rfl rfl 25 HD3.out.box2 infoTree5 ?_
       intro w9 hbx9 hg9
       have HX9 := Lib.hid hbx9
       have HB9 : Hid (Below w.heap.size w w9) := Lib.hid (HD3.out.b.grown hg9 HD3.out.b.size (fun j hj => by injection hj; omega))
       clear hbx9 hg9))
    exact bodyPost_ret (v := .tuple #[TH.v hZ, .int .i64 (checkT t : Nat), .int .i64 (-1)]) (result_three Tryz.results8 _ HX9.out rfl Tryz.underlying25 infoTree5) rfl ⟨hZ, by rw [HE.out]; rfl, by rw [HE.out]; exact inTree_nil w9, HB9.out⟩
  have HCK := Lib.hid hck
  have hfo := (check_zero hck).1
  have HPT : Hid ((toP t).tr = t) := Lib.hid (by
    obtain ⟨p, rfl⟩ := PT.of t hfo
    rw [toP_tr])
  have HDT0 := Lib.hid (dark_to hfo)
  have HCT0 : Hid (¬ checkT t ≠ 0) := Lib.hid (by rw [hck]; simp)
  have hcc : ((checkT t : Int) != 0) = false := by rw [hck]; rfl
  clear hck hfo
  obtain ⟨L, hL⟩ : ∃ L, (cutsT t).length = L := ⟨_, rfl⟩
  have HCL0 := Lib.hid hL
  clear hL
  by_cases hln : L = n
  case neg =>
    have HE : Hid (rr = (3, none, tNil)) := Lib.hid (by rw [← HRR.out]; unfold joinX; rw [if_neg HX12.out, if_neg HCT0.out, if_pos (.inl (by rw [HCL0.out, HLEN.out]; exact hln))])
    have hb : ((L : Int) == (n : Int)) = false := by simp; omega
    have HDT : Hid (darkT t = darkT t) := Lib.hid rfl
    go_wp2_with (first
    | (go_at_call 26
       refine (refCheck_any t h _ (HT.out.lower HD.out.b)).mono ?_
       rintro _ w3 ⟨rfl, hb3⟩
       have HD3 := Lib.hid (HD.out.below hb3)
       clear hb3 x0 x1 x2 x3 x4
       obtain ⟨x0, x1, x2, x3, x4⟩ := HD3.out.d.box.cells)
    | (go_at_call 27
       refine (refDark_any t h _ (HT.out.lower HD3.out.b)).mono ?_
       rintro _ w4 ⟨rfl, hb4⟩
       have HD4 := Lib.hid (HD3.out.below hb4)
       clear hb4 x0 x1 x2 x3 x4
       obtain ⟨x0, x1, x2, x3, x4⟩ := HD4.out.d.box.cells)
    | (go_at_call 28
       refine (refCuts_any w t h _ HT.out HD4.out.b (by omega)).mono ?_
       rintro _ w5 ⟨v5, rs, rfl, ho5, hs5, hb5⟩
       obtain ⟨a5, c5, hv5⟩ := ho5.sl
       subst hv5
       have HD5 := Lib.hid (HD4.out.below hb5)
       have HL5 : Hid (rs.length = L) := Lib.hid (hs5.1.trans HCL0.out)
       rw [HL5.out]
       clear ho5 hs5 hb5 x0 x1 x2 x3 x4)
    | (refine wpList_store_box rfl 25 (.tmp 8) (.tmp 40) rfl (w.heap.size + 2) hZ (hZ) rfl rfl 25 HD5.out.box2 infoTree5 ?_
       intro w9 hbx9 hg9
       have HX9 := Lib.hid hbx9
       have HB9 : Hid (Below w.heap.size w w9) := Lib.hid (HD5.out.b.grown hg9 HD5.out.b.size (fun j hj => by injection hj; omega))
       clear hbx9 hg9))
    exact bodyPost_ret (v := .tuple #[TH.v hZ, .int .i64 3, .int .i64 (-1)]) (result_three Tryz.results8 _ HX9.out rfl Tryz.underlying25 infoTree5) rfl ⟨hZ, by rw [HE.out]; rfl, by rw [HE.out]; exact inTree_nil w9, HB9.out⟩
  subst hln
  cases hdk : darkP (toP t) with
  | true =>
    have HE : Hid (rr = (3, none, tNil)) := Lib.hid (by rw [← HRR.out]; unfold joinX; rw [if_neg HX12.out, if_neg HCT0.out, if_pos (.inr hdk)])
    have HDT : Hid (darkT t = true) := Lib.hid (by rw [HDT0.out, hdk])
    clear hdk
    go_wp2_with (first
    | (go_at_call 26
       refine (refCheck_any t h _ (HT.out.lower HD.out.b)).mono ?_
       rintro _ w3 ⟨rfl, hb3⟩
       have HD3 := Lib.hid (HD.out.below hb3)
       clear hb3 x0 x1 x2 x3 x4
       obtain ⟨x0, x1, x2, x3, x4⟩ := HD3.out.d.box.cells)
    | (go_at_call 27
       refine (refDark_any t h _ (HT.out.lower HD3.out.b)).mono ?_
       rintro _ w4 ⟨rfl, hb4⟩
       rw [HDT.out]
       have HD4 := Lib.hid (HD3.out.below hb4)
       clear hb4 x0 x1 x2 x3 x4
       obtain ⟨x0, x1, x2, x3, x4⟩ := HD4.out.d.box.cells)
    | (go_at_call 28
       refine (refCuts_any w t h _ HT.out HD4.out.b (by omega)).mono ?_
       rintro _ w5 ⟨v5, rs, rfl, ho5, hs5, hb5⟩
       obtain ⟨a5, c5, hv5⟩ := ho5.sl
       subst hv5
       have HD5 := Lib.hid (HD4.out.below hb5)
       have HL5 : Hid (rs.length = L) := Lib.hid (hs5.1.trans HCL0.out)
       rw [HL5.out]
       clear ho5 hs5 hb5 x0 x1 x2 x3 x4)
    | (refine wpList_store_box rfl 25 (.tmp 8) (.tmp 40) rfl (w.heap.size + 2) hZ (hZ) rfl rfl 25 HD5.out.box2 infoTree5 ?_
       intro w9 hbx9 hg9
       have HX9 := Lib.hid hbx9
       have HB9 : Hid (Below w.heap.size w w9) := Lib.hid (HD5.out.b.grown hg9 HD5.out.b.size (fun j hj => by injection hj; omega))
       clear hbx9 hg9))
    exact bodyPost_ret (v := .tuple #[TH.v hZ, .int .i64 3, .int .i64 (-1)]) (result_three Tryz.results8 _ HX9.out rfl Tryz.underlying25 infoTree5) rfl ⟨hZ, by rw [HE.out]; rfl, by rw [HE.out]; exact inTree_nil w9, HB9.out⟩
  | false =>
  have HE0 : Hid (rr = match badX k t 0 ps with
    | some (i, m) => (m, if m = 6 then some i else none, tNil)
    | none => if checkT (fillA (toP t) (ps.map toA)).1.tr ≠ 0 then (checkT (fillA (toP t) (ps.map toA)).1.tr, none, tNil) else (0, none, (fillA (toP t) (ps.map toA)).1.tr)) := Lib.hid (by
    rw [← HRR.out]
    unfold joinX
    rw [if_neg HX12.out, if_neg HCT0.out, if_neg (by rw [hdk, HCL0.out, HLEN.out]; simp)]
    rfl)
  have HDF := Lib.hid hdk
  have HDT : Hid (darkT t = false) := Lib.hid (by rw [HDT0.out, hdk])
  clear hdk
  go_upto_region 9 with (first
  | (go_at_call 26
     refine (refCheck_any t h _ (HT.out.lower HD.out.b)).mono ?_
     rintro _ w3 ⟨rfl, hb3⟩
     have HD3 := Lib.hid (HD.out.below hb3)
     clear hb3 x0 x1 x2 x3 x4
     obtain ⟨x0, x1, x2, x3, x4⟩ := HD3.out.d.box.cells)
  | (go_at_call 27
     refine (refDark_any t h _ (HT.out.lower HD3.out.b)).mono ?_
     rintro _ w4 ⟨rfl, hb4⟩
     rw [HDT.out]
     have HD4 := Lib.hid (HD3.out.below hb4)
     clear hb4 x0 x1 x2 x3 x4
     obtain ⟨x0, x1, x2, x3, x4⟩ := HD4.out.d.box.cells)
  | (go_at_call 28
     refine (refCuts_any w t h _ HT.out HD4.out.b (by omega)).mono ?_
     rintro _ w5 ⟨v5, rs, rfl, ho5, hs5, hb5⟩
     obtain ⟨a5, c5, hv5⟩ := ho5.sl
     subst hv5
     have HD5 := Lib.hid (HD4.out.below hb5)
     have HL5 : Hid (rs.length = L) := Lib.hid (hs5.1.trans HCL0.out)
     rw [HL5.out]
     clear ho5 hs5 hb5 x0 x1 x2 x3 x4))
  clear HD HD3 HD4 hcc
  go_upto_region 10 with fail
  go_loopw [13] (fun s13 wx => ∃ i : Nat, i ≤ L ∧ s13 = .int .i64 i ∧ FW11 w wx gk ck h hZ ∧ badX k t 0 ps = badX k t i (ps.drop i)) (fun s13 _ => L - (intOf s13).toNat)
  case atStart => exact ⟨0, by omega, rfl, HD5.out, by rw [List.drop_zero]⟩
  case round =>
    clear HD5
    obtain ⟨i, hi, rfl, hd, hbd⟩ := hrel
    have HDL := Lib.hid hd
    have HBD := Lib.hid hbd
    clear hd hbd
    by_cases hlt : i < L
    · have q1 : (i : Int) < (L : Int) := by omega
      have hip : i < ps.length := by rw [HLEN.out]; exact hlt
      have HBS : Hid (badX k t 0 ps = if fitsX k t i ps[i] = 0 then badX k t (i + 1) (ps.drop (i + 1)) else some (i, fitsX k t i ps[i])) := Lib.hid (HBD.out.trans (bad_stepJ hip))
      have HPI : Hid (InTree w (H i) ps[i]) := Lib.hid (HPS.out.all i hip)
      obtain ⟨ga, offa, hae, hcell⟩ := HPS.out.place (by omega)
      have hbq : Below wr.heap.size wr wr.drew := (Below.refl _ _).drew
      have HDq := Lib.hid (HDL.out.below hbq)
      obtain ⟨m, hm⟩ : ∃ m, fitsX k t i ps[i] = m := ⟨_, rfl⟩
      rw [hm] at HBS
      have HFT : Hid (∀ W, Below wr.drew.heap.size wr.drew W → Calls Tryz.prog 29 #[.agg #[.slice (some ⟨gk, 0, none⟩) 64 ck, .int .u32 1779033703, .int .u32 3144134277, .int .u32 1013904242, .int .u32 2773480762, .int .u32 1359893119, .int .u32 2600822924, .int .u32 528734635, .int .u32 1541459225], .int .i64 (k : Int), .agg #[.int .i64 h.k, .slice h.ka h.kn h.kc, .slice h.va h.vn h.vc, .slice h.da h.dn h.dc, .slice h.ta h.tn h.tc], .int .i64 (i : Int), .agg #[.int .i64 (H i).k, .slice (H i).ka (H i).kn (H i).kc, .slice (H i).va (H i).vn (H i).vc, .slice (H i).da (H i).dn (H i).dc, .slice (H i).ta (H i).tn (H i).tc]] W (Says W (.int .i64 (m : Nat)))) := Lib.hid (fun W hb => by
        have b := HDq.out.b.trans (hb.mono HDq.out.b.size)
        rw [← hm]
        exact refFits_any k (by omega) (by omega) i (by omega) (by omega) gk ck t ps[i] h (H i) W (HT.out.lower b) (HPI.out.lower b) (by omega) (HDq.out.below hb).d.ks (Nat.lt_of_lt_of_le HDq.out.d.gk b.size))
      have HSS : Hid (∀ W, Below wr.drew.heap.size wr.drew W → (fun W => (W.cell? ⟨w.heap.size, 0, none⟩ = some (.slice (some ⟨gk, 0, none⟩) 64 ck) ∧ W.cell? ⟨w.heap.size, 1, none⟩ = some (.int .u32 1779033703) ∧ W.cell? ⟨w.heap.size, 2, none⟩ = some (.int .u32 3144134277) ∧ W.cell? ⟨w.heap.size, 3, none⟩ = some (.int .u32 1013904242) ∧ W.cell? ⟨w.heap.size, 4, none⟩ = some (.int .u32 2773480762) ∧ W.cell? ⟨w.heap.size, 5, none⟩ = some (.int .u32 1359893119) ∧ W.cell? ⟨w.heap.size, 6, none⟩ = some (.int .u32 2600822924) ∧ W.cell? ⟨w.heap.size, 7, none⟩ = some (.int .u32 528734635) ∧ W.cell? ⟨w.heap.size, 8, none⟩ = some (.int .u32 1541459225)) ∧ (W.cell? ⟨w.heap.size + 1, 0, none⟩ = some (.int .i64 h.k) ∧ W.cell? ⟨w.heap.size + 1, 1, none⟩ = some (.slice h.ka h.kn h.kc) ∧ W.cell? ⟨w.heap.size + 1, 2, none⟩ = some (.slice h.va h.vn h.vc) ∧ W.cell? ⟨w.heap.size + 1, 3, none⟩ = some (.slice h.da h.dn h.dc) ∧ W.cell? ⟨w.heap.size + 1, 4, none⟩ = some (.slice h.ta h.tn h.tc)) ∧ (W.cell? ⟨ga, offa + i * 5, none⟩ = some (.int .i64 (H i).k) ∧ W.cell? ⟨ga, offa + i * 5 + 1, none⟩ = some (.slice (H i).ka (H i).kn (H i).kc) ∧ W.cell? ⟨ga, offa + i * 5 + 2, none⟩ = some (.slice (H i).va (H i).vn (H i).vc) ∧ W.cell? ⟨ga, offa + i * 5 + 3, none⟩ = some (.slice (H i).da (H i).dn (H i).dc) ∧ W.cell? ⟨ga, offa + i * 5 + 4, none⟩ = some (.slice (H i).ta (H i).tn (H i).tc))) W) := Lib.hid (fun W hb => ⟨(HDq.out.below hb).d.nine, (HDq.out.below hb).d.box.cells, hcell W (HDq.out.b.trans (hb.mono HDq.out.b.size)) i hlt⟩)
      have HAE := Lib.hid hae
      rw [hae]
      clear hcell hae hm hbq
      go_upto_region 12 with fail
      refine wp_region_held_drew (S := (fun W => (W.cell? ⟨w.heap.size, 0, none⟩ = some (.slice (some ⟨gk, 0, none⟩) 64 ck) ∧ W.cell? ⟨w.heap.size, 1, none⟩ = some (.int .u32 1779033703) ∧ W.cell? ⟨w.heap.size, 2, none⟩ = some (.int .u32 3144134277) ∧ W.cell? ⟨w.heap.size, 3, none⟩ = some (.int .u32 1013904242) ∧ W.cell? ⟨w.heap.size, 4, none⟩ = some (.int .u32 2773480762) ∧ W.cell? ⟨w.heap.size, 5, none⟩ = some (.int .u32 1359893119) ∧ W.cell? ⟨w.heap.size, 6, none⟩ = some (.int .u32 2600822924) ∧ W.cell? ⟨w.heap.size, 7, none⟩ = some (.int .u32 528734635) ∧ W.cell? ⟨w.heap.size, 8, none⟩ = some (.int .u32 1541459225)) ∧ (W.cell? ⟨w.heap.size + 1, 0, none⟩ = some (.int .i64 h.k) ∧ W.cell? ⟨w.heap.size + 1, 1, none⟩ = some (.slice h.ka h.kn h.kc) ∧ W.cell? ⟨w.heap.size + 1, 2, none⟩ = some (.slice h.va h.vn h.vc) ∧ W.cell? ⟨w.heap.size + 1, 3, none⟩ = some (.slice h.da h.dn h.dc) ∧ W.cell? ⟨w.heap.size + 1, 4, none⟩ = some (.slice h.ta h.tn h.tc)) ∧ (W.cell? ⟨ga, offa + i * 5, none⟩ = some (.int .i64 (H i).k) ∧ W.cell? ⟨ga, offa + i * 5 + 1, none⟩ = some (.slice (H i).ka (H i).kn (H i).kc) ∧ W.cell? ⟨ga, offa + i * 5 + 2, none⟩ = some (.slice (H i).va (H i).vn (H i).vc) ∧ W.cell? ⟨ga, offa + i * 5 + 3, none⟩ = some (.slice (H i).da (H i).dn (H i).dc) ∧ W.cell? ⟨ga, offa + i * 5 + 4, none⟩ = some (.slice (H i).ta (H i).tn (H i).tc)))) (by kernel_rfl) (HSS.out _ (Below.refl _ _)) (fun hHeld => ?_)
      refine take_w (i := 0) (oi := ?oZ1) (v := ?vZ1) ?hiZ1 (by kernel_rfl) (by kernel_rfl) (by kernel_rfl) ?hQZ1 ?hwZ1 ?hyZ1 (by assumption) ?restZ1
      case hiZ1 => (simp only [List.getElem?_toArray, List.getElem?_cons_zero] <;> rfl)
      case hQZ1 => exact (fun _ _ _ h => h)
      case hwZ1 => rfl
      case hyZ1 => (intro w hSw; (try dsimp only at hSw); go_simp; try with_reducible rfl)
      (try simp only [Act.put, List.setIfInBounds_toArray, List.set_cons_zero, List.set_cons_succ])
      refine take_w (i := 1) (oi := ?oZ2) (v := ?vZ2) ?hiZ2 (by kernel_rfl) (by kernel_rfl) (by kernel_rfl) ?hQZ2 ?hwZ2 ?hyZ2 (by assumption) ?restZ2
      case hiZ2 => (simp only [List.getElem?_toArray, List.getElem?_cons_succ, List.getElem?_cons_zero] <;> rfl)
      case hQZ2 => exact (fun _ _ _ h => h)
      case hwZ2 => rfl
      case hyZ2 => (intro w hSw; (try dsimp only at hSw); go_simp; try with_reducible rfl)
      (try simp only [Act.put, List.setIfInBounds_toArray, List.set_cons_zero, List.set_cons_succ])
      refine take_w (i := 2) (oi := ?oZ3) (v := ?vZ3) ?hiZ3 (by kernel_rfl) (by kernel_rfl) (by kernel_rfl) ?hQZ3 ?hwZ3 ?hyZ3 (by assumption) ?restZ3
      case hiZ3 => (simp only [List.getElem?_toArray, List.getElem?_cons_succ, List.getElem?_cons_zero] <;> rfl)
      case hQZ3 => exact (fun _ _ _ h => h)
      case hwZ3 => rfl
      case hyZ3 => (intro w hSw; (try dsimp only at hSw); go_simp; try with_reducible rfl)
      (try simp only [Act.put, List.setIfInBounds_toArray, List.set_cons_zero, List.set_cons_succ])
      refine take_w (i := 3) (oi := ?oZ4) (v := ?vZ4) ?hiZ4 (by kernel_rfl) (by kernel_rfl) (by kernel_rfl) ?hQZ4 ?hwZ4 ?hyZ4 (by assumption) ?restZ4
      case hiZ4 => (simp only [List.getElem?_toArray, List.getElem?_cons_succ, List.getElem?_cons_zero] <;> rfl)
      case hQZ4 => exact (fun _ _ _ h => h)
      case hwZ4 => rfl
      case hyZ4 => (intro w hSw; (try dsimp only at hSw); go_simp; try with_reducible rfl)
      (try simp only [Act.put, List.setIfInBounds_toArray, List.set_cons_zero, List.set_cons_succ])
      refine take_w (i := 4) (oi := ?oZ5) (v := ?vZ5) ?hiZ5 (by kernel_rfl) (by kernel_rfl) (by kernel_rfl) ?hQZ5 ?hwZ5 ?hyZ5 (by assumption) ?restZ5
      case hiZ5 => (simp only [List.getElem?_toArray, List.getElem?_cons_succ, List.getElem?_cons_zero] <;> rfl)
      case hQZ5 => exact (fun _ _ _ h => h)
      case hwZ5 => rfl
      case hyZ5 => (intro w hSw; (try dsimp only at hSw); go_simp; try with_reducible rfl)
      (try simp only [Act.put, List.setIfInBounds_toArray, List.set_cons_zero, List.set_cons_succ])
      refine take_w (i := 5) (oi := ?oZ6) (v := ?vZ6) ?hiZ6 (by kernel_rfl) (by kernel_rfl) (by kernel_rfl) ?hQZ6 ?hwZ6 ?hyZ6 (by assumption) ?restZ6
      case hiZ6 => (simp only [List.getElem?_toArray, List.getElem?_cons_succ, List.getElem?_cons_zero] <;> rfl)
      case hQZ6 => exact (fun _ _ _ h => h)
      case hwZ6 => rfl
      case hyZ6 => (intro w hSw; (try dsimp only at hSw); go_simp; try with_reducible rfl)
      (try simp only [Act.put, List.setIfInBounds_toArray, List.set_cons_zero, List.set_cons_succ])
      refine take_w (i := 6) (oi := ?oZ7) (v := ?vZ7) ?hiZ7 (by kernel_rfl) (by kernel_rfl) (by kernel_rfl) ?hQZ7 ?hwZ7 ?hyZ7 (by assumption) ?restZ7
      case hiZ7 => (simp only [List.getElem?_toArray, List.getElem?_cons_succ, List.getElem?_cons_zero] <;> rfl)
      case hQZ7 => exact (fun _ _ _ h => h)
      case hwZ7 => rfl
      case hyZ7 => (intro w hSw; (try dsimp only at hSw); go_simp; try with_reducible rfl)
      (try simp only [Act.put, List.setIfInBounds_toArray, List.set_cons_zero, List.set_cons_succ])
      refine take_w (i := 7) (oi := ?oZ8) (v := ?vZ8) ?hiZ8 (by kernel_rfl) (by kernel_rfl) (by kernel_rfl) ?hQZ8 ?hwZ8 ?hyZ8 (by assumption) ?restZ8
      case hiZ8 => (simp only [List.getElem?_toArray, List.getElem?_cons_succ, List.getElem?_cons_zero] <;> rfl)
      case hQZ8 => exact (fun _ _ _ h => h)
      case hwZ8 => rfl
      case hyZ8 => (intro w hSw; (try dsimp only at hSw); go_simp; try with_reducible rfl)
      (try simp only [Act.put, List.setIfInBounds_toArray, List.set_cons_zero, List.set_cons_succ])
      refine wpAnyH_ready (rs := [8]) (by kernel_rfl) (by simp) ?_
      refine AllReadyH.cons (o := ?oZ9) ?hiZ9 (fun K hK => ?stZ9) AllReadyH.nil
      case hiZ9 => (simp only [List.getElem?_toArray, List.getElem?_cons_succ, List.getElem?_cons_zero] <;> rfl)
      go_simp
      go_at_call 29
      (with_reducible refine (HFT.out _ (Below.refl _ _)).mono ?_)
      rintro _ w6 ⟨rfl, hb6⟩
      have HB6 := Lib.hid hb6
      clear hb6
      go_simp
      refine hK.out _ _ ?_ (fun hHeld => ?_)
      · (first | exact HSS.out _ HB6.out | exact HSS.out _ (Below.refl _ _))
      clear hK K
      (try simp only [Act.put, List.setIfInBounds_toArray, List.set_cons_zero, List.set_cons_succ])
      refine take_w (i := 9) (oi := ?oZ10) (v := ?vZ10) ?hiZ10 (by kernel_rfl) (by kernel_rfl) (by kernel_rfl) ?hQZ10 ?hwZ10 ?hyZ10 (by assumption) ?restZ10
      case hiZ10 => (simp only [List.getElem?_toArray, List.getElem?_cons_succ, List.getElem?_cons_zero] <;> rfl)
      case hQZ10 => exact (fun _ _ _ h => h)
      case hwZ10 => rfl
      case hyZ10 => (intro w hSw; (try dsimp only at hSw); go_simp; try with_reducible rfl)
      (try simp only [Act.put, List.setIfInBounds_toArray, List.set_cons_zero, List.set_cons_succ])
      refine wpAnyH_done (by kernel_rfl) ?_ _
      clear hHeld
      have HD6 := Lib.hid (HDq.out.below HB6.out)
      clear HDq HFT HSS
      by_cases hm6 : m = 6
      · subst hm6
        have HE : Hid (rr = (6, some i, tNil)) := Lib.hid (by
          rw [HE0.out, HBS.out, if_neg (by omega)]
          rfl)
        go_wp2_with (first
        | (refine wpList_store_box rfl 25 (.tmp 8) (.tmp 58) rfl (w.heap.size + 2) hZ (hZ) rfl rfl 25 HD6.out.box2 infoTree5 ?_
           intro w9 hbx9 hg9
           have HX9 := Lib.hid hbx9
           have HB9 : Hid (Below w.heap.size w w9) := Lib.hid (HD6.out.b.grown hg9 HD6.out.b.size (fun j hj => by injection hj; omega))
           clear hbx9 hg9))
        exact bodyPost_ret (v := .tuple #[TH.v hZ, .int .i64 6, .int .i64 (i : Int)]) (result_three Tryz.results8 _ HX9.out rfl Tryz.underlying25 infoTree5) rfl ⟨hZ, by rw [HE.out]; rfl, by rw [HE.out]; exact inTree_nil w9, HB9.out⟩
      by_cases hm0 : m = 0
      · subst hm0
        have HNX : Hid (badX k t 0 ps = badX k t (i + 1) (ps.drop (i + 1))) := Lib.hid (by rw [HBS.out, if_pos rfl])
        go_wp2_with fail
        exact ⟨⟨i + 1, by omega, by go_num, HD6.out, HNX.out⟩, by simp [intOf]; omega⟩
      · have HE : Hid (rr = (m, none, tNil)) := Lib.hid (by
          rw [HE0.out, HBS.out, if_neg hm0]
          show (m, (if m = 6 then some i else none), tNil) = _
          rw [if_neg hm6])
        have c6 : ((m : Int) == 6) = false := by simp; omega
        have c0 : ((m : Int) != 0) = true := by simp; omega
        clear hm6 hm0
        go_wp2_with (first
        | (refine wpList_store_box rfl 25 (.tmp 8) (.tmp 62) rfl (w.heap.size + 2) hZ (hZ) rfl rfl 25 HD6.out.box2 infoTree5 ?_
           intro w9 hbx9 hg9
           have HX9 := Lib.hid hbx9
           have HB9 : Hid (Below w.heap.size w w9) := Lib.hid (HD6.out.b.grown hg9 HD6.out.b.size (fun j hj => by injection hj; omega))
           clear hbx9 hg9))
        exact bodyPost_ret (v := .tuple #[TH.v hZ, .int .i64 (m : Nat), .int .i64 (-1)]) (result_three Tryz.results8 _ HX9.out rfl Tryz.underlying25 infoTree5) rfl ⟨hZ, by rw [HE.out]; rfl, by rw [HE.out]; exact inTree_nil w9, HB9.out⟩
    · obtain ⟨hin, q1⟩ : i = L ∧ ¬ (L : Int) < (L : Int) := ⟨by omega, by omega⟩
      subst i
      have hnone : badX k t 0 ps = none := by rw [HBD.out, List.drop_of_length_le (by rw [HLEN.out]; exact Nat.le_refl _)]; rfl
      have HPM : Hid ((ps.map toA).map AT.tr = ps) := Lib.hid (by
        rw [List.map_map]
        conv => rhs; rw [← List.map_id ps]
        refine List.map_congr_left fun p hp => ?_
        obtain ⟨j, hj, rfl⟩ := List.getElem_of_mem hp
        have q := bad_none ps 0 hnone j hj
        obtain ⟨_, -, -, -, -, b, hb, -⟩ := fits_zero q
        show (toA ps[j]).tr = ps[j]
        rw [hb, toA_tr])
      have HCL : Hid ((cutsP (toP t)).length = (ps.map toA).length) := Lib.hid (by
        rw [← cutsT_P, HPT.out, HCL0.out, List.length_map, HLEN.out])
      obtain ⟨cc, hcc⟩ : ∃ cc, (fillA (toP t) (ps.map toA)).1.tr = cc := ⟨_, rfl⟩
      have HE1 : Hid (rr = if checkT cc ≠ 0 then (checkT cc, none, tNil) else (0, none, cc)) := Lib.hid (by rw [HE0.out, hnone, ← hcc])
      have HCC := Lib.hid hcc
      clear hnone hcc
      obtain ⟨x0, x1, x2, x3, x4⟩ := HDL.out.d.box.cells
      go_upto_region 18 with (first
      | (go_at_call 30
         refine (refFill_any w a _ c (ps.map toA) H (by rw [HPM.out]; exact HPS.out) (by omega) (toP t) HDF.out 0 h _ (by rw [HCL.out]; omega) (by rw [HPT.out]; exact HT.out) HDL.out.b).mono ?_
         rintro _ w7 ⟨h7, rfl, ht7, hb7⟩
         unfold TH.v
         have HD7 := Lib.hid (HDL.out.below hb7)
         have HT7 := Lib.hid ht7
         clear ht7 hb7 x0 x1 x2 x3 x4))
      have b8 : Below w7.heap.size w7 (w7.alloc (.cells #[.int .i64 h7.k, .slice h7.ka h7.kn h7.kc, .slice h7.va h7.vn h7.vc, .slice h7.da h7.dn h7.dc, .slice h7.ta h7.tn h7.tc] 25)) := (Below.refl _ _).alloc (Nat.le_refl _) _
      have HL8 := Lib.hid (Box.new w7 25 h7)
      have HD8 := Lib.hid (HD7.out.below b8)
      have HT8 : Hid (InTree (w7.alloc (.cells #[.int .i64 h7.k, .slice h7.ka h7.kn h7.kc, .slice h7.va h7.vn h7.vc, .slice h7.da h7.dn h7.dc, .slice h7.ta h7.tn h7.tc] 25)) h7 cc) := Lib.hid (by rw [← HCC.out]; exact HT7.out.lower b8)
      clear b8 HT7 HD7 HDL
      generalize (w7.alloc (.cells #[.int .i64 h7.k, .slice h7.ka h7.kn h7.kc, .slice h7.va h7.vn h7.vc, .slice h7.da h7.dn h7.dc, .slice h7.ta h7.tn h7.tc] 25)) = w8 at *
      generalize w7.heap.size = G at *
      obtain ⟨y0, y1, y2, y3, y4⟩ := HL8.out.cells
      by_cases h8 : checkT cc = 0
      · have HE : Hid (rr = (0, none, cc)) := Lib.hid (by rw [HE1.out, if_neg (by rw [h8]; simp)])
        have HFT : Hid (formedT cc = true) := Lib.hid (check_zero h8).1
        have hcc : ((checkT cc : Int) != 0) = false := by rw [h8]; rfl
        clear h8
        go_wp2_with (first
        | (go_at_call 26
           refine (refCheck_any _ h7 _ HT8.out).mono ?_
           rintro _ w1 ⟨rfl, hb1⟩
           have HDE := Lib.hid (HD8.out.below hb1)
           have HTE := Lib.hid (HT8.out.lower hb1)
           have HLE := Lib.hid (HL8.out.below hb1 HL8.out.lt)
           clear hb1 y0 y1 y2 y3 y4
           obtain ⟨y0, y1, y2, y3, y4⟩ := HLE.out.cells)
        | (refine wpList_store_box rfl 25 (.tmp 8) (.tmp 76) rfl (w.heap.size + 2) hZ (h7) rfl rfl 25 HDE.out.box2 infoTree5 ?_
           intro w9 hbx9 hg9
           have HX9 := Lib.hid hbx9
           have HB9 : Hid (Below w.heap.size w w9) := Lib.hid (HDE.out.b.grown hg9 HDE.out.b.size (fun j hj => by injection hj; omega))
           have HTX := Lib.hid (InTree.outBox HDE.out.box2 hg9 _ _ HFT.out HTE.out)
           clear hbx9 hg9))
        exact bodyPost_ret (v := .tuple #[TH.v h7, .int .i64 0, .int .i64 (-1)]) (result_three Tryz.results8 _ HX9.out rfl Tryz.underlying25 infoTree5) rfl ⟨h7, by rw [HE.out]; rfl, by rw [HE.out]; exact HTX.out, HB9.out⟩
      · have HE : Hid (rr = (checkT cc, none, tNil)) := Lib.hid (by rw [HE1.out, if_pos h8])
        have hcc : ((checkT cc : Int) != 0) = true := by simp; omega
        clear h8
        go_wp2_with (first
        | (go_at_call 26
           refine (refCheck_any _ h7 _ HT8.out).mono ?_
           rintro _ w1 ⟨rfl, hb1⟩
           have HDE := Lib.hid (HD8.out.below hb1)
           have HTE := Lib.hid (HT8.out.lower hb1)
           have HLE := Lib.hid (HL8.out.below hb1 HL8.out.lt)
           clear hb1 y0 y1 y2 y3 y4
           obtain ⟨y0, y1, y2, y3, y4⟩ := HLE.out.cells)
        | (refine wpList_store_box rfl 25 (.tmp 8) (.tmp 74) rfl (w.heap.size + 2) hZ (hZ) rfl rfl 25 HDE.out.box2 infoTree5 ?_
           intro w9 hbx9 hg9
           have HX9 := Lib.hid hbx9
           have HB9 : Hid (Below w.heap.size w w9) := Lib.hid (HDE.out.b.grown hg9 HDE.out.b.size (fun j hj => by injection hj; omega))
           clear hbx9 hg9))
        exact bodyPost_ret (v := .tuple #[TH.v hZ, .int .i64 (checkT cc : Nat), .int .i64 (-1)]) (result_three Tryz.results8 _ HX9.out rfl Tryz.underlying25 infoTree5) rfl ⟨hZ, by rw [HE.out]; rfl, by rw [HE.out]; exact inTree_nil w9, HB9.out⟩
end Go.Proofs.YtkcmohmfejmfoaaGreatDoor

/- errors.As of a Spot. -/
namespace Go.Proofs.YtkcmohmfejmfoaaGreatDoor
open Go.RowKit Go.Extern.Stop Go.Stop Go.Extern
set_option linter.unusedVariables false

theorem ea_value (t : Addr) (w : World) : (ReflectliteValue.unpack (.iface 74 (.pointer (some t)))).run Tryz.prog w = .ok (.agg #[.pointer (some ⟨3, 74, none⟩), .pointer (some ⟨w.heap.size, 0, none⟩), .int .u64 150]) (w.alloc (.cells #[.pointer (some t)] 74)) := by kernel_rfl
theorem ea_type (a : Addr) (w : World) : (ReflectliteValue.methodAny (ReflectliteValue.valueError "reflectlite.Value.Type" 0) (fun t _ _ _ => ReflectliteType.toType t) #[.agg #[.pointer (some ⟨3, 74, none⟩), .pointer (some a), .int .u64 150]]).run Tryz.prog w = .ok (.iface 112 (.agg #[.pointer (some ⟨3, 74, none⟩)])) w := by kernel_rfl
theorem ea_mKind (h : Value) (w : World) : (Go.method 276 112 (.agg #[h]) "Kind").run Tryz.prog w = .ok (125, h) w := by kernel_rfl
theorem ea_kindP (w : World) : ((ReflectliteType.abiMethod fun t => (fun a : Nat => Value.int IntKind.u8 (a : Int)) <$> Rtype.kind t) #[.pointer (some ⟨3, 74, none⟩)]).run Tryz.prog w = .ok (.int .u8 22) w := by kernel_rfl
theorem ea_kindS (w : World) : ((ReflectliteType.abiMethod fun t => (fun a : Nat => Value.int IntKind.u8 (a : Int)) <$> Rtype.kind t) #[.pointer (some ⟨3, 61, none⟩)]).run Tryz.prog w = .ok (.int .u8 22) w := by kernel_rfl
theorem ea_step (z : Sem Value) (f : TypeId → Addr → Nat → Nat → Sem Value) (v : Value) (t : TypeId) (a : Addr) (fl : Nat) (W W' : World) (h : (ReflectliteValue.parts v).run Tryz.prog W = .ok (some (t, a, fl)) W') :
    (ReflectliteValue.method z f #[v]).run Tryz.prog W = (f t a fl (fl % 32)).run Tryz.prog W' := by
  have e : ReflectliteValue.method z f #[v] = (ReflectliteValue.parts v >>= fun o => match o with | none => z | some (t, a, fl) => f t a fl (fl % 32)) := rfl
  rw [e, Sem.run_bind, h]
  rfl
theorem ea_partsP (a : Addr) (w : World) : (ReflectliteValue.parts (.agg #[.pointer (some ⟨3, 74, none⟩), .pointer (some a), .int .u64 150])).run Tryz.prog w = .ok (some (74, a, 150)) w := by kernel_rfl
theorem ea_isNil (a p : Addr) (W : World) (ha : W.cell? a = some (.pointer (some p))) : (ReflectliteValue.method (ReflectliteValue.valueError "reflectlite.Value.IsNil" 0) ReflectliteValue.isNil #[.agg #[.pointer (some ⟨3, 74, none⟩), .pointer (some a), .int .u64 150]]).run Tryz.prog W = .ok (.bool false) W := by
  rw [ea_step _ _ _ _ _ _ _ _ (ea_partsP a W)]
  simp [ReflectliteValue.isNil, loadVar, isAgg, underlying, Tryz.underlying74, ha, Result.andThen]
theorem ea_mElem (h : Value) (w : World) : (Go.method 276 112 (.agg #[h]) "Elem").run Tryz.prog w = .ok (137, .agg #[h]) w := by kernel_rfl
theorem ea_mImpl (h : Value) (w : World) : (Go.method 276 112 (.agg #[h]) "Implements").run Tryz.prog w = .ok (138, .agg #[h]) w := by kernel_rfl
theorem ea_mAssign (h : Value) (w : World) : (Go.method 276 112 (.agg #[h]) "AssignableTo").run Tryz.prog w = .ok (135, .agg #[h]) w := by kernel_rfl
theorem ea_elemT (w : World) : (ReflectliteType.method ReflectliteType.elem #[.agg #[.pointer (some ⟨3, 74, none⟩)]]).run Tryz.prog w = .ok (.iface 112 (.agg #[.pointer (some ⟨3, 61, none⟩)])) w := by kernel_rfl
theorem ea_impl (w : World) : (ReflectliteType.relation "Implements" ReflectliteType.implements_ #[.agg #[.pointer (some ⟨3, 61, none⟩)], .iface 112 (.agg #[.pointer (some ⟨3, 30, none⟩)])]).run Tryz.prog w = .ok (.bool true) w := by kernel_rfl
theorem ea_typeOf (v : Value) (w : World) : (ReflectliteType.typeOf #[.iface 61 v]).run Tryz.prog w = .ok (.iface 112 (.agg #[.pointer (some ⟨3, 61, none⟩)])) w := by kernel_rfl
theorem ea_assign (w : World) : (ReflectliteType.relation "AssignableTo" ReflectliteType.assignableTo #[.agg #[.pointer (some ⟨3, 61, none⟩)], .iface 112 (.agg #[.pointer (some ⟨3, 61, none⟩)])]).run Tryz.prog w = .ok (.bool true) w := by kernel_rfl
theorem ea_valueS (e : Addr) (w : World) : (ReflectliteValue.unpack (.iface 61 (.pointer (some e)))).run Tryz.prog w = .ok (.agg #[.pointer (some ⟨3, 61, none⟩), .pointer (some ⟨w.heap.size, 0, none⟩), .int .u64 150]) (w.alloc (.cells #[.pointer (some e)] 61)) := by kernel_rfl
theorem ea_elemOf (w : World) : (Rtype.elem? 74).run Tryz.prog w = .ok (some 61) w := by kernel_rfl
theorem ea_mkS (p : Addr) (w : World) : (ReflectliteValue.mk 61 p ReflectliteValue.flagAddr).run Tryz.prog w = .ok (.agg #[.pointer (some ⟨3, 61, none⟩), .pointer (some p), .int .u64 406]) w := by kernel_rfl
theorem ea_elemV (a p : Addr) (W : World) (ha : W.cell? a = some (.pointer (some p))) : (ReflectliteValue.method (ReflectliteValue.valueError "reflectlite.Value.Elem" 0) ReflectliteValue.elem #[.agg #[.pointer (some ⟨3, 74, none⟩), .pointer (some a), .int .u64 150]]).run Tryz.prog W = .ok (.agg #[.pointer (some ⟨3, 61, none⟩), .pointer (some p), .int .u64 406]) W := by
  rw [ea_step _ _ _ _ _ _ _ _ (ea_partsP a W)]
  simp [ReflectliteValue.elem, loadVar, isAgg, underlying, Tryz.underlying74, ha, Result.andThen, ea_elemOf, ea_mkS]
theorem ea_set (ta b e : Addr) (old : Value) (W : World) (hb : W.cell? b = some (.pointer (some e))) (ht : W.cell? ta = some old) (hf : W.frozen? ta = false) :
    (ReflectliteValue.set #[.agg #[.pointer (some ⟨3, 61, none⟩), .pointer (some ta), .int .u64 406], .agg #[.pointer (some ⟨3, 61, none⟩), .pointer (some b), .int .u64 150]]).run Tryz.prog W = .ok (.tuple #[]) (W.setCell ta (.pointer (some e))) := by
  have e1 : (ReflectliteValue.set #[.agg #[.pointer (some ⟨3, 61, none⟩), .pointer (some ta), .int .u64 406], .agg #[.pointer (some ⟨3, 61, none⟩), .pointer (some b), .int .u64 150]]).run Tryz.prog W = ((loadVar 61 b >>= fun val => storeVar 61 ta val >>= fun _ => pure (.tuple #[])) : Sem Value).run Tryz.prog W := by kernel_rfl
  rw [e1]
  simp [loadVar, isAgg, underlying, Tryz.underlying61, hb, Result.andThen, storeVar, Value.cells, storeCells, Addr.add]
  rw [run_store Tryz.prog W ta _ _ (by rfl)]
  simp [ht, hf]

set_option maxHeartbeats 4000000 in
/-- errors.As of a *Spot, at a variable of its type. -/
theorem as_spot (e t : Addr) (old : Value) (w : World) (hg : w.cell? ⟨0, 0, none⟩ = some (.iface 112 (.agg #[.pointer (some ⟨3, 30, none⟩)]))) (ht0 : w.cell? t = some old) (hf0 : w.frozen? t = false) :
    Calls Tryz.prog 32 #[.iface 61 (.pointer (some e)), .iface 74 (.pointer (some t))] w fun ev w' => ev = .returned (.bool true) ∧ w' = ((((w.alloc (.cells #[.pointer (some t)] 74)).alloc (.cells #[.pointer (some ⟨3, 74, none⟩), .pointer (some ⟨w.heap.size, 0, none⟩), .int .u64 150] 90)).alloc (.cells #[.pointer (some ⟨3, 74, none⟩), .pointer (some ⟨w.heap.size, 0, none⟩), .int .u64 150] 90)).alloc (.cells #[.pointer (some e)] 61)).setCell t (.pointer (some e)) := by
  have x1 := @run_callFunc_extern Tryz.prog 52 _ (fun args => ReflectliteValue.unpack (args.getD 0 (.tuple #[]))) Tryz.func52 (by kernel_rfl) (by kernel_rfl) (by kernel_rfl) (by kernel_rfl)
  have x2 := @run_callFunc_extern Tryz.prog 53 _ (ReflectliteValue.methodAny (ReflectliteValue.valueError "reflectlite.Value.Type" 0) (fun t _ _ _ => ReflectliteType.toType t)) Tryz.func53 (by kernel_rfl) (by kernel_rfl) (by kernel_rfl) (by kernel_rfl)
  have x3 := @run_callFunc_extern Tryz.prog 54 _ (ReflectliteValue.method (ReflectliteValue.valueError "reflectlite.Value.IsNil" 0) ReflectliteValue.isNil) Tryz.func54 (by kernel_rfl) (by kernel_rfl) (by kernel_rfl) (by kernel_rfl)
  have x4 := @run_callFunc_extern Tryz.prog 125 _ (ReflectliteType.abiMethod fun t => do pure (.int .u8 (← Rtype.kind t))) Tryz.func125 (by kernel_rfl) (by kernel_rfl) (by kernel_rfl) (by kernel_rfl)
  have x5 := @run_callFunc_extern Tryz.prog 137 _ (ReflectliteType.method ReflectliteType.elem) Tryz.func137 (by kernel_rfl) (by kernel_rfl) (by kernel_rfl) (by kernel_rfl)
  have x6 := @run_callFunc_extern Tryz.prog 138 _ (ReflectliteType.relation "Implements" ReflectliteType.implements_) Tryz.func138 (by kernel_rfl) (by kernel_rfl) (by kernel_rfl) (by kernel_rfl)
  have x7 := @run_callFunc_extern Tryz.prog 56 _ (ReflectliteType.typeOf) Tryz.func56 (by kernel_rfl) (by kernel_rfl) (by kernel_rfl) (by kernel_rfl)
  have x8 := @run_callFunc_extern Tryz.prog 135 _ (ReflectliteType.relation "AssignableTo" ReflectliteType.assignableTo) Tryz.func135 (by kernel_rfl) (by kernel_rfl) (by kernel_rfl) (by kernel_rfl)
  have x9 := @run_callFunc_extern Tryz.prog 75 _ (ReflectliteValue.method (ReflectliteValue.valueError "reflectlite.Value.Elem" 0) ReflectliteValue.elem) Tryz.func75 (by kernel_rfl) (by kernel_rfl) (by kernel_rfl) (by kernel_rfl)
  have xa := @run_callFunc_extern Tryz.prog 76 _ (ReflectliteValue.set) Tryz.func76 (by kernel_rfl) (by kernel_rfl) (by kernel_rfl) (by kernel_rfl)
  have y1 := ea_typeOf
  have y2 := ea_mAssign
  have y3 := ea_assign
  have y4 := ea_valueS
  have y5 := ea_value
  have y6 := ea_type
  have y7 := ea_mKind
  have y8 := ea_mElem
  have y9 := ea_mImpl
  have ya := ea_kindP
  have yb := ea_kindS
  have yc := ea_elemT
  have yd := ea_impl
  have n8 := ea_isNil ⟨w.heap.size, 0, none⟩ t ((w.alloc (.cells #[.pointer (some t)] 74)).alloc (.cells #[.pointer (some ⟨3, 74, none⟩), .pointer (some ⟨w.heap.size, 0, none⟩), .int .u64 150] 90)) (by simp)
  have hlt : 0 < w.heap.size := by
    rcases Nat.lt_or_ge 0 w.heap.size with h | h
    · exact h
    · simp [World.cell?, Array.getElem?_eq_none h] at hg
  have hg2 : ((w.alloc (.cells #[.pointer (some t)] 74)).alloc (.cells #[.pointer (some ⟨3, 74, none⟩), .pointer (some ⟨w.heap.size, 0, none⟩), .int .u64 150] 90)).cell? ⟨0, 0, none⟩ = some (.iface 112 (.agg #[.pointer (some ⟨3, 30, none⟩)])) := by
    rw [World.cell?_alloc_lt _ _ ⟨0, 0, none⟩ (by simp), World.cell?_alloc_lt _ _ ⟨0, 0, none⟩ hlt]; exact hg
  have htl : t.block < w.heap.size := by
    rcases Nat.lt_or_ge t.block w.heap.size with h | h
    · exact h
    · simp [World.cell?, Array.getElem?_eq_none h] at ht0
  have el := ea_elemV ⟨w.heap.size, 0, none⟩ t (((w.alloc (.cells #[.pointer (some t)] 74)).alloc (.cells #[.pointer (some ⟨3, 74, none⟩), .pointer (some ⟨w.heap.size, 0, none⟩), .int .u64 150] 90)).alloc (.cells #[.pointer (some ⟨3, 74, none⟩), .pointer (some ⟨w.heap.size, 0, none⟩), .int .u64 150] 90)) (by rw [World.cell?_alloc_lt _ _ ⟨w.heap.size, 0, none⟩ (by simp; omega)]; simp)
  have st := ea_set t ⟨w.heap.size + 1 + 1 + 1, 0, none⟩ e old ((((w.alloc (.cells #[.pointer (some t)] 74)).alloc (.cells #[.pointer (some ⟨3, 74, none⟩), .pointer (some ⟨w.heap.size, 0, none⟩), .int .u64 150] 90)).alloc (.cells #[.pointer (some ⟨3, 74, none⟩), .pointer (some ⟨w.heap.size, 0, none⟩), .int .u64 150] 90)).alloc (.cells #[.pointer (some e)] 61))
    (by rw [World.cell?_alloc_at _ _ _ _ (by simp)]; rfl)
    (by rw [World.cell?_alloc_lt _ _ t (by simp; omega), World.cell?_alloc_lt _ _ t (by simp; omega), World.cell?_alloc_lt _ _ t (by simp; omega), World.cell?_alloc_lt _ _ t htl]; exact ht0)
    (by rw [World.frozen?_alloc_old _ _ t (by simp; omega), World.frozen?_alloc_old _ _ t (by simp; omega), World.frozen?_alloc_old _ _ t (by simp; omega), World.frozen?_alloc_old _ _ t (Nat.ne_of_lt htl)]; exact hf0)
  go_enter Tryz.func32, Tryz.ntmps32
  go_wp2
  refine wp_loop_rounds 1 ?_
  rw [rounds_succ]
  go_wp2
  go_ret
  exact ⟨rfl, rfl⟩

end Go.Proofs.YtkcmohmfejmfoaaGreatDoor

/- errors.Is of a Spot, at the Code that it holds. -/
namespace Go.Proofs.YtkcmohmfejmfoaaGreatDoor
open Go.RowKit Go.Extern.Stop Go.Stop Go.Extern
set_option linter.unusedVariables false

theorem ei_typeOf (v : Value) (w : World) : (ReflectliteType.typeOf #[.iface 42 v]).run Tryz.prog w = .ok (.iface 112 (.agg #[.pointer (some ⟨3, 42, none⟩)])) w := by kernel_rfl
theorem ei_comp (w : World) : ((ReflectliteType.method fun t => do Rtype.noPackHeld "Comparable" t; (fun a => Value.bool a.comparable) <$> typeInfo t) #[.agg #[.pointer (some ⟨3, 42, none⟩)]]).run Tryz.prog w = .ok (.bool true) w := by kernel_rfl
theorem ei_mComp (v : Value) (w : World) : (Go.method 276 112 v "Comparable").run Tryz.prog w = .ok (136, v) w := by kernel_rfl
theorem ei_noIs (v : Value) (xT : TypeId) (w : World) : (Instr.typeAssert (.iface 61 v) xT 124 true).run Tryz.prog w = .ok (.tuple #[.nilIface, .bool false]) w := run_typeAssert_lacksB Tryz.underlying124 (by kernel_rfl) (by kernel_rfl) v xT w
theorem ei_hasUn (v : Value) (xT : TypeId) (w : World) : (Instr.typeAssert (.iface 61 v) xT 119 true).run Tryz.prog w = .ok (.tuple #[.iface 61 v, .bool true]) w := run_typeAssert_hasB Tryz.underlying119 (by kernel_rfl) v xT w
theorem ei_mUn (v : Value) (w : World) : (Go.method 276 61 v "Unwrap").run Tryz.prog w = .ok (130, v) w := by kernel_rfl

set_option maxRecDepth 100000 in
set_option maxHeartbeats 4000000 in
/-- errors.Is of a *Spot, at the Code that it holds. -/
theorem is_spot (g : Nat) (m : Int) (w : World) (hc : w.cell? ⟨g, 1, none⟩ = some (.iface 42 (.int .i64 m))) :
    Calls Tryz.prog 33 #[.iface 61 (.pointer (some ⟨g, 0, none⟩)), .iface 42 (.int .i64 m)] w fun e w' => e = .returned (.bool true) ∧ w' = w := by
  have x1 := @run_callFunc_extern Tryz.prog 56 _ (ReflectliteType.typeOf) Tryz.func56 (by kernel_rfl) (by kernel_rfl) (by kernel_rfl) (by kernel_rfl)
  have x2 := @run_callFunc_extern Tryz.prog 136 _ (ReflectliteType.method fun t => do Rtype.noPackHeld "Comparable" t; pure (.bool (← typeInfo t).comparable)) Tryz.func136 (by kernel_rfl) (by kernel_rfl) (by kernel_rfl) (by kernel_rfl)
  have y1 := ei_typeOf
  have y2 := ei_comp
  have y3 := ei_mComp
  have y4 := ei_noIs
  have y5 := ei_hasUn
  have y6 := ei_mUn
  have hty := run_eql_iface_types (P := Tryz.prog) 61 42 (.pointer (some ⟨g, 0, none⟩)) (.int .i64 m) Tryz.underlying30 (by decide) w
  have heq := eql_code m m w
  have hmm : (m == m) = true := by simp
  rw [hmm] at heq
  go_enter Tryz.func33, Tryz.ntmps33
  go_wp2
  refine wp_loop_rounds 2 ?_
  rw [rounds_succ]
  go_wp2
  rw [rounds_succ]
  go_wp2
  go_ret
  exact ⟨rfl, rfl⟩
end Go.Proofs.YtkcmohmfejmfoaaGreatDoor

/- What the statements ask of a Spot: the contract of their Is. -/
namespace Go.Proofs.YtkcmohmfejmfoaaGreatDoor
open Go.RowKit
set_option linter.unusedVariables false

theorem spot_after {w wA w1 : World} {g : Nat} {i : Int} (e : w1 = ((((wA.alloc (.cells #[.pointer (some ⟨w.heap.size, 0, none⟩)] 74)).alloc (.cells #[.pointer (some ⟨3, 74, none⟩), .pointer (some ⟨wA.heap.size, 0, none⟩), .int .u64 150] 90)).alloc (.cells #[.pointer (some ⟨3, 74, none⟩), .pointer (some ⟨wA.heap.size, 0, none⟩), .int .u64 150] 90)).alloc (.cells #[.pointer (some ⟨g, 0, none⟩)] 61)).setCell ⟨w.heap.size, 0, none⟩ (.pointer (some ⟨g, 0, none⟩))) (hv : Var1 wA 61 w.heap.size (.pointer none)) (hb : Below w.heap.size w wA) (hs : w.heap[g]? = some (.cells #[.int .i64 i, .iface 42 (.int .i64 6)] 63 (0, 0))) :
    Var1 w1 61 w.heap.size (.pointer (some ⟨g, 0, none⟩)) ∧ (w1.cell? ⟨g, 0, none⟩ = some (.int .i64 i) ∧ w1.cell? ⟨g, 1, none⟩ = some (.iface 42 (.int .i64 6))) ∧ Below w.heap.size w w1 := by
  have b1 : Below wA.heap.size wA (wA.alloc (.cells #[.pointer (some ⟨w.heap.size, 0, none⟩)] 74)) := (Below.refl _ _).alloc (Nat.le_refl _) _
  have b2 := b1.alloc b1.size (.cells #[.pointer (some ⟨3, 74, none⟩), .pointer (some ⟨wA.heap.size, 0, none⟩), .int .u64 150] 90)
  have b3 := b2.alloc b2.size (.cells #[.pointer (some ⟨3, 74, none⟩), .pointer (some ⟨wA.heap.size, 0, none⟩), .int .u64 150] 90)
  have b4 := b3.alloc b3.size (.cells #[.pointer (some ⟨g, 0, none⟩)] 61)
  have v4 := hv.below b4 hv.lt
  have hb4 : Below w.heap.size w ((((wA.alloc (.cells #[.pointer (some ⟨w.heap.size, 0, none⟩)] 74)).alloc (.cells #[.pointer (some ⟨3, 74, none⟩), .pointer (some ⟨wA.heap.size, 0, none⟩), .int .u64 150] 90)).alloc (.cells #[.pointer (some ⟨3, 74, none⟩), .pointer (some ⟨wA.heap.size, 0, none⟩), .int .u64 150] 90)).alloc (.cells #[.pointer (some ⟨g, 0, none⟩)] 61)) := hb.trans (b4.mono hb.size)
  have hb5 : Below w.heap.size w w1 := by
    rw [e]
    exact hb4.setCell (Nat.le_refl _) _
  have hlt : g < w.heap.size := by
    rcases Nat.lt_or_ge g w.heap.size with q | q
    · exact q
    · rw [Array.getElem?_eq_none q] at hs
      cases hs
  have hs1 := (hb5.block g hlt).trans hs
  refine ⟨by rw [e]; exact v4.set _, ⟨?_, ?_⟩, hb5⟩
  · rw [cell_of_row w1 g 0 _ _ (0, 0) hs1]
    rfl
  · rw [cell_of_row w1 g 1 _ _ (0, 0) hs1]
    rfl

set_option maxRecDepth 100000 in
set_option maxHeartbeats 8000000 in
theorem spotIs_any (g : Nat) (i : Int) (w : World) (hs : w.heap[g]? = some (.cells #[.int .i64 i, .iface 42 (.int .i64 6)] 63 (0, 0))) (hg : w.cell? ⟨0, 0, none⟩ = some (.iface 112 (.agg #[.pointer (some ⟨3, 30, none⟩)]))) : Calls Tryz.prog 10 #[.iface 61 (.pointer (some ⟨g, 0, none⟩)), .int .i64 i, .int .i64 6] w (Says w (.bool true)) := by
  have HSP := Lib.hid hs
  have HBA : Hid (Below w.heap.size w (w.alloc (.cells #[.pointer none] 61))) := Lib.hid ((Below.refl _ _).alloc (Nat.le_refl _) _)
  have HVA : Hid (Var1 (w.alloc (.cells #[.pointer none] 61)) 61 w.heap.size (.pointer none)) := Lib.hid (Var1.new w 61 (.pointer none))
  have HGA : Hid ((w.alloc (.cells #[.pointer none] 61)).cell? ⟨0, 0, none⟩ = some (.iface 112 (.agg #[.pointer (some ⟨3, 30, none⟩)]))) := Lib.hid (by
    have hlt : 0 < w.heap.size := by
      rcases Nat.lt_or_ge 0 w.heap.size with h | h
      · exact h
      · simp [World.cell?, Array.getElem?_eq_none h] at hg
    rw [World.cell?_alloc_lt _ _ ⟨0, 0, none⟩ hlt]
    exact hg)
  obtain ⟨ip, hip⟩ : ∃ ip, Tryz.prog.info? 61 = some ip := ⟨_, rfl⟩
  obtain ⟨isp, hisp⟩ : ∃ isp, Tryz.prog.info? 63 = some isp := ⟨_, rfl⟩
  have hcp : ip.comparable = true := by
    have q : (Tryz.prog.info? 61).map (·.comparable) = some true := by kernel_rfl
    rw [hip] at q
    exact Option.some.inj q
  have hsame : ∀ W : World, (Op.equal 30 (.iface 61 (.pointer (some ⟨g, 0, none⟩))) (.iface 61 (.pointer (some ⟨g, 0, none⟩)))).run Tryz.prog W = .ok true W := fun W => by
    simp [Op.equal, Op.maxDepth, run_equalIn_iface_ptr_same W 9998 ⟨g, 0, none⟩ Tryz.underlying30 Tryz.underlying61 hip hcp hisp]
  have hne : ∀ W : World, (binOp .neq 30 (.iface 61 (.pointer (some ⟨g, 0, none⟩))) (.iface 61 (.pointer (some ⟨g, 0, none⟩)))).run Tryz.prog W = .ok (.bool false) W := fun W => by
    simp [binOp, hsame W]
  have heq : ∀ W : World, (binOp .eql 30 (.iface 42 (.int .i64 6)) (.iface 42 (.int .i64 6))).run Tryz.prog W = .ok (.bool true) W := fun W => eql_code 6 6 W
  clear hs hg hip hisp hcp hsame
  go_enter Tryz.func10, Tryz.ntmps10
  go_upto_region 2 with fail
  generalize (w.alloc (.cells #[.pointer none] 61)) = wA at *
  have xv := HVA.out.cell
  go_upto_region 5 with (first
  | (go_at_call 32
     refine (as_spot ⟨g, 0, none⟩ ⟨w.heap.size, 0, none⟩ (.pointer none) _ HGA.out HVA.out.cell (HVA.out.frozen 0)).mono ?_
     rintro _ w1 ⟨rfl, hw1⟩
     have HF1 := Lib.hid (spot_after hw1 HVA.out HBA.out HSP.out)
     have xv := HF1.out.1.cell
     clear hw1))
  obtain ⟨z0, z1⟩ := HF1.out.2.1
  go_wp2_with (first
  | (go_at_call 33
     (with_reducible refine (is_spot g 6 _ ?_).mono ?_)
     · exact HF1.out.2.1.2
     rintro _ w2 ⟨rfl, hw2⟩
     rw [hw2]
     clear hw2))
  go_ret
  exact ⟨rfl, HF1.out.2.2⟩
end Go.Proofs.YtkcmohmfejmfoaaGreatDoor

/- The contract of the document's comparison of trees: of one and the same tree. -/
namespace Go.Proofs.YtkcmohmfejmfoaaGreatDoor
open Go.RowKit
set_option linter.unusedVariables false

theorem conv_of' {w : World} {a : Option Addr} {n cap : Nat} {bs : List Int} (h : InBytes w a n cap bs) :
    (convert 22 9 (.slice a n cap)).run Tryz.prog w = .ok (.string (strOfNums bs)) w :=
  conv_in (P := Tryz.prog) h 22 5 9 Tryz.underlying22 Tryz.underlying5 Tryz.underlying9
/-- Two boxes, side by side. -/
structure Two (w W : World) (h h' : TH) : Prop where
  bx : Box W 25 w.heap.size h
  by' : Box W 25 (w.heap.size + 1) h'
  b : Below w.heap.size w W
theorem Two.below {w W W' : World} {h h' : TH} (d : Two w W h h') (hb : Below W.heap.size W W') : Two w W' h h' := ⟨d.bx.below hb d.bx.lt, d.by'.below hb d.by'.lt, d.b.trans (hb.mono d.b.size)⟩
theorem Two.drew {w W : World} {h h' : TH} (d : Two w W h h') : Two w W.drew h h' := d.below (Below.refl _ _).drew
theorem Two.new (w : World) (h h' : TH) : Two w ((w.alloc (.cells #[.int .i64 h.k, .slice h.ka h.kn h.kc, .slice h.va h.vn h.vc, .slice h.da h.dn h.dc, .slice h.ta h.tn h.tc] 25)).alloc (.cells #[.int .i64 h'.k, .slice h'.ka h'.kn h'.kc, .slice h'.va h'.vn h'.vc, .slice h'.da h'.dn h'.dc, .slice h'.ta h'.tn h'.tc] 25)) h h' :=
  ⟨(Box.new w _ h).below ((Below.refl _ _).alloc (Nat.le_refl _) _) (by simp), by have := Box.new (w.alloc (.cells #[.int .i64 h.k, .slice h.ka h.kn h.kc, .slice h.va h.vn h.vc, .slice h.da h.dn h.dc, .slice h.ta h.tn h.tc] 25)) 25 h'; simpa using this, ((Below.refl w.heap.size w).alloc (Nat.le_refl _) _).alloc (by simp) _⟩

set_option maxRecDepth 100000 in
set_option maxHeartbeats 4000000 in
theorem refSame_any : ∀ (t : Tr) (h h' : TH) (w : World), InTree w h t → InTree w h' t →
    Calls Tryz.prog 11 #[h.v, h'.v] w (Says w (.bool true)) := by
  intro t
  induction t using Tr.ind with
  | h t ih =>
  intro h h' w ht ht'
  unfold TH.v
  obtain ⟨H, hp⟩ := ht.parts
  obtain ⟨H', hp'⟩ := ht'.parts
  have HP := Lib.hid (And.intro hp hp')
  have htl := hp.len
  have htl' := hp'.len
  have htm := Nat.le_trans hp.sl.le hp.sl.max
  simp only [maxLen] at htm
  have k1 : (h.k != h'.k) = false := by rw [hp.hk, hp'.hk]; simp
  have k2 : ((h.tn : Int) != (h'.tn : Int)) = false := by rw [← htl, ← htl']; simp
  have IH := Lib.hid ih
  clear hp hp' ht ht' ih
  have HD := Lib.hid (Two.new w h h')
  go_enter Tryz.func11, Tryz.ntmps11
  go_upto_region 1 with fail
  generalize (w.alloc (.cells #[.int .i64 h.k, .slice h.ka h.kn h.kc, .slice h.va h.vn h.vc, .slice h.da h.dn h.dc, .slice h.ta h.tn h.tc] 25)).alloc (.cells #[.int .i64 h'.k, .slice h'.ka h'.kn h'.kc, .slice h'.va h'.vn h'.vc, .slice h'.da h'.dn h'.dc, .slice h'.ta h'.tn h'.tc] 25) = w0 at *
  obtain ⟨x0, x1, x2, x3, x4⟩ := HD.out.bx.cells
  obtain ⟨y0, y1, y2, y3, y4⟩ := HD.out.by'.cells
  have c1 := conv_of' (HP.out.1.below HD.out.b).key
  have c2 := conv_of' (HP.out.1.below HD.out.b).val
  have c3 := conv_of' (HP.out.1.below HD.out.b).dig
  have d1 := conv_of' (HP.out.2.below HD.out.b).key
  have d2 := conv_of' (HP.out.2.below HD.out.b).val
  have d3 := conv_of' (HP.out.2.below HD.out.b).dig
  have htl2 : h'.tn = h.tn := by omega
  have HL := Lib.hid htl2
  clear htl2 htl'
  go_wp2_with fail
  clear x0 x1 x2 x3 x4 y0 y1 y2 y3 y4 c1 c2 c3 d1 d2 d3
  go_loopw [5] (fun s5 wx => ∃ i : Nat, i ≤ h.tn ∧ s5 = .int .i64 i ∧ Two w wx h h') (fun s5 _ => h.tn - (intOf s5).toNat)
  case atStart => exact ⟨0, by omega, rfl, HD.out⟩
  case round =>
    clear HD
    obtain ⟨i, hi, rfl, hd⟩ := hrel
    have HD := Lib.hid hd
    have x4 := hd.bx.cells.2.2.2.2
    clear hd
    by_cases hlt : i < h.tn
    · have q1 : (i : Int) < (h.tn : Int) := by omega
      have hlt' : i < h'.tn := by rw [HL.out]; exact hlt
      have q2 : (i : Int) < (h'.tn : Int) := by omega
      have him : i < t.kids.length := by omega
      obtain ⟨g, off, hta, _, _⟩ := (HP.out.1.below HD.out.b).place (by omega)
      obtain ⟨g', off', hta', _, _⟩ := (HP.out.2.below HD.out.b).place (by omega)
      have HTA := Lib.hid (And.intro hta hta')
      clear hta hta'
      go_upto_region 6 with fail
      clear x4
      refine wp_region_held_drew (S := (fun W => W.cell? ⟨w.heap.size, 4, none⟩ = some (.slice (some ⟨g, off, none⟩) h.tn h.tc) ∧ W.cell? ⟨(w.heap.size + 1), 4, none⟩ = some (.slice (some ⟨g', off', none⟩) h'.tn h'.tc) ∧ (W.cell? ⟨g, off + i * 5, none⟩ = some (.int .i64 (H i).k) ∧ W.cell? ⟨g, off + i * 5 + 1, none⟩ = some (.slice (H i).ka (H i).kn (H i).kc) ∧ W.cell? ⟨g, off + i * 5 + 2, none⟩ = some (.slice (H i).va (H i).vn (H i).vc) ∧ W.cell? ⟨g, off + i * 5 + 3, none⟩ = some (.slice (H i).da (H i).dn (H i).dc) ∧ W.cell? ⟨g, off + i * 5 + 4, none⟩ = some (.slice (H i).ta (H i).tn (H i).tc)) ∧ W.cell? ⟨g', off' + i * 5, none⟩ = some (.int .i64 (H' i).k) ∧ W.cell? ⟨g', off' + i * 5 + 1, none⟩ = some (.slice (H' i).ka (H' i).kn (H' i).kc) ∧ W.cell? ⟨g', off' + i * 5 + 2, none⟩ = some (.slice (H' i).va (H' i).vn (H' i).vc) ∧ W.cell? ⟨g', off' + i * 5 + 3, none⟩ = some (.slice (H' i).da (H' i).dn (H' i).dc) ∧ W.cell? ⟨g', off' + i * 5 + 4, none⟩ = some (.slice (H' i).ta (H' i).tn (H' i).tc))) (by kernel_rfl) ⟨(HD.out.drew.bx.cells.2.2.2.2).trans (by rw [HTA.out.1]), (HD.out.drew.by'.cells.2.2.2.2).trans (by rw [HTA.out.2]), (HP.out.1.below HD.out.drew.b).cellsAt HTA.out.1 i hlt, (HP.out.2.below HD.out.drew.b).cellsAt HTA.out.2 i hlt'⟩ (fun hHeld => ?_)
      refine take_w (i := 0) (oi := ?oZ1) (v := ?vZ1) ?hiZ1 (by kernel_rfl) (by kernel_rfl) (by kernel_rfl) ?hQZ1 ?hwZ1 ?hyZ1 (by assumption) ?restZ1
      case hiZ1 => (simp only [List.getElem?_toArray, List.getElem?_cons_zero] <;> rfl)
      case hQZ1 => exact (fun _ _ _ h => h)
      case hwZ1 => rfl
      case hyZ1 => (intro w hSw; (try dsimp only at hSw); go_simp; try with_reducible rfl)
      (try simp only [Act.put, List.setIfInBounds_toArray, List.set_cons_zero, List.set_cons_succ])
      refine take_w (i := 1) (oi := ?oZ2) (v := ?vZ2) ?hiZ2 (by kernel_rfl) (by kernel_rfl) (by kernel_rfl) ?hQZ2 ?hwZ2 ?hyZ2 (by assumption) ?restZ2
      case hiZ2 => (simp only [List.getElem?_toArray, List.getElem?_cons_succ, List.getElem?_cons_zero] <;> rfl)
      case hQZ2 => exact (fun _ _ _ h => h)
      case hwZ2 => rfl
      case hyZ2 => (intro w hSw; (try dsimp only at hSw); go_simp; try with_reducible rfl)
      (try simp only [Act.put, List.setIfInBounds_toArray, List.set_cons_zero, List.set_cons_succ])
      refine take_w (i := 2) (oi := ?oZ3) (v := ?vZ3) ?hiZ3 (by kernel_rfl) (by kernel_rfl) (by kernel_rfl) ?hQZ3 ?hwZ3 ?hyZ3 (by assumption) ?restZ3
      case hiZ3 => (simp only [List.getElem?_toArray, List.getElem?_cons_succ, List.getElem?_cons_zero] <;> rfl)
      case hQZ3 => exact (fun _ _ _ h => h)
      case hwZ3 => rfl
      case hyZ3 => (intro w hSw; (try dsimp only at hSw); go_simp; try with_reducible rfl)
      (try simp only [Act.put, List.setIfInBounds_toArray, List.set_cons_zero, List.set_cons_succ])
      refine take_w (i := 3) (oi := ?oZ4) (v := ?vZ4) ?hiZ4 (by kernel_rfl) (by kernel_rfl) (by kernel_rfl) ?hQZ4 ?hwZ4 ?hyZ4 (by assumption) ?restZ4
      case hiZ4 => (simp only [List.getElem?_toArray, List.getElem?_cons_succ, List.getElem?_cons_zero] <;> rfl)
      case hQZ4 => exact (fun _ _ _ h => h)
      case hwZ4 => rfl
      case hyZ4 => (intro w hSw; (try dsimp only at hSw); go_simp; try with_reducible rfl)
      (try simp only [Act.put, List.setIfInBounds_toArray, List.set_cons_zero, List.set_cons_succ])
      refine take_w (i := 4) (oi := ?oZ5) (v := ?vZ5) ?hiZ5 (by kernel_rfl) (by kernel_rfl) (by kernel_rfl) ?hQZ5 ?hwZ5 ?hyZ5 (by assumption) ?restZ5
      case hiZ5 => (simp only [List.getElem?_toArray, List.getElem?_cons_succ, List.getElem?_cons_zero] <;> rfl)
      case hQZ5 => exact (fun _ _ _ h => h)
      case hwZ5 => rfl
      case hyZ5 => (intro w hSw; (try dsimp only at hSw); go_simp; try with_reducible rfl)
      (try simp only [Act.put, List.setIfInBounds_toArray, List.set_cons_zero, List.set_cons_succ])
      refine take_w (i := 5) (oi := ?oZ6) (v := ?vZ6) ?hiZ6 (by kernel_rfl) (by kernel_rfl) (by kernel_rfl) ?hQZ6 ?hwZ6 ?hyZ6 (by assumption) ?restZ6
      case hiZ6 => (simp only [List.getElem?_toArray, List.getElem?_cons_succ, List.getElem?_cons_zero] <;> rfl)
      case hQZ6 => exact (fun _ _ _ h => h)
      case hwZ6 => rfl
      case hyZ6 => (intro w hSw; (try dsimp only at hSw); go_simp; try with_reducible rfl)
      (try simp only [Act.put, List.setIfInBounds_toArray, List.set_cons_zero, List.set_cons_succ])
      refine take_w (i := 6) (oi := ?oZ7) (v := ?vZ7) ?hiZ7 (by kernel_rfl) (by kernel_rfl) (by kernel_rfl) ?hQZ7 ?hwZ7 ?hyZ7 (by assumption) ?restZ7
      case hiZ7 => (simp only [List.getElem?_toArray, List.getElem?_cons_succ, List.getElem?_cons_zero] <;> rfl)
      case hQZ7 => exact (fun _ _ _ h => h)
      case hwZ7 => rfl
      case hyZ7 => (intro w hSw; (try dsimp only at hSw); go_simp; try with_reducible rfl)
      (try simp only [Act.put, List.setIfInBounds_toArray, List.set_cons_zero, List.set_cons_succ])
      refine take_w (i := 7) (oi := ?oZ8) (v := ?vZ8) ?hiZ8 (by kernel_rfl) (by kernel_rfl) (by kernel_rfl) ?hQZ8 ?hwZ8 ?hyZ8 (by assumption) ?restZ8
      case hiZ8 => (simp only [List.getElem?_toArray, List.getElem?_cons_succ, List.getElem?_cons_zero] <;> rfl)
      case hQZ8 => exact (fun _ _ _ h => h)
      case hwZ8 => rfl
      case hyZ8 => (intro w hSw; (try dsimp only at hSw); go_simp; try with_reducible rfl)
      (try simp only [Act.put, List.setIfInBounds_toArray, List.set_cons_zero, List.set_cons_succ])
      refine take_w (i := 8) (oi := ?oZ9) (v := ?vZ9) ?hiZ9 (by kernel_rfl) (by kernel_rfl) (by kernel_rfl) ?hQZ9 ?hwZ9 ?hyZ9 (by assumption) ?restZ9
      case hiZ9 => (simp only [List.getElem?_toArray, List.getElem?_cons_succ, List.getElem?_cons_zero] <;> rfl)
      case hQZ9 => exact (fun _ _ _ h => h)
      case hwZ9 => rfl
      case hyZ9 => (intro w hSw; (try dsimp only at hSw); go_simp; try with_reducible rfl)
      (try simp only [Act.put, List.setIfInBounds_toArray, List.set_cons_zero, List.set_cons_succ])
      refine take_w (i := 9) (oi := ?oZ10) (v := ?vZ10) ?hiZ10 (by kernel_rfl) (by kernel_rfl) (by kernel_rfl) ?hQZ10 ?hwZ10 ?hyZ10 (by assumption) ?restZ10
      case hiZ10 => (simp only [List.getElem?_toArray, List.getElem?_cons_succ, List.getElem?_cons_zero] <;> rfl)
      case hQZ10 => exact (fun _ _ _ h => h)
      case hwZ10 => rfl
      case hyZ10 => (intro w hSw; (try dsimp only at hSw); go_simp; try with_reducible rfl)
      (try simp only [Act.put, List.setIfInBounds_toArray, List.set_cons_zero, List.set_cons_succ])
      refine wpAnyH_ready (rs := [10]) (by kernel_rfl) (by simp) ?_
      refine AllReadyH.cons (o := ?oZ11) ?hiZ11 (fun K hK => ?stZ11) AllReadyH.nil
      case hiZ11 => (simp only [List.getElem?_toArray, List.getElem?_cons_succ, List.getElem?_cons_zero] <;> rfl)
      go_simp
      go_at_call 11
      refine (IH.out _ (List.getElem_mem him) (H i) (H' i) _ ((HP.out.1.below HD.out.drew.b).kids i him) ((HP.out.2.below HD.out.drew.b).kids i him)).mono ?_
      rintro _ w1 ⟨rfl, hb1⟩
      have HD1 := Lib.hid (HD.out.drew.below hb1)
      clear hb1
      go_simp
      refine hK.out _ _ ?_ (fun hHeld => ?_)
      · (first | exact ⟨(HD1.out.bx.cells.2.2.2.2).trans (by rw [HTA.out.1]), (HD1.out.by'.cells.2.2.2.2).trans (by rw [HTA.out.2]), (HP.out.1.below HD1.out.b).cellsAt HTA.out.1 i hlt, (HP.out.2.below HD1.out.b).cellsAt HTA.out.2 i hlt'⟩ | exact ⟨(HD.out.drew.bx.cells.2.2.2.2).trans (by rw [HTA.out.1]), (HD.out.drew.by'.cells.2.2.2.2).trans (by rw [HTA.out.2]), (HP.out.1.below HD.out.drew.b).cellsAt HTA.out.1 i hlt, (HP.out.2.below HD.out.drew.b).cellsAt HTA.out.2 i hlt'⟩)
      clear hK K
      (try simp only [Act.put, List.setIfInBounds_toArray, List.set_cons_zero, List.set_cons_succ])
      refine take_w (i := 11) (oi := ?oZ12) (v := ?vZ12) ?hiZ12 (by kernel_rfl) (by kernel_rfl) (by kernel_rfl) ?hQZ12 ?hwZ12 ?hyZ12 (by assumption) ?restZ12
      case hiZ12 => (simp only [List.getElem?_toArray, List.getElem?_cons_succ, List.getElem?_cons_zero] <;> rfl)
      case hQZ12 => exact (fun _ _ _ h => h)
      case hwZ12 => rfl
      case hyZ12 => (intro w hSw; (try dsimp only at hSw); go_simp; try with_reducible rfl)
      (try simp only [Act.put, List.setIfInBounds_toArray, List.set_cons_zero, List.set_cons_succ])
      refine wpAnyH_done (by kernel_rfl) ?_ _
      
      clear hHeld
      go_wp2_with fail
      exact ⟨⟨i + 1, by omega, by go_num, HD1.out⟩, by simp [intOf]; omega⟩
    · obtain rfl : i = h.tn := by omega
      have q1 : ¬ (h.tn : Int) < (h.tn : Int) := by omega
      go_wp2_with fail
      go_ret
      exact ⟨rfl, HD.out.b⟩
end Go.Proofs.YtkcmohmfejmfoaaGreatDoor

/- A law's own box of its tree. -/
namespace Go.Proofs.YtkcmohmfejmfoaaGreatDoor
open Go.RowKit
set_option linter.unusedVariables false

/-- The law's own box of its tree; the trees that came in lie in w. -/
structure RW11 (w W : World) (h : TH) (t : Tr) : Prop where
  bx : Box W 25 w.heap.size h
  t : InTree W h t
  b : Below w.heap.size w W
theorem RW11.below {w W W' : World} {h : TH} {t : Tr} (x : RW11 w W h t) (hb : Below W.heap.size W W') : RW11 w W' h t := ⟨x.bx.below hb x.bx.lt, x.t.lower hb, x.b.trans (hb.mono x.b.size)⟩
end Go.Proofs.YtkcmohmfejmfoaaGreatDoor
