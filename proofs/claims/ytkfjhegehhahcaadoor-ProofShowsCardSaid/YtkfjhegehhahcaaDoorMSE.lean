/- The contract of the document's insertion into AVL trees. Trees that are balanced, whose keys rise, within their bounds: they stay so. No program is named here. The contract of the document's Same of lists of pairs. The contract of the document's tree into which pairs were put. One byte in a block of its own. No program is named here. The head of the statements of layer 7: what is shown of a tree of one node. The contracts of the document's Number and Bytes. The contracts of the document's preimages. The first 64 primes, as the document seeks them. No program is named here. The roots of the primes 0 to 15, reckoned: they are the constants. No program is named here. The roots of the primes 16 to 31, reckoned: they are the constants. No program is named here. The roots of the primes 32 to 47, reckoned: they are the constants. No program is named here. The roots of the primes 48 to 63, reckoned: they are the constants. No program is named here. All the roots. No program is named here. The contract of the document's times. The contract of the document's below. The contract of the document's root. The contract of the document's Made: the tables. -/
import Derived.Test.YtkfjhegehhahcaaDoorMSD
import Derived.Test.YtkfjhegehhahcaaDoorMSB
import Derived.Test.YtkfjhegehhahcaaDoorMSC
import Derived.Test.YtkfjhegehhahcaaDoorMSA
import Derived.Lib.SlBytesConst
import Derived.Test.YtkfjhegehhahcaaDoorProg
import Derived.WalkLawsBesides
import Derived.WalkSpells
import Derived.Outline
import Derived.Lib.Hide
import Derived.LoopTactic
import Derived.IntWalk
import Derived.RegionTactic
import Derived.BigRegion
import Derived.Deep.QuietTactic
import Derived.BigQuiet
import Derived.OwnWalk
import Derived.Maps.AppendAt
import Derived.Deep.AppendLies
import Derived.Deep.RegionLaw
/- The contract of the document's insertion into AVL trees. -/
namespace Go.Proofs.YtkfjhegehhahcaaDoor
open Go.RowKit
set_option linter.unusedVariables false

theorem AT.put_mem (key val : List Int) : ∀ (a : AT) (p : KV), p ∈ (a.put key val).pairs → p = (key, val) ∨ p ∈ a.pairs := by
  intro a
  induction a with
  | nil =>
    intro p hp
    simp [AT.put, AT.pairs] at hp
    exact .inl hp
  | node l k v r ihl ihr =>
    intro p hp
    rw [AT.put_node] at hp
    simp only [AT.pairs, List.mem_append, List.mem_cons]
    split at hp
    · simp only [AT.pairs, List.mem_append, List.mem_cons] at hp
      rcases hp with hp | hp | hp
      · exact .inr (.inl hp)
      · exact .inl hp
      · exact .inr (.inr (.inr hp))
    · split at hp
      · rw [AT.level_pairs] at hp
        simp only [AT.pairs, List.mem_append, List.mem_cons] at hp
        rcases hp with hp | hp | hp
        · rcases ihl p hp with q | q
          · exact .inl q
          · exact .inr (.inl q)
        · exact .inr (.inr (.inl hp))
        · exact .inr (.inr (.inr hp))
      · rw [AT.level_pairs] at hp
        simp only [AT.pairs, List.mem_append, List.mem_cons] at hp
        rcases hp with hp | hp | hp
        · exact .inr (.inl hp)
        · exact .inr (.inr (.inl hp))
        · rcases ihr p hp with q | q
          · exact .inl q
          · exact .inr (.inr (.inr q))
theorem AT.put_lim {key val : List Int} (hk : key.length ≤ 80) (hv : val.length ≤ 1024) {a : AT} (h : Lim a.pairs) : Lim (a.put key val).pairs := fun p hp => by
  rcases AT.put_mem key val a p hp with rfl | q
  · exact ⟨hk, hv⟩
  · exact h p q
theorem Lim.mk {l : AT} {k v : List Int} {r : AT} (h1 : Lim l.pairs) (h2 : k.length ≤ 80) (h3 : v.length ≤ 1024) (h4 : Lim r.pairs) : Lim (AT.node l k v r).pairs := fun p hp => by
  simp only [AT.pairs, List.mem_append, List.mem_cons] at hp
  rcases hp with hp | rfl | hp
  · exact h1 p hp
  · exact ⟨h2, h3⟩
  · exact h4 p hp

set_option maxRecDepth 100000 in
set_option maxHeartbeats 4000000 in
theorem refPut_any (key val : List Int) (ka va : Option Addr) (kn kc vn vc : Nat) (hkl : key.length ≤ 80) (hvl : val.length ≤ 1024) : ∀ (a : AT) (h : TH) (w : World), InTree w h a.tr → Lim a.pairs → a.bal → a.depth ≤ 60 → InBytes w ka kn kc key → InBytes w va vn vc val →
    Calls Tryd.prog 30 #[h.v, .slice ka kn kc, .slice va vn vc] w (Tells w (a.put key val)) := by
  intro a
  induction a with
  | nil =>
    intro h w ht _ _ _ hkb hvb
    unfold TH.v
    obtain ⟨H, hp⟩ := ht.parts
    have h0 : ((h.tn : Int) == 0) = true := by have h2 : h.tn = 0 := hp.len.symm; simp [h2]
    obtain ⟨e1, e2, e3, e4⟩ := enter2 w h
    have HK := Lib.hid (And.intro hkb hvb)
    clear hp hkb hvb
    go_enter Tryd.func30, Tryd.ntmps30
    go_upto_region 1 with fail
    generalize ((w.alloc (.cells #[.int .i64 h.k, .slice h.ka h.kn h.kc, .slice h.va h.vn h.vc, .slice h.da h.dn h.dc, .slice h.ta h.tn h.tc] 25)).alloc (.cells #[.int .i64 0, .slice none 0 0, .slice none 0 0, .slice none 0 0, .slice none 0 0] 25)) = w0 at *
    have HX0 : Hid (LX w w0 h AT.nil.tr) := Lib.hid ⟨e1, e2, ht.lower e3, e3⟩
    have x4 := e1.cells.2.2.2.2
    clear e1 e2 e3 e4 ht
    go_wp2_with (first
      | (go_at_call 57
         refine (refNode_any .nil .nil hZ hZ ka va kn kc vn vc key val _ (inTree_nil _) (inTree_nil _) (HK.out.1.below HX0.out.b) (HK.out.2.below HX0.out.b)).mono ?_
         rintro _ w2 ⟨h2, rfl, hi2, hb2⟩
         unfold TH.v
         have HX2 := Lib.hid (HX0.out.below hb2)
         have HI2 := Lib.hid hi2
         clear hi2 hb2)
      | (refine wpList_store_box rfl 25 (.tmp 6) (.tmp 15) rfl (w.heap.size + 1) hZ h2 rfl rfl 25 HX2.out.res infoTree5 ?_
         intro w9 hbx9 hg9
         have HX9 := Lib.hid hbx9
         have HI9 := Lib.hid (AT.outBox HX2.out.res hg9 _ _ HI2.out)
         have HB9 : Hid (Below w.heap.size w w9) := Lib.hid (HX2.out.b.grown hg9 HX2.out.b.size (fun j hj => by injection hj; omega))
         clear hbx9 hg9))
    exact bodyPost_ret (v := h2.v) (result_tree Tryd.results30 _ HX9.out rfl Tryd.underlying25 infoTree5) rfl ⟨_, rfl, HI9.out, HB9.out⟩
  | node l k v r ihl ihr =>
    intro h w ht hlim hbal hd hkb hvb
    unfold TH.v
    obtain ⟨H, hp⟩ := ht.parts
    have l0 : 0 < (AT.node l k v r).tr.kids.length := by rw [AT.tr_kids]; simp
    have l1 : 1 < (AT.node l k v r).tr.kids.length := by rw [AT.tr_kids]; simp
    have ht1 : (1 : Int) < (h.tn : Int) := by have h2 : h.tn = 2 := hp.len.symm; omega
    have ht0 : 0 < h.tn := by omega
    have h0 : ((h.tn : Int) == 0) = false := by rw [beq_eq_false_iff_ne]; omega
    have HP := Lib.hid hp
    have HL := Lib.hid hlim.node
    have HBL : Hid (l.bal ∧ r.bal ∧ l.depth ≤ r.depth + 1 ∧ r.depth ≤ l.depth + 1) := Lib.hid hbal
    have HK := Lib.hid (And.intro hkb hvb)
    have IHL := Lib.hid ihl
    have IHR := Lib.hid ihr
    have HPN := Lib.hid (AT.put_node key val l k v r)
    obtain ⟨g, off, hta, -, -⟩ := hp.place (by omega)
    have HTA := Lib.hid hta
    obtain ⟨e1, e2, e3, e4⟩ := enter2 w h
    have HKB := Lib.hid (And.intro hkb.bytes hp.key.bytes)
    clear hp hta hlim hbal hkb hvb ihl ihr
    go_enter Tryd.func30, Tryd.ntmps30
    go_upto_region 1 with fail
    generalize ((w.alloc (.cells #[.int .i64 h.k, .slice h.ka h.kn h.kc, .slice h.va h.vn h.vc, .slice h.da h.dn h.dc, .slice h.ta h.tn h.tc] 25)).alloc (.cells #[.int .i64 0, .slice none 0 0, .slice none 0 0, .slice none 0 0, .slice none 0 0] 25)) = w0 at *
    have HX0 : Hid (LX w w0 h (AT.node l k v r).tr) := Lib.hid ⟨e1, e2, ht.lower e3, e3⟩
    obtain ⟨x0, x1, x2, x3, x4⟩ := e1.cells
    have cv1 := conv_key (HK.out.1.below e3)
    have cv2 : (convert 22 9 (.slice h.ka h.kn h.kc)).run Tryd.prog w0 = .ok (.string (strOfNums k)) w0 := conv_key (HP.out.below e3).key
    clear e1 e2 e3 e4 ht
    have he : ((strOfNums key).toList == (strOfNums k).toList) = (key == k) := str_eq HKB.out.1 HKB.out.2
    have hlt : Op.bytesLess (strOfNums key).toList (strOfNums k).toList = ltL key k := str_lt HKB.out.1 HKB.out.2
    go_upto_if 21 with fail
    clear he
    by_cases ce : key = k
    · have ce2 : (key == k) = true := by simp [ce]
      have HPN2 := Lib.hid (HPN.out.trans (if_pos ce))
      clear HPN
      have HPN := HPN2
      rw [ce2]
      clear ce ce2 hlt cv1 cv2 x0 x1 x2 x3 x4
      go_upto_region 4 with fail
      refine region_l (S := (fun W => W.cell? ⟨w.heap.size, 1, none⟩ = some (.slice h.ka h.kn h.kc) ∧ W.cell? ⟨w.heap.size, 2, none⟩ = some (.slice h.va h.vn h.vc) ∧ W.cell? ⟨w.heap.size, 4, none⟩ = some (.slice (some ⟨g, off, none⟩) h.tn h.tc) ∧ (W.cell? ⟨g, off, none⟩ = some (.int .i64 (H 0).k) ∧ W.cell? ⟨g, off + 1, none⟩ = some (.slice (H 0).ka (H 0).kn (H 0).kc) ∧ W.cell? ⟨g, off + 2, none⟩ = some (.slice (H 0).va (H 0).vn (H 0).vc) ∧ W.cell? ⟨g, off + 3, none⟩ = some (.slice (H 0).da (H 0).dn (H 0).dc) ∧ W.cell? ⟨g, off + 4, none⟩ = some (.slice (H 0).ta (H 0).tn (H 0).tc)) ∧ W.cell? ⟨g, off + 5, none⟩ = some (.int .i64 (H 1).k) ∧ W.cell? ⟨g, off + 5 + 1, none⟩ = some (.slice (H 1).ka (H 1).kn (H 1).kc) ∧ W.cell? ⟨g, off + 5 + 2, none⟩ = some (.slice (H 1).va (H 1).vn (H 1).vc) ∧ W.cell? ⟨g, off + 5 + 3, none⟩ = some (.slice (H 1).da (H 1).dn (H 1).dc) ∧ W.cell? ⟨g, off + 5 + 4, none⟩ = some (.slice (H 1).ta (H 1).tn (H 1).tc))) 11 (by kernel_rfl) ⟨HX0.out.drew.box.cells.2.1, HX0.out.drew.box.cells.2.2.1, (HX0.out.drew.box.cells.2.2.2.2).trans (by rw [HTA.out]), (HP.out.below HX0.out.drew.b).kid0 HTA.out (by omega), (HP.out.below HX0.out.drew.b).kid1 HTA.out (by omega)⟩ (fun hHeld => ?_)
      refine take_l (i := 0) (oi := ?oZ1) (v := ?vZ1) ?hiZ1 (by kernel_rfl) (by kernel_rfl) (by kernel_rfl) (by kernel_rfl) ?hQZ1 ?hwZ1 ?hyZ1 (by assumption) ?restZ1
      case hiZ1 => (simp only [List.getElem?_toArray, List.getElem?_cons_zero] <;> rfl)
      case hQZ1 => exact (fun _ _ _ h => h)
      case hwZ1 => rfl
      case hyZ1 => (intro w hSw; (try dsimp only at hSw); go_simp; try with_reducible rfl)
      (try simp only [Act.put, List.setIfInBounds_toArray, List.set_cons_zero, List.set_cons_succ])
      refine take_l (i := 1) (oi := ?oZ2) (v := ?vZ2) ?hiZ2 (by kernel_rfl) (by kernel_rfl) (by kernel_rfl) (by kernel_rfl) ?hQZ2 ?hwZ2 ?hyZ2 (by assumption) ?restZ2
      case hiZ2 => (simp only [List.getElem?_toArray, List.getElem?_cons_succ, List.getElem?_cons_zero] <;> rfl)
      case hQZ2 => exact (fun _ _ _ h => h)
      case hwZ2 => rfl
      case hyZ2 => (intro w hSw; (try dsimp only at hSw); go_simp; try with_reducible rfl)
      (try simp only [Act.put, List.setIfInBounds_toArray, List.set_cons_zero, List.set_cons_succ])
      refine take_l (i := 2) (oi := ?oZ3) (v := ?vZ3) ?hiZ3 (by kernel_rfl) (by kernel_rfl) (by kernel_rfl) (by kernel_rfl) ?hQZ3 ?hwZ3 ?hyZ3 (by assumption) ?restZ3
      case hiZ3 => (simp only [List.getElem?_toArray, List.getElem?_cons_succ, List.getElem?_cons_zero] <;> rfl)
      case hQZ3 => exact (fun _ _ _ h => h)
      case hwZ3 => rfl
      case hyZ3 => (intro w hSw; (try dsimp only at hSw); go_simp; try with_reducible rfl)
      (try simp only [Act.put, List.setIfInBounds_toArray, List.set_cons_zero, List.set_cons_succ])
      refine take_l (i := 3) (oi := ?oZ4) (v := ?vZ4) ?hiZ4 (by kernel_rfl) (by kernel_rfl) (by kernel_rfl) (by kernel_rfl) ?hQZ4 ?hwZ4 ?hyZ4 (by assumption) ?restZ4
      case hiZ4 => (simp only [List.getElem?_toArray, List.getElem?_cons_succ, List.getElem?_cons_zero] <;> rfl)
      case hQZ4 => exact (fun _ _ _ h => h)
      case hwZ4 => rfl
      case hyZ4 => (intro w hSw; (try dsimp only at hSw); go_simp; try with_reducible rfl)
      (try simp only [Act.put, List.setIfInBounds_toArray, List.set_cons_zero, List.set_cons_succ])
      refine take_l (i := 4) (oi := ?oZ5) (v := ?vZ5) ?hiZ5 (by kernel_rfl) (by kernel_rfl) (by kernel_rfl) (by kernel_rfl) ?hQZ5 ?hwZ5 ?hyZ5 (by assumption) ?restZ5
      case hiZ5 => (simp only [List.getElem?_toArray, List.getElem?_cons_succ, List.getElem?_cons_zero] <;> rfl)
      case hQZ5 => exact (fun _ _ _ h => h)
      case hwZ5 => rfl
      case hyZ5 => (intro w hSw; (try dsimp only at hSw); go_simp; try with_reducible rfl)
      (try simp only [Act.put, List.setIfInBounds_toArray, List.set_cons_zero, List.set_cons_succ])
      refine take_l (i := 5) (oi := ?oZ6) (v := ?vZ6) ?hiZ6 (by kernel_rfl) (by kernel_rfl) (by kernel_rfl) (by kernel_rfl) ?hQZ6 ?hwZ6 ?hyZ6 (by assumption) ?restZ6
      case hiZ6 => (simp only [List.getElem?_toArray, List.getElem?_cons_succ, List.getElem?_cons_zero] <;> rfl)
      case hQZ6 => exact (fun _ _ _ h => h)
      case hwZ6 => rfl
      case hyZ6 => (intro w hSw; (try dsimp only at hSw); go_simp; try with_reducible rfl)
      (try simp only [Act.put, List.setIfInBounds_toArray, List.set_cons_zero, List.set_cons_succ])
      refine take_l (i := 6) (oi := ?oZ7) (v := ?vZ7) ?hiZ7 (by kernel_rfl) (by kernel_rfl) (by kernel_rfl) (by kernel_rfl) ?hQZ7 ?hwZ7 ?hyZ7 (by assumption) ?restZ7
      case hiZ7 => (simp only [List.getElem?_toArray, List.getElem?_cons_succ, List.getElem?_cons_zero] <;> rfl)
      case hQZ7 => exact (fun _ _ _ h => h)
      case hwZ7 => rfl
      case hyZ7 => (intro w hSw; (try dsimp only at hSw); go_simp; try with_reducible rfl)
      (try simp only [Act.put, List.setIfInBounds_toArray, List.set_cons_zero, List.set_cons_succ])
      refine take_l (i := 7) (oi := ?oZ8) (v := ?vZ8) ?hiZ8 (by kernel_rfl) (by kernel_rfl) (by kernel_rfl) (by kernel_rfl) ?hQZ8 ?hwZ8 ?hyZ8 (by assumption) ?restZ8
      case hiZ8 => (simp only [List.getElem?_toArray, List.getElem?_cons_succ, List.getElem?_cons_zero] <;> rfl)
      case hQZ8 => exact (fun _ _ _ h => h)
      case hwZ8 => rfl
      case hyZ8 => (intro w hSw; (try dsimp only at hSw); go_simp; try with_reducible rfl)
      (try simp only [Act.put, List.setIfInBounds_toArray, List.set_cons_zero, List.set_cons_succ])
      refine take_l (i := 8) (oi := ?oZ9) (v := ?vZ9) ?hiZ9 (by kernel_rfl) (by kernel_rfl) (by kernel_rfl) (by kernel_rfl) ?hQZ9 ?hwZ9 ?hyZ9 (by assumption) ?restZ9
      case hiZ9 => (simp only [List.getElem?_toArray, List.getElem?_cons_succ, List.getElem?_cons_zero] <;> rfl)
      case hQZ9 => exact (fun _ _ _ h => h)
      case hwZ9 => rfl
      case hyZ9 => (intro w hSw; (try dsimp only at hSw); go_simp; try with_reducible rfl)
      (try simp only [Act.put, List.setIfInBounds_toArray, List.set_cons_zero, List.set_cons_succ])
      refine take_l (i := 9) (oi := ?oZ10) (v := ?vZ10) ?hiZ10 (by kernel_rfl) (by kernel_rfl) (by kernel_rfl) (by kernel_rfl) ?hQZ10 ?hwZ10 ?hyZ10 (by assumption) ?restZ10
      case hiZ10 => (simp only [List.getElem?_toArray, List.getElem?_cons_succ, List.getElem?_cons_zero] <;> rfl)
      case hQZ10 => exact (fun _ _ _ h => h)
      case hwZ10 => rfl
      case hyZ10 => (intro w hSw; (try dsimp only at hSw); go_simp; try with_reducible rfl)
      (try simp only [Act.put, List.setIfInBounds_toArray, List.set_cons_zero, List.set_cons_succ])
      refine one_l (i := 10) (o := ?oZ11) (by kernel_rfl) ?hiZ11 (fun K hK => ?stZ11)
      case hiZ11 => (simp only [List.getElem?_toArray, List.getElem?_cons_succ, List.getElem?_cons_zero] <;> rfl)
      go_simp
      go_at_call 57
      refine (refNode_any l r (H 0) (H 1) ka va kn kc vn vc key val _ ((HP.out.below HX0.out.drew.b).kids 0 l0) ((HP.out.below HX0.out.drew.b).kids 1 l1) (HK.out.1.below HX0.out.drew.b) (HK.out.2.below HX0.out.drew.b)).mono ?_
      rintro _ w2 ⟨h2, rfl, hi2, hb2⟩
      unfold TH.v
      have HX2 := Lib.hid (HX0.out.drew.below hb2)
      have HI2 := Lib.hid hi2
      clear hi2 hb2
      go_simp
      refine hK.out _ _ ?_ (fun hHeld => ?_)
      · (first | exact ⟨HX4.out.box.cells.2.1, HX4.out.box.cells.2.2.1, (HX4.out.box.cells.2.2.2.2).trans (by rw [HTA.out]), (HP.out.below HX4.out.b).kid0 HTA.out (by omega), (HP.out.below HX4.out.b).kid1 HTA.out (by omega)⟩ | exact ⟨HX3.out.box.cells.2.1, HX3.out.box.cells.2.2.1, (HX3.out.box.cells.2.2.2.2).trans (by rw [HTA.out]), (HP.out.below HX3.out.b).kid0 HTA.out (by omega), (HP.out.below HX3.out.b).kid1 HTA.out (by omega)⟩ | exact ⟨HX2.out.box.cells.2.1, HX2.out.box.cells.2.2.1, (HX2.out.box.cells.2.2.2.2).trans (by rw [HTA.out]), (HP.out.below HX2.out.b).kid0 HTA.out (by omega), (HP.out.below HX2.out.b).kid1 HTA.out (by omega)⟩ | exact ⟨HX0.out.drew.box.cells.2.1, HX0.out.drew.box.cells.2.2.1, (HX0.out.drew.box.cells.2.2.2.2).trans (by rw [HTA.out]), (HP.out.below HX0.out.drew.b).kid0 HTA.out (by omega), (HP.out.below HX0.out.drew.b).kid1 HTA.out (by omega)⟩)
      clear hK K
      (try simp only [Act.put, List.setIfInBounds_toArray, List.set_cons_zero, List.set_cons_succ])
      refine last_l (o := ?oZ12) (by kernel_rfl) ?hiZ12 (by kernel_rfl) (fun K hK => ?stZ12)
      case hiZ12 => (simp only [List.getElem?_toArray, List.getElem?_cons_succ, List.getElem?_cons_zero] <;> rfl)
      refine step_store_box rfl 25 (.tmp 6) (.tmp 32) rfl (w.heap.size + 1) hZ h2 rfl rfl 25 HX2.out.res infoTree5 ?_
      intro w9 hbx9 hg9
      have HX9 := Lib.hid hbx9
      have HI9 := Lib.hid (AT.outBox HX2.out.res hg9 _ _ HI2.out)
      have HB9 : Hid (Below w.heap.size w w9) := Lib.hid (HX2.out.b.grown hg9 HX2.out.b.size (fun j hj => by injection hj; omega))
      clear hbx9 hg9
      refine hK.out _ _ ?_
      clear hK K
      (try simp only [Act.put])
      
      clear hHeld
      go_wp2_with fail
      refine bodyPost_ret (v := h2.v) (result_tree Tryd.results30 _ HX9.out rfl Tryd.underlying25 infoTree5) rfl ⟨_, rfl, ?_, HB9.out⟩
      rw [HPN.out]
      exact HI9.out
    have ce2 : (key == k) = false := by simp [ce]
    have HPN1 := Lib.hid (HPN.out.trans (if_neg ce))
    rw [ce2]
    go_upto_if 38 with fail
    cases cl : ltL key k
    · have HPN2 := Lib.hid (HPN1.out.trans (if_neg (by rw [cl]; simp)))
      clear HPN HPN1
      have HPN := HPN2
      clear ce ce2 hlt cv1 cv2 x0 x1 x2 x3 x4 cl
      go_upto_region 7 with fail
      refine region_l (S := (fun W => W.cell? ⟨w.heap.size, 1, none⟩ = some (.slice h.ka h.kn h.kc) ∧ W.cell? ⟨w.heap.size, 2, none⟩ = some (.slice h.va h.vn h.vc) ∧ W.cell? ⟨w.heap.size, 4, none⟩ = some (.slice (some ⟨g, off, none⟩) h.tn h.tc) ∧ (W.cell? ⟨g, off, none⟩ = some (.int .i64 (H 0).k) ∧ W.cell? ⟨g, off + 1, none⟩ = some (.slice (H 0).ka (H 0).kn (H 0).kc) ∧ W.cell? ⟨g, off + 2, none⟩ = some (.slice (H 0).va (H 0).vn (H 0).vc) ∧ W.cell? ⟨g, off + 3, none⟩ = some (.slice (H 0).da (H 0).dn (H 0).dc) ∧ W.cell? ⟨g, off + 4, none⟩ = some (.slice (H 0).ta (H 0).tn (H 0).tc)) ∧ W.cell? ⟨g, off + 5, none⟩ = some (.int .i64 (H 1).k) ∧ W.cell? ⟨g, off + 5 + 1, none⟩ = some (.slice (H 1).ka (H 1).kn (H 1).kc) ∧ W.cell? ⟨g, off + 5 + 2, none⟩ = some (.slice (H 1).va (H 1).vn (H 1).vc) ∧ W.cell? ⟨g, off + 5 + 3, none⟩ = some (.slice (H 1).da (H 1).dn (H 1).dc) ∧ W.cell? ⟨g, off + 5 + 4, none⟩ = some (.slice (H 1).ta (H 1).tn (H 1).tc))) 17 (by kernel_rfl) ⟨HX0.out.drew.box.cells.2.1, HX0.out.drew.box.cells.2.2.1, (HX0.out.drew.box.cells.2.2.2.2).trans (by rw [HTA.out]), (HP.out.below HX0.out.drew.b).kid0 HTA.out (by omega), (HP.out.below HX0.out.drew.b).kid1 HTA.out (by omega)⟩ (fun hHeld => ?_)
      refine take_l (i := 0) (oi := ?oZ31) (v := ?vZ31) ?hiZ31 (by kernel_rfl) (by kernel_rfl) (by kernel_rfl) (by kernel_rfl) ?hQZ31 ?hwZ31 ?hyZ31 (by assumption) ?restZ31
      case hiZ31 => (simp only [List.getElem?_toArray, List.getElem?_cons_zero] <;> rfl)
      case hQZ31 => exact (fun _ _ _ h => h)
      case hwZ31 => rfl
      case hyZ31 => (intro w hSw; (try dsimp only at hSw); go_simp; try with_reducible rfl)
      (try simp only [Act.put, List.setIfInBounds_toArray, List.set_cons_zero, List.set_cons_succ])
      refine take_l (i := 1) (oi := ?oZ32) (v := ?vZ32) ?hiZ32 (by kernel_rfl) (by kernel_rfl) (by kernel_rfl) (by kernel_rfl) ?hQZ32 ?hwZ32 ?hyZ32 (by assumption) ?restZ32
      case hiZ32 => (simp only [List.getElem?_toArray, List.getElem?_cons_succ, List.getElem?_cons_zero] <;> rfl)
      case hQZ32 => exact (fun _ _ _ h => h)
      case hwZ32 => rfl
      case hyZ32 => (intro w hSw; (try dsimp only at hSw); go_simp; try with_reducible rfl)
      (try simp only [Act.put, List.setIfInBounds_toArray, List.set_cons_zero, List.set_cons_succ])
      refine take_l (i := 2) (oi := ?oZ33) (v := ?vZ33) ?hiZ33 (by kernel_rfl) (by kernel_rfl) (by kernel_rfl) (by kernel_rfl) ?hQZ33 ?hwZ33 ?hyZ33 (by assumption) ?restZ33
      case hiZ33 => (simp only [List.getElem?_toArray, List.getElem?_cons_succ, List.getElem?_cons_zero] <;> rfl)
      case hQZ33 => exact (fun _ _ _ h => h)
      case hwZ33 => rfl
      case hyZ33 => (intro w hSw; (try dsimp only at hSw); go_simp; try with_reducible rfl)
      (try simp only [Act.put, List.setIfInBounds_toArray, List.set_cons_zero, List.set_cons_succ])
      refine take_l (i := 3) (oi := ?oZ34) (v := ?vZ34) ?hiZ34 (by kernel_rfl) (by kernel_rfl) (by kernel_rfl) (by kernel_rfl) ?hQZ34 ?hwZ34 ?hyZ34 (by assumption) ?restZ34
      case hiZ34 => (simp only [List.getElem?_toArray, List.getElem?_cons_succ, List.getElem?_cons_zero] <;> rfl)
      case hQZ34 => exact (fun _ _ _ h => h)
      case hwZ34 => rfl
      case hyZ34 => (intro w hSw; (try dsimp only at hSw); go_simp; try with_reducible rfl)
      (try simp only [Act.put, List.setIfInBounds_toArray, List.set_cons_zero, List.set_cons_succ])
      refine take_l (i := 4) (oi := ?oZ35) (v := ?vZ35) ?hiZ35 (by kernel_rfl) (by kernel_rfl) (by kernel_rfl) (by kernel_rfl) ?hQZ35 ?hwZ35 ?hyZ35 (by assumption) ?restZ35
      case hiZ35 => (simp only [List.getElem?_toArray, List.getElem?_cons_succ, List.getElem?_cons_zero] <;> rfl)
      case hQZ35 => exact (fun _ _ _ h => h)
      case hwZ35 => rfl
      case hyZ35 => (intro w hSw; (try dsimp only at hSw); go_simp; try with_reducible rfl)
      (try simp only [Act.put, List.setIfInBounds_toArray, List.set_cons_zero, List.set_cons_succ])
      refine take_l (i := 5) (oi := ?oZ36) (v := ?vZ36) ?hiZ36 (by kernel_rfl) (by kernel_rfl) (by kernel_rfl) (by kernel_rfl) ?hQZ36 ?hwZ36 ?hyZ36 (by assumption) ?restZ36
      case hiZ36 => (simp only [List.getElem?_toArray, List.getElem?_cons_succ, List.getElem?_cons_zero] <;> rfl)
      case hQZ36 => exact (fun _ _ _ h => h)
      case hwZ36 => rfl
      case hyZ36 => (intro w hSw; (try dsimp only at hSw); go_simp; try with_reducible rfl)
      (try simp only [Act.put, List.setIfInBounds_toArray, List.set_cons_zero, List.set_cons_succ])
      refine take_l (i := 6) (oi := ?oZ37) (v := ?vZ37) ?hiZ37 (by kernel_rfl) (by kernel_rfl) (by kernel_rfl) (by kernel_rfl) ?hQZ37 ?hwZ37 ?hyZ37 (by assumption) ?restZ37
      case hiZ37 => (simp only [List.getElem?_toArray, List.getElem?_cons_succ, List.getElem?_cons_zero] <;> rfl)
      case hQZ37 => exact (fun _ _ _ h => h)
      case hwZ37 => rfl
      case hyZ37 => (intro w hSw; (try dsimp only at hSw); go_simp; try with_reducible rfl)
      (try simp only [Act.put, List.setIfInBounds_toArray, List.set_cons_zero, List.set_cons_succ])
      refine take_l (i := 7) (oi := ?oZ38) (v := ?vZ38) ?hiZ38 (by kernel_rfl) (by kernel_rfl) (by kernel_rfl) (by kernel_rfl) ?hQZ38 ?hwZ38 ?hyZ38 (by assumption) ?restZ38
      case hiZ38 => (simp only [List.getElem?_toArray, List.getElem?_cons_succ, List.getElem?_cons_zero] <;> rfl)
      case hQZ38 => exact (fun _ _ _ h => h)
      case hwZ38 => rfl
      case hyZ38 => (intro w hSw; (try dsimp only at hSw); go_simp; try with_reducible rfl)
      (try simp only [Act.put, List.setIfInBounds_toArray, List.set_cons_zero, List.set_cons_succ])
      refine take_l (i := 8) (oi := ?oZ39) (v := ?vZ39) ?hiZ39 (by kernel_rfl) (by kernel_rfl) (by kernel_rfl) (by kernel_rfl) ?hQZ39 ?hwZ39 ?hyZ39 (by assumption) ?restZ39
      case hiZ39 => (simp only [List.getElem?_toArray, List.getElem?_cons_succ, List.getElem?_cons_zero] <;> rfl)
      case hQZ39 => exact (fun _ _ _ h => h)
      case hwZ39 => rfl
      case hyZ39 => (intro w hSw; (try dsimp only at hSw); go_simp; try with_reducible rfl)
      (try simp only [Act.put, List.setIfInBounds_toArray, List.set_cons_zero, List.set_cons_succ])
      refine take_l (i := 9) (oi := ?oZ40) (v := ?vZ40) ?hiZ40 (by kernel_rfl) (by kernel_rfl) (by kernel_rfl) (by kernel_rfl) ?hQZ40 ?hwZ40 ?hyZ40 (by assumption) ?restZ40
      case hiZ40 => (simp only [List.getElem?_toArray, List.getElem?_cons_succ, List.getElem?_cons_zero] <;> rfl)
      case hQZ40 => exact (fun _ _ _ h => h)
      case hwZ40 => rfl
      case hyZ40 => (intro w hSw; (try dsimp only at hSw); go_simp; try with_reducible rfl)
      (try simp only [Act.put, List.setIfInBounds_toArray, List.set_cons_zero, List.set_cons_succ])
      refine take_l (i := 10) (oi := ?oZ41) (v := ?vZ41) ?hiZ41 (by kernel_rfl) (by kernel_rfl) (by kernel_rfl) (by kernel_rfl) ?hQZ41 ?hwZ41 ?hyZ41 (by assumption) ?restZ41
      case hiZ41 => (simp only [List.getElem?_toArray, List.getElem?_cons_succ, List.getElem?_cons_zero] <;> rfl)
      case hQZ41 => exact (fun _ _ _ h => h)
      case hwZ41 => rfl
      case hyZ41 => (intro w hSw; (try dsimp only at hSw); go_simp; try with_reducible rfl)
      (try simp only [Act.put, List.setIfInBounds_toArray, List.set_cons_zero, List.set_cons_succ])
      refine take_l (i := 11) (oi := ?oZ42) (v := ?vZ42) ?hiZ42 (by kernel_rfl) (by kernel_rfl) (by kernel_rfl) (by kernel_rfl) ?hQZ42 ?hwZ42 ?hyZ42 (by assumption) ?restZ42
      case hiZ42 => (simp only [List.getElem?_toArray, List.getElem?_cons_succ, List.getElem?_cons_zero] <;> rfl)
      case hQZ42 => exact (fun _ _ _ h => h)
      case hwZ42 => rfl
      case hyZ42 => (intro w hSw; (try dsimp only at hSw); go_simp; try with_reducible rfl)
      (try simp only [Act.put, List.setIfInBounds_toArray, List.set_cons_zero, List.set_cons_succ])
      refine take_l (i := 12) (oi := ?oZ43) (v := ?vZ43) ?hiZ43 (by kernel_rfl) (by kernel_rfl) (by kernel_rfl) (by kernel_rfl) ?hQZ43 ?hwZ43 ?hyZ43 (by assumption) ?restZ43
      case hiZ43 => (simp only [List.getElem?_toArray, List.getElem?_cons_succ, List.getElem?_cons_zero] <;> rfl)
      case hQZ43 => exact (fun _ _ _ h => h)
      case hwZ43 => rfl
      case hyZ43 => (intro w hSw; (try dsimp only at hSw); go_simp; try with_reducible rfl)
      (try simp only [Act.put, List.setIfInBounds_toArray, List.set_cons_zero, List.set_cons_succ])
      refine take_l (i := 13) (oi := ?oZ44) (v := ?vZ44) ?hiZ44 (by kernel_rfl) (by kernel_rfl) (by kernel_rfl) (by kernel_rfl) ?hQZ44 ?hwZ44 ?hyZ44 (by assumption) ?restZ44
      case hiZ44 => (simp only [List.getElem?_toArray, List.getElem?_cons_succ, List.getElem?_cons_zero] <;> rfl)
      case hQZ44 => exact (fun _ _ _ h => h)
      case hwZ44 => rfl
      case hyZ44 => (intro w hSw; (try dsimp only at hSw); go_simp; try with_reducible rfl)
      (try simp only [Act.put, List.setIfInBounds_toArray, List.set_cons_zero, List.set_cons_succ])
      refine one_l (i := 14) (o := ?oZ45) (by kernel_rfl) ?hiZ45 (fun K hK => ?stZ45)
      case hiZ45 => (simp only [List.getElem?_toArray, List.getElem?_cons_succ, List.getElem?_cons_zero] <;> rfl)
      go_simp
      go_at_call 30
      refine (IHR.out (H 1) _ ((HP.out.below HX0.out.drew.b).kids 1 l1) HL.out.2.2.2 HBL.out.2.1 (by simp only [AT.depth] at hd; omega) (HK.out.1.below HX0.out.drew.b) (HK.out.2.below HX0.out.drew.b)).mono ?_
      rintro _ w2 ⟨h2, rfl, hi2, hb2⟩
      unfold TH.v
      have HX2 := Lib.hid (HX0.out.drew.below hb2)
      have HI2 := Lib.hid hi2
      clear hi2 hb2
      go_simp
      refine hK.out _ _ ?_ (fun hHeld => ?_)
      · (first | exact ⟨HX4.out.box.cells.2.1, HX4.out.box.cells.2.2.1, (HX4.out.box.cells.2.2.2.2).trans (by rw [HTA.out]), (HP.out.below HX4.out.b).kid0 HTA.out (by omega), (HP.out.below HX4.out.b).kid1 HTA.out (by omega)⟩ | exact ⟨HX3.out.box.cells.2.1, HX3.out.box.cells.2.2.1, (HX3.out.box.cells.2.2.2.2).trans (by rw [HTA.out]), (HP.out.below HX3.out.b).kid0 HTA.out (by omega), (HP.out.below HX3.out.b).kid1 HTA.out (by omega)⟩ | exact ⟨HX2.out.box.cells.2.1, HX2.out.box.cells.2.2.1, (HX2.out.box.cells.2.2.2.2).trans (by rw [HTA.out]), (HP.out.below HX2.out.b).kid0 HTA.out (by omega), (HP.out.below HX2.out.b).kid1 HTA.out (by omega)⟩ | exact ⟨HX0.out.drew.box.cells.2.1, HX0.out.drew.box.cells.2.2.1, (HX0.out.drew.box.cells.2.2.2.2).trans (by rw [HTA.out]), (HP.out.below HX0.out.drew.b).kid0 HTA.out (by omega), (HP.out.below HX0.out.drew.b).kid1 HTA.out (by omega)⟩)
      clear hK K
      (try simp only [Act.put, List.setIfInBounds_toArray, List.set_cons_zero, List.set_cons_succ])
      refine one_l (i := 15) (o := ?oZ46) (by kernel_rfl) ?hiZ46 (fun K hK => ?stZ46)
      case hiZ46 => (simp only [List.getElem?_toArray, List.getElem?_cons_succ, List.getElem?_cons_zero] <;> rfl)
      go_simp
      go_at_call 57
      refine (refNode_any l (r.put key val) (H 0) h2 h.ka h.va h.kn h.kc h.vn h.vc k v _ ((HP.out.below HX2.out.b).kids 0 l0) HI2.out (HP.out.below HX2.out.b).key (HP.out.below HX2.out.b).val).mono ?_
      rintro _ w3 ⟨h3, rfl, hi3, hb3⟩
      unfold TH.v
      have HX3 := Lib.hid (HX2.out.below hb3)
      have HI3 := Lib.hid hi3
      clear hi3 hb3
      go_simp
      refine hK.out _ _ ?_ (fun hHeld => ?_)
      · (first | exact ⟨HX4.out.box.cells.2.1, HX4.out.box.cells.2.2.1, (HX4.out.box.cells.2.2.2.2).trans (by rw [HTA.out]), (HP.out.below HX4.out.b).kid0 HTA.out (by omega), (HP.out.below HX4.out.b).kid1 HTA.out (by omega)⟩ | exact ⟨HX3.out.box.cells.2.1, HX3.out.box.cells.2.2.1, (HX3.out.box.cells.2.2.2.2).trans (by rw [HTA.out]), (HP.out.below HX3.out.b).kid0 HTA.out (by omega), (HP.out.below HX3.out.b).kid1 HTA.out (by omega)⟩ | exact ⟨HX2.out.box.cells.2.1, HX2.out.box.cells.2.2.1, (HX2.out.box.cells.2.2.2.2).trans (by rw [HTA.out]), (HP.out.below HX2.out.b).kid0 HTA.out (by omega), (HP.out.below HX2.out.b).kid1 HTA.out (by omega)⟩ | exact ⟨HX0.out.drew.box.cells.2.1, HX0.out.drew.box.cells.2.2.1, (HX0.out.drew.box.cells.2.2.2.2).trans (by rw [HTA.out]), (HP.out.below HX0.out.drew.b).kid0 HTA.out (by omega), (HP.out.below HX0.out.drew.b).kid1 HTA.out (by omega)⟩)
      clear hK K
      (try simp only [Act.put, List.setIfInBounds_toArray, List.set_cons_zero, List.set_cons_succ])
      refine one_l (i := 16) (o := ?oZ47) (by kernel_rfl) ?hiZ47 (fun K hK => ?stZ47)
      case hiZ47 => (simp only [List.getElem?_toArray, List.getElem?_cons_succ, List.getElem?_cons_zero] <;> rfl)
      go_simp
      go_at_call 58
      refine (refLevel_any l k v (r.put key val) h3 _ HI3.out (Lim.mk HL.out.1 HL.out.2.1 HL.out.2.2.1 (AT.put_lim hkl hvl HL.out.2.2.2)) (by simp only [AT.depth] at hd; omega) (by have := (AT.put_bal key val r HBL.out.2.1).2.2; simp only [AT.depth] at hd; omega)).mono ?_
      rintro _ w4 ⟨h4, rfl, hi4, hb4⟩
      unfold TH.v
      have HX4 := Lib.hid (HX3.out.below hb4)
      have HI4 := Lib.hid hi4
      clear hi4 hb4
      go_simp
      refine hK.out _ _ ?_ (fun hHeld => ?_)
      · (first | exact ⟨HX4.out.box.cells.2.1, HX4.out.box.cells.2.2.1, (HX4.out.box.cells.2.2.2.2).trans (by rw [HTA.out]), (HP.out.below HX4.out.b).kid0 HTA.out (by omega), (HP.out.below HX4.out.b).kid1 HTA.out (by omega)⟩ | exact ⟨HX3.out.box.cells.2.1, HX3.out.box.cells.2.2.1, (HX3.out.box.cells.2.2.2.2).trans (by rw [HTA.out]), (HP.out.below HX3.out.b).kid0 HTA.out (by omega), (HP.out.below HX3.out.b).kid1 HTA.out (by omega)⟩ | exact ⟨HX2.out.box.cells.2.1, HX2.out.box.cells.2.2.1, (HX2.out.box.cells.2.2.2.2).trans (by rw [HTA.out]), (HP.out.below HX2.out.b).kid0 HTA.out (by omega), (HP.out.below HX2.out.b).kid1 HTA.out (by omega)⟩ | exact ⟨HX0.out.drew.box.cells.2.1, HX0.out.drew.box.cells.2.2.1, (HX0.out.drew.box.cells.2.2.2.2).trans (by rw [HTA.out]), (HP.out.below HX0.out.drew.b).kid0 HTA.out (by omega), (HP.out.below HX0.out.drew.b).kid1 HTA.out (by omega)⟩)
      clear hK K
      (try simp only [Act.put, List.setIfInBounds_toArray, List.set_cons_zero, List.set_cons_succ])
      refine last_l (o := ?oZ48) (by kernel_rfl) ?hiZ48 (by kernel_rfl) (fun K hK => ?stZ48)
      case hiZ48 => (simp only [List.getElem?_toArray, List.getElem?_cons_succ, List.getElem?_cons_zero] <;> rfl)
      refine step_store_box rfl 25 (.tmp 6) (.tmp 72) rfl (w.heap.size + 1) hZ h4 rfl rfl 25 HX4.out.res infoTree5 ?_
      intro w9 hbx9 hg9
      have HX9 := Lib.hid hbx9
      have HI9 := Lib.hid (AT.outBox HX4.out.res hg9 _ _ HI4.out)
      have HB9 : Hid (Below w.heap.size w w9) := Lib.hid (HX4.out.b.grown hg9 HX4.out.b.size (fun j hj => by injection hj; omega))
      clear hbx9 hg9
      refine hK.out _ _ ?_
      clear hK K
      (try simp only [Act.put])
      
      clear hHeld
      go_wp2_with fail
      refine bodyPost_ret (v := h4.v) (result_tree Tryd.results30 _ HX9.out rfl Tryd.underlying25 infoTree5) rfl ⟨_, rfl, ?_, HB9.out⟩
      rw [HPN.out]
      exact HI9.out
    · have HPN2 := Lib.hid (HPN1.out.trans (if_pos cl))
      clear HPN HPN1
      have HPN := HPN2
      clear ce ce2 hlt cv1 cv2 x0 x1 x2 x3 x4 cl
      go_upto_region 6 with fail
      refine region_l (S := (fun W => W.cell? ⟨w.heap.size, 1, none⟩ = some (.slice h.ka h.kn h.kc) ∧ W.cell? ⟨w.heap.size, 2, none⟩ = some (.slice h.va h.vn h.vc) ∧ W.cell? ⟨w.heap.size, 4, none⟩ = some (.slice (some ⟨g, off, none⟩) h.tn h.tc) ∧ (W.cell? ⟨g, off, none⟩ = some (.int .i64 (H 0).k) ∧ W.cell? ⟨g, off + 1, none⟩ = some (.slice (H 0).ka (H 0).kn (H 0).kc) ∧ W.cell? ⟨g, off + 2, none⟩ = some (.slice (H 0).va (H 0).vn (H 0).vc) ∧ W.cell? ⟨g, off + 3, none⟩ = some (.slice (H 0).da (H 0).dn (H 0).dc) ∧ W.cell? ⟨g, off + 4, none⟩ = some (.slice (H 0).ta (H 0).tn (H 0).tc)) ∧ W.cell? ⟨g, off + 5, none⟩ = some (.int .i64 (H 1).k) ∧ W.cell? ⟨g, off + 5 + 1, none⟩ = some (.slice (H 1).ka (H 1).kn (H 1).kc) ∧ W.cell? ⟨g, off + 5 + 2, none⟩ = some (.slice (H 1).va (H 1).vn (H 1).vc) ∧ W.cell? ⟨g, off + 5 + 3, none⟩ = some (.slice (H 1).da (H 1).dn (H 1).dc) ∧ W.cell? ⟨g, off + 5 + 4, none⟩ = some (.slice (H 1).ta (H 1).tn (H 1).tc))) 17 (by kernel_rfl) ⟨HX0.out.drew.box.cells.2.1, HX0.out.drew.box.cells.2.2.1, (HX0.out.drew.box.cells.2.2.2.2).trans (by rw [HTA.out]), (HP.out.below HX0.out.drew.b).kid0 HTA.out (by omega), (HP.out.below HX0.out.drew.b).kid1 HTA.out (by omega)⟩ (fun hHeld => ?_)
      refine take_l (i := 0) (oi := ?oZ13) (v := ?vZ13) ?hiZ13 (by kernel_rfl) (by kernel_rfl) (by kernel_rfl) (by kernel_rfl) ?hQZ13 ?hwZ13 ?hyZ13 (by assumption) ?restZ13
      case hiZ13 => (simp only [List.getElem?_toArray, List.getElem?_cons_zero] <;> rfl)
      case hQZ13 => exact (fun _ _ _ h => h)
      case hwZ13 => rfl
      case hyZ13 => (intro w hSw; (try dsimp only at hSw); go_simp; try with_reducible rfl)
      (try simp only [Act.put, List.setIfInBounds_toArray, List.set_cons_zero, List.set_cons_succ])
      refine take_l (i := 1) (oi := ?oZ14) (v := ?vZ14) ?hiZ14 (by kernel_rfl) (by kernel_rfl) (by kernel_rfl) (by kernel_rfl) ?hQZ14 ?hwZ14 ?hyZ14 (by assumption) ?restZ14
      case hiZ14 => (simp only [List.getElem?_toArray, List.getElem?_cons_succ, List.getElem?_cons_zero] <;> rfl)
      case hQZ14 => exact (fun _ _ _ h => h)
      case hwZ14 => rfl
      case hyZ14 => (intro w hSw; (try dsimp only at hSw); go_simp; try with_reducible rfl)
      (try simp only [Act.put, List.setIfInBounds_toArray, List.set_cons_zero, List.set_cons_succ])
      refine take_l (i := 2) (oi := ?oZ15) (v := ?vZ15) ?hiZ15 (by kernel_rfl) (by kernel_rfl) (by kernel_rfl) (by kernel_rfl) ?hQZ15 ?hwZ15 ?hyZ15 (by assumption) ?restZ15
      case hiZ15 => (simp only [List.getElem?_toArray, List.getElem?_cons_succ, List.getElem?_cons_zero] <;> rfl)
      case hQZ15 => exact (fun _ _ _ h => h)
      case hwZ15 => rfl
      case hyZ15 => (intro w hSw; (try dsimp only at hSw); go_simp; try with_reducible rfl)
      (try simp only [Act.put, List.setIfInBounds_toArray, List.set_cons_zero, List.set_cons_succ])
      refine take_l (i := 3) (oi := ?oZ16) (v := ?vZ16) ?hiZ16 (by kernel_rfl) (by kernel_rfl) (by kernel_rfl) (by kernel_rfl) ?hQZ16 ?hwZ16 ?hyZ16 (by assumption) ?restZ16
      case hiZ16 => (simp only [List.getElem?_toArray, List.getElem?_cons_succ, List.getElem?_cons_zero] <;> rfl)
      case hQZ16 => exact (fun _ _ _ h => h)
      case hwZ16 => rfl
      case hyZ16 => (intro w hSw; (try dsimp only at hSw); go_simp; try with_reducible rfl)
      (try simp only [Act.put, List.setIfInBounds_toArray, List.set_cons_zero, List.set_cons_succ])
      refine take_l (i := 4) (oi := ?oZ17) (v := ?vZ17) ?hiZ17 (by kernel_rfl) (by kernel_rfl) (by kernel_rfl) (by kernel_rfl) ?hQZ17 ?hwZ17 ?hyZ17 (by assumption) ?restZ17
      case hiZ17 => (simp only [List.getElem?_toArray, List.getElem?_cons_succ, List.getElem?_cons_zero] <;> rfl)
      case hQZ17 => exact (fun _ _ _ h => h)
      case hwZ17 => rfl
      case hyZ17 => (intro w hSw; (try dsimp only at hSw); go_simp; try with_reducible rfl)
      (try simp only [Act.put, List.setIfInBounds_toArray, List.set_cons_zero, List.set_cons_succ])
      refine take_l (i := 5) (oi := ?oZ18) (v := ?vZ18) ?hiZ18 (by kernel_rfl) (by kernel_rfl) (by kernel_rfl) (by kernel_rfl) ?hQZ18 ?hwZ18 ?hyZ18 (by assumption) ?restZ18
      case hiZ18 => (simp only [List.getElem?_toArray, List.getElem?_cons_succ, List.getElem?_cons_zero] <;> rfl)
      case hQZ18 => exact (fun _ _ _ h => h)
      case hwZ18 => rfl
      case hyZ18 => (intro w hSw; (try dsimp only at hSw); go_simp; try with_reducible rfl)
      (try simp only [Act.put, List.setIfInBounds_toArray, List.set_cons_zero, List.set_cons_succ])
      refine take_l (i := 7) (oi := ?oZ19) (v := ?vZ19) ?hiZ19 (by kernel_rfl) (by kernel_rfl) (by kernel_rfl) (by kernel_rfl) ?hQZ19 ?hwZ19 ?hyZ19 (by assumption) ?restZ19
      case hiZ19 => (simp only [List.getElem?_toArray, List.getElem?_cons_succ, List.getElem?_cons_zero] <;> rfl)
      case hQZ19 => exact (fun _ _ _ h => h)
      case hwZ19 => rfl
      case hyZ19 => (intro w hSw; (try dsimp only at hSw); go_simp; try with_reducible rfl)
      (try simp only [Act.put, List.setIfInBounds_toArray, List.set_cons_zero, List.set_cons_succ])
      refine take_l (i := 8) (oi := ?oZ20) (v := ?vZ20) ?hiZ20 (by kernel_rfl) (by kernel_rfl) (by kernel_rfl) (by kernel_rfl) ?hQZ20 ?hwZ20 ?hyZ20 (by assumption) ?restZ20
      case hiZ20 => (simp only [List.getElem?_toArray, List.getElem?_cons_succ, List.getElem?_cons_zero] <;> rfl)
      case hQZ20 => exact (fun _ _ _ h => h)
      case hwZ20 => rfl
      case hyZ20 => (intro w hSw; (try dsimp only at hSw); go_simp; try with_reducible rfl)
      (try simp only [Act.put, List.setIfInBounds_toArray, List.set_cons_zero, List.set_cons_succ])
      refine take_l (i := 9) (oi := ?oZ21) (v := ?vZ21) ?hiZ21 (by kernel_rfl) (by kernel_rfl) (by kernel_rfl) (by kernel_rfl) ?hQZ21 ?hwZ21 ?hyZ21 (by assumption) ?restZ21
      case hiZ21 => (simp only [List.getElem?_toArray, List.getElem?_cons_succ, List.getElem?_cons_zero] <;> rfl)
      case hQZ21 => exact (fun _ _ _ h => h)
      case hwZ21 => rfl
      case hyZ21 => (intro w hSw; (try dsimp only at hSw); go_simp; try with_reducible rfl)
      (try simp only [Act.put, List.setIfInBounds_toArray, List.set_cons_zero, List.set_cons_succ])
      refine take_l (i := 10) (oi := ?oZ22) (v := ?vZ22) ?hiZ22 (by kernel_rfl) (by kernel_rfl) (by kernel_rfl) (by kernel_rfl) ?hQZ22 ?hwZ22 ?hyZ22 (by assumption) ?restZ22
      case hiZ22 => (simp only [List.getElem?_toArray, List.getElem?_cons_succ, List.getElem?_cons_zero] <;> rfl)
      case hQZ22 => exact (fun _ _ _ h => h)
      case hwZ22 => rfl
      case hyZ22 => (intro w hSw; (try dsimp only at hSw); go_simp; try with_reducible rfl)
      (try simp only [Act.put, List.setIfInBounds_toArray, List.set_cons_zero, List.set_cons_succ])
      refine take_l (i := 11) (oi := ?oZ23) (v := ?vZ23) ?hiZ23 (by kernel_rfl) (by kernel_rfl) (by kernel_rfl) (by kernel_rfl) ?hQZ23 ?hwZ23 ?hyZ23 (by assumption) ?restZ23
      case hiZ23 => (simp only [List.getElem?_toArray, List.getElem?_cons_succ, List.getElem?_cons_zero] <;> rfl)
      case hQZ23 => exact (fun _ _ _ h => h)
      case hwZ23 => rfl
      case hyZ23 => (intro w hSw; (try dsimp only at hSw); go_simp; try with_reducible rfl)
      (try simp only [Act.put, List.setIfInBounds_toArray, List.set_cons_zero, List.set_cons_succ])
      refine take_l (i := 12) (oi := ?oZ24) (v := ?vZ24) ?hiZ24 (by kernel_rfl) (by kernel_rfl) (by kernel_rfl) (by kernel_rfl) ?hQZ24 ?hwZ24 ?hyZ24 (by assumption) ?restZ24
      case hiZ24 => (simp only [List.getElem?_toArray, List.getElem?_cons_succ, List.getElem?_cons_zero] <;> rfl)
      case hQZ24 => exact (fun _ _ _ h => h)
      case hwZ24 => rfl
      case hyZ24 => (intro w hSw; (try dsimp only at hSw); go_simp; try with_reducible rfl)
      (try simp only [Act.put, List.setIfInBounds_toArray, List.set_cons_zero, List.set_cons_succ])
      refine take_l (i := 13) (oi := ?oZ25) (v := ?vZ25) ?hiZ25 (by kernel_rfl) (by kernel_rfl) (by kernel_rfl) (by kernel_rfl) ?hQZ25 ?hwZ25 ?hyZ25 (by assumption) ?restZ25
      case hiZ25 => (simp only [List.getElem?_toArray, List.getElem?_cons_succ, List.getElem?_cons_zero] <;> rfl)
      case hQZ25 => exact (fun _ _ _ h => h)
      case hwZ25 => rfl
      case hyZ25 => (intro w hSw; (try dsimp only at hSw); go_simp; try with_reducible rfl)
      (try simp only [Act.put, List.setIfInBounds_toArray, List.set_cons_zero, List.set_cons_succ])
      refine take_l (i := 14) (oi := ?oZ26) (v := ?vZ26) ?hiZ26 (by kernel_rfl) (by kernel_rfl) (by kernel_rfl) (by kernel_rfl) ?hQZ26 ?hwZ26 ?hyZ26 (by assumption) ?restZ26
      case hiZ26 => (simp only [List.getElem?_toArray, List.getElem?_cons_succ, List.getElem?_cons_zero] <;> rfl)
      case hQZ26 => exact (fun _ _ _ h => h)
      case hwZ26 => rfl
      case hyZ26 => (intro w hSw; (try dsimp only at hSw); go_simp; try with_reducible rfl)
      (try simp only [Act.put, List.setIfInBounds_toArray, List.set_cons_zero, List.set_cons_succ])
      refine one_l (i := 6) (o := ?oZ27) (by kernel_rfl) ?hiZ27 (fun K hK => ?stZ27)
      case hiZ27 => (simp only [List.getElem?_toArray, List.getElem?_cons_succ, List.getElem?_cons_zero] <;> rfl)
      go_simp
      go_at_call 30
      refine (IHL.out (H 0) _ ((HP.out.below HX0.out.drew.b).kids 0 l0) HL.out.1 HBL.out.1 (by simp only [AT.depth] at hd; omega) (HK.out.1.below HX0.out.drew.b) (HK.out.2.below HX0.out.drew.b)).mono ?_
      rintro _ w2 ⟨h2, rfl, hi2, hb2⟩
      unfold TH.v
      have HX2 := Lib.hid (HX0.out.drew.below hb2)
      have HI2 := Lib.hid hi2
      clear hi2 hb2
      go_simp
      refine hK.out _ _ ?_ (fun hHeld => ?_)
      · (first | exact ⟨HX4.out.box.cells.2.1, HX4.out.box.cells.2.2.1, (HX4.out.box.cells.2.2.2.2).trans (by rw [HTA.out]), (HP.out.below HX4.out.b).kid0 HTA.out (by omega), (HP.out.below HX4.out.b).kid1 HTA.out (by omega)⟩ | exact ⟨HX3.out.box.cells.2.1, HX3.out.box.cells.2.2.1, (HX3.out.box.cells.2.2.2.2).trans (by rw [HTA.out]), (HP.out.below HX3.out.b).kid0 HTA.out (by omega), (HP.out.below HX3.out.b).kid1 HTA.out (by omega)⟩ | exact ⟨HX2.out.box.cells.2.1, HX2.out.box.cells.2.2.1, (HX2.out.box.cells.2.2.2.2).trans (by rw [HTA.out]), (HP.out.below HX2.out.b).kid0 HTA.out (by omega), (HP.out.below HX2.out.b).kid1 HTA.out (by omega)⟩ | exact ⟨HX0.out.drew.box.cells.2.1, HX0.out.drew.box.cells.2.2.1, (HX0.out.drew.box.cells.2.2.2.2).trans (by rw [HTA.out]), (HP.out.below HX0.out.drew.b).kid0 HTA.out (by omega), (HP.out.below HX0.out.drew.b).kid1 HTA.out (by omega)⟩)
      clear hK K
      (try simp only [Act.put, List.setIfInBounds_toArray, List.set_cons_zero, List.set_cons_succ])
      refine one_l (i := 15) (o := ?oZ28) (by kernel_rfl) ?hiZ28 (fun K hK => ?stZ28)
      case hiZ28 => (simp only [List.getElem?_toArray, List.getElem?_cons_succ, List.getElem?_cons_zero] <;> rfl)
      go_simp
      go_at_call 57
      refine (refNode_any (l.put key val) r h2 (H 1) h.ka h.va h.kn h.kc h.vn h.vc k v _ HI2.out ((HP.out.below HX2.out.b).kids 1 l1) (HP.out.below HX2.out.b).key (HP.out.below HX2.out.b).val).mono ?_
      rintro _ w3 ⟨h3, rfl, hi3, hb3⟩
      unfold TH.v
      have HX3 := Lib.hid (HX2.out.below hb3)
      have HI3 := Lib.hid hi3
      clear hi3 hb3
      go_simp
      refine hK.out _ _ ?_ (fun hHeld => ?_)
      · (first | exact ⟨HX4.out.box.cells.2.1, HX4.out.box.cells.2.2.1, (HX4.out.box.cells.2.2.2.2).trans (by rw [HTA.out]), (HP.out.below HX4.out.b).kid0 HTA.out (by omega), (HP.out.below HX4.out.b).kid1 HTA.out (by omega)⟩ | exact ⟨HX3.out.box.cells.2.1, HX3.out.box.cells.2.2.1, (HX3.out.box.cells.2.2.2.2).trans (by rw [HTA.out]), (HP.out.below HX3.out.b).kid0 HTA.out (by omega), (HP.out.below HX3.out.b).kid1 HTA.out (by omega)⟩ | exact ⟨HX2.out.box.cells.2.1, HX2.out.box.cells.2.2.1, (HX2.out.box.cells.2.2.2.2).trans (by rw [HTA.out]), (HP.out.below HX2.out.b).kid0 HTA.out (by omega), (HP.out.below HX2.out.b).kid1 HTA.out (by omega)⟩ | exact ⟨HX0.out.drew.box.cells.2.1, HX0.out.drew.box.cells.2.2.1, (HX0.out.drew.box.cells.2.2.2.2).trans (by rw [HTA.out]), (HP.out.below HX0.out.drew.b).kid0 HTA.out (by omega), (HP.out.below HX0.out.drew.b).kid1 HTA.out (by omega)⟩)
      clear hK K
      (try simp only [Act.put, List.setIfInBounds_toArray, List.set_cons_zero, List.set_cons_succ])
      refine one_l (i := 16) (o := ?oZ29) (by kernel_rfl) ?hiZ29 (fun K hK => ?stZ29)
      case hiZ29 => (simp only [List.getElem?_toArray, List.getElem?_cons_succ, List.getElem?_cons_zero] <;> rfl)
      go_simp
      go_at_call 58
      refine (refLevel_any (l.put key val) k v r h3 _ HI3.out (Lim.mk (AT.put_lim hkl hvl HL.out.1) HL.out.2.1 HL.out.2.2.1 HL.out.2.2.2) (by have := (AT.put_bal key val l HBL.out.1).2.2; simp only [AT.depth] at hd; omega) (by simp only [AT.depth] at hd; omega)).mono ?_
      rintro _ w4 ⟨h4, rfl, hi4, hb4⟩
      unfold TH.v
      have HX4 := Lib.hid (HX3.out.below hb4)
      have HI4 := Lib.hid hi4
      clear hi4 hb4
      go_simp
      refine hK.out _ _ ?_ (fun hHeld => ?_)
      · (first | exact ⟨HX4.out.box.cells.2.1, HX4.out.box.cells.2.2.1, (HX4.out.box.cells.2.2.2.2).trans (by rw [HTA.out]), (HP.out.below HX4.out.b).kid0 HTA.out (by omega), (HP.out.below HX4.out.b).kid1 HTA.out (by omega)⟩ | exact ⟨HX3.out.box.cells.2.1, HX3.out.box.cells.2.2.1, (HX3.out.box.cells.2.2.2.2).trans (by rw [HTA.out]), (HP.out.below HX3.out.b).kid0 HTA.out (by omega), (HP.out.below HX3.out.b).kid1 HTA.out (by omega)⟩ | exact ⟨HX2.out.box.cells.2.1, HX2.out.box.cells.2.2.1, (HX2.out.box.cells.2.2.2.2).trans (by rw [HTA.out]), (HP.out.below HX2.out.b).kid0 HTA.out (by omega), (HP.out.below HX2.out.b).kid1 HTA.out (by omega)⟩ | exact ⟨HX0.out.drew.box.cells.2.1, HX0.out.drew.box.cells.2.2.1, (HX0.out.drew.box.cells.2.2.2.2).trans (by rw [HTA.out]), (HP.out.below HX0.out.drew.b).kid0 HTA.out (by omega), (HP.out.below HX0.out.drew.b).kid1 HTA.out (by omega)⟩)
      clear hK K
      (try simp only [Act.put, List.setIfInBounds_toArray, List.set_cons_zero, List.set_cons_succ])
      refine last_l (o := ?oZ30) (by kernel_rfl) ?hiZ30 (by kernel_rfl) (fun K hK => ?stZ30)
      case hiZ30 => (simp only [List.getElem?_toArray, List.getElem?_cons_succ, List.getElem?_cons_zero] <;> rfl)
      refine step_store_box rfl 25 (.tmp 6) (.tmp 55) rfl (w.heap.size + 1) hZ h4 rfl rfl 25 HX4.out.res infoTree5 ?_
      intro w9 hbx9 hg9
      have HX9 := Lib.hid hbx9
      have HI9 := Lib.hid (AT.outBox HX4.out.res hg9 _ _ HI4.out)
      have HB9 : Hid (Below w.heap.size w w9) := Lib.hid (HX4.out.b.grown hg9 HX4.out.b.size (fun j hj => by injection hj; omega))
      clear hbx9 hg9
      refine hK.out _ _ ?_
      clear hK K
      (try simp only [Act.put])
      
      clear hHeld
      go_wp2_with fail
      refine bodyPost_ret (v := h4.v) (result_tree Tryd.results30 _ HX9.out rfl Tryd.underlying25 infoTree5) rfl ⟨_, rfl, ?_, HB9.out⟩
      rw [HPN.out]
      exact HI9.out
end Go.Proofs.YtkfjhegehhahcaaDoor

/- Trees that are balanced, whose keys rise, within their bounds: they stay so. No program is named here. -/
namespace Go.Proofs.YtkfjhegehhahcaaDoor
set_option linter.unusedVariables false

structure Good (a : AT) : Prop where
  bal : a.bal
  rise : Rise a.pairs
  lim : Lim a.pairs
theorem Good.nil : Good .nil := ⟨trivial, List.Pairwise.nil, fun p hp => by cases hp⟩
theorem AT.depth_le : ∀ a : AT, a.depth ≤ a.pairs.length := by
  intro a
  induction a with
  | nil => exact Nat.le_refl _
  | node l k v r ihl ihr =>
    simp only [AT.depth, AT.pairs, List.length_append, List.length_cons]
    omega
theorem Good.put {a : AT} (h : Good a) {key val : List Int} (hk : key.length ≤ 80) (hv : val.length ≤ 1024) : Good (a.put key val) := by
  refine ⟨(AT.put_bal key val a h.bal).1, ?_, ?_⟩
  · rw [AT.put_pairs key val a h.rise]
    have hr := h.rise
    unfold Rise at hr ⊢
    rw [List.pairwise_append, List.pairwise_cons]
    refine ⟨hr.filter _, ⟨fun q hq => (List.mem_filter.1 hq).2, hr.filter _⟩, fun p hp q hq => ?_⟩
    have h1 : ltL p.1 key = true := (List.mem_filter.1 hp).2
    rcases List.mem_cons.1 hq with rfl | hq
    · exact h1
    · exact ltL_trans h1 (List.mem_filter.1 hq).2
  · rw [AT.put_pairs key val a h.rise]
    intro p hp
    rcases List.mem_append.1 hp with hp | hp
    · exact h.lim p (List.mem_filter.1 hp).1
    · rcases List.mem_cons.1 hp with rfl | hp
      · exact ⟨hk, hv⟩
      · exact h.lim p (List.mem_filter.1 hp).1
theorem Good.del {a : AT} (h : Good a) (key : List Int) : Good (a.del key) := by
  refine ⟨(AT.del_bal key a h.bal).1, ?_, ?_⟩
  · rw [AT.del_pairs key a h.rise]
    exact List.Pairwise.filter _ h.rise
  · rw [AT.del_pairs key a h.rise]
    intro p hp
    exact h.lim p (List.mem_filter.1 hp).1
theorem Good.is {a : AT} (h : Good a) (hd : a.pairs.length ≤ 64) : isT a.tr = true := (isT_iff a.tr).2 ⟨a, rfl, h.bal, h.rise, h.lim, Nat.le_trans (AT.depth_le a) hd⟩
theorem AT.put_len (key val : List Int) {a : AT} (h : Rise a.pairs) : (a.put key val).pairs.length ≤ a.pairs.length + 1 := by
  rw [AT.put_pairs key val a h, List.length_append, List.length_cons]
  have h1 : (a.pairs.filter fun p => ltL p.1 key).length + (a.pairs.filter fun p => ltL key p.1).length ≤ a.pairs.length := by
    generalize a.pairs = l
    induction l with
    | nil => exact Nat.le_refl _
    | cons p l ih =>
      rw [List.filter_cons, List.filter_cons, List.length_cons]
      cases c1 : ltL p.1 key
      · cases c2 : ltL key p.1 <;> simp <;> omega
      · rw [ltL_asymm c1]
        simp
        omega
  omega
theorem AT.del_len (key : List Int) {a : AT} (h : Rise a.pairs) : (a.del key).pairs.length ≤ a.pairs.length := by
  rw [AT.del_pairs key a h]
  exact List.length_filter_le _ _
/-- How deep a balanced tree is at most. -/
theorem AT.deep_nodes : ∀ a : AT, a.bal → 2 ^ (a.depth / 2) ≤ a.pairs.length + 1 := by
  intro a
  induction a with
  | nil => intro _; exact Nat.le_refl _
  | node l k v r ihl ihr =>
    intro hb
    simp only [AT.bal] at hb
    have h1 := ihl hb.1
    have h2 := ihr hb.2.1
    simp only [AT.depth, AT.pairs, List.length_append, List.length_cons]
    have key : ∀ m x y : Nat, m ≤ x + 1 → m ≤ y + 1 → (m + 1) / 2 = (m - 1) / 2 + 1 ∨ m = 0 := fun m x y _ _ => by omega
    have mono : ∀ {p q : Nat}, p ≤ q → 2 ^ p ≤ 2 ^ q := fun h => Nat.pow_le_pow_right (by omega) h
    have a1 : 2 ^ ((max l.depth r.depth - 1) / 2) ≤ 2 ^ (l.depth / 2) := mono (by omega)
    have a2 : 2 ^ ((max l.depth r.depth - 1) / 2) ≤ 2 ^ (r.depth / 2) := mono (by omega)
    rcases Nat.eq_zero_or_pos (max l.depth r.depth) with h0 | h0
    · rw [h0]
      simp
    · have e : (max l.depth r.depth + 1) / 2 = (max l.depth r.depth - 1) / 2 + 1 := by omega
      rw [e, Nat.pow_succ]
      omega
theorem AT.shallow {a : AT} (hb : a.bal) (hn : a.pairs.length ≤ 500) : a.depth ≤ 60 := by
  have h := AT.deep_nodes a hb
  rcases Nat.lt_or_ge 60 a.depth with q | q
  · have h2 : 2 ^ 30 ≤ 2 ^ (a.depth / 2) := Nat.pow_le_pow_right (by omega) (by omega)
    omega
  · exact q
end Go.Proofs.YtkfjhegehhahcaaDoor

/- The contract of the document's Same of lists of pairs. -/
namespace Go.Proofs.YtkfjhegehhahcaaDoor
open Go.RowKit
set_option linter.unusedVariables false

/-- Heads, by number, and pairs. -/
def PairsD (w : World) (D : Nat → PH) (kvs : List KV) : Prop := ∀ i (h : i < kvs.length), InBytes w (D i).ka (D i).kn (D i).kc (kvs[i]).1 ∧ InBytes w (D i).va (D i).vn (D i).vc (kvs[i]).2
theorem PairsD.below {w w' : World} {D : Nat → PH} {kvs : List KV} (h : PairsD w D kvs) (hb : Below w.heap.size w w') : PairsD w' D kvs := fun i hi => ⟨(h i hi).1.below hb, (h i hi).2.below hb⟩
def pZ : PH := ⟨none, 0, 0, none, 0, 0⟩
theorem PairsIn.byD {w : World} {ps : List PH} {kvs : List KV} (h : PairsIn w ps kvs) : PairsD w (fun i => ps.getD i pZ) kvs := fun i hi => by
  have h1 : i < ps.length := by rw [h.1]; exact hi
  have e : ps.getD i pZ = ps[i] := by simp [List.getD, h1]
  dsimp only
  rw [e]
  exact h.2 i h1 hi
/-- The two cells of the i-th pair that came in. -/
theorem InRec.pair {w : World} {a : Option Addr} {n cap : Nat} {D : Nat → PH} (h : InRec recP w a n cap D) {g off : Nat} (e : a = some ⟨g, off, none⟩) (i : Nat) (hi : i < n) : w.cell? ⟨g, off + i * 2, none⟩ = some (.slice (D i).ka (D i).kn (D i).kc) ∧ w.cell? ⟨g, off + i * 2 + 1, none⟩ = some (.slice (D i).va (D i).vn (D i).vc) := by
  obtain ⟨g', off', e', _, hc⟩ := h.at (by omega)
  rw [e] at e'
  injection e' with e'
  injection e' with e1 e2
  subst e1 e2
  exact ⟨hc i hi 0 _ rfl, hc i hi 1 _ rfl⟩

set_option maxRecDepth 100000 in
set_option maxHeartbeats 4000000 in
theorem refSameP_any (kvs : List KV) (D D' : Nat → PH) (a a' : Option Addr) (n c c' : Nat) (w : World) (hn : n = kvs.length) (h1 : InRec recP w a n c D) (h2 : InRec recP w a' n c' D') (p1 : PairsD w D kvs) (p2 : PairsD w D' kvs) :
    Calls Tryd.prog 16 #[.slice a n c, .slice a' n c'] w (Says w (.bool true)) := by
  have HA := Lib.hid (And.intro h1 (And.intro h2 (And.intro p1 p2)))
  have hn63 : n ≤ 9223372036854775807 := by have q1 := h1.le; have q2 := h1.max; simp only [maxLen] at q2; omega
  clear h1 h2 p1 p2
  have hnn : ((n : Int) != (n : Int)) = false := by simp
  go_enter Tryd.func16, Tryd.ntmps16
  go_wp2_with fail
  go_loopw [5] (fun s5 wx => ∃ i : Nat, i ≤ n ∧ s5 = .int .i64 i ∧ Below w.heap.size w wx) (fun s5 _ => n - (intOf s5).toNat)
  case atStart => exact ⟨0, by omega, rfl, Below.refl _ _⟩
  case round =>
    obtain ⟨i, hi, rfl, hb⟩ := hrel
    by_cases hlt : i < n
    · have q1 : (i : Int) < (n : Int) := by omega
      have hik : i < kvs.length := by omega
      obtain ⟨g, off, ea, -, -⟩ := HA.out.1.at (by omega)
      obtain ⟨g', off', ea', -, -⟩ := HA.out.2.1.at (by omega)
      have hbd : Below w.heap.size w wr.drew := hb.drew
      have HS6 : Hid ((fun W => W.cell? ⟨g, off + i * 2, none⟩ = some (.slice (D i).ka (D i).kn (D i).kc) ∧ W.cell? ⟨g, off + i * 2 + 1, none⟩ = some (.slice (D i).va (D i).vn (D i).vc) ∧ W.cell? ⟨g', off' + i * 2, none⟩ = some (.slice (D' i).ka (D' i).kn (D' i).kc) ∧ W.cell? ⟨g', off' + i * 2 + 1, none⟩ = some (.slice (D' i).va (D' i).vn (D' i).vc) ∧ (convert 22 9 (.slice (D i).ka (D i).kn (D i).kc)).run Tryd.prog W = .ok (.string (strOfNums (kvs[i]).1)) W ∧ (convert 22 9 (.slice (D' i).ka (D' i).kn (D' i).kc)).run Tryd.prog W = .ok (.string (strOfNums (kvs[i]).1)) W ∧ (convert 22 9 (.slice (D i).va (D i).vn (D i).vc)).run Tryd.prog W = .ok (.string (strOfNums (kvs[i]).2)) W ∧ (convert 22 9 (.slice (D' i).va (D' i).vn (D' i).vc)).run Tryd.prog W = .ok (.string (strOfNums (kvs[i]).2)) W) wr.drew) := Lib.hid ⟨((HA.out.1.below hbd).pair ea i hlt).1, ((HA.out.1.below hbd).pair ea i hlt).2, ((HA.out.2.1.below hbd).pair ea' i hlt).1, ((HA.out.2.1.below hbd).pair ea' i hlt).2, conv_key ((HA.out.2.2.1.below hbd) i hik).1, conv_key ((HA.out.2.2.2.below hbd) i hik).1, conv_key ((HA.out.2.2.1.below hbd) i hik).2, conv_key ((HA.out.2.2.2.below hbd) i hik).2⟩
      have HBD := Lib.hid hbd
      clear hb hbd
      subst ea ea'
      go_upto_region 6 with fail
      refine wp_region_held_drew (S := (fun W => W.cell? ⟨g, off + i * 2, none⟩ = some (.slice (D i).ka (D i).kn (D i).kc) ∧ W.cell? ⟨g, off + i * 2 + 1, none⟩ = some (.slice (D i).va (D i).vn (D i).vc) ∧ W.cell? ⟨g', off' + i * 2, none⟩ = some (.slice (D' i).ka (D' i).kn (D' i).kc) ∧ W.cell? ⟨g', off' + i * 2 + 1, none⟩ = some (.slice (D' i).va (D' i).vn (D' i).vc) ∧ (convert 22 9 (.slice (D i).ka (D i).kn (D i).kc)).run Tryd.prog W = .ok (.string (strOfNums (kvs[i]).1)) W ∧ (convert 22 9 (.slice (D' i).ka (D' i).kn (D' i).kc)).run Tryd.prog W = .ok (.string (strOfNums (kvs[i]).1)) W ∧ (convert 22 9 (.slice (D i).va (D i).vn (D i).vc)).run Tryd.prog W = .ok (.string (strOfNums (kvs[i]).2)) W ∧ (convert 22 9 (.slice (D' i).va (D' i).vn (D' i).vc)).run Tryd.prog W = .ok (.string (strOfNums (kvs[i]).2)) W)) (by kernel_rfl) HS6.out (fun hHeld => ?_)
      refine take_w (i := 0) (oi := ?oZ1) (v := ?vZ1) ?hiZ1 (by kernel_rfl) (by kernel_rfl) (by kernel_rfl) ?hQZ1 ?hwZ1 ?hyZ1 (by assumption) ?restZ1
      case hiZ1 => (simp only [List.getElem?_toArray, List.getElem?_cons_zero] <;> rfl)
      case hQZ1 => exact (fun _ _ _ h => h)
      case hwZ1 => rfl
      case hyZ1 => (intro w hSw; (try dsimp only at hSw); go_simp; try with_reducible rfl)
      (try simp only [Act.put, List.setIfInBounds_toArray, List.set_cons_zero, List.set_cons_succ])
      refine take_w (i := 1) (oi := ?oZ2) (v := ?vZ2) ?hiZ2 (by kernel_rfl) (by kernel_rfl) (by kernel_rfl) ?hQZ2 ?hwZ2 ?hyZ2 (by assumption) ?restZ2
      case hiZ2 => (simp only [List.getElem?_toArray, List.getElem?_cons_succ, List.getElem?_cons_zero] <;> rfl)
      case hQZ2 => exact (fun _ _ _ h => h)
      case hwZ2 => rfl
      case hyZ2 => (intro w hSw; (try dsimp only at hSw); go_simp; try with_reducible rfl)
      (try simp only [Act.put, List.setIfInBounds_toArray, List.set_cons_zero, List.set_cons_succ])
      refine take_w (i := 2) (oi := ?oZ3) (v := ?vZ3) ?hiZ3 (by kernel_rfl) (by kernel_rfl) (by kernel_rfl) ?hQZ3 ?hwZ3 ?hyZ3 (by assumption) ?restZ3
      case hiZ3 => (simp only [List.getElem?_toArray, List.getElem?_cons_succ, List.getElem?_cons_zero] <;> rfl)
      case hQZ3 => exact (fun _ _ _ h => h)
      case hwZ3 => rfl
      case hyZ3 => (intro w hSw; (try dsimp only at hSw); go_simp; try with_reducible rfl)
      (try simp only [Act.put, List.setIfInBounds_toArray, List.set_cons_zero, List.set_cons_succ])
      refine take_w (i := 3) (oi := ?oZ4) (v := ?vZ4) ?hiZ4 (by kernel_rfl) (by kernel_rfl) (by kernel_rfl) ?hQZ4 ?hwZ4 ?hyZ4 (by assumption) ?restZ4
      case hiZ4 => (simp only [List.getElem?_toArray, List.getElem?_cons_succ, List.getElem?_cons_zero] <;> rfl)
      case hQZ4 => exact (fun _ _ _ h => h)
      case hwZ4 => rfl
      case hyZ4 => (intro w hSw; (try dsimp only at hSw); go_simp; try with_reducible rfl)
      (try simp only [Act.put, List.setIfInBounds_toArray, List.set_cons_zero, List.set_cons_succ])
      refine take_w (i := 4) (oi := ?oZ5) (v := ?vZ5) ?hiZ5 (by kernel_rfl) (by kernel_rfl) (by kernel_rfl) ?hQZ5 ?hwZ5 ?hyZ5 (by assumption) ?restZ5
      case hiZ5 => (simp only [List.getElem?_toArray, List.getElem?_cons_succ, List.getElem?_cons_zero] <;> rfl)
      case hQZ5 => exact (fun _ _ _ h => h)
      case hwZ5 => rfl
      case hyZ5 => (intro w hSw; (try dsimp only at hSw); go_simp; try with_reducible rfl)
      (try simp only [Act.put, List.setIfInBounds_toArray, List.set_cons_zero, List.set_cons_succ])
      refine take_w (i := 5) (oi := ?oZ6) (v := ?vZ6) ?hiZ6 (by kernel_rfl) (by kernel_rfl) (by kernel_rfl) ?hQZ6 ?hwZ6 ?hyZ6 (by assumption) ?restZ6
      case hiZ6 => (simp only [List.getElem?_toArray, List.getElem?_cons_succ, List.getElem?_cons_zero] <;> rfl)
      case hQZ6 => exact (fun _ _ _ h => h)
      case hwZ6 => rfl
      case hyZ6 => (intro w hSw; (try dsimp only at hSw); go_simp; try with_reducible rfl)
      (try simp only [Act.put, List.setIfInBounds_toArray, List.set_cons_zero, List.set_cons_succ])
      refine take_w (i := 6) (oi := ?oZ7) (v := ?vZ7) ?hiZ7 (by kernel_rfl) (by kernel_rfl) (by kernel_rfl) ?hQZ7 ?hwZ7 ?hyZ7 (by assumption) ?restZ7
      case hiZ7 => (simp only [List.getElem?_toArray, List.getElem?_cons_succ, List.getElem?_cons_zero] <;> rfl)
      case hQZ7 => exact (fun _ _ _ h => h)
      case hwZ7 => rfl
      case hyZ7 => (intro w hSw; (try dsimp only at hSw); go_simp; try with_reducible rfl)
      (try simp only [Act.put, List.setIfInBounds_toArray, List.set_cons_zero, List.set_cons_succ])
      refine take_w (i := 7) (oi := ?oZ8) (v := ?vZ8) ?hiZ8 (by kernel_rfl) (by kernel_rfl) (by kernel_rfl) ?hQZ8 ?hwZ8 ?hyZ8 (by assumption) ?restZ8
      case hiZ8 => (simp only [List.getElem?_toArray, List.getElem?_cons_succ, List.getElem?_cons_zero] <;> rfl)
      case hQZ8 => exact (fun _ _ _ h => h)
      case hwZ8 => rfl
      case hyZ8 => (intro w hSw; (try dsimp only at hSw); go_simp; try with_reducible rfl)
      (try simp only [Act.put, List.setIfInBounds_toArray, List.set_cons_zero, List.set_cons_succ])
      refine take_w (i := 8) (oi := ?oZ9) (v := ?vZ9) ?hiZ9 (by kernel_rfl) (by kernel_rfl) (by kernel_rfl) ?hQZ9 ?hwZ9 ?hyZ9 (by assumption) ?restZ9
      case hiZ9 => (simp only [List.getElem?_toArray, List.getElem?_cons_succ, List.getElem?_cons_zero] <;> rfl)
      case hQZ9 => exact (fun _ _ _ h => h)
      case hwZ9 => rfl
      case hyZ9 => (intro w hSw; (try dsimp only at hSw); go_simp; try with_reducible rfl)
      (try simp only [Act.put, List.setIfInBounds_toArray, List.set_cons_zero, List.set_cons_succ])
      refine take_w (i := 9) (oi := ?oZ10) (v := ?vZ10) ?hiZ10 (by kernel_rfl) (by kernel_rfl) (by kernel_rfl) ?hQZ10 ?hwZ10 ?hyZ10 (by assumption) ?restZ10
      case hiZ10 => (simp only [List.getElem?_toArray, List.getElem?_cons_succ, List.getElem?_cons_zero] <;> rfl)
      case hQZ10 => exact (fun _ _ _ h => h)
      case hwZ10 => rfl
      case hyZ10 => (intro w hSw; (try dsimp only at hSw); go_simp; try with_reducible rfl)
      (try simp only [Act.put, List.setIfInBounds_toArray, List.set_cons_zero, List.set_cons_succ])
      refine take_w (i := 10) (oi := ?oZ11) (v := ?vZ11) ?hiZ11 (by kernel_rfl) (by kernel_rfl) (by kernel_rfl) ?hQZ11 ?hwZ11 ?hyZ11 (by assumption) ?restZ11
      case hiZ11 => (simp only [List.getElem?_toArray, List.getElem?_cons_succ, List.getElem?_cons_zero] <;> rfl)
      case hQZ11 => exact (fun _ _ _ h => h)
      case hwZ11 => rfl
      case hyZ11 => (intro w hSw; (try dsimp only at hSw); go_simp; try with_reducible rfl)
      (try simp only [Act.put, List.setIfInBounds_toArray, List.set_cons_zero, List.set_cons_succ])
      refine take_w (i := 11) (oi := ?oZ12) (v := ?vZ12) ?hiZ12 (by kernel_rfl) (by kernel_rfl) (by kernel_rfl) ?hQZ12 ?hwZ12 ?hyZ12 (by assumption) ?restZ12
      case hiZ12 => (simp only [List.getElem?_toArray, List.getElem?_cons_succ, List.getElem?_cons_zero] <;> rfl)
      case hQZ12 => exact (fun _ _ _ h => h)
      case hwZ12 => rfl
      case hyZ12 => (intro w hSw; (try dsimp only at hSw); go_simp; try with_reducible rfl)
      (try simp only [Act.put, List.setIfInBounds_toArray, List.set_cons_zero, List.set_cons_succ])
      refine take_w (i := 12) (oi := ?oZ13) (v := ?vZ13) ?hiZ13 (by kernel_rfl) (by kernel_rfl) (by kernel_rfl) ?hQZ13 ?hwZ13 ?hyZ13 (by assumption) ?restZ13
      case hiZ13 => (simp only [List.getElem?_toArray, List.getElem?_cons_succ, List.getElem?_cons_zero] <;> rfl)
      case hQZ13 => exact (fun _ _ _ h => h)
      case hwZ13 => rfl
      case hyZ13 => (intro w hSw; (try dsimp only at hSw); go_simp; try with_reducible rfl)
      (try simp only [Act.put, List.setIfInBounds_toArray, List.set_cons_zero, List.set_cons_succ])
      refine take_w (i := 13) (oi := ?oZ14) (v := ?vZ14) ?hiZ14 (by kernel_rfl) (by kernel_rfl) (by kernel_rfl) ?hQZ14 ?hwZ14 ?hyZ14 (by assumption) ?restZ14
      case hiZ14 => (simp only [List.getElem?_toArray, List.getElem?_cons_succ, List.getElem?_cons_zero] <;> rfl)
      case hQZ14 => exact (fun _ _ _ h => h)
      case hwZ14 => rfl
      case hyZ14 => (intro w hSw; (try dsimp only at hSw); go_simp; try with_reducible rfl)
      (try simp only [Act.put, List.setIfInBounds_toArray, List.set_cons_zero, List.set_cons_succ])
      refine take_w (i := 14) (oi := ?oZ15) (v := ?vZ15) ?hiZ15 (by kernel_rfl) (by kernel_rfl) (by kernel_rfl) ?hQZ15 ?hwZ15 ?hyZ15 (by assumption) ?restZ15
      case hiZ15 => (simp only [List.getElem?_toArray, List.getElem?_cons_succ, List.getElem?_cons_zero] <;> rfl)
      case hQZ15 => exact (fun _ _ _ h => h)
      case hwZ15 => rfl
      case hyZ15 => (intro w hSw; (try dsimp only at hSw); go_simp; try with_reducible rfl)
      (try simp only [Act.put, List.setIfInBounds_toArray, List.set_cons_zero, List.set_cons_succ])
      refine take_w (i := 15) (oi := ?oZ16) (v := ?vZ16) ?hiZ16 (by kernel_rfl) (by kernel_rfl) (by kernel_rfl) ?hQZ16 ?hwZ16 ?hyZ16 (by assumption) ?restZ16
      case hiZ16 => (simp only [List.getElem?_toArray, List.getElem?_cons_succ, List.getElem?_cons_zero] <;> rfl)
      case hQZ16 => exact (fun _ _ _ h => h)
      case hwZ16 => rfl
      case hyZ16 => (intro w hSw; (try dsimp only at hSw); go_simp; try with_reducible rfl)
      (try simp only [Act.put, List.setIfInBounds_toArray, List.set_cons_zero, List.set_cons_succ])
      refine take_w (i := 16) (oi := ?oZ17) (v := ?vZ17) ?hiZ17 (by kernel_rfl) (by kernel_rfl) (by kernel_rfl) ?hQZ17 ?hwZ17 ?hyZ17 (by assumption) ?restZ17
      case hiZ17 => (simp only [List.getElem?_toArray, List.getElem?_cons_succ, List.getElem?_cons_zero] <;> rfl)
      case hQZ17 => exact (fun _ _ _ h => h)
      case hwZ17 => rfl
      case hyZ17 => (intro w hSw; (try dsimp only at hSw); go_simp; try with_reducible rfl)
      (try simp only [Act.put, List.setIfInBounds_toArray, List.set_cons_zero, List.set_cons_succ])
      refine take_w (i := 17) (oi := ?oZ18) (v := ?vZ18) ?hiZ18 (by kernel_rfl) (by kernel_rfl) (by kernel_rfl) ?hQZ18 ?hwZ18 ?hyZ18 (by assumption) ?restZ18
      case hiZ18 => (simp only [List.getElem?_toArray, List.getElem?_cons_succ, List.getElem?_cons_zero] <;> rfl)
      case hQZ18 => exact (fun _ _ _ h => h)
      case hwZ18 => rfl
      case hyZ18 => (intro w hSw; (try dsimp only at hSw); go_simp; try with_reducible rfl)
      (try simp only [Act.put, List.setIfInBounds_toArray, List.set_cons_zero, List.set_cons_succ])
      refine take_w (i := 18) (oi := ?oZ19) (v := ?vZ19) ?hiZ19 (by kernel_rfl) (by kernel_rfl) (by kernel_rfl) ?hQZ19 ?hwZ19 ?hyZ19 (by assumption) ?restZ19
      case hiZ19 => (simp only [List.getElem?_toArray, List.getElem?_cons_succ, List.getElem?_cons_zero] <;> rfl)
      case hQZ19 => exact (fun _ _ _ h => h)
      case hwZ19 => rfl
      case hyZ19 => (intro w hSw; (try dsimp only at hSw); go_simp; try with_reducible rfl)
      (try simp only [Act.put, List.setIfInBounds_toArray, List.set_cons_zero, List.set_cons_succ])
      refine take_w (i := 19) (oi := ?oZ20) (v := ?vZ20) ?hiZ20 (by kernel_rfl) (by kernel_rfl) (by kernel_rfl) ?hQZ20 ?hwZ20 ?hyZ20 (by assumption) ?restZ20
      case hiZ20 => (simp only [List.getElem?_toArray, List.getElem?_cons_succ, List.getElem?_cons_zero] <;> rfl)
      case hQZ20 => exact (fun _ _ _ h => h)
      case hwZ20 => rfl
      case hyZ20 => (intro w hSw; (try dsimp only at hSw); go_simp; try with_reducible rfl)
      (try simp only [Act.put, List.setIfInBounds_toArray, List.set_cons_zero, List.set_cons_succ])
      refine take_w (i := 20) (oi := ?oZ21) (v := ?vZ21) ?hiZ21 (by kernel_rfl) (by kernel_rfl) (by kernel_rfl) ?hQZ21 ?hwZ21 ?hyZ21 (by assumption) ?restZ21
      case hiZ21 => (simp only [List.getElem?_toArray, List.getElem?_cons_succ, List.getElem?_cons_zero] <;> rfl)
      case hQZ21 => exact (fun _ _ _ h => h)
      case hwZ21 => rfl
      case hyZ21 => (intro w hSw; (try dsimp only at hSw); go_simp; try with_reducible rfl)
      (try simp only [Act.put, List.setIfInBounds_toArray, List.set_cons_zero, List.set_cons_succ])
      refine take_w (i := 21) (oi := ?oZ22) (v := ?vZ22) ?hiZ22 (by kernel_rfl) (by kernel_rfl) (by kernel_rfl) ?hQZ22 ?hwZ22 ?hyZ22 (by assumption) ?restZ22
      case hiZ22 => (simp only [List.getElem?_toArray, List.getElem?_cons_succ, List.getElem?_cons_zero] <;> rfl)
      case hQZ22 => exact (fun _ _ _ h => h)
      case hwZ22 => rfl
      case hyZ22 => (intro w hSw; (try dsimp only at hSw); go_simp; try with_reducible rfl)
      (try simp only [Act.put, List.setIfInBounds_toArray, List.set_cons_zero, List.set_cons_succ])
      refine take_w (i := 22) (oi := ?oZ23) (v := ?vZ23) ?hiZ23 (by kernel_rfl) (by kernel_rfl) (by kernel_rfl) ?hQZ23 ?hwZ23 ?hyZ23 (by assumption) ?restZ23
      case hiZ23 => (simp only [List.getElem?_toArray, List.getElem?_cons_succ, List.getElem?_cons_zero] <;> rfl)
      case hQZ23 => exact (fun _ _ _ h => h)
      case hwZ23 => rfl
      case hyZ23 => (intro w hSw; (try dsimp only at hSw); go_simp; try with_reducible rfl)
      (try simp only [Act.put, List.setIfInBounds_toArray, List.set_cons_zero, List.set_cons_succ])
      refine take_w (i := 23) (oi := ?oZ24) (v := ?vZ24) ?hiZ24 (by kernel_rfl) (by kernel_rfl) (by kernel_rfl) ?hQZ24 ?hwZ24 ?hyZ24 (by assumption) ?restZ24
      case hiZ24 => (simp only [List.getElem?_toArray, List.getElem?_cons_succ, List.getElem?_cons_zero] <;> rfl)
      case hQZ24 => exact (fun _ _ _ h => h)
      case hwZ24 => rfl
      case hyZ24 => (intro w hSw; (try dsimp only at hSw); go_simp; try with_reducible rfl)
      (try simp only [Act.put, List.setIfInBounds_toArray, List.set_cons_zero, List.set_cons_succ])
      refine take_w (i := 24) (oi := ?oZ25) (v := ?vZ25) ?hiZ25 (by kernel_rfl) (by kernel_rfl) (by kernel_rfl) ?hQZ25 ?hwZ25 ?hyZ25 (by assumption) ?restZ25
      case hiZ25 => (simp only [List.getElem?_toArray, List.getElem?_cons_succ, List.getElem?_cons_zero] <;> rfl)
      case hQZ25 => exact (fun _ _ _ h => h)
      case hwZ25 => rfl
      case hyZ25 => (intro w hSw; (try dsimp only at hSw); go_simp; try with_reducible rfl)
      (try simp only [Act.put, List.setIfInBounds_toArray, List.set_cons_zero, List.set_cons_succ])
      refine take_w (i := 25) (oi := ?oZ26) (v := ?vZ26) ?hiZ26 (by kernel_rfl) (by kernel_rfl) (by kernel_rfl) ?hQZ26 ?hwZ26 ?hyZ26 (by assumption) ?restZ26
      case hiZ26 => (simp only [List.getElem?_toArray, List.getElem?_cons_succ, List.getElem?_cons_zero] <;> rfl)
      case hQZ26 => exact (fun _ _ _ h => h)
      case hwZ26 => rfl
      case hyZ26 => (intro w hSw; (try dsimp only at hSw); go_simp; try with_reducible rfl)
      (try simp only [Act.put, List.setIfInBounds_toArray, List.set_cons_zero, List.set_cons_succ])
      refine take_w (i := 26) (oi := ?oZ27) (v := ?vZ27) ?hiZ27 (by kernel_rfl) (by kernel_rfl) (by kernel_rfl) ?hQZ27 ?hwZ27 ?hyZ27 (by assumption) ?restZ27
      case hiZ27 => (simp only [List.getElem?_toArray, List.getElem?_cons_succ, List.getElem?_cons_zero] <;> rfl)
      case hQZ27 => exact (fun _ _ _ h => h)
      case hwZ27 => rfl
      case hyZ27 => (intro w hSw; (try dsimp only at hSw); go_simp; try with_reducible rfl)
      (try simp only [Act.put, List.setIfInBounds_toArray, List.set_cons_zero, List.set_cons_succ])
      refine take_w (i := 27) (oi := ?oZ28) (v := ?vZ28) ?hiZ28 (by kernel_rfl) (by kernel_rfl) (by kernel_rfl) ?hQZ28 ?hwZ28 ?hyZ28 (by assumption) ?restZ28
      case hiZ28 => (simp only [List.getElem?_toArray, List.getElem?_cons_succ, List.getElem?_cons_zero] <;> rfl)
      case hQZ28 => exact (fun _ _ _ h => h)
      case hwZ28 => rfl
      case hyZ28 => (intro w hSw; (try dsimp only at hSw); go_simp; try with_reducible rfl)
      (try simp only [Act.put, List.setIfInBounds_toArray, List.set_cons_zero, List.set_cons_succ])
      refine wpAnyH_done (by kernel_rfl) ?_ _
      clear hHeld
      clear HS6
      go_wp2_with fail
      exact ⟨⟨i + 1, by omega, by go_num, HBD.out⟩, by simp [intOf]; omega⟩
    · obtain rfl : i = n := by omega
      have q1 : ¬ (i : Int) < (i : Int) := by omega
      go_wp2_with fail
      go_ret
      exact ⟨rfl, hb⟩
end Go.Proofs.YtkfjhegehhahcaaDoor

/- The contract of the document's tree into which pairs were put. -/
namespace Go.Proofs.YtkfjhegehhahcaaDoor
open Go.RowKit
set_option linter.unusedVariables false

/-- The tree that grows, in its box. -/
structure GW (w W : World) (ht : TH) (a : AT) (i : Nat) : Prop where
  b : Below w.heap.size w W
  res : Box W 25 w.heap.size hZ
  box : Box W 25 (w.heap.size + 1) ht
  ti : InTree W ht a.tr
  good : Good a
  cnt : a.pairs.length ≤ i
section
variable {w W W' : World} {ht hn : TH} {a : AT} {i j : Nat}
theorem GW.below (x : GW w W ht a i) (hb : Below W.heap.size W W') : GW w W' ht a i := ⟨x.b.trans (hb.mono x.b.size), x.res.below hb x.res.lt, x.box.below hb x.box.lt, x.ti.lower hb, x.good, x.cnt⟩
theorem GW.drew (x : GW w W ht a i) : GW w W.drew ht a i := x.below (Below.refl _ _).drew
theorem GW.more (x : GW w W ht a i) (h : i ≤ j) : GW w W ht a j := ⟨x.b, x.res, x.box, x.ti, x.good, Nat.le_trans x.cnt h⟩
theorem GW.put (x : GW w W ht a i) (hx : Box W' 25 (w.heap.size + 1) hn) (hg : W.grownBy W' (some (w.heap.size + 1))) {key val : List Int} (hi : InTree W hn (a.put key val).tr) (hk : key.length ≤ 80) (hv : val.length ≤ 1024) : GW w W' hn (a.put key val) (i + 1) :=
  ⟨x.b.grown hg x.b.size (fun j hj => by injection hj; omega), x.res.grown hg (fun q => by injection q; omega), hx, AT.outBox x.box hg _ _ hi, x.good.put hk hv, Nat.le_trans (AT.put_len key val x.good.rise) (by have := x.cnt; omega)⟩
end
/-- The tree into which pairs were put, those that may be. -/
def growS (a : AT) (p : KV) : AT := if p.1.length ≤ 80 ∧ p.2.length ≤ 1024 then a.put p.1 p.2 else a
def grownL (l : List KV) : AT := l.foldl growS .nil
theorem grown_step {kvs : List KV} {i : Nat} {p : KV} (e : kvs[i]? = some p) : grownL (kvs.take (i + 1)) = growS (grownL (kvs.take i)) p := by
  unfold grownL
  rw [List.take_add_one, e, List.foldl_append]
  rfl
theorem grown_yes {kvs : List KV} {i : Nat} {key val : List Int} {a : AT} (e : kvs[i]? = some (key, val)) (ha : a = grownL (kvs.take i)) (h1 : key.length ≤ 80) (h2 : val.length ≤ 1024) : a.put key val = grownL (kvs.take (i + 1)) := by
  rw [grown_step e, growS, if_pos ⟨h1, h2⟩, ha]
theorem grown_no {kvs : List KV} {i : Nat} {key val : List Int} {a : AT} (e : kvs[i]? = some (key, val)) (ha : a = grownL (kvs.take i)) (h : ¬ (key.length ≤ 80 ∧ val.length ≤ 1024)) : a = grownL (kvs.take (i + 1)) := by
  rw [grown_step e, growS, if_neg h, ha]
/-- It answers the tree of the first sixty pairs, balanced. -/
def GrowsTo (w : World) (kvs : List KV) (e : Ending) (w' : World) : Prop := Good (grownL (kvs.take 60)) ∧ (grownL (kvs.take 60)).pairs.length ≤ 60 ∧ Tells w (grownL (kvs.take 60)) e w'
/-- It answers a tree of at most sixty pairs, balanced. -/
def Grows (w : World) (e : Ending) (w' : World) : Prop := ∃ a : AT, Good a ∧ a.pairs.length ≤ 60 ∧ Tells w a e w'
theorem enterG (w : World) : Box (w.alloc (.cells #[.int .i64 0, .slice none 0 0, .slice none 0 0, .slice none 0 0, .slice none 0 0] 25)) 25 w.heap.size hZ := Box.new w 25 hZ

set_option maxRecDepth 100000 in
set_option maxHeartbeats 4000000 in
theorem refGrown_is (kvs : List KV) (la : Option Addr) (n cap : Nat) (D : Nat → PH) (w : World) (hnl : n = kvs.length) (hin : InRec recP w la n cap D) (hpd : PairsD w D kvs) : Calls Tryd.prog 13 #[.slice la n cap] w (GrowsTo w kvs) := by
  have hkv : ∀ i, i < n → ∃ key val, kvs[i]? = some (key, val) ∧ InBytes w (D i).ka (D i).kn (D i).kc key ∧ InBytes w (D i).va (D i).vn (D i).vc val := fun i hi => ⟨_, _, List.getElem?_eq_getElem (by omega), hpd i (by omega)⟩
  have HNL := Lib.hid hnl
  have HIN := Lib.hid hin
  have HKVS := Lib.hid hkv
  clear hin hkv hpd hnl
  have hr := enterG w
  have s1 : (w.alloc (.cells #[.int .i64 0, .slice none 0 0, .slice none 0 0, .slice none 0 0, .slice none 0 0] 25)).heap.size = w.heap.size + 1 := by simp
  have hb0 : Below w.heap.size w (w.alloc (.cells #[.int .i64 0, .slice none 0 0, .slice none 0 0, .slice none 0 0, .slice none 0 0] 25)) := (Below.refl _ _).alloc (Nat.le_refl _) _
  have hx1 : Box ((w.alloc (.cells #[.int .i64 0, .slice none 0 0, .slice none 0 0, .slice none 0 0, .slice none 0 0] 25)).alloc (.cells #[.int .i64 0, .slice none 0 0, .slice none 0 0, .slice none 0 0, .slice none 0 0] 25)) 25 (w.heap.size + 1) hZ := by
    have q := Box.new (w.alloc (.cells #[.int .i64 0, .slice none 0 0, .slice none 0 0, .slice none 0 0, .slice none 0 0] 25)) 25 hZ
    rw [s1] at q
    exact q
  have hr1 := hr.below ((Below.refl (w.alloc (.cells #[.int .i64 0, .slice none 0 0, .slice none 0 0, .slice none 0 0, .slice none 0 0] 25)).heap.size (w.alloc (.cells #[.int .i64 0, .slice none 0 0, .slice none 0 0, .slice none 0 0, .slice none 0 0] 25))).alloc (Nat.le_refl _) (.cells #[.int .i64 0, .slice none 0 0, .slice none 0 0, .slice none 0 0, .slice none 0 0] 25)) hr.lt
  have hb1 : Below w.heap.size w ((w.alloc (.cells #[.int .i64 0, .slice none 0 0, .slice none 0 0, .slice none 0 0, .slice none 0 0] 25)).alloc (.cells #[.int .i64 0, .slice none 0 0, .slice none 0 0, .slice none 0 0, .slice none 0 0] 25)) := hb0.alloc (by rw [s1]; omega) _
  have HX := Lib.hid (And.intro hx1 (And.intro hr1 hb1))
  clear hr s1 hb0 hx1 hr1 hb1
  go_enter Tryd.func13, Tryd.ntmps13
  go_upto_region 2 with (first
    | (refine wpList_store_box rfl 25 (.tmp 3) (.tmp 5) rfl (w.heap.size + 1) hZ hZ rfl rfl 25 HX.out.1 infoTree5 ?_
       intro w2 hbx hg
       have HG2 : Hid (GW w w2 hZ .nil 0) := Lib.hid ⟨HX.out.2.2.grown hg HX.out.2.2.size (fun j hj => by injection hj; omega), HX.out.2.1.grown hg (fun q => by injection q; omega), hbx, inTree_nil w2, Good.nil, Nat.le_refl _⟩
       clear hbx hg))
  clear HX
  go_wp2_with fail
  go_loopw [4] (fun s4 wx => ∃ (i : Nat) (ht : TH) (a : AT), i ≤ n ∧ i ≤ 60 ∧ s4 = .int .i64 i ∧ GW w wx ht a i ∧ a = grownL (kvs.take i)) (fun s4 _ => n - (intOf s4).toNat)
  case atStart => exact ⟨0, hZ, .nil, by omega, by omega, rfl, HG2.out, by rw [List.take_zero]; rfl⟩
  case round =>
    clear HG2
    obtain ⟨i, ht, a, hi1, hi2, rfl, hgw, hga⟩ := hrel
    have HGA := Lib.hid hga
    clear hga
    have HG := Lib.hid hgw
    by_cases c1 : i < n
    · have q1 : (i : Int) < (n : Int) := by omega
      by_cases c2 : i < 60
      · have q2 : (i : Int) < 60 := by omega
        obtain ⟨key, val, hek, hk, hv⟩ := HKVS.out i c1
        have HEK := Lib.hid hek
        clear hek
        have HKV := Lib.hid (And.intro hk hv)
        have hkl := hk.len
        have hvl := hv.len
        obtain ⟨g, off, hea, -, -⟩ := HIN.out.at (by omega)
        obtain ⟨y0, y1⟩ := (HIN.out.below hgw.b).pair hea i c1
        have HEA := Lib.hid hea
        rw [hea]
        clear hea hk hv hgw
        by_cases c3 : (D i).kn ≤ 80
        · have q3 : ((D i).kn : Int) ≤ 80 := by omega
          by_cases c4 : (D i).vn ≤ 1024
          · have q4 : ((D i).vn : Int) ≤ 1024 := by omega
            go_upto_region 6 with fail
            clear y0 y1
            refine region_l (S := (fun W => (W.cell? ⟨(w.heap.size + 1), 0, none⟩ = some (.int .i64 ht.k) ∧ W.cell? ⟨(w.heap.size + 1), 1, none⟩ = some (.slice ht.ka ht.kn ht.kc) ∧ W.cell? ⟨(w.heap.size + 1), 2, none⟩ = some (.slice ht.va ht.vn ht.vc) ∧ W.cell? ⟨(w.heap.size + 1), 3, none⟩ = some (.slice ht.da ht.dn ht.dc) ∧ W.cell? ⟨(w.heap.size + 1), 4, none⟩ = some (.slice ht.ta ht.tn ht.tc)) ∧ W.cell? ⟨g, off + i * 2, none⟩ = some (.slice (D i).ka (D i).kn (D i).kc) ∧ W.cell? ⟨g, off + i * 2 + 1, none⟩ = some (.slice (D i).va (D i).vn (D i).vc))) 12 (by kernel_rfl) ⟨HG.out.drew.box.cells, ((HIN.out.below HG.out.drew.b).pair HEA.out i c1).1, ((HIN.out.below HG.out.drew.b).pair HEA.out i c1).2⟩ (fun hHeld => ?_)
            refine take_l (i := 0) (oi := ?oZ60) (v := ?vZ60) ?hiZ60 (by kernel_rfl) (by kernel_rfl) (by kernel_rfl) (by kernel_rfl) ?hQZ60 ?hwZ60 ?hyZ60 (by assumption) ?restZ60
            case hiZ60 => (simp only [List.getElem?_toArray, List.getElem?_cons_zero] <;> rfl)
            case hQZ60 => exact (fun _ _ _ h => h)
            case hwZ60 => rfl
            case hyZ60 => (intro w hSw; (try dsimp only at hSw); go_simp; try with_reducible rfl)
            (try simp only [Act.put, List.setIfInBounds_toArray, List.set_cons_zero, List.set_cons_succ])
            refine take_l (i := 1) (oi := ?oZ61) (v := ?vZ61) ?hiZ61 (by kernel_rfl) (by kernel_rfl) (by kernel_rfl) (by kernel_rfl) ?hQZ61 ?hwZ61 ?hyZ61 (by assumption) ?restZ61
            case hiZ61 => (simp only [List.getElem?_toArray, List.getElem?_cons_succ, List.getElem?_cons_zero] <;> rfl)
            case hQZ61 => exact (fun _ _ _ h => h)
            case hwZ61 => rfl
            case hyZ61 => (intro w hSw; (try dsimp only at hSw); go_simp; try with_reducible rfl)
            (try simp only [Act.put, List.setIfInBounds_toArray, List.set_cons_zero, List.set_cons_succ])
            refine take_l (i := 2) (oi := ?oZ62) (v := ?vZ62) ?hiZ62 (by kernel_rfl) (by kernel_rfl) (by kernel_rfl) (by kernel_rfl) ?hQZ62 ?hwZ62 ?hyZ62 (by assumption) ?restZ62
            case hiZ62 => (simp only [List.getElem?_toArray, List.getElem?_cons_succ, List.getElem?_cons_zero] <;> rfl)
            case hQZ62 => exact (fun _ _ _ h => h)
            case hwZ62 => rfl
            case hyZ62 => (intro w hSw; (try dsimp only at hSw); go_simp; try with_reducible rfl)
            (try simp only [Act.put, List.setIfInBounds_toArray, List.set_cons_zero, List.set_cons_succ])
            refine take_l (i := 3) (oi := ?oZ63) (v := ?vZ63) ?hiZ63 (by kernel_rfl) (by kernel_rfl) (by kernel_rfl) (by kernel_rfl) ?hQZ63 ?hwZ63 ?hyZ63 (by assumption) ?restZ63
            case hiZ63 => (simp only [List.getElem?_toArray, List.getElem?_cons_succ, List.getElem?_cons_zero] <;> rfl)
            case hQZ63 => exact (fun _ _ _ h => h)
            case hwZ63 => rfl
            case hyZ63 => (intro w hSw; (try dsimp only at hSw); go_simp; try with_reducible rfl)
            (try simp only [Act.put, List.setIfInBounds_toArray, List.set_cons_zero, List.set_cons_succ])
            refine take_l (i := 4) (oi := ?oZ64) (v := ?vZ64) ?hiZ64 (by kernel_rfl) (by kernel_rfl) (by kernel_rfl) (by kernel_rfl) ?hQZ64 ?hwZ64 ?hyZ64 (by assumption) ?restZ64
            case hiZ64 => (simp only [List.getElem?_toArray, List.getElem?_cons_succ, List.getElem?_cons_zero] <;> rfl)
            case hQZ64 => exact (fun _ _ _ h => h)
            case hwZ64 => rfl
            case hyZ64 => (intro w hSw; (try dsimp only at hSw); go_simp; try with_reducible rfl)
            (try simp only [Act.put, List.setIfInBounds_toArray, List.set_cons_zero, List.set_cons_succ])
            refine take_l (i := 5) (oi := ?oZ65) (v := ?vZ65) ?hiZ65 (by kernel_rfl) (by kernel_rfl) (by kernel_rfl) (by kernel_rfl) ?hQZ65 ?hwZ65 ?hyZ65 (by assumption) ?restZ65
            case hiZ65 => (simp only [List.getElem?_toArray, List.getElem?_cons_succ, List.getElem?_cons_zero] <;> rfl)
            case hQZ65 => exact (fun _ _ _ h => h)
            case hwZ65 => rfl
            case hyZ65 => (intro w hSw; (try dsimp only at hSw); go_simp; try with_reducible rfl)
            (try simp only [Act.put, List.setIfInBounds_toArray, List.set_cons_zero, List.set_cons_succ])
            refine take_l (i := 6) (oi := ?oZ66) (v := ?vZ66) ?hiZ66 (by kernel_rfl) (by kernel_rfl) (by kernel_rfl) (by kernel_rfl) ?hQZ66 ?hwZ66 ?hyZ66 (by assumption) ?restZ66
            case hiZ66 => (simp only [List.getElem?_toArray, List.getElem?_cons_succ, List.getElem?_cons_zero] <;> rfl)
            case hQZ66 => exact (fun _ _ _ h => h)
            case hwZ66 => rfl
            case hyZ66 => (intro w hSw; (try dsimp only at hSw); go_simp; try with_reducible rfl)
            (try simp only [Act.put, List.setIfInBounds_toArray, List.set_cons_zero, List.set_cons_succ])
            refine take_l (i := 7) (oi := ?oZ67) (v := ?vZ67) ?hiZ67 (by kernel_rfl) (by kernel_rfl) (by kernel_rfl) (by kernel_rfl) ?hQZ67 ?hwZ67 ?hyZ67 (by assumption) ?restZ67
            case hiZ67 => (simp only [List.getElem?_toArray, List.getElem?_cons_succ, List.getElem?_cons_zero] <;> rfl)
            case hQZ67 => exact (fun _ _ _ h => h)
            case hwZ67 => rfl
            case hyZ67 => (intro w hSw; (try dsimp only at hSw); go_simp; try with_reducible rfl)
            (try simp only [Act.put, List.setIfInBounds_toArray, List.set_cons_zero, List.set_cons_succ])
            refine take_l (i := 8) (oi := ?oZ68) (v := ?vZ68) ?hiZ68 (by kernel_rfl) (by kernel_rfl) (by kernel_rfl) (by kernel_rfl) ?hQZ68 ?hwZ68 ?hyZ68 (by assumption) ?restZ68
            case hiZ68 => (simp only [List.getElem?_toArray, List.getElem?_cons_succ, List.getElem?_cons_zero] <;> rfl)
            case hQZ68 => exact (fun _ _ _ h => h)
            case hwZ68 => rfl
            case hyZ68 => (intro w hSw; (try dsimp only at hSw); go_simp; try with_reducible rfl)
            (try simp only [Act.put, List.setIfInBounds_toArray, List.set_cons_zero, List.set_cons_succ])
            refine take_l (i := 9) (oi := ?oZ69) (v := ?vZ69) ?hiZ69 (by kernel_rfl) (by kernel_rfl) (by kernel_rfl) (by kernel_rfl) ?hQZ69 ?hwZ69 ?hyZ69 (by assumption) ?restZ69
            case hiZ69 => (simp only [List.getElem?_toArray, List.getElem?_cons_succ, List.getElem?_cons_zero] <;> rfl)
            case hQZ69 => exact (fun _ _ _ h => h)
            case hwZ69 => rfl
            case hyZ69 => (intro w hSw; (try dsimp only at hSw); go_simp; try with_reducible rfl)
            (try simp only [Act.put, List.setIfInBounds_toArray, List.set_cons_zero, List.set_cons_succ])
            refine take_l (i := 10) (oi := ?oZ70) (v := ?vZ70) ?hiZ70 (by kernel_rfl) (by kernel_rfl) (by kernel_rfl) (by kernel_rfl) ?hQZ70 ?hwZ70 ?hyZ70 (by assumption) ?restZ70
            case hiZ70 => (simp only [List.getElem?_toArray, List.getElem?_cons_succ, List.getElem?_cons_zero] <;> rfl)
            case hQZ70 => exact (fun _ _ _ h => h)
            case hwZ70 => rfl
            case hyZ70 => (intro w hSw; (try dsimp only at hSw); go_simp; try with_reducible rfl)
            (try simp only [Act.put, List.setIfInBounds_toArray, List.set_cons_zero, List.set_cons_succ])
            refine one_l (i := 11) (o := ?oZ71) (by kernel_rfl) ?hiZ71 (fun K hK => ?stZ71)
            case hiZ71 => (simp only [List.getElem?_toArray, List.getElem?_cons_succ, List.getElem?_cons_zero] <;> rfl)
            go_simp
            go_at_call 30
            refine (refPut_any key val (D i).ka (D i).va (D i).kn (D i).kc (D i).vn (D i).vc (by omega) (by omega) a ht _ HG.out.drew.ti HG.out.good.lim HG.out.good.bal (by have h1 := AT.depth_le a; have := HG.out.cnt; omega) (HKV.out.1.below HG.out.drew.b) (HKV.out.2.below HG.out.drew.b)).mono ?_
            rintro _ w6 ⟨h6, rfl, hi6, hb6⟩
            unfold TH.v
            have HG6 := Lib.hid (HG.out.drew.below hb6)
            have HI6 := Lib.hid hi6
            clear hi6 hb6
            go_simp
            refine hK.out _ _ ?_ (fun hHeld => ?_)
            · (first | exact ⟨HG6.out.box.cells, ((HIN.out.below HG6.out.b).pair HEA.out i c1).1, ((HIN.out.below HG6.out.b).pair HEA.out i c1).2⟩ | exact ⟨HG.out.drew.box.cells, ((HIN.out.below HG.out.drew.b).pair HEA.out i c1).1, ((HIN.out.below HG.out.drew.b).pair HEA.out i c1).2⟩)
            clear hK K
            (try simp only [Act.put, List.setIfInBounds_toArray, List.set_cons_zero, List.set_cons_succ])
            refine last_l (o := ?oZ72) (by kernel_rfl) ?hiZ72 (by kernel_rfl) (fun K hK => ?stZ72)
            case hiZ72 => (simp only [List.getElem?_toArray, List.getElem?_cons_succ, List.getElem?_cons_zero] <;> rfl)
            refine step_store_box rfl 25 (.tmp 3) (.tmp 43) rfl (w.heap.size + 1) ht h6 rfl rfl 25 HG6.out.box infoTree5 ?_
            intro w7 hbx hg
            have HG7 := Lib.hid (HG6.out.put hbx hg HI6.out (by omega : key.length ≤ 80) (by omega : val.length ≤ 1024))
            clear hbx hg
            refine hK.out _ _ ?_
            clear hK K
            (try simp only [Act.put])
            
            clear hHeld
            go_wp2_with fail
            exact ⟨⟨i + 1, h6, _, by omega, by omega, by go_num, HG7.out, grown_yes HEK.out HGA.out (by omega) (by omega)⟩, by simp [intOf]; omega⟩
          · have q4 : ¬ ((D i).vn : Int) ≤ 1024 := by omega
            go_wp2_with fail
            exact ⟨⟨i + 1, ht, a, by omega, by omega, by go_num, HG.out.more (by omega), grown_no HEK.out HGA.out (by omega)⟩, by simp [intOf]; omega⟩
        · have q3 : ¬ ((D i).kn : Int) ≤ 80 := by omega
          go_wp2_with fail
          exact ⟨⟨i + 1, ht, a, by omega, by omega, by go_num, HG.out.more (by omega), grown_no HEK.out HGA.out (by omega)⟩, by simp [intOf]; omega⟩
      · have q2 : ¬ (i : Int) < 60 := by omega
        clear hgw
        obtain ⟨x0, x1, x2, x3, x4⟩ := HG.out.box.cells
        go_wp2_with (first
          | (refine wpList_store_box rfl 25 (.tmp 2) (.tmp 44) rfl w.heap.size hZ ht rfl rfl 25 HG.out.res infoTree5 ?_
             intro w9 hbx9 hg9
             have HX9 := Lib.hid hbx9
             have HI9 := Lib.hid (AT.outBox HG.out.res hg9 _ _ HG.out.ti)
             have HB9 : Hid (Below w.heap.size w w9) := Lib.hid (HG.out.b.grown hg9 HG.out.b.size (fun j hj => by injection hj; omega))
             clear hbx9 hg9 x0 x1 x2 x3 x4))
        have hnl := HNL.out
        have e60 : a = grownL (kvs.take 60) := by
          rw [HGA.out]
          rcases (by omega : i = 60 ∨ kvs.length ≤ i) with q | q
          · rw [q]
          · rw [List.take_of_length_le q, List.take_of_length_le (by omega)]
        clear hnl
        exact bodyPost_ret (v := ht.v) (result_tree Tryd.results13 _ HX9.out rfl Tryd.underlying25 infoTree5) rfl ⟨by rw [← e60]; exact HG.out.good, by rw [← e60]; have := HG.out.cnt; omega, _, rfl, by rw [← e60]; exact HI9.out, HB9.out⟩
    · have q1 : ¬ (i : Int) < (n : Int) := by omega
      clear hgw
      obtain ⟨x0, x1, x2, x3, x4⟩ := HG.out.box.cells
      go_wp2_with (first
        | (refine wpList_store_box rfl 25 (.tmp 2) (.tmp 44) rfl w.heap.size hZ ht rfl rfl 25 HG.out.res infoTree5 ?_
           intro w9 hbx9 hg9
           have HX9 := Lib.hid hbx9
           have HI9 := Lib.hid (AT.outBox HG.out.res hg9 _ _ HG.out.ti)
           have HB9 : Hid (Below w.heap.size w w9) := Lib.hid (HG.out.b.grown hg9 HG.out.b.size (fun j hj => by injection hj; omega))
           clear hbx9 hg9 x0 x1 x2 x3 x4))
      have hnl := HNL.out
      have e60 : a = grownL (kvs.take 60) := by
        rw [HGA.out]
        rcases (by omega : i = 60 ∨ kvs.length ≤ i) with q | q
        · rw [q]
        · rw [List.take_of_length_le q, List.take_of_length_le (by omega)]
      clear hnl
      exact bodyPost_ret (v := ht.v) (result_tree Tryd.results13 _ HX9.out rfl Tryd.underlying25 infoTree5) rfl ⟨by rw [← e60]; exact HG.out.good, by rw [← e60]; have := HG.out.cnt; omega, _, rfl, by rw [← e60]; exact HI9.out, HB9.out⟩
/-- Any row of pairs is the row of some list. -/
theorem pairs_list {w : World} {n : Nat} {D : Nat → PH} (hkv : ∀ i, i < n → ∃ key val, InBytes w (D i).ka (D i).kn (D i).kc key ∧ InBytes w (D i).va (D i).vn (D i).vc val) : ∃ kvs : List KV, n = kvs.length ∧ PairsD w D kvs := by
  induction n with
  | zero => exact ⟨[], rfl, fun i hi => by simp at hi⟩
  | succ n ih =>
    obtain ⟨kvs, e, h⟩ := ih (fun i hi => hkv i (by omega))
    obtain ⟨key, val, h1, h2⟩ := hkv n (by omega)
    refine ⟨kvs ++ [(key, val)], by simp [e], fun i hi => ?_⟩
    by_cases c : i < kvs.length
    · rw [List.getElem_append_left c]
      exact h i c
    · have e0 : i = n := by simp at hi; omega
      subst e0
      have e2 : (kvs ++ [(key, val)])[i] = (key, val) := by simp [e]
      rw [e2]
      exact ⟨h1, h2⟩
theorem refGrown_any (la : Option Addr) (n cap : Nat) (D : Nat → PH) (w : World) (hin : InRec recP w la n cap D) (hkv : ∀ i, i < n → ∃ key val, InBytes w (D i).ka (D i).kn (D i).kc key ∧ InBytes w (D i).va (D i).vn (D i).vc val) : Calls Tryd.prog 13 #[.slice la n cap] w (Grows w) := by
  obtain ⟨kvs, e, h⟩ := pairs_list hkv
  refine (refGrown_is kvs la n cap D w e hin h).mono ?_
  rintro _ w' ⟨h1, h2, h3⟩
  exact ⟨_, h1, h2, h3⟩
end Go.Proofs.YtkfjhegehhahcaaDoor

/- One byte in a block of its own. No program is named here. -/
namespace Go.Proofs.YtkfjhegehhahcaaDoor
open Go.RowKit
set_option linter.unusedVariables false

/-- One byte in a block of its own. -/
theorem in_one {w : World} {g : Nat} {t : TypeId} {z : Int} {fr : Nat × Nat} (h : w.heap[g]? = some (.cells #[.int .u8 z] t fr)) (h0 : 0 ≤ z) (h1 : z ≤ 255) : InBytes w (some ⟨g, 0, none⟩) 1 1 [z] := by
  have hlt : g < w.heap.size := by
    rcases Nat.lt_or_ge g w.heap.size with hlt | hge
    · exact hlt
    · rw [Array.getElem?_eq_none hge] at h
      cases h
  have hseg : Seg .u8 w g 0 [z] := fun i hi => by
    have hi0 : i = 0 := by simpa using hi
    subst hi0
    rw [cell_of_row w g (0 + 0) _ _ fr h]
    rfl
  exact ⟨rfl, (fun x hx => by simp at hx; omega), Nat.le_refl _, by simp [maxLen], (fun h => by cases h), fun _ => ⟨g, 0, rfl, hlt, hseg⟩⟩
theorem alloc_size (w : World) (o : Obj) : (w.alloc o).heap.size = w.heap.size + 1 := by simp
end Go.Proofs.YtkfjhegehhahcaaDoor

/- The head of the statements of layer 7: what is shown of a tree of one node. -/
namespace Go.Proofs.YtkfjhegehhahcaaDoor
open Go.RowKit
set_option linter.unusedVariables false

def upN : AT := .node .nil [97] [] .nil
theorem upN_eq : grownL ([([97], [])].take 60) = upN := by simp [grownL, growS, AT.put, upN]
theorem upN_good : Good upN := by
  have h := Good.nil.put (key := [97]) (val := []) (by decide) (by decide)
  exact h
theorem upN_is : isT upN.tr = true := upN_good.is (by decide)
theorem upN_show : showA 1 [] [] true upN = .mk 1 [97] [] [] [.mk 0 [] [] [] [], .mk 0 [] [] [] []] := by simp [showA, upN, inS, ltL]
theorem upN_count : countT upN.tr ≤ 500 := by
  have e : upN.tr = .mk 1 [97] [] [] [.mk 0 [] [] [] [], .mk 0 [] [] [] []] := rfl
  rw [e, count_pair, countT_eq]
  decide
theorem conv_97 (W : World) (g : Nat) (hg : W.heap.size = g) : (convert 22 22 (.slice (some ⟨g, 0, none⟩) 1 1)).run Tryd.prog (W.alloc (.cells #[.int .u8 97] 5)) = .ok (.slice (some ⟨g, 0, none⟩) 1 1) (W.alloc (.cells #[.int .u8 97] 5 (1, 2))) := by
  subst hg
  exact Lib.run_convert_bytes_const W 22 5 #[.int .u8 97] 1 1 Tryd.underlying22 Tryd.underlying5
theorem one_pair (w : World) (ty : TypeId) (p : PH) : InRec recP (w.alloc (.cells #[.slice p.ka p.kn p.kc, .slice p.va p.vn p.vc] ty)) (some ⟨w.heap.size, 0, none⟩) 1 1 (fun i => [p].getD i pZ) := by
  have h : OwnR recP (w.alloc (.cells #[.slice p.ka p.kn p.kc, .slice p.va p.vn p.vc] ty)) 0 ty (.slice (some ⟨w.heap.size, 0, none⟩) 1 1) [p] :=
    ⟨rfl, .inr ⟨w.heap.size, 1, _, rfl, Nat.zero_le _, heap_alloc_new w _, Nat.le_refl _, by simp [maxLen], rfl, rfl⟩⟩
  exact (h.inRec pZ).2

set_option maxRecDepth 100000 in
set_option maxHeartbeats 8000000 in
theorem up7_any (w : World) (hT : TabLies w) : Calls Tryd.prog 6 #[] w (Says w (.bool true)) := by
  have heq : ∀ (W : World) (p q : Int), (binOp .eql 31 (.iface 34 (.int .i64 p)) (.iface 34 (.int .i64 q))).run Tryd.prog W = .ok (.bool (p == q)) W := fun W p q => eql_code p q W
  have hcd1 : codeV 1 = .iface 34 (.int .i64 1) := rfl
  have hc0 : (convert 22 22 (.slice (some ⟨w.heap.size, 0, none⟩) 1 1)).run Tryd.prog (w.alloc (.cells #[.int .u8 97] 5)) = .ok (.slice (some ⟨w.heap.size, 0, none⟩) 1 1) (w.alloc (.cells #[.int .u8 97] 5 (1, 2))) := conv_97 w _ rfl
  have q1 : Below w.heap.size w (w.alloc (.cells #[.int .u8 97] 5 (1, 2))) := (Below.refl _ _).alloc (Nat.le_refl _) _
  have q2 : Below w.heap.size w ((w.alloc (.cells #[.int .u8 97] 5 (1, 2))).alloc (.cells #[.slice (some ⟨w.heap.size, 0, none⟩) 1 1, .slice none 0 0] 51)) := q1.alloc (by simp) _
  have hb0 : InBytes (w.alloc (.cells #[.int .u8 97] 5 (1, 2))) (some ⟨w.heap.size, 0, none⟩) 1 1 [97] := in_one (heap_alloc_new w (.cells #[.int .u8 97] 5 (1, 2))) (by omega) (by omega)
  have hr0 := one_pair (w.alloc (.cells #[.int .u8 97] 5 (1, 2))) 51 (⟨some ⟨w.heap.size, 0, none⟩, 1, 1, none, 0, 0⟩ : PH)
  rw [alloc_size] at hr0
  have HG : Hid (InRec recP ((w.alloc (.cells #[.int .u8 97] 5 (1, 2))).alloc (.cells #[.slice (some ⟨w.heap.size, 0, none⟩) 1 1, .slice none 0 0] 51)) (some ⟨w.heap.size + 1, 0, none⟩) 1 1 (fun i => [(⟨some ⟨w.heap.size, 0, none⟩, 1, 1, none, 0, 0⟩ : PH)].getD i pZ) ∧ PairsD ((w.alloc (.cells #[.int .u8 97] 5 (1, 2))).alloc (.cells #[.slice (some ⟨w.heap.size, 0, none⟩) 1 1, .slice none 0 0] 51)) (fun i => [(⟨some ⟨w.heap.size, 0, none⟩, 1, 1, none, 0, 0⟩ : PH)].getD i pZ) [([97], [])] ∧ Below w.heap.size w ((w.alloc (.cells #[.int .u8 97] 5 (1, 2))).alloc (.cells #[.slice (some ⟨w.heap.size, 0, none⟩) 1 1, .slice none 0 0] 51))) := Lib.hid ⟨hr0, fun i hi => by
    have e : i = 0 := by simp at hi; omega
    subst e
    exact ⟨hb0.below ((Below.refl _ _).alloc (Nat.le_refl _) _), none_in _⟩, q2⟩
  have HT := Lib.hid hT
  clear q1 q2 hb0 hr0 hT
  go_enter Tryd.func6, Tryd.ntmps6
  go_upto_region 2 with (first
    | (go_at_call 13
       refine (refGrown_is [([97], [])] (some ⟨w.heap.size + 1, 0, none⟩) 1 1 (fun i => [(⟨some ⟨w.heap.size, 0, none⟩, 1, 1, none, 0, 0⟩ : PH)].getD i pZ) _ rfl HG.out.1 HG.out.2.1).mono ?_
       unfold GrowsTo
       rw [upN_eq]
       rintro _ w2 ⟨-, -, h2, rfl, hi2, hb2⟩
       have HI2 := Lib.hid hi2
       have HB2 : Hid (Below w.heap.size w w2) := Lib.hid (HG.out.2.2.trans (hb2.mono HG.out.2.2.size))
       clear hi2 hb2)
    | (refine wpList_store_box rfl 25 (.tmp 1) (.tmp 10) rfl w2.heap.size hZ h2 rfl rfl 25 (Box.new w2 25 hZ) infoTree5 ?_
       intro w2b hbx hg
       have qq : Below w2.heap.size w2 w2b := ((Below.refl w2.heap.size w2).alloc (Nat.le_refl _) _).grown hg (by simp) (fun j hj => by injection hj; omega)
       have HX3 : Hid (Box w2b 25 w2.heap.size h2 ∧ InTree w2b h2 upN.tr ∧ Below w.heap.size w w2b) := Lib.hid ⟨hbx, HI2.out.lower qq, HB2.out.trans (qq.mono HB2.out.size)⟩
       clear hbx hg qq))
  generalize w2.heap.size = g1 at *
  obtain ⟨x0, x1, x2, x3, x4⟩ := HX3.out.1.cells
  clear HG HI2 HB2 hc0
  go_upto_region 3 with (first
    | (go_at_call 8
       refine (prove_ok 1 (by omega) (by omega) upN h2 ⟨none, 0, 0, none, 0, 0, true⟩ [] [] _ HX3.out.2.1 ⟨none_in _, none_in _⟩ upN_is upN_count (HT.out.below HX3.out.2.2 (Nat.le_refl _))).mono ?_
       unfold ProveOk
       rw [upN_show]
       rintro _ w4 ⟨h4, rfl, hf4, hb4⟩
       have HF4 : Hid (InTree w4 h4 (.mk 1 [97] [] [] [.mk 0 [] [] [] [], .mk 0 [] [] [] []])) := Lib.hid (hf4.self (Nat.le_refl _))
       have HX4 : Hid (Box w4 25 g1 h2 ∧ InTree w4 h2 upN.tr ∧ Below w.heap.size w w4) := Lib.hid ⟨HX3.out.1.below hb4 HX3.out.1.lt, HX3.out.2.1.lower hb4, HX3.out.2.2.trans (hb4.mono HX3.out.2.2.size)⟩
       clear hf4 hb4 x0 x1 x2 x3 x4)
    | (refine wpList_store_box rfl 25 (.tmp 2) (.tmp 15) rfl w4.heap.size hZ h4 rfl rfl 25 (Box.new w4 25 hZ) infoTree5 ?_
       intro w4b hbx hg
       have qq : Below w4.heap.size w4 w4b := ((Below.refl w4.heap.size w4).alloc (Nat.le_refl _) _).grown hg (by simp) (fun j hj => by injection hj; omega)
       have HX5 : Hid (Box w4b 25 g1 h2 ∧ InTree w4b h2 upN.tr ∧ Box w4b 25 w4.heap.size h4 ∧ InTree w4b h4 (.mk 1 [97] [] [] [.mk 0 [] [] [] [], .mk 0 [] [] [] []]) ∧ Below w.heap.size w w4b) := Lib.hid ⟨HX4.out.1.below qq HX4.out.1.lt, HX4.out.2.1.lower qq, hbx, HF4.out.lower qq, HX4.out.2.2.trans (qq.mono HX4.out.2.2.size)⟩
       clear hbx hg qq))
  generalize w4.heap.size = g2 at *
  obtain ⟨x0, x1, x2, x3, x4⟩ := HX5.out.1.cells
  go_upto_region 4 with (first
    | (go_at_call 8
       refine (prove_arg 0 upN.tr h2 ⟨none, 0, 0, none, 0, 0, false⟩ [] [] _ HX5.out.2.1 ⟨none_in _, none_in _⟩ (by omega) (by omega) (by omega)).mono ?_
       rintro _ w6 ⟨h6, rfl, -, hb6⟩
       rw [hcd1]
       have HX6 : Hid (Box w6 25 g2 h4 ∧ InTree w6 h4 (.mk 1 [97] [] [] [.mk 0 [] [] [] [], .mk 0 [] [] [] []]) ∧ Below w.heap.size w w6) := Lib.hid ⟨HX5.out.2.2.1.below hb6 HX5.out.2.2.1.lt, HX5.out.2.2.2.1.lower hb6, HX5.out.2.2.2.2.trans (hb6.mono HX5.out.2.2.2.2.size)⟩
       clear hb6 x0 x1 x2 x3 x4)
    | (refine wpList_store_box rfl 25 (.tmp 4) (.tmp 21) rfl w6.heap.size hZ h6 rfl rfl 25 (Box.new w6 25 hZ) infoTree5 ?_
       intro w6b hbx hg
       have qq : Below w6.heap.size w6 w6b := ((Below.refl w6.heap.size w6).alloc (Nat.le_refl _) _).grown hg (by simp) (fun j hj => by injection hj; omega)
       have HX7 : Hid (Box w6b 25 g2 h4 ∧ InTree w6b h4 (.mk 1 [97] [] [] [.mk 0 [] [] [] [], .mk 0 [] [] [] []]) ∧ Below w.heap.size w w6b) := Lib.hid ⟨HX6.out.1.below qq HX6.out.1.lt, HX6.out.2.1.lower qq, HX6.out.2.2.trans (qq.mono HX6.out.2.2.size)⟩
       clear hbx hg qq))
  obtain ⟨x0, x1, x2, x3, x4⟩ := HX7.out.1.cells
  obtain ⟨H, hp⟩ := HX7.out.2.1.parts
  have hk : (h4.k == 1) = true := by rw [hp.hk]; rfl
  have hkey : InBytes w6b h4.ka h4.kn h4.kc [97] := hp.key
  have cv : (convert 22 9 (.slice h4.ka h4.kn h4.kc)).run Tryd.prog w6b = .ok (.string ⟨#[97]⟩) w6b := conv_key hkey
  clear hp hkey
  go_wp2_with fail
  go_ret
  exact ⟨rfl, HX7.out.2.2⟩
end Go.Proofs.YtkfjhegehhahcaaDoor

/- The contracts of the document's Number and Bytes. -/
namespace Go.Proofs.YtkfjhegehhahcaaDoor
open Go.RowKit
set_option linter.unusedVariables false

set_option maxRecDepth 100000 in
set_option maxHeartbeats 2000000 in
theorem refNumber_any (v : Nat) (w : World) (hv : v < 18446744073709551616) :
    Calls Tryd.prog 90 #[.int .u64 v] w (OwnPost w (numL v)) := by
  obtain ⟨i0, hi0, hz0, hz1, hz2⟩ := info_parts infoU8
  go_enter Tryd.func90, Tryd.ntmps90
  by_cases h : v < 248
  · have hb : (v : Int) < 248 := by omega
    go_wp2_with fail
    go_ret
    have e : numL v = [(v : Int)] := by unfold numL; rw [if_pos h]
    rw [e]
    exact ⟨w.heap.size, 1, rfl, own_new w 5 .u8 [(v : Int)] w.heap.size (Nat.le_refl _) (by simp [maxLen]), (Below.refl _ _).alloc (Nat.le_refl _) _⟩
  · have hb : ¬ (v : Int) < 248 := by omega
    go_wp2_with fail
    go_loopw [0, 3] (fun s0 s3 wx => ∃ (k : Nat) (a : Option Addr) (cap : Nat), s0 = .int .u64 ((v / 256 ^ k : Nat) : Int) ∧ s3 = .slice a k cap ∧ (k = 0 ∨ v / 256 ^ (k - 1) ≠ 0) ∧ InBytes wx a k cap (be k v) ∧ Below w.heap.size w wx) (fun s0 _ _ => (intOf s0).toNat)
    case atStart => exact ⟨0, none, 0, by simp, rfl, .inl rfl, ⟨rfl, (fun z hz => by cases hz), Nat.le_refl _, by simp [maxLen], fun _ => rfl, (fun h => by omega)⟩, Below.refl _ _⟩
    case round =>
      obtain ⟨k, a, cap, rfl, rfl, hk, hin, hbel⟩ := hrel
      have hk8 : k ≤ nd v := by
        rcases hk with rfl | hk
        · omega
        · rcases Nat.lt_or_ge (nd v) k with h6 | h6
          · exfalso
            apply hk
            apply Nat.div_eq_of_lt
            exact Nat.lt_of_lt_of_le (nd_lt v) (Nat.pow_le_pow_right (by omega) (by omega))
          · exact h6
      have hn8 := nd_64 hv
      have hle := Nat.div_le_self v (256 ^ k)
      have hds := div_step v k
      obtain ⟨q, hq⟩ : ∃ q, q = v / 256 ^ k := ⟨_, rfl⟩
      rw [← hq] at hle hds ⊢
      have HQ := Lib.hid hq
      have HIN := Lib.hid hin
      have HB := Lib.hid hbel
      have HDS := Lib.hid hds
      have HK := Lib.hid hk
      clear hin hbel hds hk hq
      by_cases hz : q = 0
      · have hkn : k = nd v := nd_unique (by rw [← HQ.out]; exact hz) HK.out
        subst hkn
        have hfin : numL v = ((247 + nd v : Nat) : Int) :: be (nd v) v := by unfold numL; rw [if_neg h]
        subst hz
        have HFIN := Lib.hid hfin
        clear hfin hle
        go_wp2_with (first
          | (at_builtin
             refine wpList_append_bytes' _ rfl (.tmp 23) (.tmp 24) 22 rfl w.heap.size 5 i0 _ 1 Tryd.underlying22 hi0 hz0 hz1 hz2 rfl wr.heap.size 1 1 [.int .u8 (247 + (nd v : Int))] rfl (own_new wr 5 .u8 [247 + (nd v : Int)] w.heap.size HB.out.size (by simp [maxLen])) a (nd v) cap (be (nd v) v) rfl (HIN.out.below ((Below.refl _ _).alloc (Nat.le_refl _) _)) (by simp only [maxLen]; omega) (by omega) (by have := HB.out.size; simp; omega) ?_
             intro g1 c1 w1 hown1 hg1
             have HO1 := Lib.hid hown1
             have HB1 : Hid (Below w.heap.size w w1) := Lib.hid (below_only (HB.out.alloc HB.out.size _) hg1 (by have := HB.out.size; simp; omega) HB.out.size)
             clear hown1 hg1))
        go_ret
        have hfin := HFIN.out
        have hc : ((247 + nd v : Nat) : Int) = 247 + (nd v : Int) := by omega
        rw [hc] at hfin
        have hl : (numL v).length = 1 + nd v := by rw [hfin, List.length_cons, be_length]; omega
        have ho := HO1.out
        refine ⟨g1, c1, by rw [hl]; rfl, ?_, HB1.out⟩
        rw [hl, hfin]
        exact ho
      · have hz2' : (0 : Int) < (q : Int) := by omega
        go_wp2_with (first
          | (at_builtin
             refine wpList_append_bytes' _ rfl (.tmp 14) (.tmp 15) 22 rfl w.heap.size 5 i0 _ 1 Tryd.underlying22 hi0 hz0 hz1 hz2 rfl wr.heap.size 1 1 [.int .u8 ((q : Int) % 256)] rfl (own_new wr 5 .u8 [(q : Int) % 256] w.heap.size HB.out.size (by simp [maxLen])) a k cap (be k v) rfl (HIN.out.below ((Below.refl _ _).alloc (Nat.le_refl _) _)) (by simp only [maxLen]; omega) (by omega) (by have := HB.out.size; simp; omega) ?_
             intro g1 c1 w1 hown1 hg1
             have HO1 := Lib.hid hown1
             have HB1 : Hid (Below w.heap.size w w1) := Lib.hid (below_only (HB.out.alloc HB.out.size _) hg1 (by have := HB.out.size; simp; omega) HB.out.size)
             clear hown1 hg1))
        have hq := HQ.out
        have hb8 : [(q : Int) % 256] ++ be k v = be (k + 1) v := by simp [be, hq]
        have ho := HO1.out
        rw [show [Value.int IntKind.u8 ((q : Int) % 256)] = [(q : Int) % 256].map (Value.int .u8) from rfl, ← List.map_append, hb8, Nat.add_comm 1 k] at ho
        rw [Nat.add_comm 1 k]
        refine ⟨⟨k + 1, some ⟨g1, 0, none⟩, c1, ?_, rfl, .inr ?_, InBytes.of_own ho (be_bytes _ _), HB1.out⟩, ?_⟩
        · congr 1
          rw [← HDS.out]
          omega
        · rw [Nat.add_sub_cancel, ← hq]; omega
        · simp only [intOf]; omega

set_option maxRecDepth 100000 in
set_option maxHeartbeats 2000000 in
theorem refBytes_any (a : Option Addr) (n cap : Nat) (bs : List Int) (w : World) (hin : InBytes w a n cap bs) (hn : n ≤ 140737488351232) :
    Calls Tryd.prog 84 #[.slice a n cap] w (OwnPost w (bytL bs)) := by
  obtain ⟨i0, hi0, hz0, hz1, hz2⟩ := info_parts infoU8
  have hbl := hin.len
  have h9 := numL_le (v := n) (by omega)
  have hle := hin.le
  have HIN := Lib.hid hin
  clear hin
  go_enter Tryd.func84, Tryd.ntmps84
  go_wp2_with (first
    | (go_at_call 90
       (with_reducible refine (refNumber_any n _ (by omega)).mono ?_)
       rintro _ w1 ⟨g1, c1, rfl, hown1, hb1⟩
       have HO1 := Lib.hid hown1
       have HB1 := Lib.hid hb1
       clear hown1 hb1)
    | (at_builtin
       refine wpList_append_bytes' _ rfl (.tmp 6) (.tmp 7) 22 rfl w.heap.size 5 i0 _ 1 Tryd.underlying22 hi0 hz0 hz1 hz2 rfl g1 (numL n).length c1 _ rfl HO1.out a n cap bs rfl (HIN.out.below HB1.out) (by simp only [maxLen]; omega) (by omega) HB1.out.size ?_
       intro g2 c2 w2 hown2 hg2
       have HO2 := Lib.hid hown2
       have HB2 : Hid (Below w.heap.size w w2) := Lib.hid (below_only HB1.out hg2 HB1.out.size (HO1.out.lt g1 rfl).1)
       clear hown2 hg2))
  go_ret
  have ho := HO2.out
  rw [← List.map_append] at ho
  have e : bytL bs = numL n ++ bs := by unfold bytL; rw [hbl]
  have hl : (bytL bs).length = (numL n).length + n := by rw [e, List.length_append, hbl]
  refine ⟨g2, c2, by rw [hl]; rfl, ?_, HB2.out⟩
  rw [hl, e]
  exact ho
end Go.Proofs.YtkfjhegehhahcaaDoor

/- The contracts of the document's preimages. -/
namespace Go.Proofs.YtkfjhegehhahcaaDoor
open Go.RowKit
set_option linter.unusedVariables false

set_option maxRecDepth 100000 in
set_option maxHeartbeats 2000000 in
theorem refValue_any (a : Option Addr) (n cap : Nat) (bs : List Int) (w : World) (hin : InBytes w a n cap bs) (hn : n ≤ 140737488351232) :
    Calls Tryd.prog 27 #[.slice a n cap] w (OwnPost w (valL bs)) := by
  obtain ⟨i0, hi0, hz0, hz1, hz2⟩ := info_parts infoU8
  have hbl := hin.len
  have HIN := Lib.hid hin
  clear hin
  go_enter Tryd.func27, Tryd.ntmps27
  go_wp2_with (first
    | (at_builtin
       refine wpList_append_bytes' _ rfl (.tmp 3) (.tmp 4) 22 rfl w.heap.size 5 i0 _ 1 Tryd.underlying22 hi0 hz0 hz1 hz2 rfl w.heap.size 1 1 [.int .u8 0] rfl (own_new w 5 .u8 [0] w.heap.size (Nat.le_refl _) (by simp [maxLen])) a n cap bs rfl (HIN.out.below ((Below.refl _ _).alloc (Nat.le_refl _) _)) (by simp only [maxLen]; omega) (by omega) (by simp) ?_
       intro g1 c1 w1 hown1 hg1
       have HO1 := Lib.hid (own_app (xs := [0]) (ys := bs) hown1 rfl hbl.symm)
       have HB1 : Hid (Below w.heap.size w w1) := Lib.hid (below_only ((Below.refl _ _).alloc (Nat.le_refl _) _) hg1 (by simp) (Nat.le_refl _))
       clear hown1 hg1))
  go_ret
  have e : (valL bs).length = 1 + n := by simp [valL, hbl]; omega
  exact ⟨g1, c1, by rw [e]; rfl, HO1.out, HB1.out⟩

set_option maxRecDepth 100000 in
set_option maxHeartbeats 2000000 in
theorem refPair_any (a : Option Addr) (n cap : Nat) (bs : List Int) (a2 : Option Addr) (n2 cap2 : Nat) (ds : List Int) (w : World) (hin : InBytes w a n cap bs) (hn : n ≤ 140737488351232) (hin2 : InBytes w a2 n2 cap2 ds) (hn2 : n2 ≤ 32) :
    Calls Tryd.prog 70 #[.slice a n cap, .slice a2 n2 cap2] w (OwnPost w (pairL bs ds)) := by
  obtain ⟨i0, hi0, hz0, hz1, hz2⟩ := info_parts infoU8
  have hbl := hin.len
  have hbl2 := hin2.len
  have h8 := bytL_bytes hin.bytes (by omega)
  have h9 := numL_le (v := n) (by omega)
  have hlen : (bytL bs).length = (numL n).length + n := by unfold bytL; rw [List.length_append, hbl]
  have HIN := Lib.hid hin
  have HIN2 := Lib.hid hin2
  have H8 := Lib.hid h8
  obtain ⟨bl, hble⟩ : ∃ bl, bl = (bytL bs).length := ⟨_, rfl⟩
  have HBL := Lib.hid hble
  have hbl3 : bl ≤ n + 9 := by omega
  clear hin hin2 h8 hble hlen h9
  go_enter Tryd.func70, Tryd.ntmps70
  go_wp2_with (first
    | (go_at_call 84
       (with_reducible refine (refBytes_any a n cap bs _ ?_ hn).mono ?_)
       · exact HIN.out.below ((Below.refl _ _).alloc (Nat.le_refl _) _)
       rintro _ w1 ⟨g1, c1, rfl, ho1, hb1⟩
       rw [← HBL.out] at ho1 ⊢
       have HI1 := Lib.hid (InBytes.of_own ho1 H8.out)
       have HO0 := Lib.hid (own_below (own_new w 5 .u8 [1] w.heap.size (Nat.le_refl _) (by simp [maxLen])) hb1 (by simp))
       have HB1 : Hid (Below w.heap.size w w1) := Lib.hid ((((Below.refl w.heap.size w).alloc (Nat.le_refl _) _)).trans (hb1.mono (by simp)))
       clear ho1 hb1)
    | (at_builtin
       refine wpList_append_bytes' _ rfl (.tmp 6) (.tmp 8) 22 rfl w.heap.size 5 i0 _ 1 Tryd.underlying22 hi0 hz0 hz1 hz2 rfl w.heap.size 1 1 [.int .u8 1] rfl HO0.out (some ⟨g1, 0, none⟩) bl c1 (bytL bs) rfl HI1.out (by simp only [maxLen]; omega) (by omega) HB1.out.size ?_
       intro g2 c2 w2 hown2 hg2
       have hown2' := own_app (xs := [1]) (ys := bytL bs) hown2 rfl HBL.out
       have e2 : ([1] ++ bytL bs).length = 1 + bl := by rw [List.length_append, ← HBL.out]; rfl
       rw [e2] at hown2'
       have HO2 := Lib.hid hown2'
       have HB2 : Hid (Below w.heap.size w w2) := Lib.hid (below_only HB1.out hg2 HB1.out.size (Nat.le_refl _))
       clear hown2 hg2 hown2' e2)
    | (at_builtin
       refine wpList_append_bytes' _ rfl (.tmp 10) (.tmp 11) 22 rfl w.heap.size 5 i0 _ 1 Tryd.underlying22 hi0 hz0 hz1 hz2 rfl g2 (1 + bl) c2 (([1] ++ bytL bs).map (Value.int .u8)) rfl HO2.out a2 n2 cap2 ds rfl (HIN2.out.below HB2.out) (by simp only [maxLen]; omega) (by omega) HB2.out.size ?_
       intro g3 c3 w3 hown3 hg3
       have HO3 := Lib.hid (own_app (xs := [1] ++ bytL bs) (ys := ds) hown3 (by rw [List.length_append, ← HBL.out]; rfl) hbl2.symm)
       have HB3 : Hid (Below w.heap.size w w3) := Lib.hid (below_only HB2.out hg3 HB2.out.size (HO2.out.lt g2 rfl).1)
       clear hown3 hg3))
  go_ret
  have e : pairL bs ds = [1] ++ bytL bs ++ ds := by unfold pairL; simp
  have e2 : (pairL bs ds).length = 1 + bl + n2 := by rw [e, List.length_append, List.length_append, ← HBL.out, hbl2]; rfl
  refine ⟨g3, c3, by rw [e2]; rfl, ?_, HB3.out⟩
  rw [e]
  exact HO3.out

set_option maxRecDepth 100000 in
set_option maxHeartbeats 2000000 in
theorem refNodeB_any (a : Option Addr) (n cap : Nat) (ls : List Int) (a2 : Option Addr) (n2 cap2 : Nat) (ps : List Int) (a3 : Option Addr) (n3 cap3 : Nat) (rs : List Int) (w : World)
    (hin : InBytes w a n cap ls) (hn : n ≤ 32) (hin2 : InBytes w a2 n2 cap2 ps) (hn2 : n2 ≤ 32) (hin3 : InBytes w a3 n3 cap3 rs) (hn3 : n3 ≤ 32) :
    Calls Tryd.prog 71 #[.slice a n cap, .slice a2 n2 cap2, .slice a3 n3 cap3] w (OwnPost w (nodeL ls ps rs)) := by
  obtain ⟨i0, hi0, hz0, hz1, hz2⟩ := info_parts infoU8
  have hl1 := hin.len
  have hl2 := hin2.len
  have hl3 := hin3.len
  have HIN := Lib.hid hin
  have HIN2 := Lib.hid hin2
  have HIN3 := Lib.hid hin3
  clear hin hin2 hin3
  go_enter Tryd.func71, Tryd.ntmps71
  go_wp2_with (first
    | (at_builtin
       refine wpList_append_bytes' _ rfl (.tmp 8) (.tmp 9) 22 rfl w.heap.size 5 i0 _ 1 Tryd.underlying22 hi0 hz0 hz1 hz2 rfl w.heap.size 1 1 [.int .u8 2] rfl (own_new w 5 .u8 [2] w.heap.size (Nat.le_refl _) (by simp [maxLen])) a n cap ls rfl (HIN.out.below ((Below.refl _ _).alloc (Nat.le_refl _) _)) (by simp only [maxLen]; omega) (by omega) (by simp) ?_
       intro g1 c1 w1 hown1 hg1
       have hown1' := own_app (xs := [2]) (ys := ls) hown1 rfl hl1.symm
       have e1 : ([2] ++ ls).length = 1 + n := by rw [List.length_append, hl1]; rfl
       rw [e1] at hown1'
       have HO1 := Lib.hid hown1'
       have HB1 : Hid (Below w.heap.size w w1) := Lib.hid (below_only ((Below.refl _ _).alloc (Nat.le_refl _) _) hg1 (by simp) (Nat.le_refl _))
       clear hown1 hg1 hown1' e1)
    | (at_builtin
       refine wpList_append_bytes' _ rfl (.tmp 11) (.tmp 12) 22 rfl w.heap.size 5 i0 _ 1 Tryd.underlying22 hi0 hz0 hz1 hz2 rfl g1 (1 + n) c1 (([2] ++ ls).map (Value.int .u8)) rfl HO1.out a2 n2 cap2 ps rfl (HIN2.out.below HB1.out) (by simp only [maxLen]; omega) (by omega) HB1.out.size ?_
       intro g2 c2 w2 hown2 hg2
       have hown2' := own_app (xs := [2] ++ ls) (ys := ps) hown2 (by rw [List.length_append, hl1]; rfl) hl2.symm
       have e2 : ([2] ++ ls ++ ps).length = 1 + n + n2 := by rw [List.length_append, List.length_append, hl1, hl2]; rfl
       rw [e2] at hown2'
       have HO2 := Lib.hid hown2'
       have HB2 : Hid (Below w.heap.size w w2) := Lib.hid (below_only HB1.out hg2 HB1.out.size (HO1.out.lt g1 rfl).1)
       clear hown2 hg2 hown2' e2)
    | (at_builtin
       refine wpList_append_bytes' _ rfl (.tmp 14) (.tmp 15) 22 rfl w.heap.size 5 i0 _ 1 Tryd.underlying22 hi0 hz0 hz1 hz2 rfl g2 (1 + n + n2) c2 (([2] ++ ls ++ ps).map (Value.int .u8)) rfl HO2.out a3 n3 cap3 rs rfl (HIN3.out.below HB2.out) (by simp only [maxLen]; omega) (by omega) HB2.out.size ?_
       intro g3 c3 w3 hown3 hg3
       have HO3 := Lib.hid (own_app (xs := [2] ++ ls ++ ps) (ys := rs) hown3 (by rw [List.length_append, List.length_append, hl1, hl2]; rfl) hl3.symm)
       have HB3 : Hid (Below w.heap.size w w3) := Lib.hid (below_only HB2.out hg3 HB2.out.size (HO2.out.lt g2 rfl).1)
       clear hown3 hg3))
  go_ret
  have e : nodeL ls ps rs = [2] ++ ls ++ ps ++ rs := by unfold nodeL; simp
  have e2 : (nodeL ls ps rs).length = 1 + n + n2 + n3 := by rw [e, List.length_append, List.length_append, List.length_append, hl1, hl2, hl3]; rfl
  refine ⟨g3, c3, by rw [e2]; rfl, ?_, HB3.out⟩
  rw [e]
  exact HO3.out
end Go.Proofs.YtkfjhegehhahcaaDoor

/- The first 64 primes, as the document seeks them. No program is named here. The roots of the primes 0 to 15, reckoned: they are the constants. No program is named here. The roots of the primes 16 to 31, reckoned: they are the constants. No program is named here. The roots of the primes 32 to 47, reckoned: they are the constants. No program is named here. The roots of the primes 48 to 63, reckoned: they are the constants. No program is named here. All the roots. No program is named here. The contract of the document's times. The contract of the document's below. The contract of the document's root. The contract of the document's Made: the tables. -/
/- The first 64 primes, as the document seeks them. No program is named here. -/
namespace Go.Proofs.YtkfjhegehhahcaaDoor
set_option linter.unusedVariables false
set_option maxRecDepth 100000

def allNe (k : Int) (l : List Int) : Nat → Bool
  | 0 => true
  | i + 1 => allNe k l i && (k % l.getD i 0 != 0)
/-- What was found when the numbers up to n + 1 were tried. -/
def sieve : Nat → List Int
  | 0 => []
  | n + 1 => match sieve n with
    | l => if allNe (n + 2 : Nat) l l.length then l ++ [((n + 2 : Nat) : Int)] else l
def primes : List Int := [2, 3, 5, 7, 11, 13, 17, 19, 23, 29, 31, 37, 41, 43, 47, 53, 59, 61, 67, 71, 73, 79, 83, 89, 97, 101, 103, 107, 109, 113, 127, 131, 137, 139, 149, 151, 157, 163, 167, 173, 179, 181, 191, 193, 197, 199, 211, 223, 227, 229, 233, 239, 241, 251, 257, 263, 269, 271, 277, 281, 283, 293, 307, 311]
theorem sieve_all : sieve 310 = primes := by decide +kernel
theorem sieve_short : ∀ n, n < 310 → (sieve n).length < 64 := by
  have h : (List.range 310).all (fun n => decide ((sieve n).length < 64)) = true := by decide +kernel
  intro n hn
  have := List.all_eq_true.1 h n (List.mem_range.2 hn)
  exact of_decide_eq_true this
theorem sieve_ok : ∀ n, n ≤ 310 → ∀ z ∈ sieve n, 2 ≤ z ∧ z ≤ 1000 := by
  have h : (List.range 311).all (fun n => (sieve n).all (fun z => decide (2 ≤ z ∧ z ≤ 1000))) = true := by decide +kernel
  intro n hn z hz
  have h1 := List.all_eq_true.1 h n (List.mem_range.2 (by omega))
  have h2 := List.all_eq_true.1 h1 z hz
  exact of_decide_eq_true h2
theorem sieve_next (n : Nat) : sieve (n + 1) = if allNe (n + 2 : Nat) (sieve n) (sieve n).length then sieve n ++ [((n + 2 : Nat) : Int)] else sieve n := rfl
end Go.Proofs.YtkfjhegehhahcaaDoor

/- The roots of the primes 0 to 15, reckoned: they are the constants. No program is named here. -/
namespace Go.Proofs.YtkfjhegehhahcaaDoor
set_option maxRecDepth 100000
theorem kroot0 : rootL 2 true = kTab.getD 0 0 := by decide +kernel
theorem kroot1 : rootL 3 true = kTab.getD 1 0 := by decide +kernel
theorem kroot2 : rootL 5 true = kTab.getD 2 0 := by decide +kernel
theorem kroot3 : rootL 7 true = kTab.getD 3 0 := by decide +kernel
theorem kroot4 : rootL 11 true = kTab.getD 4 0 := by decide +kernel
theorem kroot5 : rootL 13 true = kTab.getD 5 0 := by decide +kernel
theorem kroot6 : rootL 17 true = kTab.getD 6 0 := by decide +kernel
theorem kroot7 : rootL 19 true = kTab.getD 7 0 := by decide +kernel
theorem kroot8 : rootL 23 true = kTab.getD 8 0 := by decide +kernel
theorem kroot9 : rootL 29 true = kTab.getD 9 0 := by decide +kernel
theorem kroot10 : rootL 31 true = kTab.getD 10 0 := by decide +kernel
theorem kroot11 : rootL 37 true = kTab.getD 11 0 := by decide +kernel
theorem kroot12 : rootL 41 true = kTab.getD 12 0 := by decide +kernel
theorem kroot13 : rootL 43 true = kTab.getD 13 0 := by decide +kernel
theorem kroot14 : rootL 47 true = kTab.getD 14 0 := by decide +kernel
theorem kroot15 : rootL 53 true = kTab.getD 15 0 := by decide +kernel
theorem hroot0 : rootL 2 false = hTab.getD 0 0 := by decide +kernel
theorem hroot1 : rootL 3 false = hTab.getD 1 0 := by decide +kernel
theorem hroot2 : rootL 5 false = hTab.getD 2 0 := by decide +kernel
theorem hroot3 : rootL 7 false = hTab.getD 3 0 := by decide +kernel
theorem hroot4 : rootL 11 false = hTab.getD 4 0 := by decide +kernel
theorem hroot5 : rootL 13 false = hTab.getD 5 0 := by decide +kernel
theorem hroot6 : rootL 17 false = hTab.getD 6 0 := by decide +kernel
theorem hroot7 : rootL 19 false = hTab.getD 7 0 := by decide +kernel
end Go.Proofs.YtkfjhegehhahcaaDoor

/- The roots of the primes 16 to 31, reckoned: they are the constants. No program is named here. -/
namespace Go.Proofs.YtkfjhegehhahcaaDoor
set_option maxRecDepth 100000
theorem kroot16 : rootL 59 true = kTab.getD 16 0 := by decide +kernel
theorem kroot17 : rootL 61 true = kTab.getD 17 0 := by decide +kernel
theorem kroot18 : rootL 67 true = kTab.getD 18 0 := by decide +kernel
theorem kroot19 : rootL 71 true = kTab.getD 19 0 := by decide +kernel
theorem kroot20 : rootL 73 true = kTab.getD 20 0 := by decide +kernel
theorem kroot21 : rootL 79 true = kTab.getD 21 0 := by decide +kernel
theorem kroot22 : rootL 83 true = kTab.getD 22 0 := by decide +kernel
theorem kroot23 : rootL 89 true = kTab.getD 23 0 := by decide +kernel
theorem kroot24 : rootL 97 true = kTab.getD 24 0 := by decide +kernel
theorem kroot25 : rootL 101 true = kTab.getD 25 0 := by decide +kernel
theorem kroot26 : rootL 103 true = kTab.getD 26 0 := by decide +kernel
theorem kroot27 : rootL 107 true = kTab.getD 27 0 := by decide +kernel
theorem kroot28 : rootL 109 true = kTab.getD 28 0 := by decide +kernel
theorem kroot29 : rootL 113 true = kTab.getD 29 0 := by decide +kernel
theorem kroot30 : rootL 127 true = kTab.getD 30 0 := by decide +kernel
theorem kroot31 : rootL 131 true = kTab.getD 31 0 := by decide +kernel
end Go.Proofs.YtkfjhegehhahcaaDoor

/- The roots of the primes 32 to 47, reckoned: they are the constants. No program is named here. -/
namespace Go.Proofs.YtkfjhegehhahcaaDoor
set_option maxRecDepth 100000
theorem kroot32 : rootL 137 true = kTab.getD 32 0 := by decide +kernel
theorem kroot33 : rootL 139 true = kTab.getD 33 0 := by decide +kernel
theorem kroot34 : rootL 149 true = kTab.getD 34 0 := by decide +kernel
theorem kroot35 : rootL 151 true = kTab.getD 35 0 := by decide +kernel
theorem kroot36 : rootL 157 true = kTab.getD 36 0 := by decide +kernel
theorem kroot37 : rootL 163 true = kTab.getD 37 0 := by decide +kernel
theorem kroot38 : rootL 167 true = kTab.getD 38 0 := by decide +kernel
theorem kroot39 : rootL 173 true = kTab.getD 39 0 := by decide +kernel
theorem kroot40 : rootL 179 true = kTab.getD 40 0 := by decide +kernel
theorem kroot41 : rootL 181 true = kTab.getD 41 0 := by decide +kernel
theorem kroot42 : rootL 191 true = kTab.getD 42 0 := by decide +kernel
theorem kroot43 : rootL 193 true = kTab.getD 43 0 := by decide +kernel
theorem kroot44 : rootL 197 true = kTab.getD 44 0 := by decide +kernel
theorem kroot45 : rootL 199 true = kTab.getD 45 0 := by decide +kernel
theorem kroot46 : rootL 211 true = kTab.getD 46 0 := by decide +kernel
theorem kroot47 : rootL 223 true = kTab.getD 47 0 := by decide +kernel
end Go.Proofs.YtkfjhegehhahcaaDoor

/- The roots of the primes 48 to 63, reckoned: they are the constants. No program is named here. -/
namespace Go.Proofs.YtkfjhegehhahcaaDoor
set_option maxRecDepth 100000
theorem kroot48 : rootL 227 true = kTab.getD 48 0 := by decide +kernel
theorem kroot49 : rootL 229 true = kTab.getD 49 0 := by decide +kernel
theorem kroot50 : rootL 233 true = kTab.getD 50 0 := by decide +kernel
theorem kroot51 : rootL 239 true = kTab.getD 51 0 := by decide +kernel
theorem kroot52 : rootL 241 true = kTab.getD 52 0 := by decide +kernel
theorem kroot53 : rootL 251 true = kTab.getD 53 0 := by decide +kernel
theorem kroot54 : rootL 257 true = kTab.getD 54 0 := by decide +kernel
theorem kroot55 : rootL 263 true = kTab.getD 55 0 := by decide +kernel
theorem kroot56 : rootL 269 true = kTab.getD 56 0 := by decide +kernel
theorem kroot57 : rootL 271 true = kTab.getD 57 0 := by decide +kernel
theorem kroot58 : rootL 277 true = kTab.getD 58 0 := by decide +kernel
theorem kroot59 : rootL 281 true = kTab.getD 59 0 := by decide +kernel
theorem kroot60 : rootL 283 true = kTab.getD 60 0 := by decide +kernel
theorem kroot61 : rootL 293 true = kTab.getD 61 0 := by decide +kernel
theorem kroot62 : rootL 307 true = kTab.getD 62 0 := by decide +kernel
theorem kroot63 : rootL 311 true = kTab.getD 63 0 := by decide +kernel
end Go.Proofs.YtkfjhegehhahcaaDoor

/- All the roots. No program is named here. -/
namespace Go.Proofs.YtkfjhegehhahcaaDoor
set_option maxRecDepth 100000
theorem kroots (i : Nat) (h : i < 64) : rootL (primes.getD i 0) true = kTab.getD i 0 := by
  match i, h with
  | 0, _ => exact kroot0
  | 1, _ => exact kroot1
  | 2, _ => exact kroot2
  | 3, _ => exact kroot3
  | 4, _ => exact kroot4
  | 5, _ => exact kroot5
  | 6, _ => exact kroot6
  | 7, _ => exact kroot7
  | 8, _ => exact kroot8
  | 9, _ => exact kroot9
  | 10, _ => exact kroot10
  | 11, _ => exact kroot11
  | 12, _ => exact kroot12
  | 13, _ => exact kroot13
  | 14, _ => exact kroot14
  | 15, _ => exact kroot15
  | 16, _ => exact kroot16
  | 17, _ => exact kroot17
  | 18, _ => exact kroot18
  | 19, _ => exact kroot19
  | 20, _ => exact kroot20
  | 21, _ => exact kroot21
  | 22, _ => exact kroot22
  | 23, _ => exact kroot23
  | 24, _ => exact kroot24
  | 25, _ => exact kroot25
  | 26, _ => exact kroot26
  | 27, _ => exact kroot27
  | 28, _ => exact kroot28
  | 29, _ => exact kroot29
  | 30, _ => exact kroot30
  | 31, _ => exact kroot31
  | 32, _ => exact kroot32
  | 33, _ => exact kroot33
  | 34, _ => exact kroot34
  | 35, _ => exact kroot35
  | 36, _ => exact kroot36
  | 37, _ => exact kroot37
  | 38, _ => exact kroot38
  | 39, _ => exact kroot39
  | 40, _ => exact kroot40
  | 41, _ => exact kroot41
  | 42, _ => exact kroot42
  | 43, _ => exact kroot43
  | 44, _ => exact kroot44
  | 45, _ => exact kroot45
  | 46, _ => exact kroot46
  | 47, _ => exact kroot47
  | 48, _ => exact kroot48
  | 49, _ => exact kroot49
  | 50, _ => exact kroot50
  | 51, _ => exact kroot51
  | 52, _ => exact kroot52
  | 53, _ => exact kroot53
  | 54, _ => exact kroot54
  | 55, _ => exact kroot55
  | 56, _ => exact kroot56
  | 57, _ => exact kroot57
  | 58, _ => exact kroot58
  | 59, _ => exact kroot59
  | 60, _ => exact kroot60
  | 61, _ => exact kroot61
  | 62, _ => exact kroot62
  | 63, _ => exact kroot63
  | n + 64, h => omega
theorem hroots (i : Nat) (h : i < 8) : rootL (primes.getD i 0) false = hTab.getD i 0 := by
  match i, h with
  | 0, _ => exact hroot0
  | 1, _ => exact hroot1
  | 2, _ => exact hroot2
  | 3, _ => exact hroot3
  | 4, _ => exact hroot4
  | 5, _ => exact hroot5
  | 6, _ => exact hroot6
  | 7, _ => exact hroot7
  | n + 8, h => omega
end Go.Proofs.YtkfjhegehhahcaaDoor

/- The contract of the document's times. -/
namespace Go.Proofs.YtkfjhegehhahcaaDoor
open Go.RowKit
set_option linter.unusedVariables false

def U64s (l : List Int) : Prop := ∀ z ∈ l, 0 ≤ z ∧ z ≤ 18446744073709551615
theorem u64_at {l : List Int} (h : U64s l) (i : Nat) : 0 ≤ l.getD i 0 ∧ l.getD i 0 ≤ 18446744073709551615 := by
  by_cases hi : i < l.length
  · have := h l[i] (List.getElem_mem hi)
    simpa [List.getD, hi] using this
  · simp [List.getD, List.getElem?_eq_none (by omega : l.length ≤ i)]
theorem u64_set {l : List Int} (h : U64s l) (i : Nat) (z : Int) (h0 : 0 ≤ z) (h1 : z ≤ 18446744073709551615) : U64s (l.set i z) := by
  intro y hy
  rcases List.mem_or_eq_of_mem_set hy with hm | rfl
  · exact h y hm
  · exact ⟨h0, h1⟩
theorem u64_rep (n : Nat) : U64s (List.replicate n 0) := by
  intro z hz
  rw [List.mem_replicate] at hz
  omega
theorem mulCol_length (out : List Int) (x : Int) (b : List Int) (i : Nat) : ∀ k, (mulCol out x b i k).length = out.length
  | 0 => rfl
  | k + 1 => by simp [mulCol, mulCol_length out x b i k]
theorem mulRow_length (a b : List Int) : ∀ i, (mulRow a b i).length = a.length + b.length + 1
  | 0 => by simp [mulRow]
  | i + 1 => by rw [mulRow, mulCol_length, mulRow_length a b i]
theorem carry_length (o : List Int) : ∀ i, (carry o i).length = o.length
  | 0 => rfl
  | i + 1 => by simp [carry, carry_length o i]
theorem mulCol_u {out : List Int} (h : U64s out) (x : Int) (b : List Int) (i : Nat) : ∀ k, U64s (mulCol out x b i k)
  | 0 => h
  | k + 1 => u64_set (mulCol_u h x b i k) _ _ (by omega) (by omega)
theorem mulRow_u (a b : List Int) : ∀ i, U64s (mulRow a b i)
  | 0 => u64_rep _
  | i + 1 => mulCol_u (mulRow_u a b i) _ _ _ _
theorem carry_u {o : List Int} (h : U64s o) : ∀ i, U64s (carry o i)
  | 0 => h
  | i + 1 => u64_set (u64_set (carry_u h i) _ _ (by omega) (by omega)) _ _ (by omega) (by omega)
theorem timesL_length (a b : List Int) : (timesL a b).length = a.length + b.length + 1 := by rw [timesL, carry_length, mulRow_length]
theorem timesL_u (a b : List Int) : U64s (timesL a b) := carry_u (mulRow_u a b _) _

theorem wrap_mul_add (x t : Int) : IntKind.u64.wrap (x + IntKind.u64.wrap t) = (x + t) % 18446744073709551616 := by
  simp only [IntKind.wrap_u64]
  omega
theorem wrap_add64 (x : Int) : IntKind.u64.wrap x = x % 18446744073709551616 := IntKind.wrap_u64 x
theorem infoU64 : (Tryd.prog.info? 66).map (fun i => (i.zero, i.size, i.bytes)) = some (some (.int .u64 0), 1, 8) := by kernel_rfl

def TimesPost (w : World) (a b : List Int) (e : Ending) (w' : World) : Prop :=
  e = .returned (.slice (some ⟨w.heap.size, 0, none⟩) (a.length + b.length + 1) (a.length + b.length + 1)) ∧ Row .u64 w' 66 w.heap.size (timesL a b) ∧ Below w.heap.size w w' ∧ w'.heap.size = w.heap.size + 1

set_option maxRecDepth 100000 in
set_option maxHeartbeats 4000000 in
theorem times_any (ga gb na nb ca cb : Nat) (a b : List Int) (w : World) (hna : a.length = na) (hnb : b.length = nb) (ha1 : na ≤ 100) (hb1 : nb ≤ 100) (hua : U64s a) (hub : U64s b) (hsa : Seg .u64 w ga 0 a) (hsb : Seg .u64 w gb 0 b) (hga : ga < w.heap.size) (hgb : gb < w.heap.size) :
    Calls Tryd.prog 72 #[.slice (some ⟨ga, 0, none⟩) na ca, .slice (some ⟨gb, 0, none⟩) nb cb] w (TimesPost w a b) := by
  obtain ⟨i0, hi0, hz0, hz1, hz2⟩ := info_parts infoU64
  have HNA := Lib.hid hna
  have HNB := Lib.hid hnb
  have HUA := Lib.hid hua
  have HUB := Lib.hid hub
  have HSA := Lib.hid hsa
  have HSB := Lib.hid hsb
  clear hna hnb hua hub hsa hsb
  go_enter Tryd.func72, Tryd.ntmps72
  go_wp2_with (first
    | (at_make
       refine wpList_make_ints _ rfl (.tmp 14) (.tmp 14) 65 rfl 66 i0 .u64 Tryd.underlying65 hi0 hz0 hz1 .i64 .i64 _ _ (na + nb + 1) rfl rfl (by push_cast; omega) (by push_cast; omega) (by rw [hz2]; omega) (by simp only [maxLen]; omega) ?_
       intro w1 hr1 hb1 hs1
       have HR1 := Lib.hid hr1
       have HB1 := Lib.hid hb1
       have HS1 := Lib.hid hs1
       clear hr1 hb1 hs1))
  go_loopw [6] (fun i wx => ∃ k : Nat, k ≤ na ∧ i = .int .i64 k ∧ Row .u64 wx 66 w.heap.size (mulRow a b k) ∧ Below w.heap.size w wx ∧ wx.heap.size = w.heap.size + 1) (fun i _ => na - (intOf i).toNat)
  case atStart => exact ⟨0, by omega, rfl, by rw [mulRow, HNA.out, HNB.out]; exact HR1.out, HB1.out, HS1.out⟩
  case round =>
    obtain ⟨i, hi, rfl, hr, hb, hs⟩ := hrel
    have HR := Lib.hid hr
    have HB := Lib.hid hb
    have HS := Lib.hid hs
    clear hr hb hs HR1 HB1 HS1
    by_cases hlt : i < na
    · have hai : ((i : Nat) : Int) < (na : Int) := by omega
      go_wp2_with fail
      go_loopw [7] (fun k wx => ∃ q : Nat, q ≤ nb ∧ k = .int .i64 q ∧ Row .u64 wx 66 w.heap.size (mulCol (mulRow a b i) (a.getD i 0) b i q) ∧ Below w.heap.size w wx ∧ wx.heap.size = w.heap.size + 1) (fun k _ => nb - (intOf k).toNat)
      case atStart => exact ⟨0, by omega, rfl, HR.out, HB.out, HS.out⟩
      case round =>
        obtain ⟨q, hq, rfl, hr, hb, hs⟩ := hrel
        clear HR HB HS
        have HR := Lib.hid hr
        have HB := Lib.hid hb
        have HS := Lib.hid hs
        clear hr hb hs
        by_cases hlt2 : q < nb
        · have hml : (mulCol (mulRow a b i) (a.getD i 0) b i q).length = na + nb + 1 := by rw [mulCol_length, mulRow_length, HNA.out, HNB.out]
          have c1 := HR.out.cellD (i + q) (by rw [hml]; omega)
          have f1 := HR.out.frozen (i + q)
          have c2 := (HSA.out.below HB.out hga).cellD i (by rw [HNA.out]; exact hlt)
          have c3 := (HSB.out.below HB.out hgb).cellD q (by rw [HNB.out]; exact hlt2)
          rw [Nat.zero_add] at c2 c3
          have u1 := u64_at (mulCol_u (mulRow_u a b i) (a.getD i 0) b i q) (i + q)
          have u2 := u64_at HUA.out i
          have u3 := u64_at HUB.out q
          have hst : Row .u64 (wr.setCell ⟨w.heap.size, i + q, none⟩ (.int .u64 (((mulCol (mulRow a b i) (a.getD i 0) b i q).getD (i + q) 0 + a.getD i 0 * b.getD q 0) % 18446744073709551616))) 66 w.heap.size (mulCol (mulRow a b i) (a.getD i 0) b i (q + 1)) := HR.out.set (i + q) _
          generalize (mulCol (mulRow a b i) (a.getD i 0) b i q).getD (i + q) 0 = x at *
          generalize b.getD q 0 = z at *
          generalize hya : a.getD i 0 = y at *
          have HST := Lib.hid hst
          have k1 : IntKind.i64.wrap ((i : Int) + (q : Int)) = (i : Int) + (q : Int) := IntWalk.i64_in _ (by omega)
          have k2 : (0 : Int) ≤ (i : Int) + (q : Int) := by omega
          have k3 : (i : Int) + (q : Int) < ((na + nb + 1 : Nat) : Int) := by omega
          have k4 : ((i : Int) + (q : Int)).toNat = i + q := by omega
          have k5 : (q : Int) < (nb : Int) := by omega
          have k6 : (i : Int) + (q : Int) < (na : Int) + (nb : Int) + 1 := by omega
          have HYA := Lib.hid hya
          clear hst hml hya
          go_wp2_with fail
          go_region
          clear k1 k2 k3 k4 k6 c1 c2 c3 f1
          go_wp2_with fail
          go_roundw
          case rel =>
            refine ⟨q + 1, by omega, by go_num, ?_, (HB.out.setCell (Nat.le_refl _) _).drew, by simpa [World.setCell] using HS.out⟩
            have h := HST.out.drew
            rw [wrap_mul_add]
            exact h
          case measure => simp [intOf]; omega
        · obtain rfl : q = nb := by omega
          have k5 : ¬ (q : Int) < (q : Int) := by omega
          have hnx : mulCol (mulRow a b i) (a.getD i 0) b i q = mulRow a b (i + 1) := by rw [mulRow, HNB.out]
          have hr := HR.out
          rw [hnx] at hr
          have HR' := Lib.hid hr
          clear hr hnx
          go_wp2_with fail
          go_roundw
          case rel => exact ⟨i + 1, by omega, by go_num, HR'.out, HB.out, HS.out⟩
          case measure => simp [intOf]; omega
    · obtain rfl : i = na := by omega
      have hr := HR.out
      have HR' : Hid (Row .u64 wr 66 w.heap.size (carry (mulRow a b i) 0)) := Lib.hid hr
      clear hr
      go_wp2_with fail
      go_loopw [8] (fun k wx => ∃ q : Nat, q ≤ i + nb ∧ k = .int .i64 q ∧ Row .u64 wx 66 w.heap.size (carry (mulRow a b i) q) ∧ Below w.heap.size w wx ∧ wx.heap.size = w.heap.size + 1) (fun k _ => i + nb - (intOf k).toNat)
      case atStart => exact ⟨0, by omega, rfl, HR'.out, HB.out, HS.out⟩
      case round =>
        obtain ⟨q, hq, rfl, hr, hb, hs⟩ := hrel
        clear HR HB HS HR'
        have HR := Lib.hid hr
        have HB := Lib.hid hb
        have HS := Lib.hid hs
        clear hr hb hs
        by_cases hlt2 : q < i + nb
        · have hml : (carry (mulRow a b i) q).length = i + nb + 1 := by rw [carry_length, mulRow_length, HNA.out, HNB.out]
          have c1 := HR.out.cellD (q + 1) (by rw [hml]; omega)
          have c2 := HR.out.cellD q (by rw [hml]; omega)
          have f1 := HR.out.frozen (q + 1)
          have f2 := HR.out.frozen q
          have u1 := u64_at (carry_u (mulRow_u a b i) q) (q + 1)
          have u2 := u64_at (carry_u (mulRow_u a b i) q) q
          have hst : Row .u64 ((wr.setCell ⟨w.heap.size, q + 1, none⟩ (.int .u64 (((carry (mulRow a b i) q).getD (q + 1) 0 + (carry (mulRow a b i) q).getD q 0 / 65536) % 18446744073709551616))).setCell ⟨w.heap.size, q, none⟩ (.int .u64 ((carry (mulRow a b i) q).getD q 0 % 65536))) 66 w.heap.size (carry (mulRow a b i) (q + 1)) := (HR.out.set (q + 1) _).set q _
          generalize (carry (mulRow a b i) q).getD (q + 1) 0 = x at *
          generalize (carry (mulRow a b i) q).getD q 0 = y at *
          have HST := Lib.hid hst
          have k1 : IntKind.i64.wrap ((q : Int) + 1) = (q : Int) + 1 := IntWalk.i64_in _ (by omega)
          have k2 : (0 : Int) ≤ (q : Int) + 1 := by omega
          have k3 : (q : Int) + 1 < ((i + nb + 1 : Nat) : Int) := by omega
          have k4 : ((q : Int) + 1).toNat = q + 1 := by omega
          have k5 : (q : Int) + 1 < (i : Int) + (nb : Int) + 1 := by omega
          have k6 : (q : Int) < (i : Int) + (nb : Int) + 1 := by omega
          have k7 : (q : Int) < (i : Int) + (nb : Int) := by omega
          clear hst hml
          go_wp2_with fail
          go_region
          clear k1 k2 k3 k4 k5 c1 f1
          go_wp2_with fail
          go_roundw
          case rel =>
            refine ⟨q + 1, by omega, by go_num, ?_, ?_, ?_⟩
            · have h := HST.out
              rw [wrap_add64]
              exact h
            · exact ((HB.out.setCell (Nat.le_refl _) _).drew).setCell (Nat.le_refl _) _
            · simpa [World.setCell] using HS.out
          case measure => simp [intOf]; omega
        · obtain rfl : q = i + nb := by omega
          have k7 : ¬ ((i + nb : Nat) : Int) + 1 < (i : Int) + (nb : Int) + 1 := by omega
          have hfin : carry (mulRow a b i) (i + nb) = timesL a b := by rw [timesL, HNA.out, HNB.out]
          have hr := HR.out
          rw [hfin] at hr
          have HR2 := Lib.hid hr
          clear hr hfin
          go_wp2_with fail
          go_ret
          exact ⟨by rw [HNA.out, HNB.out]; rfl, HR2.out, HB.out, HS.out⟩
end Go.Proofs.YtkfjhegehhahcaaDoor

/- The contract of the document's below. -/
namespace Go.Proofs.YtkfjhegehhahcaaDoor
open Go.RowKit
set_option linter.unusedVariables false

theorem digs_u (y : Int) (h0 : 0 ≤ y) (h1 : y ≤ 68719476735) : U64s (digs y) := by
  intro z hz
  simp only [digs, List.mem_cons, List.not_mem_nil, or_false] at hz
  omega
theorem digs_row (w : World) (y : Int) : Row .u64 (w.alloc (.cells #[.int .u64 (y % 65536), .int .u64 (y / 65536 % 65536), .int .u64 (y / 4294967296)] 66)) 66 w.heap.size (digs y) := heap_alloc_new w _

/-- What stands behind the comparison's loop: the same for squares and cubes. -/
theorem cmp_next (z l : List Int) (m : Nat) (h : z.getD m 0 = l.getD m 0) : cmpL z l (m + 1) = cmpL z l m := by
  have : (z.getD m 0 != l.getD m 0) = false := by rw [h]; simp
  simp only [cmpL, this, Bool.false_eq_true, if_false]
theorem cmp_stop (z l : List Int) (m : Nat) (h : z.getD m 0 ≠ l.getD m 0) : cmpL z l (m + 1) = decide (z.getD m 0 < l.getD m 0) := by
  have : (z.getD m 0 != l.getD m 0) = true := by rw [bne_iff_ne]; exact h
  simp only [cmpL, this, if_true]

def BelowPost (w : World) (v : Bool) (e : Ending) (w' : World) : Prop := e = .returned (.bool v) ∧ Below w.heap.size w w'

set_option maxRecDepth 100000 in
set_option maxHeartbeats 2000000 in
theorem below_sq (y p : Int) (w : World) (h0 : 0 ≤ y) (h1 : y ≤ 68719476735) (hp : 0 ≤ p) (hp1 : p ≤ 1000) :
    Calls Tryd.prog 56 #[.int .u64 y, .int .u64 p, .bool false] w (BelowPost w (belowL y p false)) := by
  obtain ⟨i0, hi0, hz0, hz1, hz2⟩ := info_parts infoU64
  have ht : ∀ W, Row .u64 W 66 w.heap.size (digs y) → Calls Tryd.prog 72 #[.slice (some ⟨w.heap.size, 0, none⟩) 3 3, .slice (some ⟨w.heap.size, 0, none⟩) 3 3] W
      (fun e w' => e = .returned (.slice (some ⟨W.heap.size, 0, none⟩) 7 7) ∧ Row .u64 w' 66 W.heap.size (timesL (digs y) (digs y)) ∧ Below W.heap.size W w' ∧ w'.heap.size = W.heap.size + 1) := fun W hW =>
    times_any w.heap.size w.heap.size 3 3 3 3 (digs y) (digs y) W rfl rfl (by omega) (by omega) (digs_u y h0 h1) (digs_u y h0 h1) hW.seg hW.seg hW.lt hW.lt
  have hres : belowL y p false = cmpL (timesL (digs y) (digs y)) ((List.replicate 7 0).set 4 p) 7 := rfl
  have HD := Lib.hid (digs_row w y)
  have hl : (timesL (digs y) (digs y)).length = 7 := by exact timesL_length _ _
  have hu := timesL_u (digs y) (digs y)
  have hll : ((List.replicate 7 (0 : Int)).set 4 p).length = 7 := by simp
  have hlu : U64s ((List.replicate 7 (0 : Int)).set 4 p) := u64_set (u64_rep 7) 4 p hp (by omega)
  have HT := Lib.hid ht
  have HRES := Lib.hid hres
  have HL := Lib.hid hl
  have HU := Lib.hid hu
  have HLL := Lib.hid hll
  have HLU := Lib.hid hlu
  clear ht hres hl hu hll hlu
  go_enter Tryd.func56, Tryd.ntmps56
  go_wp2_with fail
  refine (HT.out _ HD.out).mono ?_
  rintro _ w1 ⟨rfl, hr1, hb1, hs1⟩
  have HD1 : Hid (Row .u64 w1 66 w.heap.size (digs y)) := Lib.hid (HD.out.below hb1 HD.out.lt)
  simp only [World.size_alloc] at hr1
  have HR1 := Lib.hid hr1
  have HB1 : Hid (Below w.heap.size w w1) := Lib.hid (((Below.refl _ _).alloc (Nat.le_refl _) _).trans (hb1.mono (by simp)))
  clear hr1 hb1 hs1
  have hsz : (w.heap.size + 1) < w1.heap.size := HR1.out.lt
  go_wp2_with (first
    | (at_make
       refine wpList_make_ints _ rfl (.tmp 28) (.tmp 28) 65 rfl 66 i0 .u64 Tryd.underlying65 hi0 hz0 hz1 .i64 .i64 7 7 7 rfl rfl rfl rfl (by rw [hz2]; omega) (by simp only [maxLen]; omega) ?_
       intro w3 hr3 hb3 hs3
       obtain ⟨z0, hc3⟩ := hr3.has 4 (by simp)
       have hf3 := hr3.frozen 4
       have HR3 := Lib.hid hr3
       have HB3 := Lib.hid hb3
       clear hr3 hb3 hs3))
  have hz4 : Row .u64 (w3.setCell ⟨w1.heap.size, 4, none⟩ (.int .u64 p)) 66 (w.heap.size + 1) (timesL (digs y) (digs y)) := by
    have h := HR1.out
    
    exact (h.below HB3.out h.lt).far (by have := h.lt; simp; omega) _
  have hl4 : Row .u64 (w3.setCell ⟨w1.heap.size, 4, none⟩ (.int .u64 p)) 66 w1.heap.size ((List.replicate 7 (0 : Int)).set 4 p) := HR3.out.set 4 p
  have hb4 : Below w.heap.size w (w3.setCell ⟨w1.heap.size, 4, none⟩ (.int .u64 p)) := (HB1.out.trans (HB3.out.mono HB1.out.size)).setCell HB1.out.size _
  obtain ⟨w4, hw4⟩ : ∃ w4, w4 = w3.setCell ⟨w1.heap.size, 4, none⟩ (.int .u64 p) := ⟨_, rfl⟩
  rw [← hw4] at hz4 hl4 hb4 ⊢
  have HZ4 := Lib.hid hz4
  have HL4 := Lib.hid hl4
  have HB4 := Lib.hid hb4
  clear hz4 hl4 hb4 hw4 hc3 hf3
  generalize hzz : timesL (digs y) (digs y) = z at *
  generalize hlim : ((List.replicate 7 (0 : Int)).set 4 p) = lim at *
  clear hzz hlim
  go_loopw [11] (fun i wx => ∃ m q : Nat, m ≤ 7 ∧ i = .int .i64 ((m : Int) - 1) ∧ cmpL z lim 7 = cmpL z lim m ∧ wx = w4.drewN q) (fun i _ => (intOf i + 1).toNat)
  case atStart => exact ⟨7, 0, by omega, rfl, rfl, rfl⟩
  case round =>
    obtain ⟨m, q, hm, rfl, hcmp, rfl⟩ := hrel
    have HCMP := Lib.hid hcmp
    clear hcmp
    by_cases hm0 : m = 0
    · subst hm0
      go_wp2_with fail
      go_ret
      refine ⟨?_, below_drewN HB4.out q⟩
      rw [HRES.out, HCMP.out]
      rfl
    · obtain ⟨k, rfl⟩ : ∃ k, m = k + 1 := ⟨m - 1, by omega⟩
      have c1 := HZ4.out.cellD k (by rw [HL.out]; omega)
      have c2 := HL4.out.cellD k (by rw [HLL.out]; omega)
      have u1 := u64_at HU.out k
      have u2 := u64_at HLU.out k
      have hn := cmp_next z lim k
      have hs := cmp_stop z lim k
      rw [show ((k + 1 : Nat) : Int) - 1 = (k : Int) by omega]
      generalize z.getD k 0 = x at *
      generalize lim.getD k 0 = v at *
      have HN := Lib.hid hn
      have HS := Lib.hid hs
      have kb : (k : Int) < 7 := by omega
      clear hn hs
      by_cases hxv : x = v
      · subst hxv
        go_wp2_with fail
        go_quiet (fail)
        go_wp2_with fail
        refine ⟨⟨k, q + nq, by omega, rfl, ?_, rfl⟩, by simp [intOf]⟩
        rw [HCMP.out, HN.out (by trivial)]
      · have hne : (x != v) = true := by rw [bne_iff_ne]; exact hxv
        have HXV := Lib.hid hxv
        clear hxv
        go_wp2_with fail
        go_quiet (fail)
        go_wp2_with fail
        go_quiet (fail)
        go_wp2_with fail
        go_ret
        refine ⟨?_, below_drewN (below_drewN (below_drewN HB4.out _) _) _⟩
        rw [HRES.out, HCMP.out, HS.out HXV.out]
        rfl

set_option maxRecDepth 100000 in
set_option maxHeartbeats 2000000 in
theorem below_cube (y p : Int) (w : World) (h0 : 0 ≤ y) (h1 : y ≤ 68719476735) (hp : 0 ≤ p) (hp1 : p ≤ 1000) :
    Calls Tryd.prog 56 #[.int .u64 y, .int .u64 p, .bool true] w (BelowPost w (belowL y p true)) := by
  obtain ⟨i0, hi0, hz0, hz1, hz2⟩ := info_parts infoU64
  have ht : ∀ W, Row .u64 W 66 w.heap.size (digs y) → Calls Tryd.prog 72 #[.slice (some ⟨w.heap.size, 0, none⟩) 3 3, .slice (some ⟨w.heap.size, 0, none⟩) 3 3] W
      (fun e w' => e = .returned (.slice (some ⟨W.heap.size, 0, none⟩) 7 7) ∧ Row .u64 w' 66 W.heap.size (timesL (digs y) (digs y)) ∧ Below W.heap.size W w' ∧ w'.heap.size = W.heap.size + 1) := fun W hW =>
    times_any w.heap.size w.heap.size 3 3 3 3 (digs y) (digs y) W rfl rfl (by omega) (by omega) (digs_u y h0 h1) (digs_u y h0 h1) hW.seg hW.seg hW.lt hW.lt
  have ht2 : ∀ W g, Row .u64 W 66 w.heap.size (digs y) → Row .u64 W 66 g (timesL (digs y) (digs y)) → Calls Tryd.prog 72 #[.slice (some ⟨g, 0, none⟩) 7 7, .slice (some ⟨w.heap.size, 0, none⟩) 3 3] W
      (fun e w' => e = .returned (.slice (some ⟨W.heap.size, 0, none⟩) 11 11) ∧ Row .u64 w' 66 W.heap.size (timesL (timesL (digs y) (digs y)) (digs y)) ∧ Below W.heap.size W w' ∧ w'.heap.size = W.heap.size + 1) := fun W g hW hg => by
    have h := times_any g w.heap.size 7 3 7 3 (timesL (digs y) (digs y)) (digs y) W (timesL_length _ _) rfl (by omega) (by omega) (timesL_u _ _) (digs_u y h0 h1) hg.seg hW.seg hg.lt hW.lt
    unfold TimesPost at h
    rw [timesL_length] at h
    exact h
  have HT2 := Lib.hid ht2
  have hres : belowL y p true = cmpL (timesL (timesL (digs y) (digs y)) (digs y)) ((List.replicate 11 0).set 6 p) 11 := rfl
  have HD := Lib.hid (digs_row w y)
  have hl : (timesL (timesL (digs y) (digs y)) (digs y)).length = 11 := by rw [timesL_length, timesL_length]; rfl
  have hu := timesL_u (timesL (digs y) (digs y)) (digs y)
  have hll : ((List.replicate 11 (0 : Int)).set 6 p).length = 11 := by simp
  have hlu : U64s ((List.replicate 11 (0 : Int)).set 6 p) := u64_set (u64_rep 11) 6 p hp (by omega)
  have HT := Lib.hid ht
  have HRES := Lib.hid hres
  have HL := Lib.hid hl
  have HU := Lib.hid hu
  have HLL := Lib.hid hll
  have HLU := Lib.hid hlu
  clear ht ht2 hres hl hu hll hlu
  go_enter Tryd.func56, Tryd.ntmps56
  go_wp2_with fail
  refine (HT.out _ HD.out).mono ?_
  rintro _ w1 ⟨rfl, hr1, hb1, hs1⟩
  have HD1 : Hid (Row .u64 w1 66 w.heap.size (digs y)) := Lib.hid (HD.out.below hb1 HD.out.lt)
  simp only [World.size_alloc] at hr1
  have HR1 := Lib.hid hr1
  have HB1 : Hid (Below w.heap.size w w1) := Lib.hid (((Below.refl _ _).alloc (Nat.le_refl _) _).trans (hb1.mono (by simp)))
  clear hr1 hb1 hs1
  go_wp2_with fail
  refine (HT2.out _ _ HD1.out HR1.out).mono ?_
  rintro _ w2 ⟨rfl, hr2, hb2, hs2⟩
  have HR2 := Lib.hid hr2
  have HB2 : Hid (Below w.heap.size w w2) := Lib.hid (HB1.out.trans (hb2.mono HB1.out.size))
  have hsz : w1.heap.size < w2.heap.size := by omega
  clear hr2 hb2 hs2
  go_wp2_with (first
    | (at_make
       refine wpList_make_ints _ rfl (.tmp 28) (.tmp 28) 65 rfl 66 i0 .u64 Tryd.underlying65 hi0 hz0 hz1 .i64 .i64 11 11 11 rfl rfl rfl rfl (by rw [hz2]; omega) (by simp only [maxLen]; omega) ?_
       intro w3 hr3 hb3 hs3
       obtain ⟨z0, hc3⟩ := hr3.has 6 (by simp)
       have hf3 := hr3.frozen 6
       have HR3 := Lib.hid hr3
       have HB3 := Lib.hid hb3
       clear hr3 hb3 hs3))
  have hz4 : Row .u64 (w3.setCell ⟨w2.heap.size, 6, none⟩ (.int .u64 p)) 66 w1.heap.size (timesL (timesL (digs y) (digs y)) (digs y)) := by
    have h := HR2.out
    
    exact (h.below HB3.out h.lt).far (by have := h.lt; simp; omega) _
  have hl4 : Row .u64 (w3.setCell ⟨w2.heap.size, 6, none⟩ (.int .u64 p)) 66 w2.heap.size ((List.replicate 11 (0 : Int)).set 6 p) := HR3.out.set 6 p
  have hb4 : Below w.heap.size w (w3.setCell ⟨w2.heap.size, 6, none⟩ (.int .u64 p)) := (HB2.out.trans (HB3.out.mono HB2.out.size)).setCell HB2.out.size _
  obtain ⟨w4, hw4⟩ : ∃ w4, w4 = w3.setCell ⟨w2.heap.size, 6, none⟩ (.int .u64 p) := ⟨_, rfl⟩
  rw [← hw4] at hz4 hl4 hb4 ⊢
  have HZ4 := Lib.hid hz4
  have HL4 := Lib.hid hl4
  have HB4 := Lib.hid hb4
  clear hz4 hl4 hb4 hw4 hc3 hf3
  generalize hzz : timesL (timesL (digs y) (digs y)) (digs y) = z at *
  generalize hlim : ((List.replicate 11 (0 : Int)).set 6 p) = lim at *
  clear hzz hlim
  go_loopw [11] (fun i wx => ∃ m q : Nat, m ≤ 11 ∧ i = .int .i64 ((m : Int) - 1) ∧ cmpL z lim 11 = cmpL z lim m ∧ wx = w4.drewN q) (fun i _ => (intOf i + 1).toNat)
  case atStart => exact ⟨11, 0, by omega, rfl, rfl, rfl⟩
  case round =>
    obtain ⟨m, q, hm, rfl, hcmp, rfl⟩ := hrel
    have HCMP := Lib.hid hcmp
    clear hcmp
    by_cases hm0 : m = 0
    · subst hm0
      go_wp2_with fail
      go_ret
      refine ⟨?_, below_drewN HB4.out q⟩
      rw [HRES.out, HCMP.out]
      rfl
    · obtain ⟨k, rfl⟩ : ∃ k, m = k + 1 := ⟨m - 1, by omega⟩
      have c1 := HZ4.out.cellD k (by rw [HL.out]; omega)
      have c2 := HL4.out.cellD k (by rw [HLL.out]; omega)
      have u1 := u64_at HU.out k
      have u2 := u64_at HLU.out k
      have hn := cmp_next z lim k
      have hs := cmp_stop z lim k
      rw [show ((k + 1 : Nat) : Int) - 1 = (k : Int) by omega]
      generalize z.getD k 0 = x at *
      generalize lim.getD k 0 = v at *
      have HN := Lib.hid hn
      have HS := Lib.hid hs
      have kb : (k : Int) < 11 := by omega
      clear hn hs
      by_cases hxv : x = v
      · subst hxv
        go_wp2_with fail
        go_quiet (fail)
        go_wp2_with fail
        refine ⟨⟨k, q + nq, by omega, rfl, ?_, rfl⟩, by simp [intOf]⟩
        rw [HCMP.out, HN.out (by trivial)]
      · have hne : (x != v) = true := by rw [bne_iff_ne]; exact hxv
        have HXV := Lib.hid hxv
        clear hxv
        go_wp2_with fail
        go_quiet (fail)
        go_wp2_with fail
        go_quiet (fail)
        go_wp2_with fail
        go_ret
        refine ⟨?_, below_drewN (below_drewN (below_drewN HB4.out _) _) _⟩
        rw [HRES.out, HCMP.out, HS.out HXV.out]
        rfl
end Go.Proofs.YtkfjhegehhahcaaDoor

/- The contract of the document's root. -/
namespace Go.Proofs.YtkfjhegehhahcaaDoor
open Go.RowKit
set_option linter.unusedVariables false

theorem below_any (y p : Int) (cube : Bool) (w : World) (h0 : 0 ≤ y) (h1 : y ≤ 68719476735) (hp : 0 ≤ p) (hp1 : p ≤ 1000) :
    Calls Tryd.prog 56 #[.int .u64 y, .int .u64 p, .bool cube] w (BelowPost w (belowL y p cube)) := by
  cases cube
  · exact below_sq y p w h0 h1 hp hp1
  · exact below_cube y p w h0 h1 hp hp1

/-- The bit of the n-th round; nought behind the last. -/
def bitAt (n : Nat) : Int := if n < 36 then 2 ^ (35 - n) else 0
theorem bitAt_half (n : Nat) (h : n < 36) : bitAt n / 2 = bitAt (n + 1) := by
  unfold bitAt
  rw [if_pos h]
  by_cases h2 : n + 1 < 36
  · rw [if_pos h2, show 35 - n = (35 - (n + 1)) + 1 by omega, Int.pow_succ]
    omega
  · have : n = 35 := by omega
    subst this
    rfl
theorem bitAt_bd (n : Nat) : 0 ≤ bitAt n ∧ bitAt n ≤ 34359738368 := by
  unfold bitAt
  split
  · have h : n = 0 ∨ n = 1 ∨ n = 2 ∨ n = 3 ∨ n = 4 ∨ n = 5 ∨ n = 6 ∨ n = 7 ∨ n = 8 ∨ n = 9 ∨ n = 10 ∨ n = 11 ∨ n = 12 ∨ n = 13 ∨ n = 14 ∨ n = 15 ∨ n = 16 ∨ n = 17 ∨ n = 18 ∨ n = 19 ∨ n = 20 ∨ n = 21 ∨ n = 22 ∨ n = 23 ∨ n = 24 ∨ n = 25 ∨ n = 26 ∨ n = 27 ∨ n = 28 ∨ n = 29 ∨ n = 30 ∨ n = 31 ∨ n = 32 ∨ n = 33 ∨ n = 34 ∨ n = 35 := by omega
    rcases h with rfl | rfl | rfl | rfl | rfl | rfl | rfl | rfl | rfl | rfl | rfl | rfl | rfl | rfl | rfl | rfl | rfl | rfl | rfl | rfl | rfl | rfl | rfl | rfl | rfl | rfl | rfl | rfl | rfl | rfl | rfl | rfl | rfl | rfl | rfl | rfl <;> decide
  · omega
theorem bitAt_pos (n : Nat) (h : n < 36) : 0 < bitAt n := by
  unfold bitAt
  rw [if_pos h]
  exact Int.pow_pos (by omega)
theorem rootAt_bd (p : Int) (cube : Bool) : ∀ n, n ≤ 36 → 0 ≤ rootAt p cube n ∧ rootAt p cube n + 2 ^ (36 - n) ≤ 68719476736
  | 0, _ => by simp [rootAt]
  | n + 1, h => by
    have ih := rootAt_bd p cube n (by omega)
    have hp : (2 : Int) ^ (36 - n) = 2 * 2 ^ (35 - n) := by rw [show 36 - n = (35 - n) + 1 by omega, Int.pow_succ]; omega
    have h0 : (0 : Int) < 2 ^ (35 - n) := Int.pow_pos (by omega)
    rw [hp] at ih
    rw [show 36 - (n + 1) = 35 - n by omega]
    simp only [rootAt]
    split <;> omega
theorem rootAt_next (p : Int) (cube : Bool) (n : Nat) (h : n < 36) : rootAt p cube (n + 1) = if belowL (rootAt p cube n + bitAt n) p cube then rootAt p cube n + bitAt n else rootAt p cube n := by
  have : bitAt n = 2 ^ (35 - n) := by unfold bitAt; rw [if_pos h]
  rw [this]
  rfl
theorem rootAt_y (p : Int) (cube : Bool) (n : Nat) (h : n < 36) : 0 ≤ rootAt p cube n + bitAt n ∧ rootAt p cube n + bitAt n ≤ 68719476735 := by
  have h1 := rootAt_bd p cube n (by omega)
  have hp : (2 : Int) ^ (36 - n) = 2 * 2 ^ (35 - n) := by rw [show 36 - n = (35 - n) + 1 by omega, Int.pow_succ]; omega
  have h0 : (0 : Int) < 2 ^ (35 - n) := Int.pow_pos (by omega)
  have : bitAt n = 2 ^ (35 - n) := by unfold bitAt; rw [if_pos h]
  omega

def RootPost (w : World) (v : Int) (e : Ending) (w' : World) : Prop := e = .returned (.int .u32 v) ∧ Below w.heap.size w w'
set_option maxRecDepth 100000 in
set_option maxHeartbeats 2000000 in
theorem root_any (p : Int) (cube : Bool) (w : World) (hp : 0 ≤ p) (hp1 : p ≤ 1000) :
    Calls Tryd.prog 29 #[.int .u64 p, .bool cube] w (RootPost w (rootL p cube)) := by
  go_enter Tryd.func29, Tryd.ntmps29
  go_wp2_with fail
  go_loopw [5, 6] (fun x b wx => ∃ n : Nat, n ≤ 36 ∧ x = .int .u64 (rootAt p cube n) ∧ b = .int .u64 (bitAt n) ∧ Below w.heap.size w wx) (fun _ b _ => (intOf b).toNat)
  case atStart => exact ⟨0, by omega, rfl, rfl, Below.refl _ _⟩
  case round =>
    obtain ⟨n, hn, rfl, rfl, hb⟩ := hrel
    have HB := Lib.hid hb
    clear hb
    have r1 := rootAt_bd p cube n hn
    have r1' : rootAt p cube n ≤ 68719476736 := by
      have : (0 : Int) < 2 ^ (36 - n) := Int.pow_pos (by omega)
      omega
    have r0 := r1.1
    clear r1
    by_cases hlt : n < 36
    · have ry := rootAt_y p cube n hlt
      have hpos := bitAt_pos n hlt
      have hhalf := bitAt_half n hlt
      have hnext := rootAt_next p cube n hlt
      have bb := bitAt_bd n
      have bb2 := bitAt_bd (n + 1)
      have hc : ∀ W, Calls Tryd.prog 56 #[.int .u64 (rootAt p cube n + bitAt n), .int .u64 p, .bool cube] W (BelowPost W (belowL (rootAt p cube n + bitAt n) p cube)) := fun W => below_any _ p cube W ry.1 ry.2 hp hp1
      generalize belowL (rootAt p cube n + bitAt n) p cube = v at *
      generalize hbn : bitAt n = bt at *
      generalize hrn : rootAt p cube n = rt at *
      have HC := Lib.hid hc
      have HH := Lib.hid hhalf
      have HN := Lib.hid hnext
      clear hc hhalf hnext hbn hrn
      cases v
      · go_wp2_with (first
          | (go_at_call 56
             (with_reducible refine (HC.out _).mono ?_)
             rintro _ w1 ⟨rfl, hb1⟩
             have HB1 := Lib.hid hb1
             clear hb1))
        go_roundw
        case rel => exact ⟨n + 1, by omega, by rw [HN.out]; rfl, by rw [HH.out], HB.out.trans (HB1.out.mono HB.out.size)⟩
        case measure => simp [intOf]; omega
      · go_wp2_with (first
          | (go_at_call 56
             (with_reducible refine (HC.out _).mono ?_)
             rintro _ w1 ⟨rfl, hb1⟩
             have HB1 := Lib.hid hb1
             clear hb1))
        go_roundw
        case rel => exact ⟨n + 1, by omega, by rw [HN.out]; rfl, by rw [HH.out], HB.out.trans (HB1.out.mono HB.out.size)⟩
        case measure => simp [intOf]; omega
    · obtain rfl : n = 36 := by omega
      have hz : bitAt 36 = 0 := rfl
      rw [hz]
      have hfin : rootL p cube = rootAt p cube 36 % 4294967296 := rfl
      generalize rootAt p cube 36 = rt at *
      have HFIN := Lib.hid hfin
      clear hz hfin
      go_wp2_with fail
      go_ret
      exact ⟨by rw [HFIN.out]; rfl, HB.out⟩
end Go.Proofs.YtkfjhegehhahcaaDoor

/- The contract of the document's Made: the tables. -/
namespace Go.Proofs.YtkfjhegehhahcaaDoor
open Go.RowKit
set_option linter.unusedVariables false

/-- Block g holds a Tables: the slice v, the words hs. -/
def TB (w : World) (g : Nat) (v : Value) (hs : List Int) : Prop := w.heap[g]? = some (.cells (v :: hs.map (Value.int .u32)).toArray 42 (0, 0))
section
variable {w w' : World} {g : Nat} {v : Value} {hs : List Int}
theorem TB.lt (h : TB w g v hs) : g < w.heap.size := by
  rcases Nat.lt_or_ge g w.heap.size with hlt | hge
  · exact hlt
  · unfold TB at h; rw [Array.getElem?_eq_none hge] at h; cases h
theorem TB.cell0 (h : TB w g v hs) : w.cell? ⟨g, 0, none⟩ = some v := by
  rw [cell_of_row w g 0 _ _ (0, 0) h]; simp
theorem TB.cellH (h : TB w g v hs) (i : Nat) (hi : i < hs.length) : w.cell? ⟨g, 1 + i, none⟩ = some (.int .u32 (hs.getD i 0)) := by
  rw [cell_of_row w g (1 + i) _ _ (0, 0) h, Nat.add_comm]
  simp [hi, List.getD]
theorem TB.frozen (h : TB w g v hs) (i : Nat) : w.frozen? ⟨g, i, none⟩ = false := by
  unfold TB at h
  simp [World.frozen?, h]
theorem TB.set0 (h : TB w g v hs) (u : Value) : TB (w.setCell ⟨g, 0, none⟩ u) g u hs := by
  unfold TB at h ⊢
  simp [World.setCell, Array.getElem?_modify, h]
theorem TB.setH (h : TB w g v hs) (i : Nat) (z : Int) : TB (w.setCell ⟨g, 1 + i, none⟩ (.int .u32 z)) g v (hs.set i z) := by
  unfold TB at h ⊢
  rw [Nat.add_comm]
  simp [World.setCell, Array.getElem?_modify, h, List.map_set]
theorem TB.far (h : TB w g v hs) {p : Addr} (hp : g ≠ p.block) (u : Value) : TB (w.setCell p u) g v hs := (Below.heap_setCell w p u g hp).trans h
theorem TB.alloc (h : TB w g v hs) (o : Obj) : TB (w.alloc o) g v hs := (Below.heap_alloc w o g h.lt).trans h
theorem TB.drewN (h : TB w g v hs) (n : Nat) : TB (w.drewN n) g v hs := h
theorem TB.below {B : Nat} (h : TB w g v hs) (hb : Below B w w') (hg : g < B) : TB w' g v hs := (hb.block g hg).trans h
theorem TB.grown {row : Option Nat} (h : TB w g v hs) (hb : w.grownBy w' row) (hg : some g ≠ row) : TB w' g v hs := (hb.block g h.lt hg).trans h
end
/-- The tables as a value: the slice of the constants, and the words at first. -/
def tabV (g c : Nat) : Value := .agg (Value.slice (some ⟨g, 0, none⟩) 64 c :: hTab.map (Value.int .u32)).toArray
theorem sizeTab : (Tryd.prog.info? 42).map (·.size) = some 9 := by kernel_rfl
def MadePost (w : World) (e : Ending) (w' : World) : Prop :=
  ∃ g c, e = .returned (tabV g c) ∧ w'.ownsRow (w.heap.size + 2) 39 1 (.slice (some ⟨g, 0, none⟩) 64 c) 64 (kTab.map (Value.int .u32)) ∧ Below w.heap.size w w'
theorem infoU32m : (Tryd.prog.info? 39).map (fun i => (i.zero, i.size, i.bytes)) = some (some (.int .u32 0), 1, 4) := by kernel_rfl

set_option maxRecDepth 100000 in
set_option maxHeartbeats 4000000 in
theorem made_any (w : World) : Calls Tryd.prog 12 #[] w (MadePost w) := by
  obtain ⟨i0, hi0, hz0, hz1, hz2⟩ := info_parts infoU64
  obtain ⟨j0, hj0, hy0, hy1, hy2⟩ := info_parts infoU32m
  go_enter Tryd.func12, Tryd.ntmps12
  go_wp2_with fail
  go_loopw [2, 3] (fun l k wx => ∃ (n : Nat) (a : Option Addr) (c : Nat), n ≤ 310 ∧ k = .int .u64 ((n + 2 : Nat) : Int) ∧ l = .slice a (sieve n).length c ∧ wx.ownsRow (w.heap.size + 2) 66 1 (.slice a (sieve n).length c) (sieve n).length ((sieve n).map (Value.int .u64)) ∧ TB wx w.heap.size (.slice none 0 0) [0, 0, 0, 0, 0, 0, 0, 0] ∧ TB wx (w.heap.size + 1) (.slice none 0 0) [0, 0, 0, 0, 0, 0, 0, 0] ∧ Below w.heap.size w wx) (fun _ k _ => 312 - (intOf k).toNat)
  case atStart =>
    refine ⟨0, none, 0, by omega, rfl, rfl, World.ownsRow_nil _ _ _ _, ?_, ?_, ((Below.refl _ _).alloc (Nat.le_refl _) _).alloc (by simp) _⟩
    · exact heap_alloc2_old w _ _
    · exact heap_alloc2_new w _ _
  case round =>
    obtain ⟨n, a, c, hn, rfl, rfl, ho, ht0, ht1, hb⟩ := hrel
    have HO := Lib.hid ho
    have HT0 := Lib.hid ht0
    have HT1 := Lib.hid ht1
    have HB := Lib.hid hb
    clear ho ht0 ht1 hb
    by_cases hlt : n < 310
    · have hsh := sieve_short n hlt
      have hnx := sieve_next n
      have hok := sieve_ok n (by omega)
      generalize sieve n = ps at *
      have HNX := Lib.hid hnx
      have HOK := Lib.hid hok
      clear hnx hok
      have hlen2 : ((ps.length : Nat) : Int) < 64 := by omega
      have hkk : (2 : Int) ≤ ((n + 2 : Nat) : Int) ∧ ((n + 2 : Nat) : Int) ≤ 312 := by omega
      generalize hkn : ((n + 2 : Nat) : Int) = k at *
      have HKN := Lib.hid hkn
      clear hkn
      go_wp2_with fail
      go_loop [4, 5] (fun ok i => ∃ j : Nat, j ≤ ps.length ∧ i = .int .i64 j ∧ ok = .bool (allNe k ps j)) (fun _ i => ps.length - (intOf i).toNat)
      case atStart => exact ⟨0, by omega, rfl, rfl⟩
      case round =>
        obtain ⟨j, hj, rfl, rfl⟩ := hrel
        by_cases hlt2 : j < ps.length
        · have hjl : (j : Int) < (ps.length : Int) := by omega
          have hq := HOK.out (ps.getD j 0) (by simp [List.getD, hlt2])
          have hform : ∃ g, a = some ⟨g, 0, none⟩ := by
            obtain ⟨g, cap, hv, _, _⟩ := HO.out.form (by omega)
            injection hv with h1
            exact ⟨g, h1⟩
          obtain ⟨g, rfl⟩ := hform
          have hc : wr.cell? ⟨g, j, none⟩ = some (.int .u64 (ps.getD j 0)) := by
            have h := HO.out.cells (g := g) rfl j (.int .u64 (ps.getD j 0)) (by simp [List.getD, hlt2])
            have hp : (⟨g, 0, none⟩ : Addr).add j = ⟨g, j, none⟩ := by unfold Addr.add; split <;> simp_all
            rw [hp] at h
            exact h
          have hst : allNe k ps (j + 1) = (allNe k ps j && (k % ps.getD j 0 != 0)) := rfl
          generalize ps.getD j 0 = q at *
          have HST := Lib.hid hst
          clear hst
          have hq0 : (q == 0) = false := by rw [beq_eq_false_iff_ne]; omega
          cases hb2 : allNe k ps j
          · rw [hb2] at HST
            have HST2 := Lib.hid HST.out
            clear HST
            go_wp2_with fail
            go_round
            case rel => exact ⟨j + 1, by omega, by go_num, by rw [HST2.out]; rfl⟩
            case measure => simp [intOf]; omega
          · rw [hb2] at HST
            have HST2 := Lib.hid HST.out
            clear HST
            go_wp2_with fail
            exact ⟨⟨j + 1, by omega, by go_num, by rw [HST2.out]; rfl⟩, by simp [intOf]; omega⟩
        · obtain rfl : j = ps.length := by omega
          have hkk2 : k + 1 = ((n + 1 + 2 : Nat) : Int) := by rw [← HKN.out]; omega
          have HKK2 := Lib.hid hkk2
          clear hkk2
          cases hb2 : allNe k ps ps.length
          · have hps : sieve (n + 1) = ps := by rw [HNX.out, hb2]; rfl
            have HPS := Lib.hid hps
            clear hps hb2
            go_wp2_with fail
            go_roundw
            case rel =>
              refine ⟨n + 1, a, c, by omega, by rw [← HKK2.out], ?_, ?_, HT0.out, HT1.out, HB.out⟩
              · rw [HPS.out]
              · rw [HPS.out]; exact HO.out
            case measure =>
              have := HKN.out
              simp [intOf]; omega
          · have hps : sieve (n + 1) = ps ++ [k] := by rw [HNX.out, hb2]; rfl
            have HPS := Lib.hid hps
            clear hps hb2
            go_wp2_with (first
              | (at_builtin
                 refine wpList_append_lies _ rfl (.tmp 30) (.tmp 32) 65 rfl (w.heap.size + 2) 66 i0 _ 1 8 Tryd.underlying65 hi0 hz0 hz1 hz2 rfl (by omega) (.slice a ps.length c) ps.length (ps.map (Value.int .u64)) rfl (HO.out.alloc _) ⟨wr.heap.size, 0, none⟩ 1 1 [.int .u64 k] rfl rfl (cell_one_new _ _ _) (by simp [Value.oneCell']) (by omega) (by simp only [maxLen]; omega) (by omega) (by have := HT1.out.lt; simp; omega) (wr.heap.size + 1) (by simp) ?_
                 intro g1 c1 w1 hown1 hg1 hat1 hlt1
                 have HO1 := Lib.hid hown1
                 have HG1 := Lib.hid hg1
                 clear hown1 hg1 hat1 hlt1))
            go_roundw
            case rel =>
              refine ⟨n + 1, some ⟨g1, 0, none⟩, c1, by omega, by rw [← HKK2.out], ?_, ?_, ?_, ?_, ?_⟩
              · rw [HPS.out]; simp
              · rw [HPS.out]
                have h := HO1.out
                rw [show (ps ++ [k]).length = ps.length + 1 by simp, List.map_append]
                exact h
              · exact (HT0.out.alloc _).grown HG1.out (fun e => by have := (HO.out.lt _ e.symm).1; omega)
              · exact (HT1.out.alloc _).grown HG1.out (fun e => by have := (HO.out.lt _ e.symm).1; omega)
              · exact (HB.out.alloc HB.out.size _).grown HG1.out (by have := HB.out.size; simp; omega) (fun q hq => by have := (HO.out.lt q hq).1; omega)
            case measure =>
              have := HKN.out
              simp [intOf]; omega
    · obtain rfl : n = 310 := by omega
      have ho := HO.out
      rw [sieve_all] at ho
      rw [sieve_all, show ((310 + 2 : Nat) : Int) = 312 from rfl]
      have hpl : primes.length = 64 := rfl
      rw [hpl] at ho ⊢
      obtain ⟨gl, cl, hv, hgl, hgl2⟩ := ho.form (by omega)
      rw [hv] at ho ⊢
      clear HO
      have HO := Lib.hid ho
      clear ho hv hpl
      go_wp2_with fail
      go_loopw [6] (fun i wx => ∃ (j : Nat) (v : Value), j ≤ 64 ∧ i = .int .i64 j ∧ TB wx (w.heap.size + 1) v [0, 0, 0, 0, 0, 0, 0, 0] ∧ wx.ownsRow (w.heap.size + 2) 39 1 v j ((kTab.take j).map (Value.int .u32)) ∧ wx.ownsRow (w.heap.size + 2) 66 1 (.slice (some ⟨gl, 0, none⟩) 64 cl) 64 (primes.map (Value.int .u64)) ∧ TB wx w.heap.size (.slice none 0 0) [0, 0, 0, 0, 0, 0, 0, 0] ∧ Below w.heap.size w wx) (fun i _ => 64 - (intOf i).toNat)
      case atStart => exact ⟨0, .slice none 0 0, by omega, rfl, HT1.out, World.ownsRow_nil _ _ _ _, HO.out, HT0.out, HB.out⟩
      case round =>
        obtain ⟨j, v, hj, rfl, ht1, hov, hol, ht0, hb⟩ := hrel
        clear HO HT0 HT1 HB
        have HT1 := Lib.hid ht1
        have HOV := Lib.hid hov
        have HOL := Lib.hid hol
        have HT0 := Lib.hid ht0
        have HB := Lib.hid hb
        clear ht1 hov hol ht0 hb
        by_cases hlt2 : j < 64
        · have c0 := HT1.out.cell0
          have cj : wr.cell? ⟨gl, j, none⟩ = some (.int .u64 (primes.getD j 0)) := by
            have h := HOL.out.cells (g := gl) rfl j (.int .u64 (primes.getD j 0)) (by simp [List.getD, show j < primes.length from hlt2])
            have hp : (⟨gl, 0, none⟩ : Addr).add j = ⟨gl, j, none⟩ := by unfold Addr.add; split <;> simp_all
            rw [hp] at h
            exact h
          have hpr : 0 ≤ primes.getD j 0 ∧ primes.getD j 0 ≤ 1000 := by
            have h := sieve_ok 310 (by omega) (primes.getD j 0) (by rw [sieve_all]; simp [List.getD, show j < primes.length from hlt2])
            omega
          have hroot : ∀ W, Calls Tryd.prog 29 #[.int .u64 (primes.getD j 0), .bool true] W (RootPost W (kTab.getD j 0)) := fun W => by
            rw [← kroots j hlt2]
            exact root_any _ true W hpr.1 hpr.2
          have htk : kTab.take (j + 1) = kTab.take j ++ [kTab.getD j 0] := by
            rw [List.take_succ_eq_append_getElem (show j < kTab.length from hlt2)]
            simp [List.getD, show j < kTab.length from hlt2]
          generalize primes.getD j 0 = pj at *
          generalize kTab.getD j 0 = kj at *
          have HROOT := Lib.hid hroot
          have HTK := Lib.hid htk
          have kT : w.heap.size + 1 < wr.heap.size := HT1.out.lt
          have kL : gl < wr.heap.size := (HOL.out.lt gl rfl).2
          have jb : (j : Int) < 64 := by omega
          clear hroot htk hpr
          go_wp2_with fail
          go_region_law (first
            | (refine step_append_lies _ (by rfl) (.tmp 39) (.tmp 45) 38 (by rfl) (w.heap.size + 2) 39 j0 _ 1 4 Tryd.underlying38 hj0 hy0 hy1 hy2 rfl (by omega) v j ((kTab.take j).map (Value.int .u32)) (by rfl) (HV2.out.alloc _) ⟨w2.heap.size, 0, none⟩ 1 1 [.int .u32 kj] (by rfl) (by rfl) (cell_one_new w2 _ _) (by simp [Value.oneCell']) (by omega) (by simp only [maxLen]; omega) (by omega) (by have := HT2.out.lt; simp; omega) (w2.heap.size + 1) (by simp) ?_; intro g5 cap5 w5 hown5 hg5 hat5 hlt5; have HO5 := Lib.hid hown5; have HT5 := Lib.hid ((HT2.out.alloc (.cells #[.int .u32 kj] 39)).grown hg5 (fun e => by have := (HV2.out.lt _ e.symm).1; omega)); have HZ5 := Lib.hid ((HZ2.out.alloc (.cells #[.int .u32 kj] 39)).grown hg5 (fun e => by have := (HV2.out.lt _ e.symm).1; omega)); have HL5 := Lib.hid ((HL2.out.alloc (.cells #[.int .u32 kj] 39)).kept hg5 (.inr (by have := own_ne HL2.out HV2.out (by decide); exact fun e => this (by rw [← e]; rfl)))); have HB5 := Lib.hid ((HB2.out.alloc HB2.out.size (.cells #[.int .u32 kj] 39)).grown hg5 (by have := HB2.out.size; simp; omega) (fun q hq => by have := (HV2.out.lt q hq).1; omega)); have d0 := HT5.out.cell0; have df := HT5.out.frozen 0; clear hown5 hg5 hat5 hlt5)
            | (go_simp; go_at_call 29; (with_reducible refine (HROOT.out _).mono ?_); rintro _ w2 ⟨rfl, hb2⟩; have HT2 : Hid (TB w2 (w.heap.size + 1) v [0, 0, 0, 0, 0, 0, 0, 0]) := Lib.hid (TB.below (w := wr.drew) HT1.out hb2 HT1.out.lt); have HZ2 : Hid (TB w2 w.heap.size (.slice none 0 0) [0, 0, 0, 0, 0, 0, 0, 0]) := Lib.hid (TB.below (w := wr.drew) HT0.out hb2 HT0.out.lt); have HV2 : Hid (w2.ownsRow (w.heap.size + 2) 39 1 v j ((kTab.take j).map (Value.int .u32))) := Lib.hid (World.ownsRow.kept (w := wr.drew) HOV.out (only_below hb2 none) (by cases v.ownBlock <;> simp)); have HL2 : Hid (w2.ownsRow (w.heap.size + 2) 66 1 (.slice (some ⟨gl, 0, none⟩) 64 cl) 64 (primes.map (Value.int .u64))) := Lib.hid (World.ownsRow.kept (w := wr.drew) HOL.out (only_below hb2 none) (.inr (by simp [Value.ownBlock]))); have HB2 : Hid (Below w.heap.size w w2) := Lib.hid (HB.out.drew.trans (hb2.mono HB.out.size)); have e0 := HT2.out.cell0; have kT2 : w.heap.size + 1 < w2.heap.size := HT2.out.lt; have kT3 : ¬ w.heap.size + 1 = w2.heap.size := (by omega); clear hb2))
          all_goals
            go_wp2_with fail
            go_roundw
            case rel =>
              refine ⟨j + 1, .slice (some ⟨g5, 0, none⟩) (j + 1) cap5, by omega, by go_num, HT5.out.set0 _, ?_, ?_, HZ5.out.far (p := ⟨w.heap.size + 1, 0, none⟩) (by simp) _, HB5.out.setCell (p := ⟨w.heap.size + 1, 0, none⟩) (Nat.le_succ _) _⟩
              · rw [HTK.out, List.map_append]
                exact HO5.out.kept (only_set (only_refl w5 (some (w.heap.size + 1))) 0 _) (.inr (fun e => by have := (HO5.out.lt _ e).1; omega))
              · exact HL5.out.kept (only_set (only_refl w5 (some (w.heap.size + 1))) 0 _) (.inr (fun e => by have := (HL5.out.lt _ e).1; omega))
            case measure => simp [intOf]; omega
        · obtain rfl : j = 64 := by omega
          have hov := HOV.out
          rw [show kTab.take 64 = kTab from rfl] at hov
          obtain ⟨gk, ck, hv, hgk, hgk2⟩ := hov.form (by omega)
          rw [hv] at hov
          have ht1 := HT1.out
          rw [hv] at ht1
          clear HOV HT1
          have HOV := Lib.hid hov
          have HT1 := Lib.hid ht1
          clear hov ht1 hv
          rw [show ((64 : Nat) : Int) = 64 from rfl]
          go_wp2_with fail
          go_loopw [7] (fun i wx => ∃ j : Nat, j ≤ 8 ∧ i = .int .i64 j ∧ TB wx (w.heap.size + 1) (.slice (some ⟨gk, 0, none⟩) 64 ck) (hTab.take j ++ List.replicate (8 - j) 0) ∧ wx.ownsRow (w.heap.size + 2) 39 1 (.slice (some ⟨gk, 0, none⟩) 64 ck) 64 (kTab.map (Value.int .u32)) ∧ wx.ownsRow (w.heap.size + 2) 66 1 (.slice (some ⟨gl, 0, none⟩) 64 cl) 64 (primes.map (Value.int .u64)) ∧ TB wx w.heap.size (.slice none 0 0) [0, 0, 0, 0, 0, 0, 0, 0] ∧ Below w.heap.size w wx) (fun i _ => 8 - (intOf i).toNat)
          case atStart => exact ⟨0, by omega, rfl, HT1.out, HOV.out, HOL.out, HT0.out, HB.out⟩
          case round =>
            obtain ⟨j, hj, rfl, ht1, hov, hol, ht0, hb⟩ := hrel
            clear HOV HOL HT0 HT1 HB
            have HT1 := Lib.hid ht1
            have HOV := Lib.hid hov
            have HOL := Lib.hid hol
            have HT0 := Lib.hid ht0
            have HB := Lib.hid hb
            clear ht1 hov hol ht0 hb
            by_cases hlt2 : j < 8
            · have hjp : j < primes.length := show j < 64 by omega
              have cj : wr.cell? ⟨gl, j, none⟩ = some (.int .u64 (primes.getD j 0)) := by
                have h := HOL.out.cells (g := gl) rfl j (.int .u64 (primes.getD j 0)) (by simp [List.getD, hjp])
                have hp : (⟨gl, 0, none⟩ : Addr).add j = ⟨gl, j, none⟩ := by unfold Addr.add; split <;> simp_all
                rw [hp] at h
                exact h
              have hpr : 0 ≤ primes.getD j 0 ∧ primes.getD j 0 ≤ 1000 := by
                have h := sieve_ok 310 (by omega) (primes.getD j 0) (by rw [sieve_all]; simp [List.getD, hjp])
                omega
              have hroot : ∀ W, Calls Tryd.prog 29 #[.int .u64 (primes.getD j 0), .bool false] W (RootPost W (hTab.getD j 0)) := fun W => by
                rw [← hroots j hlt2]
                exact root_any _ false W hpr.1 hpr.2
              have hjh : j < hTab.length := hlt2
              have hset : (hTab.take j ++ List.replicate (8 - j) 0).set j (hTab.getD j 0) = hTab.take (j + 1) ++ List.replicate (8 - (j + 1)) 0 := by
                have e := set_at (hTab.take j) (7 - j) (hTab.getD j 0)
                have hl : (hTab.take j).length = j := by rw [List.length_take]; exact Nat.min_eq_left (Nat.le_of_lt hjh)
                rw [hl, show 7 - j + 1 = 8 - j by omega] at e
                rw [e, List.take_succ_eq_append_getElem hjh, show 7 - j = 8 - (j + 1) by omega]
                simp [List.getD, hjh]
              have hlen : (hTab.take j ++ List.replicate (8 - j) (0 : Int)).length = 8 := by
                rw [List.length_append, List.length_take, List.length_replicate, show hTab.length = 8 from rfl]
                omega
              generalize primes.getD j 0 = pj at *
              generalize hTab.getD j 0 = kj at *
              have HROOT := Lib.hid hroot
              have HSET := Lib.hid hset
              have HLEN := Lib.hid hlen
              have jb : (j : Int) < 8 := by omega
              have jb2 : (j : Int) < 64 := by omega
              clear hroot hset hpr hlen
              go_wp2_with (first
                | (go_at_call 29
                   (with_reducible refine (HROOT.out _).mono ?_)
                   rintro _ w2 ⟨rfl, hb2⟩
                   have HT2 := Lib.hid (HT1.out.below hb2 HT1.out.lt)
                   have HZ2 := Lib.hid (HT0.out.below hb2 HT0.out.lt)
                   have HV2 := Lib.hid (HOV.out.kept (only_below hb2 none) (.inr (by simp [Value.ownBlock])))
                   have HL2 := Lib.hid (HOL.out.kept (only_below hb2 none) (.inr (by simp [Value.ownBlock])))
                   have HB2 := Lib.hid (HB.out.trans (hb2.mono HB.out.size))
                   have d0 := HT2.out.cellH j (by rw [HLEN.out]; exact hlt2)
                   have df := HT2.out.frozen (1 + j)
                   clear hb2))
              refine ⟨⟨j + 1, by omega, by go_num, ?_, ?_, ?_, ?_, ?_⟩, by simp [intOf]; omega⟩
              · rw [← HSET.out]
                exact HT2.out.setH j kj
              · exact HV2.out.kept (only_set (only_refl w2 (some (w.heap.size + 1))) _ _) (.inr (fun e => by have := (HV2.out.lt _ e).1; omega))
              · exact HL2.out.kept (only_set (only_refl w2 (some (w.heap.size + 1))) _ _) (.inr (fun e => by have := (HL2.out.lt _ e).1; omega))
              · exact HZ2.out.far (p := ⟨w.heap.size + 1, 1 + j, none⟩) (by simp) _
              · exact HB2.out.setCell (p := ⟨w.heap.size + 1, 1 + j, none⟩) (Nat.le_succ _) _
            · obtain rfl : j = 8 := by omega
              have ht1 := HT1.out
              rw [show hTab.take 8 ++ List.replicate (8 - 8) 0 = hTab from rfl] at ht1
              clear HT1
              have HT1 := Lib.hid ht1
              clear ht1
              go_wp2_with (first
                | (refine wpList_load_row rfl 42 (.tmp 1) rfl (w.heap.size + 1) rfl 42 _ (0, 0) _ HT1.out Tryd.underlying42 rfl sizeTab ?_)
                | (refine wpList_store_row rfl 42 (.tmp 0) (.tmp 60) rfl w.heap.size (Value.slice (some ⟨gk, 0, none⟩) 64 ck :: hTab.map (Value.int .u32)).toArray rfl rfl 42 _ HT0.out sizeTab rfl (by simp [Value.oneCell']) ?_))
              have hg9 : wr.grownBy (wr.setRow w.heap.size (Value.slice (some ⟨gk, 0, none⟩) 64 ck :: hTab.map (Value.int .u32)).toArray) (some w.heap.size) := ⟨rfl, rfl, rfl, by simp, fun q hq hne => setRow_other wr w.heap.size q _ (fun e => hne (by rw [e]))⟩
              refine bodyPost_ret (v := tabV gk ck) (results_cell_row Tryd.results12 _ _ w.heap.size 42 _ _ _ rfl (setRow_heap wr w.heap.size _ _ _ _ HT0.out) Tryd.underlying42 rfl sizeTab) rfl ⟨gk, ck, rfl, ?_, ?_⟩
              · exact HOV.out.kept hg9 (.inr (fun e => by have := (HOV.out.lt _ e).1; omega))
              · exact below_only HB.out hg9 HB.out.size (Nat.le_refl _)
end Go.Proofs.YtkfjhegehhahcaaDoor
