/- The contract of the document's insertion into AVL trees. Trees that are balanced, whose keys rise, within their bounds: they stay so. No program is named here. The contract of the document's tree into which pairs were put. Two rows of pairs that hold the same ones. A tree of sixty pairs at most has few parts. The walk of the law CheckHonest. Spans, and lists of pairs, that are arguments. -/
import Derived.Test.YtlbiefddcimdgaaDoorMDG
import Derived.Test.YtlbiefddcimdgaaDoorMAA
import Derived.Test.YtlbiefddcimdgaaDoorMDF
import Derived.Test.YtlbiefddcimdgaaDoorMAB
import Derived.Test.YtlbiefddcimdgaaDoorMAC
/- The contract of the document's insertion into AVL trees. -/
namespace Go.Proofs.YtlbiefddcimdgaaDoor
open Go.RowKit
set_option linter.unusedVariables false

theorem AT.put_mem (key val : List Int) : ∀ (a : AT) (p : KV), p ∈ (a.put key val).pairs → p = (key, val) ∨ p ∈ a.pairs := by
  intro a
  induction a with
  | nil =>
    intro p hp
    simp [AT.put, AT.pairs] at hp
    exact .inl hp
  | node l k v r ihl ihr =>
    intro p hp
    rw [AT.put_node] at hp
    simp only [AT.pairs, List.mem_append, List.mem_cons]
    split at hp
    · simp only [AT.pairs, List.mem_append, List.mem_cons] at hp
      rcases hp with hp | hp | hp
      · exact .inr (.inl hp)
      · exact .inl hp
      · exact .inr (.inr (.inr hp))
    · split at hp
      · rw [AT.level_pairs] at hp
        simp only [AT.pairs, List.mem_append, List.mem_cons] at hp
        rcases hp with hp | hp | hp
        · rcases ihl p hp with q | q
          · exact .inl q
          · exact .inr (.inl q)
        · exact .inr (.inr (.inl hp))
        · exact .inr (.inr (.inr hp))
      · rw [AT.level_pairs] at hp
        simp only [AT.pairs, List.mem_append, List.mem_cons] at hp
        rcases hp with hp | hp | hp
        · exact .inr (.inl hp)
        · exact .inr (.inr (.inl hp))
        · rcases ihr p hp with q | q
          · exact .inl q
          · exact .inr (.inr (.inr q))
theorem AT.put_lim {key val : List Int} (hk : key.length ≤ 80) (hv : val.length ≤ 1024) {a : AT} (h : Lim a.pairs) : Lim (a.put key val).pairs := fun p hp => by
  rcases AT.put_mem key val a p hp with rfl | q
  · exact ⟨hk, hv⟩
  · exact h p q
theorem Lim.mk {l : AT} {k v : List Int} {r : AT} (h1 : Lim l.pairs) (h2 : k.length ≤ 80) (h3 : v.length ≤ 1024) (h4 : Lim r.pairs) : Lim (AT.node l k v r).pairs := fun p hp => by
  simp only [AT.pairs, List.mem_append, List.mem_cons] at hp
  rcases hp with hp | rfl | hp
  · exact h1 p hp
  · exact ⟨h2, h3⟩
  · exact h4 p hp

set_option maxRecDepth 100000 in
set_option maxHeartbeats 4000000 in
theorem refPut_any (key val : List Int) (ka va : Option Addr) (kn kc vn vc : Nat) (hkl : key.length ≤ 80) (hvl : val.length ≤ 1024) : ∀ (a : AT) (h : TH) (w : World), InTree w h a.tr → Lim a.pairs → a.bal → a.depth ≤ 60 → InBytes w ka kn kc key → InBytes w va vn vc val →
    Calls Tryd.prog 49 #[h.v, .slice ka kn kc, .slice va vn vc] w (Tells w (a.put key val)) := by
  intro a
  induction a with
  | nil =>
    intro h w ht _ _ _ hkb hvb
    unfold TH.v
    obtain ⟨H, hp⟩ := ht.parts
    have h0 : ((h.tn : Int) == 0) = true := by have h2 : h.tn = 0 := hp.len.symm; simp [h2]
    obtain ⟨e1, e2, e3, e4⟩ := enter2 w h
    have HK := Lib.hid (And.intro hkb hvb)
    clear hp hkb hvb
    go_enter Tryd.func49, Tryd.ntmps49
    go_upto_region 1 with fail
    generalize ((w.alloc (.cells #[.int .i64 h.k, .slice h.ka h.kn h.kc, .slice h.va h.vn h.vc, .slice h.da h.dn h.dc, .slice h.ta h.tn h.tc] 27)).alloc (.cells #[.int .i64 0, .slice none 0 0, .slice none 0 0, .slice none 0 0, .slice none 0 0] 27)) = w0 at *
    have HX0 : Hid (LX w w0 h AT.nil.tr) := Lib.hid ⟨e1, e2, ht.lower e3, e3⟩
    have x4 := e1.cells.2.2.2.2
    clear e1 e2 e3 e4 ht
    go_wp2_with (first
      | (go_at_call 72
         refine (refNode_any .nil .nil hZ hZ ka va kn kc vn vc key val _ (inTree_nil _) (inTree_nil _) (HK.out.1.below HX0.out.b) (HK.out.2.below HX0.out.b)).mono ?_
         rintro _ w2 ⟨h2, rfl, hi2, hb2⟩
         unfold TH.v
         have HX2 := Lib.hid (HX0.out.below hb2)
         have HI2 := Lib.hid hi2
         clear hi2 hb2)
      | (refine wpList_store_box rfl 27 (.tmp 6) (.tmp 15) rfl (w.heap.size + 1) hZ h2 rfl rfl 27 HX2.out.res infoTree5 ?_
         intro w9 hbx9 hg9
         have HX9 := Lib.hid hbx9
         have HI9 := Lib.hid (AT.outBox HX2.out.res hg9 _ _ HI2.out)
         have HB9 : Hid (Below w.heap.size w w9) := Lib.hid (HX2.out.b.grown hg9 HX2.out.b.size (fun j hj => by injection hj; omega))
         clear hbx9 hg9))
    exact bodyPost_ret (v := h2.v) (result_tree Tryd.results49 _ HX9.out rfl Tryd.underlying27 infoTree5) rfl ⟨_, rfl, HI9.out, HB9.out⟩
  | node l k v r ihl ihr =>
    intro h w ht hlim hbal hd hkb hvb
    unfold TH.v
    obtain ⟨H, hp⟩ := ht.parts
    have l0 : 0 < (AT.node l k v r).tr.kids.length := by rw [AT.tr_kids]; simp
    have l1 : 1 < (AT.node l k v r).tr.kids.length := by rw [AT.tr_kids]; simp
    have ht1 : (1 : Int) < (h.tn : Int) := by have h2 : h.tn = 2 := hp.len.symm; omega
    have ht0 : 0 < h.tn := by omega
    have h0 : ((h.tn : Int) == 0) = false := by rw [beq_eq_false_iff_ne]; omega
    have HP := Lib.hid hp
    have HL := Lib.hid hlim.node
    have HBL : Hid (l.bal ∧ r.bal ∧ l.depth ≤ r.depth + 1 ∧ r.depth ≤ l.depth + 1) := Lib.hid hbal
    have HK := Lib.hid (And.intro hkb hvb)
    have IHL := Lib.hid ihl
    have IHR := Lib.hid ihr
    have HPN := Lib.hid (AT.put_node key val l k v r)
    obtain ⟨g, off, hta, -, -⟩ := hp.place (by omega)
    have HTA := Lib.hid hta
    obtain ⟨e1, e2, e3, e4⟩ := enter2 w h
    have HKB := Lib.hid (And.intro hkb.bytes hp.key.bytes)
    clear hp hta hlim hbal hkb hvb ihl ihr
    go_enter Tryd.func49, Tryd.ntmps49
    go_upto_region 1 with fail
    generalize ((w.alloc (.cells #[.int .i64 h.k, .slice h.ka h.kn h.kc, .slice h.va h.vn h.vc, .slice h.da h.dn h.dc, .slice h.ta h.tn h.tc] 27)).alloc (.cells #[.int .i64 0, .slice none 0 0, .slice none 0 0, .slice none 0 0, .slice none 0 0] 27)) = w0 at *
    have HX0 : Hid (LX w w0 h (AT.node l k v r).tr) := Lib.hid ⟨e1, e2, ht.lower e3, e3⟩
    obtain ⟨x0, x1, x2, x3, x4⟩ := e1.cells
    have cv1 := conv_key (HK.out.1.below e3)
    have cv2 : (convert 22 9 (.slice h.ka h.kn h.kc)).run Tryd.prog w0 = .ok (.string (strOfNums k)) w0 := conv_key (HP.out.below e3).key
    clear e1 e2 e3 e4 ht
    have he : ((strOfNums key).toList == (strOfNums k).toList) = (key == k) := str_eq HKB.out.1 HKB.out.2
    have hlt : Op.bytesLess (strOfNums key).toList (strOfNums k).toList = ltL key k := str_lt HKB.out.1 HKB.out.2
    go_upto_if 21 with fail
    clear he
    by_cases ce : key = k
    · have ce2 : (key == k) = true := by simp [ce]
      have HPN2 := Lib.hid (HPN.out.trans (if_pos ce))
      clear HPN
      have HPN := HPN2
      rw [ce2]
      clear ce ce2 hlt cv1 cv2 x0 x1 x2 x3 x4
      go_upto_region 4 with fail
      refine region_l (S := (fun W => W.cell? ⟨w.heap.size, 1, none⟩ = some (.slice h.ka h.kn h.kc) ∧ W.cell? ⟨w.heap.size, 2, none⟩ = some (.slice h.va h.vn h.vc) ∧ W.cell? ⟨w.heap.size, 4, none⟩ = some (.slice (some ⟨g, off, none⟩) h.tn h.tc) ∧ (W.cell? ⟨g, off, none⟩ = some (.int .i64 (H 0).k) ∧ W.cell? ⟨g, off + 1, none⟩ = some (.slice (H 0).ka (H 0).kn (H 0).kc) ∧ W.cell? ⟨g, off + 2, none⟩ = some (.slice (H 0).va (H 0).vn (H 0).vc) ∧ W.cell? ⟨g, off + 3, none⟩ = some (.slice (H 0).da (H 0).dn (H 0).dc) ∧ W.cell? ⟨g, off + 4, none⟩ = some (.slice (H 0).ta (H 0).tn (H 0).tc)) ∧ W.cell? ⟨g, off + 5, none⟩ = some (.int .i64 (H 1).k) ∧ W.cell? ⟨g, off + 5 + 1, none⟩ = some (.slice (H 1).ka (H 1).kn (H 1).kc) ∧ W.cell? ⟨g, off + 5 + 2, none⟩ = some (.slice (H 1).va (H 1).vn (H 1).vc) ∧ W.cell? ⟨g, off + 5 + 3, none⟩ = some (.slice (H 1).da (H 1).dn (H 1).dc) ∧ W.cell? ⟨g, off + 5 + 4, none⟩ = some (.slice (H 1).ta (H 1).tn (H 1).tc))) 11 (by kernel_rfl) ⟨HX0.out.drew.box.cells.2.1, HX0.out.drew.box.cells.2.2.1, (HX0.out.drew.box.cells.2.2.2.2).trans (by rw [HTA.out]), (HP.out.below HX0.out.drew.b).kid0 HTA.out (by omega), (HP.out.below HX0.out.drew.b).kid1 HTA.out (by omega)⟩ (fun hHeld => ?_)
      refine take_l (i := 0) (oi := ?oZ1) (v := ?vZ1) ?hiZ1 (by kernel_rfl) (by kernel_rfl) (by kernel_rfl) (by kernel_rfl) ?hQZ1 ?hwZ1 ?hyZ1 (by assumption) ?restZ1
      case hiZ1 => (simp only [List.getElem?_toArray, List.getElem?_cons_zero] <;> rfl)
      case hQZ1 => exact (fun _ _ _ h => h)
      case hwZ1 => rfl
      case hyZ1 => (intro w hSw; (try dsimp only at hSw); go_simp; try with_reducible rfl)
      (try simp only [Act.put, List.setIfInBounds_toArray, List.set_cons_zero, List.set_cons_succ])
      refine take_l (i := 1) (oi := ?oZ2) (v := ?vZ2) ?hiZ2 (by kernel_rfl) (by kernel_rfl) (by kernel_rfl) (by kernel_rfl) ?hQZ2 ?hwZ2 ?hyZ2 (by assumption) ?restZ2
      case hiZ2 => (simp only [List.getElem?_toArray, List.getElem?_cons_succ, List.getElem?_cons_zero] <;> rfl)
      case hQZ2 => exact (fun _ _ _ h => h)
      case hwZ2 => rfl
      case hyZ2 => (intro w hSw; (try dsimp only at hSw); go_simp; try with_reducible rfl)
      (try simp only [Act.put, List.setIfInBounds_toArray, List.set_cons_zero, List.set_cons_succ])
      refine take_l (i := 2) (oi := ?oZ3) (v := ?vZ3) ?hiZ3 (by kernel_rfl) (by kernel_rfl) (by kernel_rfl) (by kernel_rfl) ?hQZ3 ?hwZ3 ?hyZ3 (by assumption) ?restZ3
      case hiZ3 => (simp only [List.getElem?_toArray, List.getElem?_cons_succ, List.getElem?_cons_zero] <;> rfl)
      case hQZ3 => exact (fun _ _ _ h => h)
      case hwZ3 => rfl
      case hyZ3 => (intro w hSw; (try dsimp only at hSw); go_simp; try with_reducible rfl)
      (try simp only [Act.put, List.setIfInBounds_toArray, List.set_cons_zero, List.set_cons_succ])
      refine take_l (i := 3) (oi := ?oZ4) (v := ?vZ4) ?hiZ4 (by kernel_rfl) (by kernel_rfl) (by kernel_rfl) (by kernel_rfl) ?hQZ4 ?hwZ4 ?hyZ4 (by assumption) ?restZ4
      case hiZ4 => (simp only [List.getElem?_toArray, List.getElem?_cons_succ, List.getElem?_cons_zero] <;> rfl)
      case hQZ4 => exact (fun _ _ _ h => h)
      case hwZ4 => rfl
      case hyZ4 => (intro w hSw; (try dsimp only at hSw); go_simp; try with_reducible rfl)
      (try simp only [Act.put, List.setIfInBounds_toArray, List.set_cons_zero, List.set_cons_succ])
      refine take_l (i := 4) (oi := ?oZ5) (v := ?vZ5) ?hiZ5 (by kernel_rfl) (by kernel_rfl) (by kernel_rfl) (by kernel_rfl) ?hQZ5 ?hwZ5 ?hyZ5 (by assumption) ?restZ5
      case hiZ5 => (simp only [List.getElem?_toArray, List.getElem?_cons_succ, List.getElem?_cons_zero] <;> rfl)
      case hQZ5 => exact (fun _ _ _ h => h)
      case hwZ5 => rfl
      case hyZ5 => (intro w hSw; (try dsimp only at hSw); go_simp; try with_reducible rfl)
      (try simp only [Act.put, List.setIfInBounds_toArray, List.set_cons_zero, List.set_cons_succ])
      refine take_l (i := 5) (oi := ?oZ6) (v := ?vZ6) ?hiZ6 (by kernel_rfl) (by kernel_rfl) (by kernel_rfl) (by kernel_rfl) ?hQZ6 ?hwZ6 ?hyZ6 (by assumption) ?restZ6
      case hiZ6 => (simp only [List.getElem?_toArray, List.getElem?_cons_succ, List.getElem?_cons_zero] <;> rfl)
      case hQZ6 => exact (fun _ _ _ h => h)
      case hwZ6 => rfl
      case hyZ6 => (intro w hSw; (try dsimp only at hSw); go_simp; try with_reducible rfl)
      (try simp only [Act.put, List.setIfInBounds_toArray, List.set_cons_zero, List.set_cons_succ])
      refine take_l (i := 6) (oi := ?oZ7) (v := ?vZ7) ?hiZ7 (by kernel_rfl) (by kernel_rfl) (by kernel_rfl) (by kernel_rfl) ?hQZ7 ?hwZ7 ?hyZ7 (by assumption) ?restZ7
      case hiZ7 => (simp only [List.getElem?_toArray, List.getElem?_cons_succ, List.getElem?_cons_zero] <;> rfl)
      case hQZ7 => exact (fun _ _ _ h => h)
      case hwZ7 => rfl
      case hyZ7 => (intro w hSw; (try dsimp only at hSw); go_simp; try with_reducible rfl)
      (try simp only [Act.put, List.setIfInBounds_toArray, List.set_cons_zero, List.set_cons_succ])
      refine take_l (i := 7) (oi := ?oZ8) (v := ?vZ8) ?hiZ8 (by kernel_rfl) (by kernel_rfl) (by kernel_rfl) (by kernel_rfl) ?hQZ8 ?hwZ8 ?hyZ8 (by assumption) ?restZ8
      case hiZ8 => (simp only [List.getElem?_toArray, List.getElem?_cons_succ, List.getElem?_cons_zero] <;> rfl)
      case hQZ8 => exact (fun _ _ _ h => h)
      case hwZ8 => rfl
      case hyZ8 => (intro w hSw; (try dsimp only at hSw); go_simp; try with_reducible rfl)
      (try simp only [Act.put, List.setIfInBounds_toArray, List.set_cons_zero, List.set_cons_succ])
      refine take_l (i := 8) (oi := ?oZ9) (v := ?vZ9) ?hiZ9 (by kernel_rfl) (by kernel_rfl) (by kernel_rfl) (by kernel_rfl) ?hQZ9 ?hwZ9 ?hyZ9 (by assumption) ?restZ9
      case hiZ9 => (simp only [List.getElem?_toArray, List.getElem?_cons_succ, List.getElem?_cons_zero] <;> rfl)
      case hQZ9 => exact (fun _ _ _ h => h)
      case hwZ9 => rfl
      case hyZ9 => (intro w hSw; (try dsimp only at hSw); go_simp; try with_reducible rfl)
      (try simp only [Act.put, List.setIfInBounds_toArray, List.set_cons_zero, List.set_cons_succ])
      refine take_l (i := 9) (oi := ?oZ10) (v := ?vZ10) ?hiZ10 (by kernel_rfl) (by kernel_rfl) (by kernel_rfl) (by kernel_rfl) ?hQZ10 ?hwZ10 ?hyZ10 (by assumption) ?restZ10
      case hiZ10 => (simp only [List.getElem?_toArray, List.getElem?_cons_succ, List.getElem?_cons_zero] <;> rfl)
      case hQZ10 => exact (fun _ _ _ h => h)
      case hwZ10 => rfl
      case hyZ10 => (intro w hSw; (try dsimp only at hSw); go_simp; try with_reducible rfl)
      (try simp only [Act.put, List.setIfInBounds_toArray, List.set_cons_zero, List.set_cons_succ])
      refine one_l (i := 10) (o := ?oZ11) (by kernel_rfl) ?hiZ11 (fun K hK => ?stZ11)
      case hiZ11 => (simp only [List.getElem?_toArray, List.getElem?_cons_succ, List.getElem?_cons_zero] <;> rfl)
      go_simp
      go_at_call 72
      refine (refNode_any l r (H 0) (H 1) ka va kn kc vn vc key val _ ((HP.out.below HX0.out.drew.b).kids 0 l0) ((HP.out.below HX0.out.drew.b).kids 1 l1) (HK.out.1.below HX0.out.drew.b) (HK.out.2.below HX0.out.drew.b)).mono ?_
      rintro _ w2 ⟨h2, rfl, hi2, hb2⟩
      unfold TH.v
      have HX2 := Lib.hid (HX0.out.drew.below hb2)
      have HI2 := Lib.hid hi2
      clear hi2 hb2
      go_simp
      refine hK.out _ _ ?_ (fun hHeld => ?_)
      · (first | exact ⟨HX4.out.box.cells.2.1, HX4.out.box.cells.2.2.1, (HX4.out.box.cells.2.2.2.2).trans (by rw [HTA.out]), (HP.out.below HX4.out.b).kid0 HTA.out (by omega), (HP.out.below HX4.out.b).kid1 HTA.out (by omega)⟩ | exact ⟨HX3.out.box.cells.2.1, HX3.out.box.cells.2.2.1, (HX3.out.box.cells.2.2.2.2).trans (by rw [HTA.out]), (HP.out.below HX3.out.b).kid0 HTA.out (by omega), (HP.out.below HX3.out.b).kid1 HTA.out (by omega)⟩ | exact ⟨HX2.out.box.cells.2.1, HX2.out.box.cells.2.2.1, (HX2.out.box.cells.2.2.2.2).trans (by rw [HTA.out]), (HP.out.below HX2.out.b).kid0 HTA.out (by omega), (HP.out.below HX2.out.b).kid1 HTA.out (by omega)⟩ | exact ⟨HX0.out.drew.box.cells.2.1, HX0.out.drew.box.cells.2.2.1, (HX0.out.drew.box.cells.2.2.2.2).trans (by rw [HTA.out]), (HP.out.below HX0.out.drew.b).kid0 HTA.out (by omega), (HP.out.below HX0.out.drew.b).kid1 HTA.out (by omega)⟩)
      clear hK K
      (try simp only [Act.put, List.setIfInBounds_toArray, List.set_cons_zero, List.set_cons_succ])
      refine last_l (o := ?oZ12) (by kernel_rfl) ?hiZ12 (by kernel_rfl) (fun K hK => ?stZ12)
      case hiZ12 => (simp only [List.getElem?_toArray, List.getElem?_cons_succ, List.getElem?_cons_zero] <;> rfl)
      refine step_store_box rfl 27 (.tmp 6) (.tmp 32) rfl (w.heap.size + 1) hZ h2 rfl rfl 27 HX2.out.res infoTree5 ?_
      intro w9 hbx9 hg9
      have HX9 := Lib.hid hbx9
      have HI9 := Lib.hid (AT.outBox HX2.out.res hg9 _ _ HI2.out)
      have HB9 : Hid (Below w.heap.size w w9) := Lib.hid (HX2.out.b.grown hg9 HX2.out.b.size (fun j hj => by injection hj; omega))
      clear hbx9 hg9
      refine hK.out _ _ ?_
      clear hK K
      (try simp only [Act.put])
      
      clear hHeld
      go_wp2_with fail
      refine bodyPost_ret (v := h2.v) (result_tree Tryd.results49 _ HX9.out rfl Tryd.underlying27 infoTree5) rfl ⟨_, rfl, ?_, HB9.out⟩
      rw [HPN.out]
      exact HI9.out
    have ce2 : (key == k) = false := by simp [ce]
    have HPN1 := Lib.hid (HPN.out.trans (if_neg ce))
    rw [ce2]
    go_upto_if 38 with fail
    cases cl : ltL key k
    · have HPN2 := Lib.hid (HPN1.out.trans (if_neg (by rw [cl]; simp)))
      clear HPN HPN1
      have HPN := HPN2
      clear ce ce2 hlt cv1 cv2 x0 x1 x2 x3 x4 cl
      go_upto_region 7 with fail
      refine region_l (S := (fun W => W.cell? ⟨w.heap.size, 1, none⟩ = some (.slice h.ka h.kn h.kc) ∧ W.cell? ⟨w.heap.size, 2, none⟩ = some (.slice h.va h.vn h.vc) ∧ W.cell? ⟨w.heap.size, 4, none⟩ = some (.slice (some ⟨g, off, none⟩) h.tn h.tc) ∧ (W.cell? ⟨g, off, none⟩ = some (.int .i64 (H 0).k) ∧ W.cell? ⟨g, off + 1, none⟩ = some (.slice (H 0).ka (H 0).kn (H 0).kc) ∧ W.cell? ⟨g, off + 2, none⟩ = some (.slice (H 0).va (H 0).vn (H 0).vc) ∧ W.cell? ⟨g, off + 3, none⟩ = some (.slice (H 0).da (H 0).dn (H 0).dc) ∧ W.cell? ⟨g, off + 4, none⟩ = some (.slice (H 0).ta (H 0).tn (H 0).tc)) ∧ W.cell? ⟨g, off + 5, none⟩ = some (.int .i64 (H 1).k) ∧ W.cell? ⟨g, off + 5 + 1, none⟩ = some (.slice (H 1).ka (H 1).kn (H 1).kc) ∧ W.cell? ⟨g, off + 5 + 2, none⟩ = some (.slice (H 1).va (H 1).vn (H 1).vc) ∧ W.cell? ⟨g, off + 5 + 3, none⟩ = some (.slice (H 1).da (H 1).dn (H 1).dc) ∧ W.cell? ⟨g, off + 5 + 4, none⟩ = some (.slice (H 1).ta (H 1).tn (H 1).tc))) 17 (by kernel_rfl) ⟨HX0.out.drew.box.cells.2.1, HX0.out.drew.box.cells.2.2.1, (HX0.out.drew.box.cells.2.2.2.2).trans (by rw [HTA.out]), (HP.out.below HX0.out.drew.b).kid0 HTA.out (by omega), (HP.out.below HX0.out.drew.b).kid1 HTA.out (by omega)⟩ (fun hHeld => ?_)
      refine take_l (i := 0) (oi := ?oZ31) (v := ?vZ31) ?hiZ31 (by kernel_rfl) (by kernel_rfl) (by kernel_rfl) (by kernel_rfl) ?hQZ31 ?hwZ31 ?hyZ31 (by assumption) ?restZ31
      case hiZ31 => (simp only [List.getElem?_toArray, List.getElem?_cons_zero] <;> rfl)
      case hQZ31 => exact (fun _ _ _ h => h)
      case hwZ31 => rfl
      case hyZ31 => (intro w hSw; (try dsimp only at hSw); go_simp; try with_reducible rfl)
      (try simp only [Act.put, List.setIfInBounds_toArray, List.set_cons_zero, List.set_cons_succ])
      refine take_l (i := 1) (oi := ?oZ32) (v := ?vZ32) ?hiZ32 (by kernel_rfl) (by kernel_rfl) (by kernel_rfl) (by kernel_rfl) ?hQZ32 ?hwZ32 ?hyZ32 (by assumption) ?restZ32
      case hiZ32 => (simp only [List.getElem?_toArray, List.getElem?_cons_succ, List.getElem?_cons_zero] <;> rfl)
      case hQZ32 => exact (fun _ _ _ h => h)
      case hwZ32 => rfl
      case hyZ32 => (intro w hSw; (try dsimp only at hSw); go_simp; try with_reducible rfl)
      (try simp only [Act.put, List.setIfInBounds_toArray, List.set_cons_zero, List.set_cons_succ])
      refine take_l (i := 2) (oi := ?oZ33) (v := ?vZ33) ?hiZ33 (by kernel_rfl) (by kernel_rfl) (by kernel_rfl) (by kernel_rfl) ?hQZ33 ?hwZ33 ?hyZ33 (by assumption) ?restZ33
      case hiZ33 => (simp only [List.getElem?_toArray, List.getElem?_cons_succ, List.getElem?_cons_zero] <;> rfl)
      case hQZ33 => exact (fun _ _ _ h => h)
      case hwZ33 => rfl
      case hyZ33 => (intro w hSw; (try dsimp only at hSw); go_simp; try with_reducible rfl)
      (try simp only [Act.put, List.setIfInBounds_toArray, List.set_cons_zero, List.set_cons_succ])
      refine take_l (i := 3) (oi := ?oZ34) (v := ?vZ34) ?hiZ34 (by kernel_rfl) (by kernel_rfl) (by kernel_rfl) (by kernel_rfl) ?hQZ34 ?hwZ34 ?hyZ34 (by assumption) ?restZ34
      case hiZ34 => (simp only [List.getElem?_toArray, List.getElem?_cons_succ, List.getElem?_cons_zero] <;> rfl)
      case hQZ34 => exact (fun _ _ _ h => h)
      case hwZ34 => rfl
      case hyZ34 => (intro w hSw; (try dsimp only at hSw); go_simp; try with_reducible rfl)
      (try simp only [Act.put, List.setIfInBounds_toArray, List.set_cons_zero, List.set_cons_succ])
      refine take_l (i := 4) (oi := ?oZ35) (v := ?vZ35) ?hiZ35 (by kernel_rfl) (by kernel_rfl) (by kernel_rfl) (by kernel_rfl) ?hQZ35 ?hwZ35 ?hyZ35 (by assumption) ?restZ35
      case hiZ35 => (simp only [List.getElem?_toArray, List.getElem?_cons_succ, List.getElem?_cons_zero] <;> rfl)
      case hQZ35 => exact (fun _ _ _ h => h)
      case hwZ35 => rfl
      case hyZ35 => (intro w hSw; (try dsimp only at hSw); go_simp; try with_reducible rfl)
      (try simp only [Act.put, List.setIfInBounds_toArray, List.set_cons_zero, List.set_cons_succ])
      refine take_l (i := 5) (oi := ?oZ36) (v := ?vZ36) ?hiZ36 (by kernel_rfl) (by kernel_rfl) (by kernel_rfl) (by kernel_rfl) ?hQZ36 ?hwZ36 ?hyZ36 (by assumption) ?restZ36
      case hiZ36 => (simp only [List.getElem?_toArray, List.getElem?_cons_succ, List.getElem?_cons_zero] <;> rfl)
      case hQZ36 => exact (fun _ _ _ h => h)
      case hwZ36 => rfl
      case hyZ36 => (intro w hSw; (try dsimp only at hSw); go_simp; try with_reducible rfl)
      (try simp only [Act.put, List.setIfInBounds_toArray, List.set_cons_zero, List.set_cons_succ])
      refine take_l (i := 6) (oi := ?oZ37) (v := ?vZ37) ?hiZ37 (by kernel_rfl) (by kernel_rfl) (by kernel_rfl) (by kernel_rfl) ?hQZ37 ?hwZ37 ?hyZ37 (by assumption) ?restZ37
      case hiZ37 => (simp only [List.getElem?_toArray, List.getElem?_cons_succ, List.getElem?_cons_zero] <;> rfl)
      case hQZ37 => exact (fun _ _ _ h => h)
      case hwZ37 => rfl
      case hyZ37 => (intro w hSw; (try dsimp only at hSw); go_simp; try with_reducible rfl)
      (try simp only [Act.put, List.setIfInBounds_toArray, List.set_cons_zero, List.set_cons_succ])
      refine take_l (i := 7) (oi := ?oZ38) (v := ?vZ38) ?hiZ38 (by kernel_rfl) (by kernel_rfl) (by kernel_rfl) (by kernel_rfl) ?hQZ38 ?hwZ38 ?hyZ38 (by assumption) ?restZ38
      case hiZ38 => (simp only [List.getElem?_toArray, List.getElem?_cons_succ, List.getElem?_cons_zero] <;> rfl)
      case hQZ38 => exact (fun _ _ _ h => h)
      case hwZ38 => rfl
      case hyZ38 => (intro w hSw; (try dsimp only at hSw); go_simp; try with_reducible rfl)
      (try simp only [Act.put, List.setIfInBounds_toArray, List.set_cons_zero, List.set_cons_succ])
      refine take_l (i := 8) (oi := ?oZ39) (v := ?vZ39) ?hiZ39 (by kernel_rfl) (by kernel_rfl) (by kernel_rfl) (by kernel_rfl) ?hQZ39 ?hwZ39 ?hyZ39 (by assumption) ?restZ39
      case hiZ39 => (simp only [List.getElem?_toArray, List.getElem?_cons_succ, List.getElem?_cons_zero] <;> rfl)
      case hQZ39 => exact (fun _ _ _ h => h)
      case hwZ39 => rfl
      case hyZ39 => (intro w hSw; (try dsimp only at hSw); go_simp; try with_reducible rfl)
      (try simp only [Act.put, List.setIfInBounds_toArray, List.set_cons_zero, List.set_cons_succ])
      refine take_l (i := 9) (oi := ?oZ40) (v := ?vZ40) ?hiZ40 (by kernel_rfl) (by kernel_rfl) (by kernel_rfl) (by kernel_rfl) ?hQZ40 ?hwZ40 ?hyZ40 (by assumption) ?restZ40
      case hiZ40 => (simp only [List.getElem?_toArray, List.getElem?_cons_succ, List.getElem?_cons_zero] <;> rfl)
      case hQZ40 => exact (fun _ _ _ h => h)
      case hwZ40 => rfl
      case hyZ40 => (intro w hSw; (try dsimp only at hSw); go_simp; try with_reducible rfl)
      (try simp only [Act.put, List.setIfInBounds_toArray, List.set_cons_zero, List.set_cons_succ])
      refine take_l (i := 10) (oi := ?oZ41) (v := ?vZ41) ?hiZ41 (by kernel_rfl) (by kernel_rfl) (by kernel_rfl) (by kernel_rfl) ?hQZ41 ?hwZ41 ?hyZ41 (by assumption) ?restZ41
      case hiZ41 => (simp only [List.getElem?_toArray, List.getElem?_cons_succ, List.getElem?_cons_zero] <;> rfl)
      case hQZ41 => exact (fun _ _ _ h => h)
      case hwZ41 => rfl
      case hyZ41 => (intro w hSw; (try dsimp only at hSw); go_simp; try with_reducible rfl)
      (try simp only [Act.put, List.setIfInBounds_toArray, List.set_cons_zero, List.set_cons_succ])
      refine take_l (i := 11) (oi := ?oZ42) (v := ?vZ42) ?hiZ42 (by kernel_rfl) (by kernel_rfl) (by kernel_rfl) (by kernel_rfl) ?hQZ42 ?hwZ42 ?hyZ42 (by assumption) ?restZ42
      case hiZ42 => (simp only [List.getElem?_toArray, List.getElem?_cons_succ, List.getElem?_cons_zero] <;> rfl)
      case hQZ42 => exact (fun _ _ _ h => h)
      case hwZ42 => rfl
      case hyZ42 => (intro w hSw; (try dsimp only at hSw); go_simp; try with_reducible rfl)
      (try simp only [Act.put, List.setIfInBounds_toArray, List.set_cons_zero, List.set_cons_succ])
      refine take_l (i := 12) (oi := ?oZ43) (v := ?vZ43) ?hiZ43 (by kernel_rfl) (by kernel_rfl) (by kernel_rfl) (by kernel_rfl) ?hQZ43 ?hwZ43 ?hyZ43 (by assumption) ?restZ43
      case hiZ43 => (simp only [List.getElem?_toArray, List.getElem?_cons_succ, List.getElem?_cons_zero] <;> rfl)
      case hQZ43 => exact (fun _ _ _ h => h)
      case hwZ43 => rfl
      case hyZ43 => (intro w hSw; (try dsimp only at hSw); go_simp; try with_reducible rfl)
      (try simp only [Act.put, List.setIfInBounds_toArray, List.set_cons_zero, List.set_cons_succ])
      refine take_l (i := 13) (oi := ?oZ44) (v := ?vZ44) ?hiZ44 (by kernel_rfl) (by kernel_rfl) (by kernel_rfl) (by kernel_rfl) ?hQZ44 ?hwZ44 ?hyZ44 (by assumption) ?restZ44
      case hiZ44 => (simp only [List.getElem?_toArray, List.getElem?_cons_succ, List.getElem?_cons_zero] <;> rfl)
      case hQZ44 => exact (fun _ _ _ h => h)
      case hwZ44 => rfl
      case hyZ44 => (intro w hSw; (try dsimp only at hSw); go_simp; try with_reducible rfl)
      (try simp only [Act.put, List.setIfInBounds_toArray, List.set_cons_zero, List.set_cons_succ])
      refine one_l (i := 14) (o := ?oZ45) (by kernel_rfl) ?hiZ45 (fun K hK => ?stZ45)
      case hiZ45 => (simp only [List.getElem?_toArray, List.getElem?_cons_succ, List.getElem?_cons_zero] <;> rfl)
      go_simp
      go_at_call 49
      refine (IHR.out (H 1) _ ((HP.out.below HX0.out.drew.b).kids 1 l1) HL.out.2.2.2 HBL.out.2.1 (by simp only [AT.depth] at hd; omega) (HK.out.1.below HX0.out.drew.b) (HK.out.2.below HX0.out.drew.b)).mono ?_
      rintro _ w2 ⟨h2, rfl, hi2, hb2⟩
      unfold TH.v
      have HX2 := Lib.hid (HX0.out.drew.below hb2)
      have HI2 := Lib.hid hi2
      clear hi2 hb2
      go_simp
      refine hK.out _ _ ?_ (fun hHeld => ?_)
      · (first | exact ⟨HX4.out.box.cells.2.1, HX4.out.box.cells.2.2.1, (HX4.out.box.cells.2.2.2.2).trans (by rw [HTA.out]), (HP.out.below HX4.out.b).kid0 HTA.out (by omega), (HP.out.below HX4.out.b).kid1 HTA.out (by omega)⟩ | exact ⟨HX3.out.box.cells.2.1, HX3.out.box.cells.2.2.1, (HX3.out.box.cells.2.2.2.2).trans (by rw [HTA.out]), (HP.out.below HX3.out.b).kid0 HTA.out (by omega), (HP.out.below HX3.out.b).kid1 HTA.out (by omega)⟩ | exact ⟨HX2.out.box.cells.2.1, HX2.out.box.cells.2.2.1, (HX2.out.box.cells.2.2.2.2).trans (by rw [HTA.out]), (HP.out.below HX2.out.b).kid0 HTA.out (by omega), (HP.out.below HX2.out.b).kid1 HTA.out (by omega)⟩ | exact ⟨HX0.out.drew.box.cells.2.1, HX0.out.drew.box.cells.2.2.1, (HX0.out.drew.box.cells.2.2.2.2).trans (by rw [HTA.out]), (HP.out.below HX0.out.drew.b).kid0 HTA.out (by omega), (HP.out.below HX0.out.drew.b).kid1 HTA.out (by omega)⟩)
      clear hK K
      (try simp only [Act.put, List.setIfInBounds_toArray, List.set_cons_zero, List.set_cons_succ])
      refine one_l (i := 15) (o := ?oZ46) (by kernel_rfl) ?hiZ46 (fun K hK => ?stZ46)
      case hiZ46 => (simp only [List.getElem?_toArray, List.getElem?_cons_succ, List.getElem?_cons_zero] <;> rfl)
      go_simp
      go_at_call 72
      refine (refNode_any l (r.put key val) (H 0) h2 h.ka h.va h.kn h.kc h.vn h.vc k v _ ((HP.out.below HX2.out.b).kids 0 l0) HI2.out (HP.out.below HX2.out.b).key (HP.out.below HX2.out.b).val).mono ?_
      rintro _ w3 ⟨h3, rfl, hi3, hb3⟩
      unfold TH.v
      have HX3 := Lib.hid (HX2.out.below hb3)
      have HI3 := Lib.hid hi3
      clear hi3 hb3
      go_simp
      refine hK.out _ _ ?_ (fun hHeld => ?_)
      · (first | exact ⟨HX4.out.box.cells.2.1, HX4.out.box.cells.2.2.1, (HX4.out.box.cells.2.2.2.2).trans (by rw [HTA.out]), (HP.out.below HX4.out.b).kid0 HTA.out (by omega), (HP.out.below HX4.out.b).kid1 HTA.out (by omega)⟩ | exact ⟨HX3.out.box.cells.2.1, HX3.out.box.cells.2.2.1, (HX3.out.box.cells.2.2.2.2).trans (by rw [HTA.out]), (HP.out.below HX3.out.b).kid0 HTA.out (by omega), (HP.out.below HX3.out.b).kid1 HTA.out (by omega)⟩ | exact ⟨HX2.out.box.cells.2.1, HX2.out.box.cells.2.2.1, (HX2.out.box.cells.2.2.2.2).trans (by rw [HTA.out]), (HP.out.below HX2.out.b).kid0 HTA.out (by omega), (HP.out.below HX2.out.b).kid1 HTA.out (by omega)⟩ | exact ⟨HX0.out.drew.box.cells.2.1, HX0.out.drew.box.cells.2.2.1, (HX0.out.drew.box.cells.2.2.2.2).trans (by rw [HTA.out]), (HP.out.below HX0.out.drew.b).kid0 HTA.out (by omega), (HP.out.below HX0.out.drew.b).kid1 HTA.out (by omega)⟩)
      clear hK K
      (try simp only [Act.put, List.setIfInBounds_toArray, List.set_cons_zero, List.set_cons_succ])
      refine one_l (i := 16) (o := ?oZ47) (by kernel_rfl) ?hiZ47 (fun K hK => ?stZ47)
      case hiZ47 => (simp only [List.getElem?_toArray, List.getElem?_cons_succ, List.getElem?_cons_zero] <;> rfl)
      go_simp
      go_at_call 73
      refine (refLevel_any l k v (r.put key val) h3 _ HI3.out (Lim.mk HL.out.1 HL.out.2.1 HL.out.2.2.1 (AT.put_lim hkl hvl HL.out.2.2.2)) (by simp only [AT.depth] at hd; omega) (by have := (AT.put_bal key val r HBL.out.2.1).2.2; simp only [AT.depth] at hd; omega)).mono ?_
      rintro _ w4 ⟨h4, rfl, hi4, hb4⟩
      unfold TH.v
      have HX4 := Lib.hid (HX3.out.below hb4)
      have HI4 := Lib.hid hi4
      clear hi4 hb4
      go_simp
      refine hK.out _ _ ?_ (fun hHeld => ?_)
      · (first | exact ⟨HX4.out.box.cells.2.1, HX4.out.box.cells.2.2.1, (HX4.out.box.cells.2.2.2.2).trans (by rw [HTA.out]), (HP.out.below HX4.out.b).kid0 HTA.out (by omega), (HP.out.below HX4.out.b).kid1 HTA.out (by omega)⟩ | exact ⟨HX3.out.box.cells.2.1, HX3.out.box.cells.2.2.1, (HX3.out.box.cells.2.2.2.2).trans (by rw [HTA.out]), (HP.out.below HX3.out.b).kid0 HTA.out (by omega), (HP.out.below HX3.out.b).kid1 HTA.out (by omega)⟩ | exact ⟨HX2.out.box.cells.2.1, HX2.out.box.cells.2.2.1, (HX2.out.box.cells.2.2.2.2).trans (by rw [HTA.out]), (HP.out.below HX2.out.b).kid0 HTA.out (by omega), (HP.out.below HX2.out.b).kid1 HTA.out (by omega)⟩ | exact ⟨HX0.out.drew.box.cells.2.1, HX0.out.drew.box.cells.2.2.1, (HX0.out.drew.box.cells.2.2.2.2).trans (by rw [HTA.out]), (HP.out.below HX0.out.drew.b).kid0 HTA.out (by omega), (HP.out.below HX0.out.drew.b).kid1 HTA.out (by omega)⟩)
      clear hK K
      (try simp only [Act.put, List.setIfInBounds_toArray, List.set_cons_zero, List.set_cons_succ])
      refine last_l (o := ?oZ48) (by kernel_rfl) ?hiZ48 (by kernel_rfl) (fun K hK => ?stZ48)
      case hiZ48 => (simp only [List.getElem?_toArray, List.getElem?_cons_succ, List.getElem?_cons_zero] <;> rfl)
      refine step_store_box rfl 27 (.tmp 6) (.tmp 72) rfl (w.heap.size + 1) hZ h4 rfl rfl 27 HX4.out.res infoTree5 ?_
      intro w9 hbx9 hg9
      have HX9 := Lib.hid hbx9
      have HI9 := Lib.hid (AT.outBox HX4.out.res hg9 _ _ HI4.out)
      have HB9 : Hid (Below w.heap.size w w9) := Lib.hid (HX4.out.b.grown hg9 HX4.out.b.size (fun j hj => by injection hj; omega))
      clear hbx9 hg9
      refine hK.out _ _ ?_
      clear hK K
      (try simp only [Act.put])
      
      clear hHeld
      go_wp2_with fail
      refine bodyPost_ret (v := h4.v) (result_tree Tryd.results49 _ HX9.out rfl Tryd.underlying27 infoTree5) rfl ⟨_, rfl, ?_, HB9.out⟩
      rw [HPN.out]
      exact HI9.out
    · have HPN2 := Lib.hid (HPN1.out.trans (if_pos cl))
      clear HPN HPN1
      have HPN := HPN2
      clear ce ce2 hlt cv1 cv2 x0 x1 x2 x3 x4 cl
      go_upto_region 6 with fail
      refine region_l (S := (fun W => W.cell? ⟨w.heap.size, 1, none⟩ = some (.slice h.ka h.kn h.kc) ∧ W.cell? ⟨w.heap.size, 2, none⟩ = some (.slice h.va h.vn h.vc) ∧ W.cell? ⟨w.heap.size, 4, none⟩ = some (.slice (some ⟨g, off, none⟩) h.tn h.tc) ∧ (W.cell? ⟨g, off, none⟩ = some (.int .i64 (H 0).k) ∧ W.cell? ⟨g, off + 1, none⟩ = some (.slice (H 0).ka (H 0).kn (H 0).kc) ∧ W.cell? ⟨g, off + 2, none⟩ = some (.slice (H 0).va (H 0).vn (H 0).vc) ∧ W.cell? ⟨g, off + 3, none⟩ = some (.slice (H 0).da (H 0).dn (H 0).dc) ∧ W.cell? ⟨g, off + 4, none⟩ = some (.slice (H 0).ta (H 0).tn (H 0).tc)) ∧ W.cell? ⟨g, off + 5, none⟩ = some (.int .i64 (H 1).k) ∧ W.cell? ⟨g, off + 5 + 1, none⟩ = some (.slice (H 1).ka (H 1).kn (H 1).kc) ∧ W.cell? ⟨g, off + 5 + 2, none⟩ = some (.slice (H 1).va (H 1).vn (H 1).vc) ∧ W.cell? ⟨g, off + 5 + 3, none⟩ = some (.slice (H 1).da (H 1).dn (H 1).dc) ∧ W.cell? ⟨g, off + 5 + 4, none⟩ = some (.slice (H 1).ta (H 1).tn (H 1).tc))) 17 (by kernel_rfl) ⟨HX0.out.drew.box.cells.2.1, HX0.out.drew.box.cells.2.2.1, (HX0.out.drew.box.cells.2.2.2.2).trans (by rw [HTA.out]), (HP.out.below HX0.out.drew.b).kid0 HTA.out (by omega), (HP.out.below HX0.out.drew.b).kid1 HTA.out (by omega)⟩ (fun hHeld => ?_)
      refine take_l (i := 0) (oi := ?oZ13) (v := ?vZ13) ?hiZ13 (by kernel_rfl) (by kernel_rfl) (by kernel_rfl) (by kernel_rfl) ?hQZ13 ?hwZ13 ?hyZ13 (by assumption) ?restZ13
      case hiZ13 => (simp only [List.getElem?_toArray, List.getElem?_cons_zero] <;> rfl)
      case hQZ13 => exact (fun _ _ _ h => h)
      case hwZ13 => rfl
      case hyZ13 => (intro w hSw; (try dsimp only at hSw); go_simp; try with_reducible rfl)
      (try simp only [Act.put, List.setIfInBounds_toArray, List.set_cons_zero, List.set_cons_succ])
      refine take_l (i := 1) (oi := ?oZ14) (v := ?vZ14) ?hiZ14 (by kernel_rfl) (by kernel_rfl) (by kernel_rfl) (by kernel_rfl) ?hQZ14 ?hwZ14 ?hyZ14 (by assumption) ?restZ14
      case hiZ14 => (simp only [List.getElem?_toArray, List.getElem?_cons_succ, List.getElem?_cons_zero] <;> rfl)
      case hQZ14 => exact (fun _ _ _ h => h)
      case hwZ14 => rfl
      case hyZ14 => (intro w hSw; (try dsimp only at hSw); go_simp; try with_reducible rfl)
      (try simp only [Act.put, List.setIfInBounds_toArray, List.set_cons_zero, List.set_cons_succ])
      refine take_l (i := 2) (oi := ?oZ15) (v := ?vZ15) ?hiZ15 (by kernel_rfl) (by kernel_rfl) (by kernel_rfl) (by kernel_rfl) ?hQZ15 ?hwZ15 ?hyZ15 (by assumption) ?restZ15
      case hiZ15 => (simp only [List.getElem?_toArray, List.getElem?_cons_succ, List.getElem?_cons_zero] <;> rfl)
      case hQZ15 => exact (fun _ _ _ h => h)
      case hwZ15 => rfl
      case hyZ15 => (intro w hSw; (try dsimp only at hSw); go_simp; try with_reducible rfl)
      (try simp only [Act.put, List.setIfInBounds_toArray, List.set_cons_zero, List.set_cons_succ])
      refine take_l (i := 3) (oi := ?oZ16) (v := ?vZ16) ?hiZ16 (by kernel_rfl) (by kernel_rfl) (by kernel_rfl) (by kernel_rfl) ?hQZ16 ?hwZ16 ?hyZ16 (by assumption) ?restZ16
      case hiZ16 => (simp only [List.getElem?_toArray, List.getElem?_cons_succ, List.getElem?_cons_zero] <;> rfl)
      case hQZ16 => exact (fun _ _ _ h => h)
      case hwZ16 => rfl
      case hyZ16 => (intro w hSw; (try dsimp only at hSw); go_simp; try with_reducible rfl)
      (try simp only [Act.put, List.setIfInBounds_toArray, List.set_cons_zero, List.set_cons_succ])
      refine take_l (i := 4) (oi := ?oZ17) (v := ?vZ17) ?hiZ17 (by kernel_rfl) (by kernel_rfl) (by kernel_rfl) (by kernel_rfl) ?hQZ17 ?hwZ17 ?hyZ17 (by assumption) ?restZ17
      case hiZ17 => (simp only [List.getElem?_toArray, List.getElem?_cons_succ, List.getElem?_cons_zero] <;> rfl)
      case hQZ17 => exact (fun _ _ _ h => h)
      case hwZ17 => rfl
      case hyZ17 => (intro w hSw; (try dsimp only at hSw); go_simp; try with_reducible rfl)
      (try simp only [Act.put, List.setIfInBounds_toArray, List.set_cons_zero, List.set_cons_succ])
      refine take_l (i := 5) (oi := ?oZ18) (v := ?vZ18) ?hiZ18 (by kernel_rfl) (by kernel_rfl) (by kernel_rfl) (by kernel_rfl) ?hQZ18 ?hwZ18 ?hyZ18 (by assumption) ?restZ18
      case hiZ18 => (simp only [List.getElem?_toArray, List.getElem?_cons_succ, List.getElem?_cons_zero] <;> rfl)
      case hQZ18 => exact (fun _ _ _ h => h)
      case hwZ18 => rfl
      case hyZ18 => (intro w hSw; (try dsimp only at hSw); go_simp; try with_reducible rfl)
      (try simp only [Act.put, List.setIfInBounds_toArray, List.set_cons_zero, List.set_cons_succ])
      refine take_l (i := 7) (oi := ?oZ19) (v := ?vZ19) ?hiZ19 (by kernel_rfl) (by kernel_rfl) (by kernel_rfl) (by kernel_rfl) ?hQZ19 ?hwZ19 ?hyZ19 (by assumption) ?restZ19
      case hiZ19 => (simp only [List.getElem?_toArray, List.getElem?_cons_succ, List.getElem?_cons_zero] <;> rfl)
      case hQZ19 => exact (fun _ _ _ h => h)
      case hwZ19 => rfl
      case hyZ19 => (intro w hSw; (try dsimp only at hSw); go_simp; try with_reducible rfl)
      (try simp only [Act.put, List.setIfInBounds_toArray, List.set_cons_zero, List.set_cons_succ])
      refine take_l (i := 8) (oi := ?oZ20) (v := ?vZ20) ?hiZ20 (by kernel_rfl) (by kernel_rfl) (by kernel_rfl) (by kernel_rfl) ?hQZ20 ?hwZ20 ?hyZ20 (by assumption) ?restZ20
      case hiZ20 => (simp only [List.getElem?_toArray, List.getElem?_cons_succ, List.getElem?_cons_zero] <;> rfl)
      case hQZ20 => exact (fun _ _ _ h => h)
      case hwZ20 => rfl
      case hyZ20 => (intro w hSw; (try dsimp only at hSw); go_simp; try with_reducible rfl)
      (try simp only [Act.put, List.setIfInBounds_toArray, List.set_cons_zero, List.set_cons_succ])
      refine take_l (i := 9) (oi := ?oZ21) (v := ?vZ21) ?hiZ21 (by kernel_rfl) (by kernel_rfl) (by kernel_rfl) (by kernel_rfl) ?hQZ21 ?hwZ21 ?hyZ21 (by assumption) ?restZ21
      case hiZ21 => (simp only [List.getElem?_toArray, List.getElem?_cons_succ, List.getElem?_cons_zero] <;> rfl)
      case hQZ21 => exact (fun _ _ _ h => h)
      case hwZ21 => rfl
      case hyZ21 => (intro w hSw; (try dsimp only at hSw); go_simp; try with_reducible rfl)
      (try simp only [Act.put, List.setIfInBounds_toArray, List.set_cons_zero, List.set_cons_succ])
      refine take_l (i := 10) (oi := ?oZ22) (v := ?vZ22) ?hiZ22 (by kernel_rfl) (by kernel_rfl) (by kernel_rfl) (by kernel_rfl) ?hQZ22 ?hwZ22 ?hyZ22 (by assumption) ?restZ22
      case hiZ22 => (simp only [List.getElem?_toArray, List.getElem?_cons_succ, List.getElem?_cons_zero] <;> rfl)
      case hQZ22 => exact (fun _ _ _ h => h)
      case hwZ22 => rfl
      case hyZ22 => (intro w hSw; (try dsimp only at hSw); go_simp; try with_reducible rfl)
      (try simp only [Act.put, List.setIfInBounds_toArray, List.set_cons_zero, List.set_cons_succ])
      refine take_l (i := 11) (oi := ?oZ23) (v := ?vZ23) ?hiZ23 (by kernel_rfl) (by kernel_rfl) (by kernel_rfl) (by kernel_rfl) ?hQZ23 ?hwZ23 ?hyZ23 (by assumption) ?restZ23
      case hiZ23 => (simp only [List.getElem?_toArray, List.getElem?_cons_succ, List.getElem?_cons_zero] <;> rfl)
      case hQZ23 => exact (fun _ _ _ h => h)
      case hwZ23 => rfl
      case hyZ23 => (intro w hSw; (try dsimp only at hSw); go_simp; try with_reducible rfl)
      (try simp only [Act.put, List.setIfInBounds_toArray, List.set_cons_zero, List.set_cons_succ])
      refine take_l (i := 12) (oi := ?oZ24) (v := ?vZ24) ?hiZ24 (by kernel_rfl) (by kernel_rfl) (by kernel_rfl) (by kernel_rfl) ?hQZ24 ?hwZ24 ?hyZ24 (by assumption) ?restZ24
      case hiZ24 => (simp only [List.getElem?_toArray, List.getElem?_cons_succ, List.getElem?_cons_zero] <;> rfl)
      case hQZ24 => exact (fun _ _ _ h => h)
      case hwZ24 => rfl
      case hyZ24 => (intro w hSw; (try dsimp only at hSw); go_simp; try with_reducible rfl)
      (try simp only [Act.put, List.setIfInBounds_toArray, List.set_cons_zero, List.set_cons_succ])
      refine take_l (i := 13) (oi := ?oZ25) (v := ?vZ25) ?hiZ25 (by kernel_rfl) (by kernel_rfl) (by kernel_rfl) (by kernel_rfl) ?hQZ25 ?hwZ25 ?hyZ25 (by assumption) ?restZ25
      case hiZ25 => (simp only [List.getElem?_toArray, List.getElem?_cons_succ, List.getElem?_cons_zero] <;> rfl)
      case hQZ25 => exact (fun _ _ _ h => h)
      case hwZ25 => rfl
      case hyZ25 => (intro w hSw; (try dsimp only at hSw); go_simp; try with_reducible rfl)
      (try simp only [Act.put, List.setIfInBounds_toArray, List.set_cons_zero, List.set_cons_succ])
      refine take_l (i := 14) (oi := ?oZ26) (v := ?vZ26) ?hiZ26 (by kernel_rfl) (by kernel_rfl) (by kernel_rfl) (by kernel_rfl) ?hQZ26 ?hwZ26 ?hyZ26 (by assumption) ?restZ26
      case hiZ26 => (simp only [List.getElem?_toArray, List.getElem?_cons_succ, List.getElem?_cons_zero] <;> rfl)
      case hQZ26 => exact (fun _ _ _ h => h)
      case hwZ26 => rfl
      case hyZ26 => (intro w hSw; (try dsimp only at hSw); go_simp; try with_reducible rfl)
      (try simp only [Act.put, List.setIfInBounds_toArray, List.set_cons_zero, List.set_cons_succ])
      refine one_l (i := 6) (o := ?oZ27) (by kernel_rfl) ?hiZ27 (fun K hK => ?stZ27)
      case hiZ27 => (simp only [List.getElem?_toArray, List.getElem?_cons_succ, List.getElem?_cons_zero] <;> rfl)
      go_simp
      go_at_call 49
      refine (IHL.out (H 0) _ ((HP.out.below HX0.out.drew.b).kids 0 l0) HL.out.1 HBL.out.1 (by simp only [AT.depth] at hd; omega) (HK.out.1.below HX0.out.drew.b) (HK.out.2.below HX0.out.drew.b)).mono ?_
      rintro _ w2 ⟨h2, rfl, hi2, hb2⟩
      unfold TH.v
      have HX2 := Lib.hid (HX0.out.drew.below hb2)
      have HI2 := Lib.hid hi2
      clear hi2 hb2
      go_simp
      refine hK.out _ _ ?_ (fun hHeld => ?_)
      · (first | exact ⟨HX4.out.box.cells.2.1, HX4.out.box.cells.2.2.1, (HX4.out.box.cells.2.2.2.2).trans (by rw [HTA.out]), (HP.out.below HX4.out.b).kid0 HTA.out (by omega), (HP.out.below HX4.out.b).kid1 HTA.out (by omega)⟩ | exact ⟨HX3.out.box.cells.2.1, HX3.out.box.cells.2.2.1, (HX3.out.box.cells.2.2.2.2).trans (by rw [HTA.out]), (HP.out.below HX3.out.b).kid0 HTA.out (by omega), (HP.out.below HX3.out.b).kid1 HTA.out (by omega)⟩ | exact ⟨HX2.out.box.cells.2.1, HX2.out.box.cells.2.2.1, (HX2.out.box.cells.2.2.2.2).trans (by rw [HTA.out]), (HP.out.below HX2.out.b).kid0 HTA.out (by omega), (HP.out.below HX2.out.b).kid1 HTA.out (by omega)⟩ | exact ⟨HX0.out.drew.box.cells.2.1, HX0.out.drew.box.cells.2.2.1, (HX0.out.drew.box.cells.2.2.2.2).trans (by rw [HTA.out]), (HP.out.below HX0.out.drew.b).kid0 HTA.out (by omega), (HP.out.below HX0.out.drew.b).kid1 HTA.out (by omega)⟩)
      clear hK K
      (try simp only [Act.put, List.setIfInBounds_toArray, List.set_cons_zero, List.set_cons_succ])
      refine one_l (i := 15) (o := ?oZ28) (by kernel_rfl) ?hiZ28 (fun K hK => ?stZ28)
      case hiZ28 => (simp only [List.getElem?_toArray, List.getElem?_cons_succ, List.getElem?_cons_zero] <;> rfl)
      go_simp
      go_at_call 72
      refine (refNode_any (l.put key val) r h2 (H 1) h.ka h.va h.kn h.kc h.vn h.vc k v _ HI2.out ((HP.out.below HX2.out.b).kids 1 l1) (HP.out.below HX2.out.b).key (HP.out.below HX2.out.b).val).mono ?_
      rintro _ w3 ⟨h3, rfl, hi3, hb3⟩
      unfold TH.v
      have HX3 := Lib.hid (HX2.out.below hb3)
      have HI3 := Lib.hid hi3
      clear hi3 hb3
      go_simp
      refine hK.out _ _ ?_ (fun hHeld => ?_)
      · (first | exact ⟨HX4.out.box.cells.2.1, HX4.out.box.cells.2.2.1, (HX4.out.box.cells.2.2.2.2).trans (by rw [HTA.out]), (HP.out.below HX4.out.b).kid0 HTA.out (by omega), (HP.out.below HX4.out.b).kid1 HTA.out (by omega)⟩ | exact ⟨HX3.out.box.cells.2.1, HX3.out.box.cells.2.2.1, (HX3.out.box.cells.2.2.2.2).trans (by rw [HTA.out]), (HP.out.below HX3.out.b).kid0 HTA.out (by omega), (HP.out.below HX3.out.b).kid1 HTA.out (by omega)⟩ | exact ⟨HX2.out.box.cells.2.1, HX2.out.box.cells.2.2.1, (HX2.out.box.cells.2.2.2.2).trans (by rw [HTA.out]), (HP.out.below HX2.out.b).kid0 HTA.out (by omega), (HP.out.below HX2.out.b).kid1 HTA.out (by omega)⟩ | exact ⟨HX0.out.drew.box.cells.2.1, HX0.out.drew.box.cells.2.2.1, (HX0.out.drew.box.cells.2.2.2.2).trans (by rw [HTA.out]), (HP.out.below HX0.out.drew.b).kid0 HTA.out (by omega), (HP.out.below HX0.out.drew.b).kid1 HTA.out (by omega)⟩)
      clear hK K
      (try simp only [Act.put, List.setIfInBounds_toArray, List.set_cons_zero, List.set_cons_succ])
      refine one_l (i := 16) (o := ?oZ29) (by kernel_rfl) ?hiZ29 (fun K hK => ?stZ29)
      case hiZ29 => (simp only [List.getElem?_toArray, List.getElem?_cons_succ, List.getElem?_cons_zero] <;> rfl)
      go_simp
      go_at_call 73
      refine (refLevel_any (l.put key val) k v r h3 _ HI3.out (Lim.mk (AT.put_lim hkl hvl HL.out.1) HL.out.2.1 HL.out.2.2.1 HL.out.2.2.2) (by have := (AT.put_bal key val l HBL.out.1).2.2; simp only [AT.depth] at hd; omega) (by simp only [AT.depth] at hd; omega)).mono ?_
      rintro _ w4 ⟨h4, rfl, hi4, hb4⟩
      unfold TH.v
      have HX4 := Lib.hid (HX3.out.below hb4)
      have HI4 := Lib.hid hi4
      clear hi4 hb4
      go_simp
      refine hK.out _ _ ?_ (fun hHeld => ?_)
      · (first | exact ⟨HX4.out.box.cells.2.1, HX4.out.box.cells.2.2.1, (HX4.out.box.cells.2.2.2.2).trans (by rw [HTA.out]), (HP.out.below HX4.out.b).kid0 HTA.out (by omega), (HP.out.below HX4.out.b).kid1 HTA.out (by omega)⟩ | exact ⟨HX3.out.box.cells.2.1, HX3.out.box.cells.2.2.1, (HX3.out.box.cells.2.2.2.2).trans (by rw [HTA.out]), (HP.out.below HX3.out.b).kid0 HTA.out (by omega), (HP.out.below HX3.out.b).kid1 HTA.out (by omega)⟩ | exact ⟨HX2.out.box.cells.2.1, HX2.out.box.cells.2.2.1, (HX2.out.box.cells.2.2.2.2).trans (by rw [HTA.out]), (HP.out.below HX2.out.b).kid0 HTA.out (by omega), (HP.out.below HX2.out.b).kid1 HTA.out (by omega)⟩ | exact ⟨HX0.out.drew.box.cells.2.1, HX0.out.drew.box.cells.2.2.1, (HX0.out.drew.box.cells.2.2.2.2).trans (by rw [HTA.out]), (HP.out.below HX0.out.drew.b).kid0 HTA.out (by omega), (HP.out.below HX0.out.drew.b).kid1 HTA.out (by omega)⟩)
      clear hK K
      (try simp only [Act.put, List.setIfInBounds_toArray, List.set_cons_zero, List.set_cons_succ])
      refine last_l (o := ?oZ30) (by kernel_rfl) ?hiZ30 (by kernel_rfl) (fun K hK => ?stZ30)
      case hiZ30 => (simp only [List.getElem?_toArray, List.getElem?_cons_succ, List.getElem?_cons_zero] <;> rfl)
      refine step_store_box rfl 27 (.tmp 6) (.tmp 55) rfl (w.heap.size + 1) hZ h4 rfl rfl 27 HX4.out.res infoTree5 ?_
      intro w9 hbx9 hg9
      have HX9 := Lib.hid hbx9
      have HI9 := Lib.hid (AT.outBox HX4.out.res hg9 _ _ HI4.out)
      have HB9 : Hid (Below w.heap.size w w9) := Lib.hid (HX4.out.b.grown hg9 HX4.out.b.size (fun j hj => by injection hj; omega))
      clear hbx9 hg9
      refine hK.out _ _ ?_
      clear hK K
      (try simp only [Act.put])
      
      clear hHeld
      go_wp2_with fail
      refine bodyPost_ret (v := h4.v) (result_tree Tryd.results49 _ HX9.out rfl Tryd.underlying27 infoTree5) rfl ⟨_, rfl, ?_, HB9.out⟩
      rw [HPN.out]
      exact HI9.out
end Go.Proofs.YtlbiefddcimdgaaDoor

/- Trees that are balanced, whose keys rise, within their bounds: they stay so. No program is named here. -/
namespace Go.Proofs.YtlbiefddcimdgaaDoor
set_option linter.unusedVariables false

structure Good (a : AT) : Prop where
  bal : a.bal
  rise : Rise a.pairs
  lim : Lim a.pairs
theorem Good.nil : Good .nil := ⟨trivial, List.Pairwise.nil, fun p hp => by cases hp⟩
theorem AT.depth_le : ∀ a : AT, a.depth ≤ a.pairs.length := by
  intro a
  induction a with
  | nil => exact Nat.le_refl _
  | node l k v r ihl ihr =>
    simp only [AT.depth, AT.pairs, List.length_append, List.length_cons]
    omega
theorem Good.put {a : AT} (h : Good a) {key val : List Int} (hk : key.length ≤ 80) (hv : val.length ≤ 1024) : Good (a.put key val) := by
  refine ⟨(AT.put_bal key val a h.bal).1, ?_, ?_⟩
  · rw [AT.put_pairs key val a h.rise]
    have hr := h.rise
    unfold Rise at hr ⊢
    rw [List.pairwise_append, List.pairwise_cons]
    refine ⟨hr.filter _, ⟨fun q hq => (List.mem_filter.1 hq).2, hr.filter _⟩, fun p hp q hq => ?_⟩
    have h1 : ltL p.1 key = true := (List.mem_filter.1 hp).2
    rcases List.mem_cons.1 hq with rfl | hq
    · exact h1
    · exact ltL_trans h1 (List.mem_filter.1 hq).2
  · rw [AT.put_pairs key val a h.rise]
    intro p hp
    rcases List.mem_append.1 hp with hp | hp
    · exact h.lim p (List.mem_filter.1 hp).1
    · rcases List.mem_cons.1 hp with rfl | hp
      · exact ⟨hk, hv⟩
      · exact h.lim p (List.mem_filter.1 hp).1
theorem Good.is {a : AT} (h : Good a) (hd : a.pairs.length ≤ 64) : isT a.tr = true := (isT_iff a.tr).2 ⟨a, rfl, h.bal, h.rise, h.lim, Nat.le_trans (AT.depth_le a) hd⟩
theorem AT.put_len (key val : List Int) {a : AT} (h : Rise a.pairs) : (a.put key val).pairs.length ≤ a.pairs.length + 1 := by
  rw [AT.put_pairs key val a h, List.length_append, List.length_cons]
  have h1 : (a.pairs.filter fun p => ltL p.1 key).length + (a.pairs.filter fun p => ltL key p.1).length ≤ a.pairs.length := by
    generalize a.pairs = l
    induction l with
    | nil => exact Nat.le_refl _
    | cons p l ih =>
      rw [List.filter_cons, List.filter_cons, List.length_cons]
      cases c1 : ltL p.1 key
      · cases c2 : ltL key p.1 <;> simp <;> omega
      · rw [ltL_asymm c1]
        simp
        omega
  omega
end Go.Proofs.YtlbiefddcimdgaaDoor

/- The contract of the document's tree into which pairs were put. -/
namespace Go.Proofs.YtlbiefddcimdgaaDoor
open Go.RowKit
set_option linter.unusedVariables false

/-- The tree that grows, in its box. -/
structure GW (w W : World) (ht : TH) (a : AT) (i : Nat) : Prop where
  b : Below w.heap.size w W
  res : Box W 27 w.heap.size hZ
  box : Box W 27 (w.heap.size + 1) ht
  ti : InTree W ht a.tr
  good : Good a
  cnt : a.pairs.length ≤ i
section
variable {w W W' : World} {ht hn : TH} {a : AT} {i j : Nat}
theorem GW.below (x : GW w W ht a i) (hb : Below W.heap.size W W') : GW w W' ht a i := ⟨x.b.trans (hb.mono x.b.size), x.res.below hb x.res.lt, x.box.below hb x.box.lt, x.ti.lower hb, x.good, x.cnt⟩
theorem GW.drew (x : GW w W ht a i) : GW w W.drew ht a i := x.below (Below.refl _ _).drew
theorem GW.more (x : GW w W ht a i) (h : i ≤ j) : GW w W ht a j := ⟨x.b, x.res, x.box, x.ti, x.good, Nat.le_trans x.cnt h⟩
theorem GW.put (x : GW w W ht a i) (hx : Box W' 27 (w.heap.size + 1) hn) (hg : W.grownBy W' (some (w.heap.size + 1))) {key val : List Int} (hi : InTree W hn (a.put key val).tr) (hk : key.length ≤ 80) (hv : val.length ≤ 1024) : GW w W' hn (a.put key val) (i + 1) :=
  ⟨x.b.grown hg x.b.size (fun j hj => by injection hj; omega), x.res.grown hg (fun q => by injection q; omega), hx, AT.outBox x.box hg _ _ hi, x.good.put hk hv, Nat.le_trans (AT.put_len key val x.good.rise) (by have := x.cnt; omega)⟩
end
/-- The tree into which pairs were put, those that may be. -/
def growS (a : AT) (p : KV) : AT := if p.1.length ≤ 80 ∧ p.2.length ≤ 1024 then a.put p.1 p.2 else a
def grownL (l : List KV) : AT := l.foldl growS .nil
theorem grown_step {kvs : List KV} {i : Nat} {p : KV} (e : kvs[i]? = some p) : grownL (kvs.take (i + 1)) = growS (grownL (kvs.take i)) p := by
  unfold grownL
  rw [List.take_add_one, e, List.foldl_append]
  rfl
theorem grown_yes {kvs : List KV} {i : Nat} {key val : List Int} {a : AT} (e : kvs[i]? = some (key, val)) (ha : a = grownL (kvs.take i)) (h1 : key.length ≤ 80) (h2 : val.length ≤ 1024) : a.put key val = grownL (kvs.take (i + 1)) := by
  rw [grown_step e, growS, if_pos ⟨h1, h2⟩, ha]
theorem grown_no {kvs : List KV} {i : Nat} {key val : List Int} {a : AT} (e : kvs[i]? = some (key, val)) (ha : a = grownL (kvs.take i)) (h : ¬ (key.length ≤ 80 ∧ val.length ≤ 1024)) : a = grownL (kvs.take (i + 1)) := by
  rw [grown_step e, growS, if_neg h, ha]
/-- It answers the tree of the first sixty pairs, balanced. -/
def GrowsTo (w : World) (kvs : List KV) (e : Ending) (w' : World) : Prop := Good (grownL (kvs.take 60)) ∧ (grownL (kvs.take 60)).pairs.length ≤ 60 ∧ Tells w (grownL (kvs.take 60)) e w'
/-- It answers a tree of at most sixty pairs, balanced. -/
def Grows (w : World) (e : Ending) (w' : World) : Prop := ∃ a : AT, Good a ∧ a.pairs.length ≤ 60 ∧ Tells w a e w'
theorem enterG (w : World) : Box (w.alloc (.cells #[.int .i64 0, .slice none 0 0, .slice none 0 0, .slice none 0 0, .slice none 0 0] 27)) 27 w.heap.size hZ := Box.new w 27 hZ

set_option maxRecDepth 100000 in
set_option maxHeartbeats 4000000 in
theorem refGrown_is (kvs : List KV) (la : Option Addr) (n cap : Nat) (D : Nat → PH) (w : World) (hnl : n = kvs.length) (hin : InRec recP w la n cap D) (hpd : PairsD w D kvs) : Calls Tryd.prog 19 #[.slice la n cap] w (GrowsTo w kvs) := by
  have hkv : ∀ i, i < n → ∃ key val, kvs[i]? = some (key, val) ∧ InBytes w (D i).ka (D i).kn (D i).kc key ∧ InBytes w (D i).va (D i).vn (D i).vc val := fun i hi => ⟨_, _, List.getElem?_eq_getElem (by omega), hpd i (by omega)⟩
  have HNL := Lib.hid hnl
  have HIN := Lib.hid hin
  have HKVS := Lib.hid hkv
  clear hin hkv hpd hnl
  have hr := enterG w
  have s1 : (w.alloc (.cells #[.int .i64 0, .slice none 0 0, .slice none 0 0, .slice none 0 0, .slice none 0 0] 27)).heap.size = w.heap.size + 1 := by simp
  have hb0 : Below w.heap.size w (w.alloc (.cells #[.int .i64 0, .slice none 0 0, .slice none 0 0, .slice none 0 0, .slice none 0 0] 27)) := (Below.refl _ _).alloc (Nat.le_refl _) _
  have hx1 : Box ((w.alloc (.cells #[.int .i64 0, .slice none 0 0, .slice none 0 0, .slice none 0 0, .slice none 0 0] 27)).alloc (.cells #[.int .i64 0, .slice none 0 0, .slice none 0 0, .slice none 0 0, .slice none 0 0] 27)) 27 (w.heap.size + 1) hZ := by
    have q := Box.new (w.alloc (.cells #[.int .i64 0, .slice none 0 0, .slice none 0 0, .slice none 0 0, .slice none 0 0] 27)) 27 hZ
    rw [s1] at q
    exact q
  have hr1 := hr.below ((Below.refl (w.alloc (.cells #[.int .i64 0, .slice none 0 0, .slice none 0 0, .slice none 0 0, .slice none 0 0] 27)).heap.size (w.alloc (.cells #[.int .i64 0, .slice none 0 0, .slice none 0 0, .slice none 0 0, .slice none 0 0] 27))).alloc (Nat.le_refl _) (.cells #[.int .i64 0, .slice none 0 0, .slice none 0 0, .slice none 0 0, .slice none 0 0] 27)) hr.lt
  have hb1 : Below w.heap.size w ((w.alloc (.cells #[.int .i64 0, .slice none 0 0, .slice none 0 0, .slice none 0 0, .slice none 0 0] 27)).alloc (.cells #[.int .i64 0, .slice none 0 0, .slice none 0 0, .slice none 0 0, .slice none 0 0] 27)) := hb0.alloc (by rw [s1]; omega) _
  have HX := Lib.hid (And.intro hx1 (And.intro hr1 hb1))
  clear hr s1 hb0 hx1 hr1 hb1
  go_enter Tryd.func19, Tryd.ntmps19
  go_upto_region 2 with (first
    | (refine wpList_store_box rfl 27 (.tmp 3) (.tmp 5) rfl (w.heap.size + 1) hZ hZ rfl rfl 27 HX.out.1 infoTree5 ?_
       intro w2 hbx hg
       have HG2 : Hid (GW w w2 hZ .nil 0) := Lib.hid ⟨HX.out.2.2.grown hg HX.out.2.2.size (fun j hj => by injection hj; omega), HX.out.2.1.grown hg (fun q => by injection q; omega), hbx, inTree_nil w2, Good.nil, Nat.le_refl _⟩
       clear hbx hg))
  clear HX
  go_wp2_with fail
  go_loopw [4] (fun s4 wx => ∃ (i : Nat) (ht : TH) (a : AT), i ≤ n ∧ i ≤ 60 ∧ s4 = .int .i64 i ∧ GW w wx ht a i ∧ a = grownL (kvs.take i)) (fun s4 _ => n - (intOf s4).toNat)
  case atStart => exact ⟨0, hZ, .nil, by omega, by omega, rfl, HG2.out, by rw [List.take_zero]; rfl⟩
  case round =>
    clear HG2
    obtain ⟨i, ht, a, hi1, hi2, rfl, hgw, hga⟩ := hrel
    have HGA := Lib.hid hga
    clear hga
    have HG := Lib.hid hgw
    by_cases c1 : i < n
    · have q1 : (i : Int) < (n : Int) := by omega
      by_cases c2 : i < 60
      · have q2 : (i : Int) < 60 := by omega
        obtain ⟨key, val, hek, hk, hv⟩ := HKVS.out i c1
        have HEK := Lib.hid hek
        clear hek
        have HKV := Lib.hid (And.intro hk hv)
        have hkl := hk.len
        have hvl := hv.len
        obtain ⟨g, off, hea, -, -⟩ := HIN.out.at (by omega)
        obtain ⟨y0, y1⟩ := (HIN.out.below hgw.b).pair hea i c1
        have HEA := Lib.hid hea
        rw [hea]
        clear hea hk hv hgw
        by_cases c3 : (D i).kn ≤ 80
        · have q3 : ((D i).kn : Int) ≤ 80 := by omega
          by_cases c4 : (D i).vn ≤ 1024
          · have q4 : ((D i).vn : Int) ≤ 1024 := by omega
            go_upto_region 6 with fail
            clear y0 y1
            refine region_l (S := (fun W => (W.cell? ⟨(w.heap.size + 1), 0, none⟩ = some (.int .i64 ht.k) ∧ W.cell? ⟨(w.heap.size + 1), 1, none⟩ = some (.slice ht.ka ht.kn ht.kc) ∧ W.cell? ⟨(w.heap.size + 1), 2, none⟩ = some (.slice ht.va ht.vn ht.vc) ∧ W.cell? ⟨(w.heap.size + 1), 3, none⟩ = some (.slice ht.da ht.dn ht.dc) ∧ W.cell? ⟨(w.heap.size + 1), 4, none⟩ = some (.slice ht.ta ht.tn ht.tc)) ∧ W.cell? ⟨g, off + i * 2, none⟩ = some (.slice (D i).ka (D i).kn (D i).kc) ∧ W.cell? ⟨g, off + i * 2 + 1, none⟩ = some (.slice (D i).va (D i).vn (D i).vc))) 12 (by kernel_rfl) ⟨HG.out.drew.box.cells, ((HIN.out.below HG.out.drew.b).pair HEA.out i c1).1, ((HIN.out.below HG.out.drew.b).pair HEA.out i c1).2⟩ (fun hHeld => ?_)
            refine take_l (i := 0) (oi := ?oZ60) (v := ?vZ60) ?hiZ60 (by kernel_rfl) (by kernel_rfl) (by kernel_rfl) (by kernel_rfl) ?hQZ60 ?hwZ60 ?hyZ60 (by assumption) ?restZ60
            case hiZ60 => (simp only [List.getElem?_toArray, List.getElem?_cons_zero] <;> rfl)
            case hQZ60 => exact (fun _ _ _ h => h)
            case hwZ60 => rfl
            case hyZ60 => (intro w hSw; (try dsimp only at hSw); go_simp; try with_reducible rfl)
            (try simp only [Act.put, List.setIfInBounds_toArray, List.set_cons_zero, List.set_cons_succ])
            refine take_l (i := 1) (oi := ?oZ61) (v := ?vZ61) ?hiZ61 (by kernel_rfl) (by kernel_rfl) (by kernel_rfl) (by kernel_rfl) ?hQZ61 ?hwZ61 ?hyZ61 (by assumption) ?restZ61
            case hiZ61 => (simp only [List.getElem?_toArray, List.getElem?_cons_succ, List.getElem?_cons_zero] <;> rfl)
            case hQZ61 => exact (fun _ _ _ h => h)
            case hwZ61 => rfl
            case hyZ61 => (intro w hSw; (try dsimp only at hSw); go_simp; try with_reducible rfl)
            (try simp only [Act.put, List.setIfInBounds_toArray, List.set_cons_zero, List.set_cons_succ])
            refine take_l (i := 2) (oi := ?oZ62) (v := ?vZ62) ?hiZ62 (by kernel_rfl) (by kernel_rfl) (by kernel_rfl) (by kernel_rfl) ?hQZ62 ?hwZ62 ?hyZ62 (by assumption) ?restZ62
            case hiZ62 => (simp only [List.getElem?_toArray, List.getElem?_cons_succ, List.getElem?_cons_zero] <;> rfl)
            case hQZ62 => exact (fun _ _ _ h => h)
            case hwZ62 => rfl
            case hyZ62 => (intro w hSw; (try dsimp only at hSw); go_simp; try with_reducible rfl)
            (try simp only [Act.put, List.setIfInBounds_toArray, List.set_cons_zero, List.set_cons_succ])
            refine take_l (i := 3) (oi := ?oZ63) (v := ?vZ63) ?hiZ63 (by kernel_rfl) (by kernel_rfl) (by kernel_rfl) (by kernel_rfl) ?hQZ63 ?hwZ63 ?hyZ63 (by assumption) ?restZ63
            case hiZ63 => (simp only [List.getElem?_toArray, List.getElem?_cons_succ, List.getElem?_cons_zero] <;> rfl)
            case hQZ63 => exact (fun _ _ _ h => h)
            case hwZ63 => rfl
            case hyZ63 => (intro w hSw; (try dsimp only at hSw); go_simp; try with_reducible rfl)
            (try simp only [Act.put, List.setIfInBounds_toArray, List.set_cons_zero, List.set_cons_succ])
            refine take_l (i := 4) (oi := ?oZ64) (v := ?vZ64) ?hiZ64 (by kernel_rfl) (by kernel_rfl) (by kernel_rfl) (by kernel_rfl) ?hQZ64 ?hwZ64 ?hyZ64 (by assumption) ?restZ64
            case hiZ64 => (simp only [List.getElem?_toArray, List.getElem?_cons_succ, List.getElem?_cons_zero] <;> rfl)
            case hQZ64 => exact (fun _ _ _ h => h)
            case hwZ64 => rfl
            case hyZ64 => (intro w hSw; (try dsimp only at hSw); go_simp; try with_reducible rfl)
            (try simp only [Act.put, List.setIfInBounds_toArray, List.set_cons_zero, List.set_cons_succ])
            refine take_l (i := 5) (oi := ?oZ65) (v := ?vZ65) ?hiZ65 (by kernel_rfl) (by kernel_rfl) (by kernel_rfl) (by kernel_rfl) ?hQZ65 ?hwZ65 ?hyZ65 (by assumption) ?restZ65
            case hiZ65 => (simp only [List.getElem?_toArray, List.getElem?_cons_succ, List.getElem?_cons_zero] <;> rfl)
            case hQZ65 => exact (fun _ _ _ h => h)
            case hwZ65 => rfl
            case hyZ65 => (intro w hSw; (try dsimp only at hSw); go_simp; try with_reducible rfl)
            (try simp only [Act.put, List.setIfInBounds_toArray, List.set_cons_zero, List.set_cons_succ])
            refine take_l (i := 6) (oi := ?oZ66) (v := ?vZ66) ?hiZ66 (by kernel_rfl) (by kernel_rfl) (by kernel_rfl) (by kernel_rfl) ?hQZ66 ?hwZ66 ?hyZ66 (by assumption) ?restZ66
            case hiZ66 => (simp only [List.getElem?_toArray, List.getElem?_cons_succ, List.getElem?_cons_zero] <;> rfl)
            case hQZ66 => exact (fun _ _ _ h => h)
            case hwZ66 => rfl
            case hyZ66 => (intro w hSw; (try dsimp only at hSw); go_simp; try with_reducible rfl)
            (try simp only [Act.put, List.setIfInBounds_toArray, List.set_cons_zero, List.set_cons_succ])
            refine take_l (i := 7) (oi := ?oZ67) (v := ?vZ67) ?hiZ67 (by kernel_rfl) (by kernel_rfl) (by kernel_rfl) (by kernel_rfl) ?hQZ67 ?hwZ67 ?hyZ67 (by assumption) ?restZ67
            case hiZ67 => (simp only [List.getElem?_toArray, List.getElem?_cons_succ, List.getElem?_cons_zero] <;> rfl)
            case hQZ67 => exact (fun _ _ _ h => h)
            case hwZ67 => rfl
            case hyZ67 => (intro w hSw; (try dsimp only at hSw); go_simp; try with_reducible rfl)
            (try simp only [Act.put, List.setIfInBounds_toArray, List.set_cons_zero, List.set_cons_succ])
            refine take_l (i := 8) (oi := ?oZ68) (v := ?vZ68) ?hiZ68 (by kernel_rfl) (by kernel_rfl) (by kernel_rfl) (by kernel_rfl) ?hQZ68 ?hwZ68 ?hyZ68 (by assumption) ?restZ68
            case hiZ68 => (simp only [List.getElem?_toArray, List.getElem?_cons_succ, List.getElem?_cons_zero] <;> rfl)
            case hQZ68 => exact (fun _ _ _ h => h)
            case hwZ68 => rfl
            case hyZ68 => (intro w hSw; (try dsimp only at hSw); go_simp; try with_reducible rfl)
            (try simp only [Act.put, List.setIfInBounds_toArray, List.set_cons_zero, List.set_cons_succ])
            refine take_l (i := 9) (oi := ?oZ69) (v := ?vZ69) ?hiZ69 (by kernel_rfl) (by kernel_rfl) (by kernel_rfl) (by kernel_rfl) ?hQZ69 ?hwZ69 ?hyZ69 (by assumption) ?restZ69
            case hiZ69 => (simp only [List.getElem?_toArray, List.getElem?_cons_succ, List.getElem?_cons_zero] <;> rfl)
            case hQZ69 => exact (fun _ _ _ h => h)
            case hwZ69 => rfl
            case hyZ69 => (intro w hSw; (try dsimp only at hSw); go_simp; try with_reducible rfl)
            (try simp only [Act.put, List.setIfInBounds_toArray, List.set_cons_zero, List.set_cons_succ])
            refine take_l (i := 10) (oi := ?oZ70) (v := ?vZ70) ?hiZ70 (by kernel_rfl) (by kernel_rfl) (by kernel_rfl) (by kernel_rfl) ?hQZ70 ?hwZ70 ?hyZ70 (by assumption) ?restZ70
            case hiZ70 => (simp only [List.getElem?_toArray, List.getElem?_cons_succ, List.getElem?_cons_zero] <;> rfl)
            case hQZ70 => exact (fun _ _ _ h => h)
            case hwZ70 => rfl
            case hyZ70 => (intro w hSw; (try dsimp only at hSw); go_simp; try with_reducible rfl)
            (try simp only [Act.put, List.setIfInBounds_toArray, List.set_cons_zero, List.set_cons_succ])
            refine one_l (i := 11) (o := ?oZ71) (by kernel_rfl) ?hiZ71 (fun K hK => ?stZ71)
            case hiZ71 => (simp only [List.getElem?_toArray, List.getElem?_cons_succ, List.getElem?_cons_zero] <;> rfl)
            go_simp
            go_at_call 49
            refine (refPut_any key val (D i).ka (D i).va (D i).kn (D i).kc (D i).vn (D i).vc (by omega) (by omega) a ht _ HG.out.drew.ti HG.out.good.lim HG.out.good.bal (by have h1 := AT.depth_le a; have := HG.out.cnt; omega) (HKV.out.1.below HG.out.drew.b) (HKV.out.2.below HG.out.drew.b)).mono ?_
            rintro _ w6 ⟨h6, rfl, hi6, hb6⟩
            unfold TH.v
            have HG6 := Lib.hid (HG.out.drew.below hb6)
            have HI6 := Lib.hid hi6
            clear hi6 hb6
            go_simp
            refine hK.out _ _ ?_ (fun hHeld => ?_)
            · (first | exact ⟨HG6.out.box.cells, ((HIN.out.below HG6.out.b).pair HEA.out i c1).1, ((HIN.out.below HG6.out.b).pair HEA.out i c1).2⟩ | exact ⟨HG.out.drew.box.cells, ((HIN.out.below HG.out.drew.b).pair HEA.out i c1).1, ((HIN.out.below HG.out.drew.b).pair HEA.out i c1).2⟩)
            clear hK K
            (try simp only [Act.put, List.setIfInBounds_toArray, List.set_cons_zero, List.set_cons_succ])
            refine last_l (o := ?oZ72) (by kernel_rfl) ?hiZ72 (by kernel_rfl) (fun K hK => ?stZ72)
            case hiZ72 => (simp only [List.getElem?_toArray, List.getElem?_cons_succ, List.getElem?_cons_zero] <;> rfl)
            refine step_store_box rfl 27 (.tmp 3) (.tmp 43) rfl (w.heap.size + 1) ht h6 rfl rfl 27 HG6.out.box infoTree5 ?_
            intro w7 hbx hg
            have HG7 := Lib.hid (HG6.out.put hbx hg HI6.out (by omega : key.length ≤ 80) (by omega : val.length ≤ 1024))
            clear hbx hg
            refine hK.out _ _ ?_
            clear hK K
            (try simp only [Act.put])
            
            clear hHeld
            go_wp2_with fail
            exact ⟨⟨i + 1, h6, _, by omega, by omega, by go_num, HG7.out, grown_yes HEK.out HGA.out (by omega) (by omega)⟩, by simp [intOf]; omega⟩
          · have q4 : ¬ ((D i).vn : Int) ≤ 1024 := by omega
            go_wp2_with fail
            exact ⟨⟨i + 1, ht, a, by omega, by omega, by go_num, HG.out.more (by omega), grown_no HEK.out HGA.out (by omega)⟩, by simp [intOf]; omega⟩
        · have q3 : ¬ ((D i).kn : Int) ≤ 80 := by omega
          go_wp2_with fail
          exact ⟨⟨i + 1, ht, a, by omega, by omega, by go_num, HG.out.more (by omega), grown_no HEK.out HGA.out (by omega)⟩, by simp [intOf]; omega⟩
      · have q2 : ¬ (i : Int) < 60 := by omega
        clear hgw
        obtain ⟨x0, x1, x2, x3, x4⟩ := HG.out.box.cells
        go_wp2_with (first
          | (refine wpList_store_box rfl 27 (.tmp 2) (.tmp 44) rfl w.heap.size hZ ht rfl rfl 27 HG.out.res infoTree5 ?_
             intro w9 hbx9 hg9
             have HX9 := Lib.hid hbx9
             have HI9 := Lib.hid (AT.outBox HG.out.res hg9 _ _ HG.out.ti)
             have HB9 : Hid (Below w.heap.size w w9) := Lib.hid (HG.out.b.grown hg9 HG.out.b.size (fun j hj => by injection hj; omega))
             clear hbx9 hg9 x0 x1 x2 x3 x4))
        have hnl := HNL.out
        have e60 : a = grownL (kvs.take 60) := by
          rw [HGA.out]
          rcases (by omega : i = 60 ∨ kvs.length ≤ i) with q | q
          · rw [q]
          · rw [List.take_of_length_le q, List.take_of_length_le (by omega)]
        clear hnl
        exact bodyPost_ret (v := ht.v) (result_tree Tryd.results19 _ HX9.out rfl Tryd.underlying27 infoTree5) rfl ⟨by rw [← e60]; exact HG.out.good, by rw [← e60]; have := HG.out.cnt; omega, _, rfl, by rw [← e60]; exact HI9.out, HB9.out⟩
    · have q1 : ¬ (i : Int) < (n : Int) := by omega
      clear hgw
      obtain ⟨x0, x1, x2, x3, x4⟩ := HG.out.box.cells
      go_wp2_with (first
        | (refine wpList_store_box rfl 27 (.tmp 2) (.tmp 44) rfl w.heap.size hZ ht rfl rfl 27 HG.out.res infoTree5 ?_
           intro w9 hbx9 hg9
           have HX9 := Lib.hid hbx9
           have HI9 := Lib.hid (AT.outBox HG.out.res hg9 _ _ HG.out.ti)
           have HB9 : Hid (Below w.heap.size w w9) := Lib.hid (HG.out.b.grown hg9 HG.out.b.size (fun j hj => by injection hj; omega))
           clear hbx9 hg9 x0 x1 x2 x3 x4))
      have hnl := HNL.out
      have e60 : a = grownL (kvs.take 60) := by
        rw [HGA.out]
        rcases (by omega : i = 60 ∨ kvs.length ≤ i) with q | q
        · rw [q]
        · rw [List.take_of_length_le q, List.take_of_length_le (by omega)]
      clear hnl
      exact bodyPost_ret (v := ht.v) (result_tree Tryd.results19 _ HX9.out rfl Tryd.underlying27 infoTree5) rfl ⟨by rw [← e60]; exact HG.out.good, by rw [← e60]; have := HG.out.cnt; omega, _, rfl, by rw [← e60]; exact HI9.out, HB9.out⟩
/-- Any row of pairs is the row of some list. -/
theorem pairs_list {w : World} {n : Nat} {D : Nat → PH} (hkv : ∀ i, i < n → ∃ key val, InBytes w (D i).ka (D i).kn (D i).kc key ∧ InBytes w (D i).va (D i).vn (D i).vc val) : ∃ kvs : List KV, n = kvs.length ∧ PairsD w D kvs := by
  induction n with
  | zero => exact ⟨[], rfl, fun i hi => by simp at hi⟩
  | succ n ih =>
    obtain ⟨kvs, e, h⟩ := ih (fun i hi => hkv i (by omega))
    obtain ⟨key, val, h1, h2⟩ := hkv n (by omega)
    refine ⟨kvs ++ [(key, val)], by simp [e], fun i hi => ?_⟩
    by_cases c : i < kvs.length
    · rw [List.getElem_append_left c]
      exact h i c
    · have e0 : i = n := by simp at hi; omega
      subst e0
      have e2 : (kvs ++ [(key, val)])[i] = (key, val) := by simp [e]
      rw [e2]
      exact ⟨h1, h2⟩
theorem refGrown_any (la : Option Addr) (n cap : Nat) (D : Nat → PH) (w : World) (hin : InRec recP w la n cap D) (hkv : ∀ i, i < n → ∃ key val, InBytes w (D i).ka (D i).kn (D i).kc key ∧ InBytes w (D i).va (D i).vn (D i).vc val) : Calls Tryd.prog 19 #[.slice la n cap] w (Grows w) := by
  obtain ⟨kvs, e, h⟩ := pairs_list hkv
  refine (refGrown_is kvs la n cap D w e hin h).mono ?_
  rintro _ w' ⟨h1, h2, h3⟩
  exact ⟨_, h1, h2, h3⟩
end Go.Proofs.YtlbiefddcimdgaaDoor

/- Two rows of pairs that hold the same ones. -/
namespace Go.Proofs.YtlbiefddcimdgaaDoor
open Go.RowKit
set_option linter.unusedVariables false

/-- The program's pairs and the document's: the same ones. -/
theorem same_told {W : World} {base base' : Nat} {ty : TypeId} {a a' : Option Addr} {n n' c c' : Nat} {rs rs' : List PH} {kvs : List KV} (o : OwnR recP W base ty (.slice a n c) rs) (hl : rs.length = n) (v : PairsIn W rs kvs) (o' : OwnR recP W base' ty (.slice a' n' c') rs') (hl' : rs'.length = n') (v' : PairsIn W rs' kvs) :
    Calls Tryd.prog 15 #[.slice a n c, .slice a' n' c'] W (Says W (.bool true)) := by
  obtain rfl : n' = n := by have := v.1; have := v'.1; omega
  exact refSameP_any kvs (fun i => rs.getD i pZ) (fun i => rs'.getD i pZ) a a' n' c c' W (by have := v.1; omega) (o.inRec pZ).2 (o'.inRec pZ).2 v.byD v'.byD
end Go.Proofs.YtlbiefddcimdgaaDoor

/- A tree of sixty pairs at most has few parts. -/
namespace Go.Proofs.YtlbiefddcimdgaaDoor
open Go.RowKit
set_option linter.unusedVariables false

theorem count_small8 {a : AT} (h : a.pairs.length ≤ 60) : countT a.tr ≤ 500 := by
  have e : countT a.tr = 2 * a.pairs.length + 1 := by
    clear h
    induction a with
    | nil => rw [countT_eq]; rfl
    | node l k v r ihl ihr =>
      rw [countT_eq, AT.tr_kids]
      simp only [List.map_cons, List.map_nil, List.sum_cons, List.sum_nil, ihl, ihr, AT.pairs, List.length_append, List.length_cons]
      omega
  omega
end Go.Proofs.YtlbiefddcimdgaaDoor

/- The walk of the law CheckHonest. -/
namespace Go.Proofs.YtlbiefddcimdgaaDoor
open Go.RowKit
set_option linter.unusedVariables false

/-- The span's box, and the tree in its box. -/
structure GX8 (w W : World) (sp : DH) (f tt : List Int) (g1 : Nat) (h2 : TH) (a : AT) : Prop where
  sx : SX w W sp f tt
  tb : Box W 27 g1 h2
  ti : InTree W h2 a.tr
/-- And the proof. -/
structure HX8 (w W : World) (sp : DH) (f tt : List Int) (g1 : Nat) (h2 : TH) (a : AT) (g2 : Nat) (hp : TH) (p : Tr) : Prop where
  g : GX8 w W sp f tt g1 h2 a
  pb : Box W 27 g2 hp
  pt : InTree W hp p
section
variable {w W W' : World} {sp : DH} {f tt : List Int} {g1 g2 : Nat} {h2 hp : TH} {a : AT} {p : Tr}
theorem GX8.below (x : GX8 w W sp f tt g1 h2 a) (hb : Below W.heap.size W W') : GX8 w W' sp f tt g1 h2 a := ⟨x.sx.below hb, x.tb.below hb x.tb.lt, x.ti.lower hb⟩
theorem HX8.below (x : HX8 w W sp f tt g1 h2 a g2 hp p) (hb : Below W.heap.size W W') : HX8 w W' sp f tt g1 h2 a g2 hp p := ⟨x.g.below hb, x.pb.below hb x.pb.lt, x.pt.lower hb⟩
end

set_option maxRecDepth 100000 in
set_option maxHeartbeats 8000000 in
theorem checkHonest_law (x : Int) (la : Option Addr) (n cap : Nat) (D : Nat → PH) (sp : DH) (f tt : List Int) (w : World) (hin : InRec recP w la n cap D) (hkv : ∀ i, i < n → ∃ key val, InBytes w (D i).ka (D i).kn (D i).kc key ∧ InBytes w (D i).va (D i).vn (D i).vc val)
    (hs : SpanIn w sp f tt) (hT : TabLies w) (hx1 : -9223372036854775808 ≤ x) (hx2 : x ≤ 9223372036854775807) :
    Calls Tryd.prog 6 #[.int .i64 x, .slice la n cap, sp.v] w (Says w (.bool true)) := by
  have heq : ∀ (W : World) (p q : Int), (binOp .eql 32 (.iface 56 (.int .i64 p)) (.iface 56 (.int .i64 q))).run Tryd.prog W = .ok (.bool (p == q)) W := fun W p q => eql_code p q W
  have hcd1 : codeV 1 = .iface 56 (.int .i64 1) := rfl
  unfold DH.v
  have HD0 := Lib.hid (SX.new w hs)
  have HL0 := Lib.hid (And.intro hin hkv)
  have HT := Lib.hid hT
  clear hs hin hkv hT
  go_enter Tryd.func6, Tryd.ntmps6
  go_upto_region 3 with (first
    | (go_at_call 9
       refine (up8_any _ (HT.out.below HD0.out.b (Nat.le_refl _))).mono ?_
       rintro _ w1 ⟨rfl, hb1⟩
       have HD1 := Lib.hid (HD0.out.below hb1)
       clear hb1)
    | (go_at_call 19
       refine (refGrown_any la n cap D _ (HL0.out.1.below HD1.out.b) (fun i hi => by
         obtain ⟨key, val, q1, q2⟩ := HL0.out.2 i hi
         exact ⟨key, val, q1.below HD1.out.b, q2.below HD1.out.b⟩)).mono ?_
       rintro _ w2 ⟨a, hgood, hlen, h2, rfl, hi2, hb2⟩
       have HD2 := Lib.hid (HD1.out.below hb2)
       have HI2 := Lib.hid hi2
       have HGD := Lib.hid hgood
       have HLEN := Lib.hid hlen
       clear hb2 hi2 hgood hlen)
    | (refine wpList_store_box rfl 27 (.tmp 8) (.tmp 19) rfl w2.heap.size hZ h2 rfl rfl 27 (Box.new w2 27 hZ) infoTree5 ?_
       intro w2b hbx hg
       have qq : Below w2.heap.size w2 w2b := ((Below.refl w2.heap.size w2).alloc (Nat.le_refl _) _).grown hg (by simp) (fun j hj => by injection hj; omega)
       have HG3 : Hid (GX8 w w2b sp f tt w2.heap.size h2 a) := Lib.hid ⟨HD2.out.below qq, hbx, HI2.out.lower qq⟩
       clear hbx hg qq))
  generalize w2.heap.size = g1 at *
  have HIS : Hid (isT a.tr = true) := Lib.hid (HGD.out.is (by have := HLEN.out; omega))
  have HCN : Hid (countT a.tr ≤ 500) := Lib.hid (count_small8 HLEN.out)
  have HDP : Hid (a.depth ≤ 64) := Lib.hid (Nat.le_trans (AT.depth_le a) (by have := HLEN.out; omega))
  have HCK : Hid (checkT a.tr = 0) := Lib.hid (AT.checked HGD.out.lim HDP.out)
  obtain ⟨x0, x1, x2, x3, x4⟩ := HG3.out.tb.cells
  by_cases hx : 1 ≤ x ∧ x ≤ 32
  rotate_left
  · have HXX := Lib.hid hx
    clear hx
    go_wp2_with (first
    | (go_at_call 16
       refine (digest_arg x a.tr h2 _ HG3.out.ti hx1 hx2 HXX.out).mono ?_
       rintro _ w6 ⟨a6, c6, rfl, hb6⟩
       rw [hcd1]
       have HG6 := Lib.hid (HG3.out.below hb6)
       clear hb6
       clear x0 x1 x2 x3 x4))
    go_ret
    exact ⟨by simp, HG6.out.sx.b⟩
  obtain ⟨k, rfl⟩ : ∃ k : Nat, x = (k : Int) := ⟨x.toNat, by omega⟩
  have hk1 : 1 ≤ k := by omega
  have hk2 : k ≤ 32 := by omega
  clear hx
  have HR : Hid (checkX k (digA k a) f tt sp.out (showA k f tt sp.out a) = (0, a.pairs.filter fun p => inS f tt sp.out p.1)) := Lib.hid (by
    rw [checkX_ok hk1 hk2 (digA_len hk2 a)]
    exact show_check8 hk2 f tt sp.out HGD.out.rise HGD.out.lim HDP.out)
  have HPC : Hid (countT (showA k f tt sp.out a) ≤ 500) := Lib.hid (Nat.le_trans (show_count f tt sp.out a) HCN.out)
  go_upto_region 6 with (first
    | (go_at_call 16
       refine (digest_ok k hk1 hk2 a.tr h2 _ HG3.out.ti (HT.out.below HG3.out.sx.b (Nat.le_refl _)) HCK.out (AT.digs hk2 a)).mono ?_
       rintro _ w4 ⟨a4, c4, rfl, hn4, hb4⟩
       have HG4 := Lib.hid (HG3.out.below hb4)
       have HI4 := Lib.hid hn4.inb
       clear hn4 hb4 x0 x1 x2 x3 x4))
  obtain ⟨x0, x1, x2, x3, x4⟩ := HG4.out.tb.cells
  obtain ⟨y0, y1, y2⟩ := HG4.out.sx.box.three
  go_upto_region 7 with (first
    | (go_at_call 20
       refine (prove_ok k hk1 hk2 a h2 sp f tt _ HG4.out.ti HG4.out.sx.sp HIS.out HCN.out (HT.out.below HG4.out.sx.b (Nat.le_refl _))).mono ?_
       rintro _ w5 ⟨h5, rfl, hf5, hb5⟩
       have HG5 := Lib.hid (HG4.out.below hb5)
       have HI5 := Lib.hid (HI4.out.below hb5)
       have HP5 := Lib.hid (hf5.self (Nat.le_refl _))
       clear hf5 hb5 x0 x1 x2 x3 x4 y0 y1 y2)
    | (refine wpList_store_box rfl 27 (.tmp 11) (.tmp 39) rfl w5.heap.size hZ h5 rfl rfl 27 (Box.new w5 27 hZ) infoTree5 ?_
       intro w5b hbx hg
       have qq : Below w5.heap.size w5 w5b := ((Below.refl w5.heap.size w5).alloc (Nat.le_refl _) _).grown hg (by simp) (fun j hj => by injection hj; omega)
       have HH6 : Hid (HX8 w w5b sp f tt g1 h2 a w5.heap.size h5 (showA k f tt sp.out a)) := Lib.hid ⟨HG5.out.below qq, hbx, HP5.out.lower qq⟩
       have HI6 := Lib.hid (HI5.out.below qq)
       clear hbx hg qq))
  generalize w5.heap.size = g2 at *
  obtain ⟨x0, x1, x2, x3, x4⟩ := HH6.out.pb.cells
  obtain ⟨y0, y1, y2⟩ := HH6.out.g.sx.box.three
  go_upto_region 8 with (first
    | (go_at_call 11
       refine (chk_any k (by omega) (by omega) a4 (digA k a).length c4 (digA k a) sp f tt (showA k f tt sp.out a) h5 _ HI6.out HH6.out.g.sx.sp HH6.out.pt HPC.out (HT.out.below HH6.out.g.sx.b (Nat.le_refl _))).mono ?_
       rw [HR.out]
       rintro _ w7 ⟨ra7, n7, c7, rs7, rfl, ho7, hrl7, hpv7, hb7⟩
       have e0 : codeV ((0, a.pairs.filter fun p => inS f tt sp.out p.1) : Nat × List KV).1 = .nilIface := rfl
       rw [e0]
       have HH7 := Lib.hid (HH6.out.below hb7)
       have HR7 := Lib.hid (And.intro ho7 (And.intro hrl7 hpv7.pairs))
       clear ho7 hrl7 hpv7 hb7 e0 x0 x1 x2 x3 x4 y0 y1 y2))
  obtain ⟨x0, x1, x2, x3, x4⟩ := HH7.out.g.tb.cells
  obtain ⟨y0, y1, y2⟩ := HH7.out.g.sx.box.three
  go_wp2_with (first
    | (go_at_call 21
       refine (scanRange_ok a h2 sp f tt _ HH7.out.g.ti HH7.out.g.sx.sp HIS.out HCN.out).mono ?_
       rintro _ w8 ⟨ra8, n8, c8, rs8, rfl, ho8, hrl8, hpi8, -, hb8⟩
       have HH8 := Lib.hid (HH7.out.below hb8)
       have HR8 := Lib.hid (And.intro (HR7.out.1.keep hb8) (And.intro HR7.out.2.1 (HR7.out.2.2.below hb8)))
       have HO8 := Lib.hid (And.intro ho8 (And.intro hrl8 hpi8))
       clear ho8 hrl8 hpi8 hb8 x0 x1 x2 x3 x4 y0 y1 y2)
    | (go_at_call 15
       refine (same_told HR8.out.1 HR8.out.2.1 HR8.out.2.2 HO8.out.1 HO8.out.2.1 HO8.out.2.2).mono ?_
       rintro _ w9 ⟨rfl, hb9⟩
       have HH9 := Lib.hid (HH8.out.below hb9)
       clear hb9))
  go_ret
  exact ⟨rfl, HH9.out.g.sx.b⟩
end Go.Proofs.YtlbiefddcimdgaaDoor

/- Spans, and lists of pairs, that are arguments. -/
namespace Go.Proofs.YtlbiefddcimdgaaDoor
open Go.ChangeShapes Go.WideShapes Go.RowKit Go.Deep
set_option linter.unusedVariables false

set_option maxRecDepth 100000 in
theorem open_span {H : Type} {enc : TypeId × Value → H} {w : World} {base : Nat} {spare : Nat → Bool} {held : Bool} {r : Reach} {b0 : Nat} {v : Value} {d : DataW H} {p : List MemPlace}
    (hv : Value.okWide Tryd.prog w r b0 24 v) (h : DataW.Trod enc Tryd.prog w base spare held 24 v d p) : ∃ hd f t, v = DH.v hd ∧ SpanIn w hd f t := by
  obtain ⟨cs, rfl, hs⟩ := okWide_struct Tryd.underlying24 hv
  obtain ⟨fuel, hf⟩ := h
  obtain ⟨hd, e, key, val, h1, h2⟩ := trod_deed Tryd.underlying24 (by kernel_rfl) rfl rfl rfl (by kernel_rfl) (by kernel_rfl) (by kernel_rfl) Tryd.underlying22 Tryd.underlying22 Tryd.underlying4 Tryd.underlying5 (by kernel_rfl) fuel _ _ hf
  refine ⟨hd, key, val, ?_, h1, h2⟩
  have e2 : cs = (recD.cells hd).toArray := by
    simp only [Value.cells] at e
    rw [← e]
  rw [e2]
  rfl
section
variable {H : Type} {enc : TypeId × Value → H} {P : Program} {w : World} {base : Nat} {spare : Nat → Bool} {held : Bool}
theorem trod_pair {T B : TypeId} {f0 f1 : Field} (he : P.underlying T = some (.struct #[f0, f1])) (hc : P.cellsOf T = 2)
    (o0 : f0.offset = 0) (o1 : f1.offset = 1) (c0 : P.cellsOf f0.type = 1) (c1 : P.cellsOf f1.type = 1)
    (u0 : P.underlying f0.type = some (.slice B)) (u1 : P.underlying f1.type = some (.slice B)) (hB : P.underlying B = some (.int .u8)) (hcB : P.cellsOf B = 1)
    (fuel : Nat) (cs : List Value) (x : DataW H × List MemPlace) (hx : DataW.trod enc P w base spare held fuel T cs = some x) :
    ∃ r : PH, cs = recP.cells r ∧ ∃ key val, InBytes w r.ka r.kn r.kc key ∧ InBytes w r.va r.vn r.vc val := by
  obtain ⟨xs, n, hn, _, hl, hxl, hf⟩ := DataW.trod_struct he hx
  rw [hc] at hl
  obtain ⟨v0, v1, rfl⟩ : ∃ v0 v1, cs = [v0, v1] := by
    rcases cs with _ | ⟨v0, _ | ⟨v1, _ | ⟨y, r⟩⟩⟩ <;> simp at hl
    exact ⟨_, _, rfl⟩
  have hxs : xs.length = 2 := by simpa using hxl
  have g0 := hf 0 f0 rfl
  have g1 := hf 1 f1 rfl
  rw [o0, c0, List.getElem?_eq_getElem (by omega)] at g0
  rw [o1, c1, List.getElem?_eq_getElem (by omega)] at g1
  replace g0 : DataW.trod enc P w base spare held n f0.type [v0] = some xs[0] := g0
  replace g1 : DataW.trod enc P w base spare held n f1.type [v1] = some xs[1] := g1
  obtain ⟨a0, n0, k0, rfl⟩ := slice_form u0 g0
  obtain ⟨a1, n1, k1, rfl⟩ := slice_form u1 g1
  obtain ⟨key, hkey⟩ := open_bytes (d := xs[0].1) (p := xs[0].2) u0 hB hcB ⟨n, g0⟩
  obtain ⟨val, hval⟩ := open_bytes (d := xs[1].1) (p := xs[1].2) u1 hB hcB ⟨n, g1⟩
  exact ⟨⟨a0, n0, k0, a1, n1, k1⟩, rfl, key, val, hkey, hval⟩
end
set_option maxRecDepth 100000 in
theorem open_pairs {H : Type} {enc : TypeId × Value → H} {w : World} {base : Nat} {spare : Nat → Bool} {held : Bool} {a : Option Addr} {n cap : Nat} {d : DataW H} {p : List MemPlace}
    (h : DataW.Trod enc Tryd.prog w base spare held 30 (.slice a n cap) d p) : ∃ D : Nat → PH, InRec recP w a n cap D ∧ ∀ i, i < n → ∃ key val, InBytes w (D i).ka (D i).kn (D i).kc key ∧ InBytes w (D i).va (D i).vn (D i).vc val :=
  open_rec recP (fun r => ∃ key val, InBytes w r.ka r.kn r.kc key ∧ InBytes w r.va r.vn r.vc val) pZ Tryd.underlying30 (by kernel_rfl)
    (fun fuel cs x hx => trod_pair Tryd.underlying53 (by kernel_rfl) rfl rfl (by kernel_rfl) (by kernel_rfl) Tryd.underlying22 Tryd.underlying22 Tryd.underlying5 (by kernel_rfl) fuel cs x hx) h
end Go.Proofs.YtlbiefddcimdgaaDoor
