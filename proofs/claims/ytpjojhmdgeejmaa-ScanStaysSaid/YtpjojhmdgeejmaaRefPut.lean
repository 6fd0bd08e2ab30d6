/- The contract of the document's insertion into AVL trees. -/
import Derived.Test.YtpjojhmdgeejmaaRefLevel
import Derived.Test.YtpjojhmdgeejmaaStrLt
import Derived.Test.YtpjojhmdgeejmaaTreeNil
namespace Go.Proofs.Ytpjojhmdgeejmaa
open Go.RowKit
set_option linter.unusedVariables false

theorem AT.put_mem (key val : List Int) : ∀ (a : AT) (p : KV), p ∈ (a.put key val).pairs → p = (key, val) ∨ p ∈ a.pairs := by
  intro a
  induction a with
  | nil =>
    intro p hp
    simp [AT.put, AT.pairs] at hp
    exact .inl hp
  | node l k v r ihl ihr =>
    intro p hp
    rw [AT.put_node] at hp
    simp only [AT.pairs, List.mem_append, List.mem_cons]
    split at hp
    · simp only [AT.pairs, List.mem_append, List.mem_cons] at hp
      rcases hp with hp | hp | hp
      · exact .inr (.inl hp)
      · exact .inl hp
      · exact .inr (.inr (.inr hp))
    · split at hp
      · rw [AT.level_pairs] at hp
        simp only [AT.pairs, List.mem_append, List.mem_cons] at hp
        rcases hp with hp | hp | hp
        · rcases ihl p hp with q | q
          · exact .inl q
          · exact .inr (.inl q)
        · exact .inr (.inr (.inl hp))
        · exact .inr (.inr (.inr hp))
      · rw [AT.level_pairs] at hp
        simp only [AT.pairs, List.mem_append, List.mem_cons] at hp
        rcases hp with hp | hp | hp
        · exact .inr (.inl hp)
        · exact .inr (.inr (.inl hp))
        · rcases ihr p hp with q | q
          · exact .inl q
          · exact .inr (.inr (.inr q))
theorem AT.put_lim {key val : List Int} (hk : key.length ≤ 80) (hv : val.length ≤ 1024) {a : AT} (h : Lim a.pairs) : Lim (a.put key val).pairs := fun p hp => by
  rcases AT.put_mem key val a p hp with rfl | q
  · exact ⟨hk, hv⟩
  · exact h p q
theorem Lim.mk {l : AT} {k v : List Int} {r : AT} (h1 : Lim l.pairs) (h2 : k.length ≤ 80) (h3 : v.length ≤ 1024) (h4 : Lim r.pairs) : Lim (AT.node l k v r).pairs := fun p hp => by
  simp only [AT.pairs, List.mem_append, List.mem_cons] at hp
  rcases hp with hp | rfl | hp
  · exact h1 p hp
  · exact ⟨h2, h3⟩
  · exact h4 p hp

set_option maxRecDepth 100000 in
set_option maxHeartbeats 4000000 in
theorem refPut_any (key val : List Int) (ka va : Option Addr) (kn kc vn vc : Nat) (hkl : key.length ≤ 80) (hvl : val.length ≤ 1024) : ∀ (a : AT) (h : TH) (w : World), InTree w h a.tr → Lim a.pairs → a.bal → a.depth ≤ 60 → InBytes w ka kn kc key → InBytes w va vn vc val →
    Calls Try.prog 33 #[h.v, .slice ka kn kc, .slice va vn vc] w (Tells w (a.put key val)) := by
  intro a
  induction a with
  | nil =>
    intro h w ht _ _ _ hkb hvb
    unfold TH.v
    obtain ⟨H, hp⟩ := ht.parts
    have h0 : ((h.tn : Int) == 0) = true := by have h2 : h.tn = 0 := hp.len.symm; simp [h2]
    obtain ⟨e1, e2, e3, e4⟩ := enter2 w h
    have HK := Lib.hid (And.intro hkb hvb)
    clear hp hkb hvb
    go_enter Try.func33, Try.ntmps33
    go_upto_region 1 with fail
    generalize ((w.alloc (.cells #[.int .i64 h.k, .slice h.ka h.kn h.kc, .slice h.va h.vn h.vc, .slice h.da h.dn h.dc, .slice h.ta h.tn h.tc] 33)).alloc (.cells #[.int .i64 0, .slice none 0 0, .slice none 0 0, .slice none 0 0, .slice none 0 0] 33)) = w0 at *
    have HX0 : Hid (LX w w0 h AT.nil.tr) := Lib.hid ⟨e1, e2, ht.lower e3, e3⟩
    have x4 := e1.cells.2.2.2.2
    clear e1 e2 e3 e4 ht
    go_wp2_with (first
      | (go_at_call 43
         refine (refNode_any .nil .nil hZ hZ ka va kn kc vn vc key val _ (inTree_nil _) (inTree_nil _) (HK.out.1.below HX0.out.b) (HK.out.2.below HX0.out.b)).mono ?_
         rintro _ w2 ⟨h2, rfl, hi2, hb2⟩
         unfold TH.v
         have HX2 := Lib.hid (HX0.out.below hb2)
         have HI2 := Lib.hid hi2
         clear hi2 hb2)
      | (refine wpList_store_box rfl 33 (.tmp 6) (.tmp 15) rfl (w.heap.size + 1) hZ h2 rfl rfl 33 HX2.out.res infoTree5 ?_
         intro w9 hbx9 hg9
         have HX9 := Lib.hid hbx9
         have HI9 := Lib.hid (AT.outBox HX2.out.res hg9 _ _ HI2.out)
         have HB9 : Hid (Below w.heap.size w w9) := Lib.hid (HX2.out.b.grown hg9 HX2.out.b.size (fun j hj => by injection hj; omega))
         clear hbx9 hg9))
    exact bodyPost_ret (v := h2.v) (result_tree Try.results33 _ HX9.out rfl Try.underlying33 infoTree5) rfl ⟨_, rfl, HI9.out, HB9.out⟩
  | node l k v r ihl ihr =>
    intro h w ht hlim hbal hd hkb hvb
    unfold TH.v
    obtain ⟨H, hp⟩ := ht.parts
    have l0 : 0 < (AT.node l k v r).tr.kids.length := by rw [AT.tr_kids]; simp
    have l1 : 1 < (AT.node l k v r).tr.kids.length := by rw [AT.tr_kids]; simp
    have ht1 : (1 : Int) < (h.tn : Int) := by have h2 : h.tn = 2 := hp.len.symm; omega
    have ht0 : 0 < h.tn := by omega
    have h0 : ((h.tn : Int) == 0) = false := by rw [beq_eq_false_iff_ne]; omega
    have HP := Lib.hid hp
    have HL := Lib.hid hlim.node
    have HBL : Hid (l.bal ∧ r.bal ∧ l.depth ≤ r.depth + 1 ∧ r.depth ≤ l.depth + 1) := Lib.hid hbal
    have HK := Lib.hid (And.intro hkb hvb)
    have IHL := Lib.hid ihl
    have IHR := Lib.hid ihr
    have HPN := Lib.hid (AT.put_node key val l k v r)
    obtain ⟨g, off, hta, -, -⟩ := hp.place (by omega)
    have HTA := Lib.hid hta
    obtain ⟨e1, e2, e3, e4⟩ := enter2 w h
    have HKB := Lib.hid (And.intro hkb.bytes hp.key.bytes)
    clear hp hta hlim hbal hkb hvb ihl ihr
    go_enter Try.func33, Try.ntmps33
    go_upto_region 1 with fail
    generalize ((w.alloc (.cells #[.int .i64 h.k, .slice h.ka h.kn h.kc, .slice h.va h.vn h.vc, .slice h.da h.dn h.dc, .slice h.ta h.tn h.tc] 33)).alloc (.cells #[.int .i64 0, .slice none 0 0, .slice none 0 0, .slice none 0 0, .slice none 0 0] 33)) = w0 at *
    have HX0 : Hid (LX w w0 h (AT.node l k v r).tr) := Lib.hid ⟨e1, e2, ht.lower e3, e3⟩
    obtain ⟨x0, x1, x2, x3, x4⟩ := e1.cells
    have cv1 := conv_key (HK.out.1.below e3)
    have cv2 : (convert 22 9 (.slice h.ka h.kn h.kc)).run Try.prog w0 = .ok (.string (strOfNums k)) w0 := conv_key (HP.out.below e3).key
    clear e1 e2 e3 e4 ht
    have he : ((strOfNums key).toList == (strOfNums k).toList) = (key == k) := str_eq HKB.out.1 HKB.out.2
    have hlt : Op.bytesLess (strOfNums key).toList (strOfNums k).toList = ltL key k := str_lt HKB.out.1 HKB.out.2
    go_upto_if 21 with fail
    clear he
    by_cases ce : key = k
    · have ce2 : (key == k) = true := by simp [ce]
      have HPN2 := Lib.hid (HPN.out.trans (if_pos ce))
      clear HPN
      have HPN := HPN2
      rw [ce2]
      clear ce ce2 hlt cv1 cv2 x0 x1 x2 x3 x4
      go_upto_region 4 with fail
      refine region_l (S := (fun W => W.cell? ⟨w.heap.size, 1, none⟩ = some (.slice h.ka h.kn h.kc) ∧ W.cell? ⟨w.heap.size, 2, none⟩ = some (.slice h.va h.vn h.vc) ∧ W.cell? ⟨w.heap.size, 4, none⟩ = some (.slice (some ⟨g, off, none⟩) h.tn h.tc) ∧ (W.cell? ⟨g, off, none⟩ = some (.int .i64 (H 0).k) ∧ W.cell? ⟨g, off + 1, none⟩ = some (.slice (H 0).ka (H 0).kn (H 0).kc) ∧ W.cell? ⟨g, off + 2, none⟩ = some (.slice (H 0).va (H 0).vn (H 0).vc) ∧ W.cell? ⟨g, off + 3, none⟩ = some (.slice (H 0).da (H 0).dn (H 0).dc) ∧ W.cell? ⟨g, off + 4, none⟩ = some (.slice (H 0).ta (H 0).tn (H 0).tc)) ∧ W.cell? ⟨g, off + 5, none⟩ = some (.int .i64 (H 1).k) ∧ W.cell? ⟨g, off + 5 + 1, none⟩ = some (.slice (H 1).ka (H 1).kn (H 1).kc) ∧ W.cell? ⟨g, off + 5 + 2, none⟩ = some (.slice (H 1).va (H 1).vn (H 1).vc) ∧ W.cell? ⟨g, off + 5 + 3, none⟩ = some (.slice (H 1).da (H 1).dn (H 1).dc) ∧ W.cell? ⟨g, off + 5 + 4, none⟩ = some (.slice (H 1).ta (H 1).tn (H 1).tc))) 11 (by kernel_rfl) ⟨HX0.out.drew.box.cells.2.1, HX0.out.drew.box.cells.2.2.1, (HX0.out.drew.box.cells.2.2.2.2).trans (by rw [HTA.out]), (HP.out.below HX0.out.drew.b).kid0 HTA.out (by omega), (HP.out.below HX0.out.drew.b).kid1 HTA.out (by omega)⟩ (fun hHeld => ?_)
      refine take_l (i := 0) (oi := ?oZ1) (v := ?vZ1) ?hiZ1 (by kernel_rfl) (by kernel_rfl) (by kernel_rfl) (by kernel_rfl) ?hQZ1 ?hwZ1 ?hyZ1 (by assumption) ?restZ1
      case hiZ1 => (simp only [List.getElem?_toArray, List.getElem?_cons_zero] <;> rfl)
      case hQZ1 => exact (fun _ _ _ h => h)
      case hwZ1 => rfl
      case hyZ1 => (intro w hSw; (try dsimp only at hSw); go_simp; try with_reducible rfl)
      (try simp only [Act.put, List.setIfInBounds_toArray, List.set_cons_zero, List.set_cons_succ])
      refine take_l (i := 1) (oi := ?oZ2) (v := ?vZ2) ?hiZ2 (by kernel_rfl) (by kernel_rfl) (by kernel_rfl) (by kernel_rfl) ?hQZ2 ?hwZ2 ?hyZ2 (by assumption) ?restZ2
      case hiZ2 => (simp only [List.getElem?_toArray, List.getElem?_cons_succ, List.getElem?_cons_zero] <;> rfl)
      case hQZ2 => exact (fun _ _ _ h => h)
      case hwZ2 => rfl
      case hyZ2 => (intro w hSw; (try dsimp only at hSw); go_simp; try with_reducible rfl)
      (try simp only [Act.put, List.setIfInBounds_toArray, List.set_cons_zero, List.set_cons_succ])
      refine take_l (i := 2) (oi := ?oZ3) (v := ?vZ3) ?hiZ3 (by kernel_rfl) (by kernel_rfl) (by kernel_rfl) (by kernel_rfl) ?hQZ3 ?hwZ3 ?hyZ3 (by assumption) ?restZ3
      case hiZ3 => (simp only [List.getElem?_toArray, List.getElem?_cons_succ, List.getElem?_cons_zero] <;> rfl)
      case hQZ3 => exact (fun _ _ _ h => h)
      case hwZ3 => rfl
      case hyZ3 => (intro w hSw; (try dsimp only at hSw); go_simp; try with_reducible rfl)
      (try simp only [Act.put, List.setIfInBounds_toArray, List.set_cons_zero, List.set_cons_succ])
      refine take_l (i := 3) (oi := ?oZ4) (v := ?vZ4) ?hiZ4 (by kernel_rfl) (by kernel_rfl) (by kernel_rfl) (by kernel_rfl) ?hQZ4 ?hwZ4 ?hyZ4 (by assumption) ?restZ4
      case hiZ4 => (simp only [List.getElem?_toArray, List.getElem?_cons_succ, List.getElem?_cons_zero] <;> rfl)
      case hQZ4 => exact (fun _ _ _ h => h)
      case hwZ4 => rfl
      case hyZ4 => (intro w hSw; (try dsimp only at hSw); go_simp; try with_reducible rfl)
      (try simp only [Act.put, List.setIfInBounds_toArray, List.set_cons_zero, List.set_cons_succ])
      refine take_l (i := 4) (oi := ?oZ5) (v := ?vZ5) ?hiZ5 (by kernel_rfl) (by kernel_rfl) (by kernel_rfl) (by kernel_rfl) ?hQZ5 ?hwZ5 ?hyZ5 (by assumption) ?restZ5
      case hiZ5 => (simp only [List.getElem?_toArray, List.getElem?_cons_succ, List.getElem?_cons_zero] <;> rfl)
      case hQZ5 => exact (fun _ _ _ h => h)
      case hwZ5 => rfl
      case hyZ5 => (intro w hSw; (try dsimp only at hSw); go_simp; try with_reducible rfl)
      (try simp only [Act.put, List.setIfInBounds_toArray, List.set_cons_zero, List.set_cons_succ])
      refine take_l (i := 5) (oi := ?oZ6) (v := ?vZ6) ?hiZ6 (by kernel_rfl) (by kernel_rfl) (by kernel_rfl) (by kernel_rfl) ?hQZ6 ?hwZ6 ?hyZ6 (by assumption) ?restZ6
      case hiZ6 => (simp only [List.getElem?_toArray, List.getElem?_cons_succ, List.getElem?_cons_zero] <;> rfl)
      case hQZ6 => exact (fun _ _ _ h => h)
      case hwZ6 => rfl
      case hyZ6 => (intro w hSw; (try dsimp only at hSw); go_simp; try with_reducible rfl)
      (try simp only [Act.put, List.setIfInBounds_toArray, List.set_cons_zero, List.set_cons_succ])
      refine take_l (i := 6) (oi := ?oZ7) (v := ?vZ7) ?hiZ7 (by kernel_rfl) (by kernel_rfl) (by kernel_rfl) (by kernel_rfl) ?hQZ7 ?hwZ7 ?hyZ7 (by assumption) ?restZ7
      case hiZ7 => (simp only [List.getElem?_toArray, List.getElem?_cons_succ, List.getElem?_cons_zero] <;> rfl)
      case hQZ7 => exact (fun _ _ _ h => h)
      case hwZ7 => rfl
      case hyZ7 => (intro w hSw; (try dsimp only at hSw); go_simp; try with_reducible rfl)
      (try simp only [Act.put, List.setIfInBounds_toArray, List.set_cons_zero, List.set_cons_succ])
      refine take_l (i := 7) (oi := ?oZ8) (v := ?vZ8) ?hiZ8 (by kernel_rfl) (by kernel_rfl) (by kernel_rfl) (by kernel_rfl) ?hQZ8 ?hwZ8 ?hyZ8 (by assumption) ?restZ8
      case hiZ8 => (simp only [List.getElem?_toArray, List.getElem?_cons_succ, List.getElem?_cons_zero] <;> rfl)
      case hQZ8 => exact (fun _ _ _ h => h)
      case hwZ8 => rfl
      case hyZ8 => (intro w hSw; (try dsimp only at hSw); go_simp; try with_reducible rfl)
      (try simp only [Act.put, List.setIfInBounds_toArray, List.set_cons_zero, List.set_cons_succ])
      refine take_l (i := 8) (oi := ?oZ9) (v := ?vZ9) ?hiZ9 (by kernel_rfl) (by kernel_rfl) (by kernel_rfl) (by kernel_rfl) ?hQZ9 ?hwZ9 ?hyZ9 (by assumption) ?restZ9
      case hiZ9 => (simp only [List.getElem?_toArray, List.getElem?_cons_succ, List.getElem?_cons_zero] <;> rfl)
      case hQZ9 => exact (fun _ _ _ h => h)
      case hwZ9 => rfl
      case hyZ9 => (intro w hSw; (try dsimp only at hSw); go_simp; try with_reducible rfl)
      (try simp only [Act.put, List.setIfInBounds_toArray, List.set_cons_zero, List.set_cons_succ])
      refine take_l (i := 9) (oi := ?oZ10) (v := ?vZ10) ?hiZ10 (by kernel_rfl) (by kernel_rfl) (by kernel_rfl) (by kernel_rfl) ?hQZ10 ?hwZ10 ?hyZ10 (by assumption) ?restZ10
      case hiZ10 => (simp only [List.getElem?_toArray, List.getElem?_cons_succ, List.getElem?_cons_zero] <;> rfl)
      case hQZ10 => exact (fun _ _ _ h => h)
      case hwZ10 => rfl
      case hyZ10 => (intro w hSw; (try dsimp only at hSw); go_simp; try with_reducible rfl)
      (try simp only [Act.put, List.setIfInBounds_toArray, List.set_cons_zero, List.set_cons_succ])
      refine one_l (i := 10) (o := ?oZ11) (by kernel_rfl) ?hiZ11 (fun K hK => ?stZ11)
      case hiZ11 => (simp only [List.getElem?_toArray, List.getElem?_cons_succ, List.getElem?_cons_zero] <;> rfl)
      go_simp
      go_at_call 43
      refine (refNode_any l r (H 0) (H 1) ka va kn kc vn vc key val _ ((HP.out.below HX0.out.drew.b).kids 0 l0) ((HP.out.below HX0.out.drew.b).kids 1 l1) (HK.out.1.below HX0.out.drew.b) (HK.out.2.below HX0.out.drew.b)).mono ?_
      rintro _ w2 ⟨h2, rfl, hi2, hb2⟩
      unfold TH.v
      have HX2 := Lib.hid (HX0.out.drew.below hb2)
      have HI2 := Lib.hid hi2
      clear hi2 hb2
      go_simp
      refine hK.out _ _ ?_ (fun hHeld => ?_)
      · (first | exact ⟨HX4.out.box.cells.2.1, HX4.out.box.cells.2.2.1, (HX4.out.box.cells.2.2.2.2).trans (by rw [HTA.out]), (HP.out.below HX4.out.b).kid0 HTA.out (by omega), (HP.out.below HX4.out.b).kid1 HTA.out (by omega)⟩ | exact ⟨HX3.out.box.cells.2.1, HX3.out.box.cells.2.2.1, (HX3.out.box.cells.2.2.2.2).trans (by rw [HTA.out]), (HP.out.below HX3.out.b).kid0 HTA.out (by omega), (HP.out.below HX3.out.b).kid1 HTA.out (by omega)⟩ | exact ⟨HX2.out.box.cells.2.1, HX2.out.box.cells.2.2.1, (HX2.out.box.cells.2.2.2.2).trans (by rw [HTA.out]), (HP.out.below HX2.out.b).kid0 HTA.out (by omega), (HP.out.below HX2.out.b).kid1 HTA.out (by omega)⟩ | exact ⟨HX0.out.drew.box.cells.2.1, HX0.out.drew.box.cells.2.2.1, (HX0.out.drew.box.cells.2.2.2.2).trans (by rw [HTA.out]), (HP.out.below HX0.out.drew.b).kid0 HTA.out (by omega), (HP.out.below HX0.out.drew.b).kid1 HTA.out (by omega)⟩)
      clear hK K
      (try simp only [Act.put, List.setIfInBounds_toArray, List.set_cons_zero, List.set_cons_succ])
      refine last_l (o := ?oZ12) (by kernel_rfl) ?hiZ12 (by kernel_rfl) (fun K hK => ?stZ12)
      case hiZ12 => (simp only [List.getElem?_toArray, List.getElem?_cons_succ, List.getElem?_cons_zero] <;> rfl)
      refine step_store_box rfl 33 (.tmp 6) (.tmp 32) rfl (w.heap.size + 1) hZ h2 rfl rfl 33 HX2.out.res infoTree5 ?_
      intro w9 hbx9 hg9
      have HX9 := Lib.hid hbx9
      have HI9 := Lib.hid (AT.outBox HX2.out.res hg9 _ _ HI2.out)
      have HB9 : Hid (Below w.heap.size w w9) := Lib.hid (HX2.out.b.grown hg9 HX2.out.b.size (fun j hj => by injection hj; omega))
      clear hbx9 hg9
      refine hK.out _ _ ?_
      clear hK K
      (try simp only [Act.put])
      
      clear hHeld
      go_wp2_with fail
      refine bodyPost_ret (v := h2.v) (result_tree Try.results33 _ HX9.out rfl Try.underlying33 infoTree5) rfl ⟨_, rfl, ?_, HB9.out⟩
      rw [HPN.out]
      exact HI9.out
    have ce2 : (key == k) = false := by simp [ce]
    have HPN1 := Lib.hid (HPN.out.trans (if_neg ce))
    rw [ce2]
    go_upto_if 38 with fail
    cases cl : ltL key k
    · have HPN2 := Lib.hid (HPN1.out.trans (if_neg (by rw [cl]; simp)))
      clear HPN HPN1
      have HPN := HPN2
      clear ce ce2 hlt cv1 cv2 x0 x1 x2 x3 x4 cl
      go_upto_region 7 with fail
      refine region_l (S := (fun W => W.cell? ⟨w.heap.size, 1, none⟩ = some (.slice h.ka h.kn h.kc) ∧ W.cell? ⟨w.heap.size, 2, none⟩ = some (.slice h.va h.vn h.vc) ∧ W.cell? ⟨w.heap.size, 4, none⟩ = some (.slice (some ⟨g, off, none⟩) h.tn h.tc) ∧ (W.cell? ⟨g, off, none⟩ = some (.int .i64 (H 0).k) ∧ W.cell? ⟨g, off + 1, none⟩ = some (.slice (H 0).ka (H 0).kn (H 0).kc) ∧ W.cell? ⟨g, off + 2, none⟩ = some (.slice (H 0).va (H 0).vn (H 0).vc) ∧ W.cell? ⟨g, off + 3, none⟩ = some (.slice (H 0).da (H 0).dn (H 0).dc) ∧ W.cell? ⟨g, off + 4, none⟩ = some (.slice (H 0).ta (H 0).tn (H 0).tc)) ∧ W.cell? ⟨g, off + 5, none⟩ = some (.int .i64 (H 1).k) ∧ W.cell? ⟨g, off + 5 + 1, none⟩ = some (.slice (H 1).ka (H 1).kn (H 1).kc) ∧ W.cell? ⟨g, off + 5 + 2, none⟩ = some (.slice (H 1).va (H 1).vn (H 1).vc) ∧ W.cell? ⟨g, off + 5 + 3, none⟩ = some (.slice (H 1).da (H 1).dn (H 1).dc) ∧ W.cell? ⟨g, off + 5 + 4, none⟩ = some (.slice (H 1).ta (H 1).tn (H 1).tc))) 17 (by kernel_rfl) ⟨HX0.out.drew.box.cells.2.1, HX0.out.drew.box.cells.2.2.1, (HX0.out.drew.box.cells.2.2.2.2).trans (by rw [HTA.out]), (HP.out.below HX0.out.drew.b).kid0 HTA.out (by omega), (HP.out.below HX0.out.drew.b).kid1 HTA.out (by omega)⟩ (fun hHeld => ?_)
      refine take_l (i := 0) (oi := ?oZ31) (v := ?vZ31) ?hiZ31 (by kernel_rfl) (by kernel_rfl) (by kernel_rfl) (by kernel_rfl) ?hQZ31 ?hwZ31 ?hyZ31 (by assumption) ?restZ31
      case hiZ31 => (simp only [List.getElem?_toArray, List.getElem?_cons_zero] <;> rfl)
      case hQZ31 => exact (fun _ _ _ h => h)
      case hwZ31 => rfl
      case hyZ31 => (intro w hSw; (try dsimp only at hSw); go_simp; try with_reducible rfl)
      (try simp only [Act.put, List.setIfInBounds_toArray, List.set_cons_zero, List.set_cons_succ])
      refine take_l (i := 1) (oi := ?oZ32) (v := ?vZ32) ?hiZ32 (by kernel_rfl) (by kernel_rfl) (by kernel_rfl) (by kernel_rfl) ?hQZ32 ?hwZ32 ?hyZ32 (by assumption) ?restZ32
      case hiZ32 => (simp only [List.getElem?_toArray, List.getElem?_cons_succ, List.getElem?_cons_zero] <;> rfl)
      case hQZ32 => exact (fun _ _ _ h => h)
      case hwZ32 => rfl
      case hyZ32 => (intro w hSw; (try dsimp only at hSw); go_simp; try with_reducible rfl)
      (try simp only [Act.put, List.setIfInBounds_toArray, List.set_cons_zero, List.set_cons_succ])
      refine take_l (i := 2) (oi := ?oZ33) (v := ?vZ33) ?hiZ33 (by kernel_rfl) (by kernel_rfl) (by kernel_rfl) (by kernel_rfl) ?hQZ33 ?hwZ33 ?hyZ33 (by assumption) ?restZ33
      case hiZ33 => (simp only [List.getElem?_toArray, List.getElem?_cons_succ, List.getElem?_cons_zero] <;> rfl)
      case hQZ33 => exact (fun _ _ _ h => h)
      case hwZ33 => rfl
      case hyZ33 => (intro w hSw; (try dsimp only at hSw); go_simp; try with_reducible rfl)
      (try simp only [Act.put, List.setIfInBounds_toArray, List.set_cons_zero, List.set_cons_succ])
      refine take_l (i := 3) (oi := ?oZ34) (v := ?vZ34) ?hiZ34 (by kernel_rfl) (by kernel_rfl) (by kernel_rfl) (by kernel_rfl) ?hQZ34 ?hwZ34 ?hyZ34 (by assumption) ?restZ34
      case hiZ34 => (simp only [List.getElem?_toArray, List.getElem?_cons_succ, List.getElem?_cons_zero] <;> rfl)
      case hQZ34 => exact (fun _ _ _ h => h)
      case hwZ34 => rfl
      case hyZ34 => (intro w hSw; (try dsimp only at hSw); go_simp; try with_reducible rfl)
      (try simp only [Act.put, List.setIfInBounds_toArray, List.set_cons_zero, List.set_cons_succ])
      refine take_l (i := 4) (oi := ?oZ35) (v := ?vZ35) ?hiZ35 (by kernel_rfl) (by kernel_rfl) (by kernel_rfl) (by kernel_rfl) ?hQZ35 ?hwZ35 ?hyZ35 (by assumption) ?restZ35
      case hiZ35 => (simp only [List.getElem?_toArray, List.getElem?_cons_succ, List.getElem?_cons_zero] <;> rfl)
      case hQZ35 => exact (fun _ _ _ h => h)
      case hwZ35 => rfl
      case hyZ35 => (intro w hSw; (try dsimp only at hSw); go_simp; try with_reducible rfl)
      (try simp only [Act.put, List.setIfInBounds_toArray, List.set_cons_zero, List.set_cons_succ])
      refine take_l (i := 5) (oi := ?oZ36) (v := ?vZ36) ?hiZ36 (by kernel_rfl) (by kernel_rfl) (by kernel_rfl) (by kernel_rfl) ?hQZ36 ?hwZ36 ?hyZ36 (by assumption) ?restZ36
      case hiZ36 => (simp only [List.getElem?_toArray, List.getElem?_cons_succ, List.getElem?_cons_zero] <;> rfl)
      case hQZ36 => exact (fun _ _ _ h => h)
      case hwZ36 => rfl
      case hyZ36 => (intro w hSw; (try dsimp only at hSw); go_simp; try with_reducible rfl)
      (try simp only [Act.put, List.setIfInBounds_toArray, List.set_cons_zero, List.set_cons_succ])
      refine take_l (i := 6) (oi := ?oZ37) (v := ?vZ37) ?hiZ37 (by kernel_rfl) (by kernel_rfl) (by kernel_rfl) (by kernel_rfl) ?hQZ37 ?hwZ37 ?hyZ37 (by assumption) ?restZ37
      case hiZ37 => (simp only [List.getElem?_toArray, List.getElem?_cons_succ, List.getElem?_cons_zero] <;> rfl)
      case hQZ37 => exact (fun _ _ _ h => h)
      case hwZ37 => rfl
      case hyZ37 => (intro w hSw; (try dsimp only at hSw); go_simp; try with_reducible rfl)
      (try simp only [Act.put, List.setIfInBounds_toArray, List.set_cons_zero, List.set_cons_succ])
      refine take_l (i := 7) (oi := ?oZ38) (v := ?vZ38) ?hiZ38 (by kernel_rfl) (by kernel_rfl) (by kernel_rfl) (by kernel_rfl) ?hQZ38 ?hwZ38 ?hyZ38 (by assumption) ?restZ38
      case hiZ38 => (simp only [List.getElem?_toArray, List.getElem?_cons_succ, List.getElem?_cons_zero] <;> rfl)
      case hQZ38 => exact (fun _ _ _ h => h)
      case hwZ38 => rfl
      case hyZ38 => (intro w hSw; (try dsimp only at hSw); go_simp; try with_reducible rfl)
      (try simp only [Act.put, List.setIfInBounds_toArray, List.set_cons_zero, List.set_cons_succ])
      refine take_l (i := 8) (oi := ?oZ39) (v := ?vZ39) ?hiZ39 (by kernel_rfl) (by kernel_rfl) (by kernel_rfl) (by kernel_rfl) ?hQZ39 ?hwZ39 ?hyZ39 (by assumption) ?restZ39
      case hiZ39 => (simp only [List.getElem?_toArray, List.getElem?_cons_succ, List.getElem?_cons_zero] <;> rfl)
      case hQZ39 => exact (fun _ _ _ h => h)
      case hwZ39 => rfl
      case hyZ39 => (intro w hSw; (try dsimp only at hSw); go_simp; try with_reducible rfl)
      (try simp only [Act.put, List.setIfInBounds_toArray, List.set_cons_zero, List.set_cons_succ])
      refine take_l (i := 9) (oi := ?oZ40) (v := ?vZ40) ?hiZ40 (by kernel_rfl) (by kernel_rfl) (by kernel_rfl) (by kernel_rfl) ?hQZ40 ?hwZ40 ?hyZ40 (by assumption) ?restZ40
      case hiZ40 => (simp only [List.getElem?_toArray, List.getElem?_cons_succ, List.getElem?_cons_zero] <;> rfl)
      case hQZ40 => exact (fun _ _ _ h => h)
      case hwZ40 => rfl
      case hyZ40 => (intro w hSw; (try dsimp only at hSw); go_simp; try with_reducible rfl)
      (try simp only [Act.put, List.setIfInBounds_toArray, List.set_cons_zero, List.set_cons_succ])
      refine take_l (i := 10) (oi := ?oZ41) (v := ?vZ41) ?hiZ41 (by kernel_rfl) (by kernel_rfl) (by kernel_rfl) (by kernel_rfl) ?hQZ41 ?hwZ41 ?hyZ41 (by assumption) ?restZ41
      case hiZ41 => (simp only [List.getElem?_toArray, List.getElem?_cons_succ, List.getElem?_cons_zero] <;> rfl)
      case hQZ41 => exact (fun _ _ _ h => h)
      case hwZ41 => rfl
      case hyZ41 => (intro w hSw; (try dsimp only at hSw); go_simp; try with_reducible rfl)
      (try simp only [Act.put, List.setIfInBounds_toArray, List.set_cons_zero, List.set_cons_succ])
      refine take_l (i := 11) (oi := ?oZ42) (v := ?vZ42) ?hiZ42 (by kernel_rfl) (by kernel_rfl) (by kernel_rfl) (by kernel_rfl) ?hQZ42 ?hwZ42 ?hyZ42 (by assumption) ?restZ42
      case hiZ42 => (simp only [List.getElem?_toArray, List.getElem?_cons_succ, List.getElem?_cons_zero] <;> rfl)
      case hQZ42 => exact (fun _ _ _ h => h)
      case hwZ42 => rfl
      case hyZ42 => (intro w hSw; (try dsimp only at hSw); go_simp; try with_reducible rfl)
      (try simp only [Act.put, List.setIfInBounds_toArray, List.set_cons_zero, List.set_cons_succ])
      refine take_l (i := 12) (oi := ?oZ43) (v := ?vZ43) ?hiZ43 (by kernel_rfl) (by kernel_rfl) (by kernel_rfl) (by kernel_rfl) ?hQZ43 ?hwZ43 ?hyZ43 (by assumption) ?restZ43
      case hiZ43 => (simp only [List.getElem?_toArray, List.getElem?_cons_succ, List.getElem?_cons_zero] <;> rfl)
      case hQZ43 => exact (fun _ _ _ h => h)
      case hwZ43 => rfl
      case hyZ43 => (intro w hSw; (try dsimp only at hSw); go_simp; try with_reducible rfl)
      (try simp only [Act.put, List.setIfInBounds_toArray, List.set_cons_zero, List.set_cons_succ])
      refine take_l (i := 13) (oi := ?oZ44) (v := ?vZ44) ?hiZ44 (by kernel_rfl) (by kernel_rfl) (by kernel_rfl) (by kernel_rfl) ?hQZ44 ?hwZ44 ?hyZ44 (by assumption) ?restZ44
      case hiZ44 => (simp only [List.getElem?_toArray, List.getElem?_cons_succ, List.getElem?_cons_zero] <;> rfl)
      case hQZ44 => exact (fun _ _ _ h => h)
      case hwZ44 => rfl
      case hyZ44 => (intro w hSw; (try dsimp only at hSw); go_simp; try with_reducible rfl)
      (try simp only [Act.put, List.setIfInBounds_toArray, List.set_cons_zero, List.set_cons_succ])
      refine one_l (i := 14) (o := ?oZ45) (by kernel_rfl) ?hiZ45 (fun K hK => ?stZ45)
      case hiZ45 => (simp only [List.getElem?_toArray, List.getElem?_cons_succ, List.getElem?_cons_zero] <;> rfl)
      go_simp
      go_at_call 33
      refine (IHR.out (H 1) _ ((HP.out.below HX0.out.drew.b).kids 1 l1) HL.out.2.2.2 HBL.out.2.1 (by simp only [AT.depth] at hd; omega) (HK.out.1.below HX0.out.drew.b) (HK.out.2.below HX0.out.drew.b)).mono ?_
      rintro _ w2 ⟨h2, rfl, hi2, hb2⟩
      unfold TH.v
      have HX2 := Lib.hid (HX0.out.drew.below hb2)
      have HI2 := Lib.hid hi2
      clear hi2 hb2
      go_simp
      refine hK.out _ _ ?_ (fun hHeld => ?_)
      · (first | exact ⟨HX4.out.box.cells.2.1, HX4.out.box.cells.2.2.1, (HX4.out.box.cells.2.2.2.2).trans (by rw [HTA.out]), (HP.out.below HX4.out.b).kid0 HTA.out (by omega), (HP.out.below HX4.out.b).kid1 HTA.out (by omega)⟩ | exact ⟨HX3.out.box.cells.2.1, HX3.out.box.cells.2.2.1, (HX3.out.box.cells.2.2.2.2).trans (by rw [HTA.out]), (HP.out.below HX3.out.b).kid0 HTA.out (by omega), (HP.out.below HX3.out.b).kid1 HTA.out (by omega)⟩ | exact ⟨HX2.out.box.cells.2.1, HX2.out.box.cells.2.2.1, (HX2.out.box.cells.2.2.2.2).trans (by rw [HTA.out]), (HP.out.below HX2.out.b).kid0 HTA.out (by omega), (HP.out.below HX2.out.b).kid1 HTA.out (by omega)⟩ | exact ⟨HX0.out.drew.box.cells.2.1, HX0.out.drew.box.cells.2.2.1, (HX0.out.drew.box.cells.2.2.2.2).trans (by rw [HTA.out]), (HP.out.below HX0.out.drew.b).kid0 HTA.out (by omega), (HP.out.below HX0.out.drew.b).kid1 HTA.out (by omega)⟩)
      clear hK K
      (try simp only [Act.put, List.setIfInBounds_toArray, List.set_cons_zero, List.set_cons_succ])
      refine one_l (i := 15) (o := ?oZ46) (by kernel_rfl) ?hiZ46 (fun K hK => ?stZ46)
      case hiZ46 => (simp only [List.getElem?_toArray, List.getElem?_cons_succ, List.getElem?_cons_zero] <;> rfl)
      go_simp
      go_at_call 43
      refine (refNode_any l (r.put key val) (H 0) h2 h.ka h.va h.kn h.kc h.vn h.vc k v _ ((HP.out.below HX2.out.b).kids 0 l0) HI2.out (HP.out.below HX2.out.b).key (HP.out.below HX2.out.b).val).mono ?_
      rintro _ w3 ⟨h3, rfl, hi3, hb3⟩
      unfold TH.v
      have HX3 := Lib.hid (HX2.out.below hb3)
      have HI3 := Lib.hid hi3
      clear hi3 hb3
      go_simp
      refine hK.out _ _ ?_ (fun hHeld => ?_)
      · (first | exact ⟨HX4.out.box.cells.2.1, HX4.out.box.cells.2.2.1, (HX4.out.box.cells.2.2.2.2).trans (by rw [HTA.out]), (HP.out.below HX4.out.b).kid0 HTA.out (by omega), (HP.out.below HX4.out.b).kid1 HTA.out (by omega)⟩ | exact ⟨HX3.out.box.cells.2.1, HX3.out.box.cells.2.2.1, (HX3.out.box.cells.2.2.2.2).trans (by rw [HTA.out]), (HP.out.below HX3.out.b).kid0 HTA.out (by omega), (HP.out.below HX3.out.b).kid1 HTA.out (by omega)⟩ | exact ⟨HX2.out.box.cells.2.1, HX2.out.box.cells.2.2.1, (HX2.out.box.cells.2.2.2.2).trans (by rw [HTA.out]), (HP.out.below HX2.out.b).kid0 HTA.out (by omega), (HP.out.below HX2.out.b).kid1 HTA.out (by omega)⟩ | exact ⟨HX0.out.drew.box.cells.2.1, HX0.out.drew.box.cells.2.2.1, (HX0.out.drew.box.cells.2.2.2.2).trans (by rw [HTA.out]), (HP.out.below HX0.out.drew.b).kid0 HTA.out (by omega), (HP.out.below HX0.out.drew.b).kid1 HTA.out (by omega)⟩)
      clear hK K
      (try simp only [Act.put, List.setIfInBounds_toArray, List.set_cons_zero, List.set_cons_succ])
      refine one_l (i := 16) (o := ?oZ47) (by kernel_rfl) ?hiZ47 (fun K hK => ?stZ47)
      case hiZ47 => (simp only [List.getElem?_toArray, List.getElem?_cons_succ, List.getElem?_cons_zero] <;> rfl)
      go_simp
      go_at_call 44
      refine (refLevel_any l k v (r.put key val) h3 _ HI3.out (Lim.mk HL.out.1 HL.out.2.1 HL.out.2.2.1 (AT.put_lim hkl hvl HL.out.2.2.2)) (by simp only [AT.depth] at hd; omega) (by have := (AT.put_bal key val r HBL.out.2.1).2.2; simp only [AT.depth] at hd; omega)).mono ?_
      rintro _ w4 ⟨h4, rfl, hi4, hb4⟩
      unfold TH.v
      have HX4 := Lib.hid (HX3.out.below hb4)
      have HI4 := Lib.hid hi4
      clear hi4 hb4
      go_simp
      refine hK.out _ _ ?_ (fun hHeld => ?_)
      · (first | exact ⟨HX4.out.box.cells.2.1, HX4.out.box.cells.2.2.1, (HX4.out.box.cells.2.2.2.2).trans (by rw [HTA.out]), (HP.out.below HX4.out.b).kid0 HTA.out (by omega), (HP.out.below HX4.out.b).kid1 HTA.out (by omega)⟩ | exact ⟨HX3.out.box.cells.2.1, HX3.out.box.cells.2.2.1, (HX3.out.box.cells.2.2.2.2).trans (by rw [HTA.out]), (HP.out.below HX3.out.b).kid0 HTA.out (by omega), (HP.out.below HX3.out.b).kid1 HTA.out (by omega)⟩ | exact ⟨HX2.out.box.cells.2.1, HX2.out.box.cells.2.2.1, (HX2.out.box.cells.2.2.2.2).trans (by rw [HTA.out]), (HP.out.below HX2.out.b).kid0 HTA.out (by omega), (HP.out.below HX2.out.b).kid1 HTA.out (by omega)⟩ | exact ⟨HX0.out.drew.box.cells.2.1, HX0.out.drew.box.cells.2.2.1, (HX0.out.drew.box.cells.2.2.2.2).trans (by rw [HTA.out]), (HP.out.below HX0.out.drew.b).kid0 HTA.out (by omega), (HP.out.below HX0.out.drew.b).kid1 HTA.out (by omega)⟩)
      clear hK K
      (try simp only [Act.put, List.setIfInBounds_toArray, List.set_cons_zero, List.set_cons_succ])
      refine last_l (o := ?oZ48) (by kernel_rfl) ?hiZ48 (by kernel_rfl) (fun K hK => ?stZ48)
      case hiZ48 => (simp only [List.getElem?_toArray, List.getElem?_cons_succ, List.getElem?_cons_zero] <;> rfl)
      refine step_store_box rfl 33 (.tmp 6) (.tmp 72) rfl (w.heap.size + 1) hZ h4 rfl rfl 33 HX4.out.res infoTree5 ?_
      intro w9 hbx9 hg9
      have HX9 := Lib.hid hbx9
      have HI9 := Lib.hid (AT.outBox HX4.out.res hg9 _ _ HI4.out)
      have HB9 : Hid (Below w.heap.size w w9) := Lib.hid (HX4.out.b.grown hg9 HX4.out.b.size (fun j hj => by injection hj; omega))
      clear hbx9 hg9
      refine hK.out _ _ ?_
      clear hK K
      (try simp only [Act.put])
      
      clear hHeld
      go_wp2_with fail
      refine bodyPost_ret (v := h4.v) (result_tree Try.results33 _ HX9.out rfl Try.underlying33 infoTree5) rfl ⟨_, rfl, ?_, HB9.out⟩
      rw [HPN.out]
      exact HI9.out
    · have HPN2 := Lib.hid (HPN1.out.trans (if_pos cl))
      clear HPN HPN1
      have HPN := HPN2
      clear ce ce2 hlt cv1 cv2 x0 x1 x2 x3 x4 cl
      go_upto_region 6 with fail
      refine region_l (S := (fun W => W.cell? ⟨w.heap.size, 1, none⟩ = some (.slice h.ka h.kn h.kc) ∧ W.cell? ⟨w.heap.size, 2, none⟩ = some (.slice h.va h.vn h.vc) ∧ W.cell? ⟨w.heap.size, 4, none⟩ = some (.slice (some ⟨g, off, none⟩) h.tn h.tc) ∧ (W.cell? ⟨g, off, none⟩ = some (.int .i64 (H 0).k) ∧ W.cell? ⟨g, off + 1, none⟩ = some (.slice (H 0).ka (H 0).kn (H 0).kc) ∧ W.cell? ⟨g, off + 2, none⟩ = some (.slice (H 0).va (H 0).vn (H 0).vc) ∧ W.cell? ⟨g, off + 3, none⟩ = some (.slice (H 0).da (H 0).dn (H 0).dc) ∧ W.cell? ⟨g, off + 4, none⟩ = some (.slice (H 0).ta (H 0).tn (H 0).tc)) ∧ W.cell? ⟨g, off + 5, none⟩ = some (.int .i64 (H 1).k) ∧ W.cell? ⟨g, off + 5 + 1, none⟩ = some (.slice (H 1).ka (H 1).kn (H 1).kc) ∧ W.cell? ⟨g, off + 5 + 2, none⟩ = some (.slice (H 1).va (H 1).vn (H 1).vc) ∧ W.cell? ⟨g, off + 5 + 3, none⟩ = some (.slice (H 1).da (H 1).dn (H 1).dc) ∧ W.cell? ⟨g, off + 5 + 4, none⟩ = some (.slice (H 1).ta (H 1).tn (H 1).tc))) 17 (by kernel_rfl) ⟨HX0.out.drew.box.cells.2.1, HX0.out.drew.box.cells.2.2.1, (HX0.out.drew.box.cells.2.2.2.2).trans (by rw [HTA.out]), (HP.out.below HX0.out.drew.b).kid0 HTA.out (by omega), (HP.out.below HX0.out.drew.b).kid1 HTA.out (by omega)⟩ (fun hHeld => ?_)
      refine take_l (i := 0) (oi := ?oZ13) (v := ?vZ13) ?hiZ13 (by kernel_rfl) (by kernel_rfl) (by kernel_rfl) (by kernel_rfl) ?hQZ13 ?hwZ13 ?hyZ13 (by assumption) ?restZ13
      case hiZ13 => (simp only [List.getElem?_toArray, List.getElem?_cons_zero] <;> rfl)
      case hQZ13 => exact (fun _ _ _ h => h)
      case hwZ13 => rfl
      case hyZ13 => (intro w hSw; (try dsimp only at hSw); go_simp; try with_reducible rfl)
      (try simp only [Act.put, List.setIfInBounds_toArray, List.set_cons_zero, List.set_cons_succ])
      refine take_l (i := 1) (oi := ?oZ14) (v := ?vZ14) ?hiZ14 (by kernel_rfl) (by kernel_rfl) (by kernel_rfl) (by kernel_rfl) ?hQZ14 ?hwZ14 ?hyZ14 (by assumption) ?restZ14
      case hiZ14 => (simp only [List.getElem?_toArray, List.getElem?_cons_succ, List.getElem?_cons_zero] <;> rfl)
      case hQZ14 => exact (fun _ _ _ h => h)
      case hwZ14 => rfl
      case hyZ14 => (intro w hSw; (try dsimp only at hSw); go_simp; try with_reducible rfl)
      (try simp only [Act.put, List.setIfInBounds_toArray, List.set_cons_zero, List.set_cons_succ])
      refine take_l (i := 2) (oi := ?oZ15) (v := ?vZ15) ?hiZ15 (by kernel_rfl) (by kernel_rfl) (by kernel_rfl) (by kernel_rfl) ?hQZ15 ?hwZ15 ?hyZ15 (by assumption) ?restZ15
      case hiZ15 => (simp only [List.getElem?_toArray, List.getElem?_cons_succ, List.getElem?_cons_zero] <;> rfl)
      case hQZ15 => exact (fun _ _ _ h => h)
      case hwZ15 => rfl
      case hyZ15 => (intro w hSw; (try dsimp only at hSw); go_simp; try with_reducible rfl)
      (try simp only [Act.put, List.setIfInBounds_toArray, List.set_cons_zero, List.set_cons_succ])
      refine take_l (i := 3) (oi := ?oZ16) (v := ?vZ16) ?hiZ16 (by kernel_rfl) (by kernel_rfl) (by kernel_rfl) (by kernel_rfl) ?hQZ16 ?hwZ16 ?hyZ16 (by assumption) ?restZ16
      case hiZ16 => (simp only [List.getElem?_toArray, List.getElem?_cons_succ, List.getElem?_cons_zero] <;> rfl)
      case hQZ16 => exact (fun _ _ _ h => h)
      case hwZ16 => rfl
      case hyZ16 => (intro w hSw; (try dsimp only at hSw); go_simp; try with_reducible rfl)
      (try simp only [Act.put, List.setIfInBounds_toArray, List.set_cons_zero, List.set_cons_succ])
      refine take_l (i := 4) (oi := ?oZ17) (v := ?vZ17) ?hiZ17 (by kernel_rfl) (by kernel_rfl) (by kernel_rfl) (by kernel_rfl) ?hQZ17 ?hwZ17 ?hyZ17 (by assumption) ?restZ17
      case hiZ17 => (simp only [List.getElem?_toArray, List.getElem?_cons_succ, List.getElem?_cons_zero] <;> rfl)
      case hQZ17 => exact (fun _ _ _ h => h)
      case hwZ17 => rfl
      case hyZ17 => (intro w hSw; (try dsimp only at hSw); go_simp; try with_reducible rfl)
      (try simp only [Act.put, List.setIfInBounds_toArray, List.set_cons_zero, List.set_cons_succ])
      refine take_l (i := 5) (oi := ?oZ18) (v := ?vZ18) ?hiZ18 (by kernel_rfl) (by kernel_rfl) (by kernel_rfl) (by kernel_rfl) ?hQZ18 ?hwZ18 ?hyZ18 (by assumption) ?restZ18
      case hiZ18 => (simp only [List.getElem?_toArray, List.getElem?_cons_succ, List.getElem?_cons_zero] <;> rfl)
      case hQZ18 => exact (fun _ _ _ h => h)
      case hwZ18 => rfl
      case hyZ18 => (intro w hSw; (try dsimp only at hSw); go_simp; try with_reducible rfl)
      (try simp only [Act.put, List.setIfInBounds_toArray, List.set_cons_zero, List.set_cons_succ])
      refine take_l (i := 7) (oi := ?oZ19) (v := ?vZ19) ?hiZ19 (by kernel_rfl) (by kernel_rfl) (by kernel_rfl) (by kernel_rfl) ?hQZ19 ?hwZ19 ?hyZ19 (by assumption) ?restZ19
      case hiZ19 => (simp only [List.getElem?_toArray, List.getElem?_cons_succ, List.getElem?_cons_zero] <;> rfl)
      case hQZ19 => exact (fun _ _ _ h => h)
      case hwZ19 => rfl
      case hyZ19 => (intro w hSw; (try dsimp only at hSw); go_simp; try with_reducible rfl)
      (try simp only [Act.put, List.setIfInBounds_toArray, List.set_cons_zero, List.set_cons_succ])
      refine take_l (i := 8) (oi := ?oZ20) (v := ?vZ20) ?hiZ20 (by kernel_rfl) (by kernel_rfl) (by kernel_rfl) (by kernel_rfl) ?hQZ20 ?hwZ20 ?hyZ20 (by assumption) ?restZ20
      case hiZ20 => (simp only [List.getElem?_toArray, List.getElem?_cons_succ, List.getElem?_cons_zero] <;> rfl)
      case hQZ20 => exact (fun _ _ _ h => h)
      case hwZ20 => rfl
      case hyZ20 => (intro w hSw; (try dsimp only at hSw); go_simp; try with_reducible rfl)
      (try simp only [Act.put, List.setIfInBounds_toArray, List.set_cons_zero, List.set_cons_succ])
      refine take_l (i := 9) (oi := ?oZ21) (v := ?vZ21) ?hiZ21 (by kernel_rfl) (by kernel_rfl) (by kernel_rfl) (by kernel_rfl) ?hQZ21 ?hwZ21 ?hyZ21 (by assumption) ?restZ21
      case hiZ21 => (simp only [List.getElem?_toArray, List.getElem?_cons_succ, List.getElem?_cons_zero] <;> rfl)
      case hQZ21 => exact (fun _ _ _ h => h)
      case hwZ21 => rfl
      case hyZ21 => (intro w hSw; (try dsimp only at hSw); go_simp; try with_reducible rfl)
      (try simp only [Act.put, List.setIfInBounds_toArray, List.set_cons_zero, List.set_cons_succ])
      refine take_l (i := 10) (oi := ?oZ22) (v := ?vZ22) ?hiZ22 (by kernel_rfl) (by kernel_rfl) (by kernel_rfl) (by kernel_rfl) ?hQZ22 ?hwZ22 ?hyZ22 (by assumption) ?restZ22
      case hiZ22 => (simp only [List.getElem?_toArray, List.getElem?_cons_succ, List.getElem?_cons_zero] <;> rfl)
      case hQZ22 => exact (fun _ _ _ h => h)
      case hwZ22 => rfl
      case hyZ22 => (intro w hSw; (try dsimp only at hSw); go_simp; try with_reducible rfl)
      (try simp only [Act.put, List.setIfInBounds_toArray, List.set_cons_zero, List.set_cons_succ])
      refine take_l (i := 11) (oi := ?oZ23) (v := ?vZ23) ?hiZ23 (by kernel_rfl) (by kernel_rfl) (by kernel_rfl) (by kernel_rfl) ?hQZ23 ?hwZ23 ?hyZ23 (by assumption) ?restZ23
      case hiZ23 => (simp only [List.getElem?_toArray, List.getElem?_cons_succ, List.getElem?_cons_zero] <;> rfl)
      case hQZ23 => exact (fun _ _ _ h => h)
      case hwZ23 => rfl
      case hyZ23 => (intro w hSw; (try dsimp only at hSw); go_simp; try with_reducible rfl)
      (try simp only [Act.put, List.setIfInBounds_toArray, List.set_cons_zero, List.set_cons_succ])
      refine take_l (i := 12) (oi := ?oZ24) (v := ?vZ24) ?hiZ24 (by kernel_rfl) (by kernel_rfl) (by kernel_rfl) (by kernel_rfl) ?hQZ24 ?hwZ24 ?hyZ24 (by assumption) ?restZ24
      case hiZ24 => (simp only [List.getElem?_toArray, List.getElem?_cons_succ, List.getElem?_cons_zero] <;> rfl)
      case hQZ24 => exact (fun _ _ _ h => h)
      case hwZ24 => rfl
      case hyZ24 => (intro w hSw; (try dsimp only at hSw); go_simp; try with_reducible rfl)
      (try simp only [Act.put, List.setIfInBounds_toArray, List.set_cons_zero, List.set_cons_succ])
      refine take_l (i := 13) (oi := ?oZ25) (v := ?vZ25) ?hiZ25 (by kernel_rfl) (by kernel_rfl) (by kernel_rfl) (by kernel_rfl) ?hQZ25 ?hwZ25 ?hyZ25 (by assumption) ?restZ25
      case hiZ25 => (simp only [List.getElem?_toArray, List.getElem?_cons_succ, List.getElem?_cons_zero] <;> rfl)
      case hQZ25 => exact (fun _ _ _ h => h)
      case hwZ25 => rfl
      case hyZ25 => (intro w hSw; (try dsimp only at hSw); go_simp; try with_reducible rfl)
      (try simp only [Act.put, List.setIfInBounds_toArray, List.set_cons_zero, List.set_cons_succ])
      refine take_l (i := 14) (oi := ?oZ26) (v := ?vZ26) ?hiZ26 (by kernel_rfl) (by kernel_rfl) (by kernel_rfl) (by kernel_rfl) ?hQZ26 ?hwZ26 ?hyZ26 (by assumption) ?restZ26
      case hiZ26 => (simp only [List.getElem?_toArray, List.getElem?_cons_succ, List.getElem?_cons_zero] <;> rfl)
      case hQZ26 => exact (fun _ _ _ h => h)
      case hwZ26 => rfl
      case hyZ26 => (intro w hSw; (try dsimp only at hSw); go_simp; try with_reducible rfl)
      (try simp only [Act.put, List.setIfInBounds_toArray, List.set_cons_zero, List.set_cons_succ])
      refine one_l (i := 6) (o := ?oZ27) (by kernel_rfl) ?hiZ27 (fun K hK => ?stZ27)
      case hiZ27 => (simp only [List.getElem?_toArray, List.getElem?_cons_succ, List.getElem?_cons_zero] <;> rfl)
      go_simp
      go_at_call 33
      refine (IHL.out (H 0) _ ((HP.out.below HX0.out.drew.b).kids 0 l0) HL.out.1 HBL.out.1 (by simp only [AT.depth] at hd; omega) (HK.out.1.below HX0.out.drew.b) (HK.out.2.below HX0.out.drew.b)).mono ?_
      rintro _ w2 ⟨h2, rfl, hi2, hb2⟩
      unfold TH.v
      have HX2 := Lib.hid (HX0.out.drew.below hb2)
      have HI2 := Lib.hid hi2
      clear hi2 hb2
      go_simp
      refine hK.out _ _ ?_ (fun hHeld => ?_)
      · (first | exact ⟨HX4.out.box.cells.2.1, HX4.out.box.cells.2.2.1, (HX4.out.box.cells.2.2.2.2).trans (by rw [HTA.out]), (HP.out.below HX4.out.b).kid0 HTA.out (by omega), (HP.out.below HX4.out.b).kid1 HTA.out (by omega)⟩ | exact ⟨HX3.out.box.cells.2.1, HX3.out.box.cells.2.2.1, (HX3.out.box.cells.2.2.2.2).trans (by rw [HTA.out]), (HP.out.below HX3.out.b).kid0 HTA.out (by omega), (HP.out.below HX3.out.b).kid1 HTA.out (by omega)⟩ | exact ⟨HX2.out.box.cells.2.1, HX2.out.box.cells.2.2.1, (HX2.out.box.cells.2.2.2.2).trans (by rw [HTA.out]), (HP.out.below HX2.out.b).kid0 HTA.out (by omega), (HP.out.below HX2.out.b).kid1 HTA.out (by omega)⟩ | exact ⟨HX0.out.drew.box.cells.2.1, HX0.out.drew.box.cells.2.2.1, (HX0.out.drew.box.cells.2.2.2.2).trans (by rw [HTA.out]), (HP.out.below HX0.out.drew.b).kid0 HTA.out (by omega), (HP.out.below HX0.out.drew.b).kid1 HTA.out (by omega)⟩)
      clear hK K
      (try simp only [Act.put, List.setIfInBounds_toArray, List.set_cons_zero, List.set_cons_succ])
      refine one_l (i := 15) (o := ?oZ28) (by kernel_rfl) ?hiZ28 (fun K hK => ?stZ28)
      case hiZ28 => (simp only [List.getElem?_toArray, List.getElem?_cons_succ, List.getElem?_cons_zero] <;> rfl)
      go_simp
      go_at_call 43
      refine (refNode_any (l.put key val) r h2 (H 1) h.ka h.va h.kn h.kc h.vn h.vc k v _ HI2.out ((HP.out.below HX2.out.b).kids 1 l1) (HP.out.below HX2.out.b).key (HP.out.below HX2.out.b).val).mono ?_
      rintro _ w3 ⟨h3, rfl, hi3, hb3⟩
      unfold TH.v
      have HX3 := Lib.hid (HX2.out.below hb3)
      have HI3 := Lib.hid hi3
      clear hi3 hb3
      go_simp
      refine hK.out _ _ ?_ (fun hHeld => ?_)
      · (first | exact ⟨HX4.out.box.cells.2.1, HX4.out.box.cells.2.2.1, (HX4.out.box.cells.2.2.2.2).trans (by rw [HTA.out]), (HP.out.below HX4.out.b).kid0 HTA.out (by omega), (HP.out.below HX4.out.b).kid1 HTA.out (by omega)⟩ | exact ⟨HX3.out.box.cells.2.1, HX3.out.box.cells.2.2.1, (HX3.out.box.cells.2.2.2.2).trans (by rw [HTA.out]), (HP.out.below HX3.out.b).kid0 HTA.out (by omega), (HP.out.below HX3.out.b).kid1 HTA.out (by omega)⟩ | exact ⟨HX2.out.box.cells.2.1, HX2.out.box.cells.2.2.1, (HX2.out.box.cells.2.2.2.2).trans (by rw [HTA.out]), (HP.out.below HX2.out.b).kid0 HTA.out (by omega), (HP.out.below HX2.out.b).kid1 HTA.out (by omega)⟩ | exact ⟨HX0.out.drew.box.cells.2.1, HX0.out.drew.box.cells.2.2.1, (HX0.out.drew.box.cells.2.2.2.2).trans (by rw [HTA.out]), (HP.out.below HX0.out.drew.b).kid0 HTA.out (by omega), (HP.out.below HX0.out.drew.b).kid1 HTA.out (by omega)⟩)
      clear hK K
      (try simp only [Act.put, List.setIfInBounds_toArray, List.set_cons_zero, List.set_cons_succ])
      refine one_l (i := 16) (o := ?oZ29) (by kernel_rfl) ?hiZ29 (fun K hK => ?stZ29)
      case hiZ29 => (simp only [List.getElem?_toArray, List.getElem?_cons_succ, List.getElem?_cons_zero] <;> rfl)
      go_simp
      go_at_call 44
      refine (refLevel_any (l.put key val) k v r h3 _ HI3.out (Lim.mk (AT.put_lim hkl hvl HL.out.1) HL.out.2.1 HL.out.2.2.1 HL.out.2.2.2) (by have := (AT.put_bal key val l HBL.out.1).2.2; simp only [AT.depth] at hd; omega) (by simp only [AT.depth] at hd; omega)).mono ?_
      rintro _ w4 ⟨h4, rfl, hi4, hb4⟩
      unfold TH.v
      have HX4 := Lib.hid (HX3.out.below hb4)
      have HI4 := Lib.hid hi4
      clear hi4 hb4
      go_simp
      refine hK.out _ _ ?_ (fun hHeld => ?_)
      · (first | exact ⟨HX4.out.box.cells.2.1, HX4.out.box.cells.2.2.1, (HX4.out.box.cells.2.2.2.2).trans (by rw [HTA.out]), (HP.out.below HX4.out.b).kid0 HTA.out (by omega), (HP.out.below HX4.out.b).kid1 HTA.out (by omega)⟩ | exact ⟨HX3.out.box.cells.2.1, HX3.out.box.cells.2.2.1, (HX3.out.box.cells.2.2.2.2).trans (by rw [HTA.out]), (HP.out.below HX3.out.b).kid0 HTA.out (by omega), (HP.out.below HX3.out.b).kid1 HTA.out (by omega)⟩ | exact ⟨HX2.out.box.cells.2.1, HX2.out.box.cells.2.2.1, (HX2.out.box.cells.2.2.2.2).trans (by rw [HTA.out]), (HP.out.below HX2.out.b).kid0 HTA.out (by omega), (HP.out.below HX2.out.b).kid1 HTA.out (by omega)⟩ | exact ⟨HX0.out.drew.box.cells.2.1, HX0.out.drew.box.cells.2.2.1, (HX0.out.drew.box.cells.2.2.2.2).trans (by rw [HTA.out]), (HP.out.below HX0.out.drew.b).kid0 HTA.out (by omega), (HP.out.below HX0.out.drew.b).kid1 HTA.out (by omega)⟩)
      clear hK K
      (try simp only [Act.put, List.setIfInBounds_toArray, List.set_cons_zero, List.set_cons_succ])
      refine last_l (o := ?oZ30) (by kernel_rfl) ?hiZ30 (by kernel_rfl) (fun K hK => ?stZ30)
      case hiZ30 => (simp only [List.getElem?_toArray, List.getElem?_cons_succ, List.getElem?_cons_zero] <;> rfl)
      refine step_store_box rfl 33 (.tmp 6) (.tmp 55) rfl (w.heap.size + 1) hZ h4 rfl rfl 33 HX4.out.res infoTree5 ?_
      intro w9 hbx9 hg9
      have HX9 := Lib.hid hbx9
      have HI9 := Lib.hid (AT.outBox HX4.out.res hg9 _ _ HI4.out)
      have HB9 : Hid (Below w.heap.size w w9) := Lib.hid (HX4.out.b.grown hg9 HX4.out.b.size (fun j hj => by injection hj; omega))
      clear hbx9 hg9
      refine hK.out _ _ ?_
      clear hK K
      (try simp only [Act.put])
      
      clear hHeld
      go_wp2_with fail
      refine bodyPost_ret (v := h4.v) (result_tree Try.results33 _ HX9.out rfl Try.underlying33 infoTree5) rfl ⟨_, rfl, ?_, HB9.out⟩
      rw [HPN.out]
      exact HI9.out
end Go.Proofs.Ytpjojhmdgeejmaa
