/- The contract of the document's Cut. What the walk of the law ChunkCuts needs: what Cut tells, case by case. The walk of the law ChunkCuts, case by case: arguments out of bounds. The walk of the law ChunkCuts, case by case: a tree that is not well-formed. The walk of the law ChunkCuts, case by case: a tree that has no digest, or is not full. The walk of the law ChunkCuts, case by case: all is well. The walk of the law ChunkCuts. A tree that is an argument of the program. -/
import Derived.Test.YtkcmohmfejmfoaaDoorMEG
import Derived.Test.YtkcmohmfejmfoaaDoorMAA
import Derived.Test.YtkcmohmfejmfoaaDoorMAE
import Derived.Test.YtkcmohmfejmfoaaDoorMAD
import Derived.Test.YtkcmohmfejmfoaaDoorMAC
import Derived.Test.YtkcmohmfejmfoaaDoorProg
/- The contract of the document's Cut. -/
namespace Go.Proofs.YtkcmohmfejmfoaaDoor
open Go.RowKit
set_option linter.unusedVariables false

theorem cut_nil11 (k : Nat) (gk ck : Nat) (wb : World) (n : Nat) (h : TH) (w : World) (ht : InTree wb h AT.nil.tr) (hb : Below wb.heap.size wb w) (hks : Seg .u32 w gk 0 kTab) (hgk : gk < w.heap.size) : Calls Tryd.prog 19 #[.agg (Value.slice (some ⟨gk, 0, none⟩) 64 ck :: hTab.map (Value.int .u32)).toArray, .int .i64 k, .agg #[.int .i64 h.k, .slice h.ka h.kn h.kc, .slice h.va h.vn h.vc, .slice h.da h.dn h.dc, .slice h.ta h.tn h.tc], .int .i64 n] w (CutPost k wb w .nil n) := by
  have HD := Lib.hid (FW11.enter w gk ck h hZ hks hgk)
  have HT := Lib.hid ht
  have HBW := Lib.hid hb
  obtain ⟨H, hp⟩ := ht.parts
  have hk0 : (h.k == 0) = true := by have h2 : h.k = 0 := hp.hk; simp [h2]
  clear ht hb hks hgk hp
  change Hid (FW11 w (((w.alloc (.cells (Value.slice (some ⟨gk, 0, none⟩) 64 ck :: hTab.map (Value.int .u32)).toArray 39)).alloc (.cells #[.int .i64 h.k, .slice h.ka h.kn h.kc, .slice h.va h.vn h.vc, .slice h.da h.dn h.dc, .slice h.ta h.tn h.tc] 25)).alloc (.cells #[.int .i64 0, .slice none 0 0, .slice none 0 0, .slice none 0 0, .slice none 0 0] 25)) gk ck h hZ) at HD
  go_enter Tryd.func19, Tryd.ntmps19
  go_upto_region 1 with fail
  generalize (((w.alloc (.cells (Value.slice (some ⟨gk, 0, none⟩) 64 ck :: hTab.map (Value.int .u32)).toArray 39)).alloc (.cells #[.int .i64 h.k, .slice h.ka h.kn h.kc, .slice h.va h.vn h.vc, .slice h.da h.dn h.dc, .slice h.ta h.tn h.tc] 25)).alloc (.cells #[.int .i64 0, .slice none 0 0, .slice none 0 0, .slice none 0 0, .slice none 0 0] 25)) = w0 at *
  obtain ⟨x0, x1, x2, x3, x4⟩ := HD.out.d.box.cells
  go_wp2_with (first
    | (refine wpList_store_box rfl 25 (.tmp 8) (.tmp 19) rfl (w.heap.size + 2) hZ h rfl rfl 25 HD.out.box2 infoTree5 ?_
       intro w9 hbx9 hg9
       have HX9 := Lib.hid hbx9
       have HB9 : Hid (Below w.heap.size w w9) := Lib.hid (HD.out.b.grown hg9 HD.out.b.size (fun j hj => by injection hj; omega))
       clear hbx9 hg9))
  exact bodyPost_ret (v := .tuple #[TH.v h, .slice none 0 0]) (Box.result Tryd.results19 _ HX9.out rfl Tryd.underlying25 infoTree5) rfl ⟨h, .slice none 0 0, [], rfl, by rw [head_nil]; exact HT.out.lower (HBW.out.trans (HB9.out.mono HBW.out.size)), OwnT.nil _ _ _, by rw [parts_nil]; exact Heads.nil _, HB9.out⟩

set_option maxRecDepth 100000 in
set_option maxHeartbeats 4000000 in
theorem cut_whole11 (k : Nat) (hk1 : 1 ≤ k) (hk2 : k ≤ 32) (gk ck : Nat) (wb : World) (l : AT) (key v : List Int) (r : AT) (h : TH) (w : World) (ht : InTree wb h (AT.node l key v r).tr) (hb : Below wb.heap.size wb w) (hf : formedT (AT.node l key v r).tr = true) (hks : Seg .u32 w gk 0 kTab) (hgk : gk < w.heap.size) : Calls Tryd.prog 19 #[.agg (Value.slice (some ⟨gk, 0, none⟩) 64 ck :: hTab.map (Value.int .u32)).toArray, .int .i64 k, .agg #[.int .i64 h.k, .slice h.ka h.kn h.kc, .slice h.va h.vn h.vc, .slice h.da h.dn h.dc, .slice h.ta h.tn h.tc], .int .i64 0] w (CutPost k wb w (.node l key v r) 0) := by
  have HD := Lib.hid (FW11.enter w gk ck h hZ hks hgk)
  have HT := Lib.hid ht
  have HBW := Lib.hid hb
  have HF := Lib.hid hf
  obtain ⟨H, hp⟩ := ht.parts
  have hk0 : (h.k == 0) = false := by have h2 : h.k = 1 := hp.hk; simp [h2]
  clear ht hb hks hgk hp hf
  change Hid (FW11 w (((w.alloc (.cells (Value.slice (some ⟨gk, 0, none⟩) 64 ck :: hTab.map (Value.int .u32)).toArray 39)).alloc (.cells #[.int .i64 h.k, .slice h.ka h.kn h.kc, .slice h.va h.vn h.vc, .slice h.da h.dn h.dc, .slice h.ta h.tn h.tc] 25)).alloc (.cells #[.int .i64 0, .slice none 0 0, .slice none 0 0, .slice none 0 0, .slice none 0 0] 25)) gk ck h hZ) at HD
  go_enter Tryd.func19, Tryd.ntmps19
  go_upto_region 1 with fail
  generalize (((w.alloc (.cells (Value.slice (some ⟨gk, 0, none⟩) 64 ck :: hTab.map (Value.int .u32)).toArray 39)).alloc (.cells #[.int .i64 h.k, .slice h.ka h.kn h.kc, .slice h.va h.vn h.vc, .slice h.da h.dn h.dc, .slice h.ta h.tn h.tc] 25)).alloc (.cells #[.int .i64 0, .slice none 0 0, .slice none 0 0, .slice none 0 0, .slice none 0 0] 25)) = w0 at *
  obtain ⟨x0, x1, x2, x3, x4⟩ := HD.out.d.box.cells
  obtain ⟨t0, t1, t2, t3, t4, t5, t6, t7, t8⟩ := HD.out.d.nine
  go_upto_region 5 with (first
    | (go_at_call 15
       refine (refDigest_any k hk1 hk2 gk ck (AT.node l key v r).tr h _ (HT.out.lower (HBW.out.trans (HD.out.d.b.mono HBW.out.size))) HF.out HD.out.d.ks (Nat.lt_of_lt_of_le HD.out.d.gk HD.out.d.b.size)).mono ?_
       rintro _ w5 ⟨a5, n5, c5, is5, rfl, hres5, hb5⟩
       have HD5 := Lib.hid (HD.out.below hb5)
       have hi5 : InBytes w5 a5 n5 c5 (digA k (.node l key v r)) := by
         rcases hres5 with ⟨-, zs, q2, q3⟩ | ⟨-, q1⟩
         · rw [AT.digs hk2] at q2
           injection q2 with q2
           rw [q2]
           exact q3
         · rw [AT.digs hk2] at q1
           cases q1
       have HI5 := Lib.hid hi5
       clear hres5 hb5 hi5 x0 x1 x2 x3 x4 t0 t1 t2 t3 t4 t5 t6 t7 t8))
  have HDq := Lib.hid (HD5.out.below (Below.refl _ _).drew)
  have HU0 := Lib.hid (only_refl w5.drew (some (w.heap.size + 2)))
  have HR0 : Hid (Box w5.drew 25 (w.heap.size + 2) hZ) := Lib.hid HDq.out.box2
  have HRQ : Hid ((w.heap.size + 2) < w5.drew.heap.size) := Lib.hid HDq.out.box2.lt
  have HWQ : Hid (w.heap.size ≤ w5.drew.heap.size) := Lib.hid HDq.out.b.size
  have HB0 : Hid (Below w.heap.size w w5.drew) := Lib.hid HDq.out.b
  have HSS : Hid (∀ W, w5.drew.grownBy W (some (w.heap.size + 2)) → (fun W => (W.cell? ⟨w.heap.size + 1, 0, none⟩ = some (.int .i64 h.k) ∧ W.cell? ⟨w.heap.size + 1, 1, none⟩ = some (.slice h.ka h.kn h.kc) ∧ W.cell? ⟨w.heap.size + 1, 2, none⟩ = some (.slice h.va h.vn h.vc) ∧ W.cell? ⟨w.heap.size + 1, 3, none⟩ = some (.slice h.da h.dn h.dc) ∧ W.cell? ⟨w.heap.size + 1, 4, none⟩ = some (.slice h.ta h.tn h.tc))) W) := Lib.hid (fun W hu => (HDq.out.d.box.grown hu (fun e => by injection e; omega)).cells)
  have FIN5 : Hid (∀ W, w5.drew.grownBy W (some (w.heap.size + 2)) → InTree W ⟨3, none, 0, 0, none, 0, 0, a5, n5, c5, none, 0, 0⟩ (headA k 0 (.node l key v r)).tr) := Lib.hid (fun W hu => inTree_leaf (by omega) (by omega) ((HI5.out.below (Below.refl _ _).drew).outBox HR0.out hu))
  have HE : Hid ((partsA 0 (.node l key v r)).map AT.tr = [(AT.node l key v r).tr]) := Lib.hid rfl
  clear HD HD5 HI5 HF
  refine wp_region_held_drew (S := (fun W => (W.cell? ⟨w.heap.size + 1, 0, none⟩ = some (.int .i64 h.k) ∧ W.cell? ⟨w.heap.size + 1, 1, none⟩ = some (.slice h.ka h.kn h.kc) ∧ W.cell? ⟨w.heap.size + 1, 2, none⟩ = some (.slice h.va h.vn h.vc) ∧ W.cell? ⟨w.heap.size + 1, 3, none⟩ = some (.slice h.da h.dn h.dc) ∧ W.cell? ⟨w.heap.size + 1, 4, none⟩ = some (.slice h.ta h.tn h.tc)))) (by kernel_rfl) HDq.out.d.box.cells (fun hHeld => ?_)
  clear HDq
  generalize w5.drew = wq at *
  refine take_w (i := 0) (oi := ?oZ33) (v := ?vZ33) ?hiZ33 (by kernel_rfl) (by kernel_rfl) (by kernel_rfl) ?hQZ33 ?hwZ33 ?hyZ33 (by assumption) ?restZ33
  case hiZ33 => (simp only [List.getElem?_toArray, List.getElem?_cons_zero] <;> rfl)
  case hQZ33 => exact (fun _ _ _ h => h)
  case hwZ33 => rfl
  case hyZ33 => (intro w hSw; (try dsimp only at hSw); go_simp; try with_reducible rfl)
  (try simp only [Act.put, List.setIfInBounds_toArray, List.set_cons_zero, List.set_cons_succ])
  refine take_w (i := 1) (oi := ?oZ34) (v := ?vZ34) ?hiZ34 (by kernel_rfl) (by kernel_rfl) (by kernel_rfl) ?hQZ34 ?hwZ34 ?hyZ34 (by assumption) ?restZ34
  case hiZ34 => (simp only [List.getElem?_toArray, List.getElem?_cons_succ, List.getElem?_cons_zero] <;> rfl)
  case hQZ34 => exact (fun _ _ _ h => h)
  case hwZ34 => rfl
  case hyZ34 => (intro w hSw; (try dsimp only at hSw); go_simp; try with_reducible rfl)
  (try simp only [Act.put, List.setIfInBounds_toArray, List.set_cons_zero, List.set_cons_succ])
  refine take_w (i := 2) (oi := ?oZ35) (v := ?vZ35) ?hiZ35 (by kernel_rfl) (by kernel_rfl) (by kernel_rfl) ?hQZ35 ?hwZ35 ?hyZ35 (by assumption) ?restZ35
  case hiZ35 => (simp only [List.getElem?_toArray, List.getElem?_cons_succ, List.getElem?_cons_zero] <;> rfl)
  case hQZ35 => exact (fun _ _ _ h => h)
  case hwZ35 => rfl
  case hyZ35 => (intro w hSw; (try dsimp only at hSw); go_simp; try with_reducible rfl)
  (try simp only [Act.put, List.setIfInBounds_toArray, List.set_cons_zero, List.set_cons_succ])
  refine wpAnyH_ready (rs := [3, 4]) (by kernel_rfl) (by simp) ?_
  refine AllReadyH.cons (o := ?oZ36) ?hiZ36 (fun K hK => ?stZ36) (AllReadyH.cons (o := ?oZ37) ?hiZ37 (fun K hK => ?stZ37) AllReadyH.nil)
  case hiZ36 => (simp only [List.getElem?_toArray, List.getElem?_cons_succ, List.getElem?_cons_zero] <;> rfl)
  case hiZ37 => (simp only [List.getElem?_toArray, List.getElem?_cons_succ, List.getElem?_cons_zero] <;> rfl)
  case stZ36 =>
    go_simp
    have bq : Below wq.heap.size wq (wq.alloc (.cells #[.int .i64 h.k, .slice h.ka h.kn h.kc, .slice h.va h.vn h.vc, .slice h.da h.dn h.dc, .slice h.ta h.tn h.tc] 25)) := (Below.refl _ _).alloc (Nat.le_refl _) _
    have HU101 := Lib.hid (only_trans HU0.out (only_below bq _))
    have HR101 := Lib.hid (HR0.out.below bq HR0.out.lt)
    have HO101 : Hid (OwnT (wq.alloc (.cells #[.int .i64 h.k, .slice h.ka h.kn h.kc, .slice h.va h.vn h.vc, .slice h.da h.dn h.dc, .slice h.ta h.tn h.tc] 25)) wq.heap.size 25 (.slice (some ⟨wq.heap.size, 0, none⟩) 1 1) [h]) := Lib.hid (OwnT.one (Box.new wq 25 h) HU0.out.size)
    clear bq
    generalize (wq.alloc (.cells #[.int .i64 h.k, .slice h.ka h.kn h.kc, .slice h.va h.vn h.vc, .slice h.da h.dn h.dc, .slice h.ta h.tn h.tc] 25)) = wr101 at *
    refine hK.out _ _ ?_ (fun hHeld => ?_)
    · (exact HSS.out _ HU101.out)
    clear hK K
    (try simp only [Act.put, List.setIfInBounds_toArray, List.set_cons_zero, List.set_cons_succ])
    refine wpAnyH_ready (rs := [4]) (by kernel_rfl) (by simp) ?_
    refine AllReadyH.cons (o := ?oZ38) ?hiZ38 (fun K hK => ?stZ38) AllReadyH.nil
    case hiZ38 => (simp only [List.getElem?_toArray, List.getElem?_cons_succ, List.getElem?_cons_zero] <;> rfl)
    refine step_store_box rfl 25 (.tmp 8) (.tmp 30) rfl (w.heap.size + 2) hZ ⟨3, none, 0, 0, none, 0, 0, a5, n5, c5, none, 0, 0⟩ rfl rfl 25 HR101.out infoTree5 ?_
    intro wr102 hbx hg
    have HU102 := Lib.hid (only_trans HU101.out hg)
    have HR102 := Lib.hid hbx
    have HO102 : Hid (OwnT wr102 wq.heap.size 25 (.slice (some ⟨wq.heap.size, 0, none⟩) 1 1) [h]) := Lib.hid (World.ownsRow.kept HO101.out hg (.inr (fun e => by have q1 := (HO101.out.lt _ e).1; have q2 := HRQ.out; omega)))
    clear hbx hg
    refine hK.out _ _ ?_ (fun hHeld => ?_)
    · (exact HSS.out _ HU102.out)
    clear hK K
    (try simp only [Act.put])
    refine take_w (i := 5) (oi := ?oZ39) (v := ?vZ39) ?hiZ39 (by kernel_rfl) (by kernel_rfl) (by kernel_rfl) ?hQZ39 ?hwZ39 ?hyZ39 (by assumption) ?restZ39
    case hiZ39 => (simp only [List.getElem?_toArray, List.getElem?_cons_succ, List.getElem?_cons_zero] <;> rfl)
    case hQZ39 => exact (fun _ _ _ h => h)
    case hwZ39 => rfl
    case hyZ39 => (intro w hSw; (try dsimp only at hSw); go_simp; try with_reducible rfl)
    (try simp only [Act.put, List.setIfInBounds_toArray, List.set_cons_zero, List.set_cons_succ])
    refine wpAnyH_done (by kernel_rfl) ?_ _
    clear hHeld
    go_wp2_with fail
    exact bodyPost_ret (v := .tuple #[TH.v ⟨3, none, 0, 0, none, 0, 0, a5, n5, c5, none, 0, 0⟩, .slice (some ⟨wq.heap.size, 0, none⟩) 1 1]) (Box.result Tryd.results19 _ HR102.out rfl Tryd.underlying25 infoTree5) rfl ⟨⟨3, none, 0, 0, none, 0, 0, a5, n5, c5, none, 0, 0⟩, .slice (some ⟨wq.heap.size, 0, none⟩) 1 1, [h], rfl, FIN5.out _ HU102.out, (HO102.out).weak HWQ.out, by rw [HE.out]; exact Heads.one HT.out, HB0.out.grown HU102.out HB0.out.size (fun j hj => by injection hj; omega)⟩
  case stZ37 =>
    refine step_store_box rfl 25 (.tmp 8) (.tmp 30) rfl (w.heap.size + 2) hZ ⟨3, none, 0, 0, none, 0, 0, a5, n5, c5, none, 0, 0⟩ rfl rfl 25 HR0.out infoTree5 ?_
    intro wr103 hbx hg
    have HU103 := Lib.hid (only_trans HU0.out hg)
    have HR103 := Lib.hid hbx
    clear hbx hg
    refine hK.out _ _ ?_ (fun hHeld => ?_)
    · (exact HSS.out _ HU103.out)
    clear hK K
    (try simp only [Act.put])
    refine wpAnyH_ready (rs := [3]) (by kernel_rfl) (by simp) ?_
    refine AllReadyH.cons (o := ?oZ40) ?hiZ40 (fun K hK => ?stZ40) AllReadyH.nil
    case hiZ40 => (simp only [List.getElem?_toArray, List.getElem?_cons_succ, List.getElem?_cons_zero] <;> rfl)
    go_simp
    have bq : Below wr103.heap.size wr103 (wr103.alloc (.cells #[.int .i64 h.k, .slice h.ka h.kn h.kc, .slice h.va h.vn h.vc, .slice h.da h.dn h.dc, .slice h.ta h.tn h.tc] 25)) := (Below.refl _ _).alloc (Nat.le_refl _) _
    have HU104 := Lib.hid (only_trans HU103.out (only_below bq _))
    have HR104 := Lib.hid (HR103.out.below bq HR103.out.lt)
    have HO104 : Hid (OwnT (wr103.alloc (.cells #[.int .i64 h.k, .slice h.ka h.kn h.kc, .slice h.va h.vn h.vc, .slice h.da h.dn h.dc, .slice h.ta h.tn h.tc] 25)) wq.heap.size 25 (.slice (some ⟨wr103.heap.size, 0, none⟩) 1 1) [h]) := Lib.hid (OwnT.one (Box.new wr103 25 h) HU103.out.size)
    clear bq
    generalize (wr103.alloc (.cells #[.int .i64 h.k, .slice h.ka h.kn h.kc, .slice h.va h.vn h.vc, .slice h.da h.dn h.dc, .slice h.ta h.tn h.tc] 25)) = wr104 at *
    refine hK.out _ _ ?_ (fun hHeld => ?_)
    · (exact HSS.out _ HU104.out)
    clear hK K
    (try simp only [Act.put, List.setIfInBounds_toArray, List.set_cons_zero, List.set_cons_succ])
    refine take_w (i := 5) (oi := ?oZ41) (v := ?vZ41) ?hiZ41 (by kernel_rfl) (by kernel_rfl) (by kernel_rfl) ?hQZ41 ?hwZ41 ?hyZ41 (by assumption) ?restZ41
    case hiZ41 => (simp only [List.getElem?_toArray, List.getElem?_cons_succ, List.getElem?_cons_zero] <;> rfl)
    case hQZ41 => exact (fun _ _ _ h => h)
    case hwZ41 => rfl
    case hyZ41 => (intro w hSw; (try dsimp only at hSw); go_simp; try with_reducible rfl)
    (try simp only [Act.put, List.setIfInBounds_toArray, List.set_cons_zero, List.set_cons_succ])
    refine wpAnyH_done (by kernel_rfl) ?_ _
    clear hHeld
    go_wp2_with fail
    exact bodyPost_ret (v := .tuple #[TH.v ⟨3, none, 0, 0, none, 0, 0, a5, n5, c5, none, 0, 0⟩, .slice (some ⟨wr103.heap.size, 0, none⟩) 1 1]) (Box.result Tryd.results19 _ HR104.out rfl Tryd.underlying25 infoTree5) rfl ⟨⟨3, none, 0, 0, none, 0, 0, a5, n5, c5, none, 0, 0⟩, .slice (some ⟨wr103.heap.size, 0, none⟩) 1 1, [h], rfl, FIN5.out _ HU104.out, (HO104.out).weak HWQ.out, by rw [HE.out]; exact Heads.one HT.out, HB0.out.grown HU104.out HB0.out.size (fun j hj => by injection hj; omega)⟩

set_option maxRecDepth 100000 in
set_option maxHeartbeats 4000000 in
theorem cut_node11 (k : Nat) (gk ck : Nat) (wb : World) (l : AT) (key v : List Int) (r : AT) (m : Nat) (h : TH) (w : World) (ht : InTree wb h (AT.node l key v r).tr) (hb : Below wb.heap.size wb w) (hf : formedT (AT.node l key v r).tr = true) (hcn : countT (AT.node l key v r).tr ≤ 1000) (hm : m + 1 ≤ 1000) (hks : Seg .u32 w gk 0 kTab) (hgk : gk < w.heap.size)
    (ihl : ∀ (n : Nat) (h : TH) (w : World), InTree wb h l.tr → Below wb.heap.size wb w → formedT l.tr = true → countT l.tr ≤ 1000 → n ≤ 1000 → Seg .u32 w gk 0 kTab → gk < w.heap.size → Calls Tryd.prog 19 #[.agg (Value.slice (some ⟨gk, 0, none⟩) 64 ck :: hTab.map (Value.int .u32)).toArray, .int .i64 k, .agg #[.int .i64 h.k, .slice h.ka h.kn h.kc, .slice h.va h.vn h.vc, .slice h.da h.dn h.dc, .slice h.ta h.tn h.tc], .int .i64 n] w (CutPost k wb w l n))
    (ihr : ∀ (n : Nat) (h : TH) (w : World), InTree wb h r.tr → Below wb.heap.size wb w → formedT r.tr = true → countT r.tr ≤ 1000 → n ≤ 1000 → Seg .u32 w gk 0 kTab → gk < w.heap.size → Calls Tryd.prog 19 #[.agg (Value.slice (some ⟨gk, 0, none⟩) 64 ck :: hTab.map (Value.int .u32)).toArray, .int .i64 k, .agg #[.int .i64 h.k, .slice h.ka h.kn h.kc, .slice h.va h.vn h.vc, .slice h.da h.dn h.dc, .slice h.ta h.tn h.tc], .int .i64 n] w (CutPost k wb w r n)) :
    Calls Tryd.prog 19 #[.agg (Value.slice (some ⟨gk, 0, none⟩) 64 ck :: hTab.map (Value.int .u32)).toArray, .int .i64 k, .agg #[.int .i64 h.k, .slice h.ka h.kn h.kc, .slice h.va h.vn h.vc, .slice h.da h.dn h.dc, .slice h.ta h.tn h.tc], .int .i64 ((m + 1 : Nat) : Int)] w (CutPost k wb w (.node l key v r) (m + 1)) := by
  have hd1 : ((m + 1 : Nat) : Int) - 1 = (m : Int) := by omega
  have e64 : IntKind.i64.wrap (m : Int) = (m : Int) := IntWalk.i64_in _ (by omega)
  obtain ⟨DD, hD⟩ : ∃ DD : Int, ((m + 1 : Nat) : Int) = DD := ⟨_, rfl⟩
  have hD0 : (DD == 0) = false := by rw [← hD]; simp; omega
  rw [hD] at hd1 ⊢
  clear hD
  obtain ⟨ti, hti, htz⟩ := Option.map_eq_some_iff.1 infoTree2
  simp only [Prod.mk.injEq] at htz
  obtain ⟨hz0, hz1, hz2⟩ := htz
  have HD := Lib.hid (FW11.enter w gk ck h hZ hks hgk)
  have HBW0 := Lib.hid hb
  obtain ⟨H, hp⟩ := ht.parts
  have l0 : 0 < (AT.node l key v r).tr.kids.length := by rw [AT.tr_kids]; simp
  have l1 : 1 < (AT.node l key v r).tr.kids.length := by rw [AT.tr_kids]; simp
  have ht2 : h.tn = 2 := hp.len.symm
  have ht1 : (1 : Int) < (h.tn : Int) := by omega
  have ht0 : 0 < h.tn := by omega
  have hk0 : (h.k == 0) = false := by have h2 : h.k = 1 := hp.hk; simp [h2]
  have HKl : Hid (InTree wb (H 0) l.tr) := Lib.hid (hp.kids 0 l0)
  have HKr : Hid (InTree wb (H 1) r.tr) := Lib.hid (hp.kids 1 l1)
  have hfa := formed_at hf
  have HFM := Lib.hid (And.intro hfa.1 hfa.2.1)
  have hca := count_at l key v r
  have HCT : Hid (countT l.tr ≤ 1000 ∧ countT r.tr ≤ 1000 ∧ countT l.tr + countT r.tr ≤ 1000) := Lib.hid ⟨by omega, by omega, by omega⟩
  have HCTl : Hid (countT l.tr ≤ 1000 ∧ countT r.tr ≤ 1000) := Lib.hid ⟨HCT.out.1, HCT.out.2.1⟩
  have HNM : Hid (m ≤ 1000) := Lib.hid (by omega)
  have HP := Lib.hid hp
  have IHl := Lib.hid ihl
  have IHr := Lib.hid ihr
  obtain ⟨g, off, hta, -, -⟩ := hp.place (by omega)
  have HTA := Lib.hid hta
  clear ht hb hks hgk hp hf hcn hm ihl ihr ht2 hfa hca hta
  change Hid (FW11 w (((w.alloc (.cells (Value.slice (some ⟨gk, 0, none⟩) 64 ck :: hTab.map (Value.int .u32)).toArray 39)).alloc (.cells #[.int .i64 h.k, .slice h.ka h.kn h.kc, .slice h.va h.vn h.vc, .slice h.da h.dn h.dc, .slice h.ta h.tn h.tc] 25)).alloc (.cells #[.int .i64 0, .slice none 0 0, .slice none 0 0, .slice none 0 0, .slice none 0 0] 25)) gk ck h hZ) at HD
  go_enter Tryd.func19, Tryd.ntmps19
  go_upto_region 1 with fail
  generalize (((w.alloc (.cells (Value.slice (some ⟨gk, 0, none⟩) 64 ck :: hTab.map (Value.int .u32)).toArray 39)).alloc (.cells #[.int .i64 h.k, .slice h.ka h.kn h.kc, .slice h.va h.vn h.vc, .slice h.da h.dn h.dc, .slice h.ta h.tn h.tc] 25)).alloc (.cells #[.int .i64 0, .slice none 0 0, .slice none 0 0, .slice none 0 0, .slice none 0 0] 25)) = w0 at *
  obtain ⟨x0, x1, x2, x3, x4⟩ := HD.out.d.box.cells
  rw [HTA.out] at x4
  have HSA : Hid (∀ W, FW11 w W gk ck h hZ → (fun W => (W.cell? ⟨w.heap.size, 0, none⟩ = some (.slice (some ⟨gk, 0, none⟩) 64 ck) ∧ W.cell? ⟨w.heap.size, 1, none⟩ = some (.int .u32 1779033703) ∧ W.cell? ⟨w.heap.size, 2, none⟩ = some (.int .u32 3144134277) ∧ W.cell? ⟨w.heap.size, 3, none⟩ = some (.int .u32 1013904242) ∧ W.cell? ⟨w.heap.size, 4, none⟩ = some (.int .u32 2773480762) ∧ W.cell? ⟨w.heap.size, 5, none⟩ = some (.int .u32 1359893119) ∧ W.cell? ⟨w.heap.size, 6, none⟩ = some (.int .u32 2600822924) ∧ W.cell? ⟨w.heap.size, 7, none⟩ = some (.int .u32 528734635) ∧ W.cell? ⟨w.heap.size, 8, none⟩ = some (.int .u32 1541459225)) ∧ (W.cell? ⟨w.heap.size + 1, 0, none⟩ = some (.int .i64 h.k) ∧ W.cell? ⟨w.heap.size + 1, 1, none⟩ = some (.slice h.ka h.kn h.kc) ∧ W.cell? ⟨w.heap.size + 1, 2, none⟩ = some (.slice h.va h.vn h.vc) ∧ W.cell? ⟨w.heap.size + 1, 3, none⟩ = some (.slice h.da h.dn h.dc) ∧ W.cell? ⟨w.heap.size + 1, 4, none⟩ = some (.slice (some ⟨g, off, none⟩) h.tn h.tc)) ∧ (W.cell? ⟨g, off, none⟩ = some (.int .i64 (H 0).k) ∧ W.cell? ⟨g, off + 1, none⟩ = some (.slice (H 0).ka (H 0).kn (H 0).kc) ∧ W.cell? ⟨g, off + 2, none⟩ = some (.slice (H 0).va (H 0).vn (H 0).vc) ∧ W.cell? ⟨g, off + 3, none⟩ = some (.slice (H 0).da (H 0).dn (H 0).dc) ∧ W.cell? ⟨g, off + 4, none⟩ = some (.slice (H 0).ta (H 0).tn (H 0).tc))) W ∧ (fun W => (W.cell? ⟨w.heap.size, 0, none⟩ = some (.slice (some ⟨gk, 0, none⟩) 64 ck) ∧ W.cell? ⟨w.heap.size, 1, none⟩ = some (.int .u32 1779033703) ∧ W.cell? ⟨w.heap.size, 2, none⟩ = some (.int .u32 3144134277) ∧ W.cell? ⟨w.heap.size, 3, none⟩ = some (.int .u32 1013904242) ∧ W.cell? ⟨w.heap.size, 4, none⟩ = some (.int .u32 2773480762) ∧ W.cell? ⟨w.heap.size, 5, none⟩ = some (.int .u32 1359893119) ∧ W.cell? ⟨w.heap.size, 6, none⟩ = some (.int .u32 2600822924) ∧ W.cell? ⟨w.heap.size, 7, none⟩ = some (.int .u32 528734635) ∧ W.cell? ⟨w.heap.size, 8, none⟩ = some (.int .u32 1541459225)) ∧ (W.cell? ⟨w.heap.size + 1, 0, none⟩ = some (.int .i64 h.k) ∧ W.cell? ⟨w.heap.size + 1, 1, none⟩ = some (.slice h.ka h.kn h.kc) ∧ W.cell? ⟨w.heap.size + 1, 2, none⟩ = some (.slice h.va h.vn h.vc) ∧ W.cell? ⟨w.heap.size + 1, 3, none⟩ = some (.slice h.da h.dn h.dc) ∧ W.cell? ⟨w.heap.size + 1, 4, none⟩ = some (.slice (some ⟨g, off, none⟩) h.tn h.tc)) ∧ (W.cell? ⟨g, off + 5, none⟩ = some (.int .i64 (H 1).k) ∧ W.cell? ⟨g, off + 5 + 1, none⟩ = some (.slice (H 1).ka (H 1).kn (H 1).kc) ∧ W.cell? ⟨g, off + 5 + 2, none⟩ = some (.slice (H 1).va (H 1).vn (H 1).vc) ∧ W.cell? ⟨g, off + 5 + 3, none⟩ = some (.slice (H 1).da (H 1).dn (H 1).dc) ∧ W.cell? ⟨g, off + 5 + 4, none⟩ = some (.slice (H 1).ta (H 1).tn (H 1).tc))) W) := Lib.hid (fun W x => by
    have hc := x.d.box.cells
    rw [HTA.out] at hc
    have hpw := HP.out.below (HBW0.out.trans (x.d.b.mono HBW0.out.size))
    exact ⟨⟨x.d.nine, hc, hpw.kid0 HTA.out (by omega)⟩, ⟨x.d.nine, hc, hpw.kid1 HTA.out (by omega)⟩⟩)
  go_upto_region 6 with fail
  clear x0 x1 x2 x3 x4
  go_cut [12, 13] (fun s1 s2 wx => ∃ (gb : Nat) (hl : TH) (vl : Value) (hsl : List TH), s1 = .pointer (some ⟨gb, 0, none⟩) ∧ vl = s2 ∧ (Box wx 25 gb hl ∧ InTree wx hl (headA k m l).tr ∧ OwnT wx w0.heap.size 25 vl hsl ∧ Heads wb hsl ((partsA m l).map AT.tr) ∧ w0.heap.size ≤ gb) ∧ Below w0.heap.size w0 wx)
  case first =>
    have HDq := Lib.hid (HD.out.below (Below.refl _ _).drew)
    have HBq : Hid (Below w0.heap.size w0 w0.drew) := Lib.hid (Below.refl _ _).drew
    have HB0q : Hid (Below w0.drew.heap.size w0.drew w0.drew) := Lib.hid (Below.refl _ _)
    have HBW : Hid (Below wb.heap.size wb w0.drew) := Lib.hid (HBW0.out.trans (HDq.out.d.b.mono HBW0.out.size))
    have HKS : Hid (Seg .u32 w0.drew gk 0 kTab ∧ gk < w0.drew.heap.size) := Lib.hid ⟨HDq.out.d.ks, Nat.lt_of_lt_of_le HDq.out.d.gk HDq.out.d.b.size⟩
    have HSS : Hid (∀ W, Below w0.drew.heap.size w0.drew W → (fun W => (W.cell? ⟨w.heap.size, 0, none⟩ = some (.slice (some ⟨gk, 0, none⟩) 64 ck) ∧ W.cell? ⟨w.heap.size, 1, none⟩ = some (.int .u32 1779033703) ∧ W.cell? ⟨w.heap.size, 2, none⟩ = some (.int .u32 3144134277) ∧ W.cell? ⟨w.heap.size, 3, none⟩ = some (.int .u32 1013904242) ∧ W.cell? ⟨w.heap.size, 4, none⟩ = some (.int .u32 2773480762) ∧ W.cell? ⟨w.heap.size, 5, none⟩ = some (.int .u32 1359893119) ∧ W.cell? ⟨w.heap.size, 6, none⟩ = some (.int .u32 2600822924) ∧ W.cell? ⟨w.heap.size, 7, none⟩ = some (.int .u32 528734635) ∧ W.cell? ⟨w.heap.size, 8, none⟩ = some (.int .u32 1541459225)) ∧ (W.cell? ⟨w.heap.size + 1, 0, none⟩ = some (.int .i64 h.k) ∧ W.cell? ⟨w.heap.size + 1, 1, none⟩ = some (.slice h.ka h.kn h.kc) ∧ W.cell? ⟨w.heap.size + 1, 2, none⟩ = some (.slice h.va h.vn h.vc) ∧ W.cell? ⟨w.heap.size + 1, 3, none⟩ = some (.slice h.da h.dn h.dc) ∧ W.cell? ⟨w.heap.size + 1, 4, none⟩ = some (.slice (some ⟨g, off, none⟩) h.tn h.tc)) ∧ (W.cell? ⟨g, off, none⟩ = some (.int .i64 (H 0).k) ∧ W.cell? ⟨g, off + 1, none⟩ = some (.slice (H 0).ka (H 0).kn (H 0).kc) ∧ W.cell? ⟨g, off + 2, none⟩ = some (.slice (H 0).va (H 0).vn (H 0).vc) ∧ W.cell? ⟨g, off + 3, none⟩ = some (.slice (H 0).da (H 0).dn (H 0).dc) ∧ W.cell? ⟨g, off + 4, none⟩ = some (.slice (H 0).ta (H 0).tn (H 0).tc))) W) := Lib.hid (fun W hbw => (HSA.out W (HDq.out.below hbw)).1)
    have HS0 := Lib.hid (HSS.out _ (Below.refl _ _))
    refine wp_region_held_drew (S := (fun W => (W.cell? ⟨w.heap.size, 0, none⟩ = some (.slice (some ⟨gk, 0, none⟩) 64 ck) ∧ W.cell? ⟨w.heap.size, 1, none⟩ = some (.int .u32 1779033703) ∧ W.cell? ⟨w.heap.size, 2, none⟩ = some (.int .u32 3144134277) ∧ W.cell? ⟨w.heap.size, 3, none⟩ = some (.int .u32 1013904242) ∧ W.cell? ⟨w.heap.size, 4, none⟩ = some (.int .u32 2773480762) ∧ W.cell? ⟨w.heap.size, 5, none⟩ = some (.int .u32 1359893119) ∧ W.cell? ⟨w.heap.size, 6, none⟩ = some (.int .u32 2600822924) ∧ W.cell? ⟨w.heap.size, 7, none⟩ = some (.int .u32 528734635) ∧ W.cell? ⟨w.heap.size, 8, none⟩ = some (.int .u32 1541459225)) ∧ (W.cell? ⟨w.heap.size + 1, 0, none⟩ = some (.int .i64 h.k) ∧ W.cell? ⟨w.heap.size + 1, 1, none⟩ = some (.slice h.ka h.kn h.kc) ∧ W.cell? ⟨w.heap.size + 1, 2, none⟩ = some (.slice h.va h.vn h.vc) ∧ W.cell? ⟨w.heap.size + 1, 3, none⟩ = some (.slice h.da h.dn h.dc) ∧ W.cell? ⟨w.heap.size + 1, 4, none⟩ = some (.slice (some ⟨g, off, none⟩) h.tn h.tc)) ∧ (W.cell? ⟨g, off, none⟩ = some (.int .i64 (H 0).k) ∧ W.cell? ⟨g, off + 1, none⟩ = some (.slice (H 0).ka (H 0).kn (H 0).kc) ∧ W.cell? ⟨g, off + 2, none⟩ = some (.slice (H 0).va (H 0).vn (H 0).vc) ∧ W.cell? ⟨g, off + 3, none⟩ = some (.slice (H 0).da (H 0).dn (H 0).dc) ∧ W.cell? ⟨g, off + 4, none⟩ = some (.slice (H 0).ta (H 0).tn (H 0).tc)))) (by kernel_rfl) HS0.out (fun hHeld => ?_)
    clear HDq HS0 HSA
    generalize w0.drew = wq at *
    refine take_w (i := 0) (oi := ?oZ42) (v := ?vZ42) ?hiZ42 (by kernel_rfl) (by kernel_rfl) (by kernel_rfl) ?hQZ42 ?hwZ42 ?hyZ42 (by assumption) ?restZ42
    case hiZ42 => (simp only [List.getElem?_toArray, List.getElem?_cons_zero] <;> rfl)
    case hQZ42 => exact (fun _ _ _ h => h)
    case hwZ42 => rfl
    case hyZ42 => (intro w hSw; (try dsimp only at hSw); go_simp; try with_reducible rfl)
    (try simp only [Act.put, List.setIfInBounds_toArray, List.set_cons_zero, List.set_cons_succ])
    refine take_w (i := 1) (oi := ?oZ43) (v := ?vZ43) ?hiZ43 (by kernel_rfl) (by kernel_rfl) (by kernel_rfl) ?hQZ43 ?hwZ43 ?hyZ43 (by assumption) ?restZ43
    case hiZ43 => (simp only [List.getElem?_toArray, List.getElem?_cons_succ, List.getElem?_cons_zero] <;> rfl)
    case hQZ43 => exact (fun _ _ _ h => h)
    case hwZ43 => rfl
    case hyZ43 => (intro w hSw; (try dsimp only at hSw); go_simp; try with_reducible rfl)
    (try simp only [Act.put, List.setIfInBounds_toArray, List.set_cons_zero, List.set_cons_succ])
    refine take_w (i := 2) (oi := ?oZ44) (v := ?vZ44) ?hiZ44 (by kernel_rfl) (by kernel_rfl) (by kernel_rfl) ?hQZ44 ?hwZ44 ?hyZ44 (by assumption) ?restZ44
    case hiZ44 => (simp only [List.getElem?_toArray, List.getElem?_cons_succ, List.getElem?_cons_zero] <;> rfl)
    case hQZ44 => exact (fun _ _ _ h => h)
    case hwZ44 => rfl
    case hyZ44 => (intro w hSw; (try dsimp only at hSw); go_simp; try with_reducible rfl)
    (try simp only [Act.put, List.setIfInBounds_toArray, List.set_cons_zero, List.set_cons_succ])
    refine take_w (i := 3) (oi := ?oZ45) (v := ?vZ45) ?hiZ45 (by kernel_rfl) (by kernel_rfl) (by kernel_rfl) ?hQZ45 ?hwZ45 ?hyZ45 (by assumption) ?restZ45
    case hiZ45 => (simp only [List.getElem?_toArray, List.getElem?_cons_succ, List.getElem?_cons_zero] <;> rfl)
    case hQZ45 => exact (fun _ _ _ h => h)
    case hwZ45 => rfl
    case hyZ45 => (intro w hSw; (try dsimp only at hSw); go_simp; try with_reducible rfl)
    (try simp only [Act.put, List.setIfInBounds_toArray, List.set_cons_zero, List.set_cons_succ])
    refine take_w (i := 4) (oi := ?oZ46) (v := ?vZ46) ?hiZ46 (by kernel_rfl) (by kernel_rfl) (by kernel_rfl) ?hQZ46 ?hwZ46 ?hyZ46 (by assumption) ?restZ46
    case hiZ46 => (simp only [List.getElem?_toArray, List.getElem?_cons_succ, List.getElem?_cons_zero] <;> rfl)
    case hQZ46 => exact (fun _ _ _ h => h)
    case hwZ46 => rfl
    case hyZ46 => (intro w hSw; (try dsimp only at hSw); go_simp; try with_reducible rfl)
    (try simp only [Act.put, List.setIfInBounds_toArray, List.set_cons_zero, List.set_cons_succ])
    refine take_w (i := 5) (oi := ?oZ47) (v := ?vZ47) ?hiZ47 (by kernel_rfl) (by kernel_rfl) (by kernel_rfl) ?hQZ47 ?hwZ47 ?hyZ47 (by assumption) ?restZ47
    case hiZ47 => (simp only [List.getElem?_toArray, List.getElem?_cons_succ, List.getElem?_cons_zero] <;> rfl)
    case hQZ47 => exact (fun _ _ _ h => h)
    case hwZ47 => rfl
    case hyZ47 => (intro w hSw; (try dsimp only at hSw); go_simp; try with_reducible rfl)
    (try simp only [Act.put, List.setIfInBounds_toArray, List.set_cons_zero, List.set_cons_succ])
    refine take_w (i := 6) (oi := ?oZ48) (v := ?vZ48) ?hiZ48 (by kernel_rfl) (by kernel_rfl) (by kernel_rfl) ?hQZ48 ?hwZ48 ?hyZ48 (by assumption) ?restZ48
    case hiZ48 => (simp only [List.getElem?_toArray, List.getElem?_cons_succ, List.getElem?_cons_zero] <;> rfl)
    case hQZ48 => exact (fun _ _ _ h => h)
    case hwZ48 => rfl
    case hyZ48 => (intro w hSw; (try dsimp only at hSw); go_simp; try with_reducible rfl)
    (try simp only [Act.put, List.setIfInBounds_toArray, List.set_cons_zero, List.set_cons_succ])
    refine take_w (i := 7) (oi := ?oZ49) (v := ?vZ49) ?hiZ49 (by kernel_rfl) (by kernel_rfl) (by kernel_rfl) ?hQZ49 ?hwZ49 ?hyZ49 (by assumption) ?restZ49
    case hiZ49 => (simp only [List.getElem?_toArray, List.getElem?_cons_succ, List.getElem?_cons_zero] <;> rfl)
    case hQZ49 => exact (fun _ _ _ h => h)
    case hwZ49 => rfl
    case hyZ49 => (intro w hSw; (try dsimp only at hSw); go_simp; try with_reducible rfl)
    (try simp only [Act.put, List.setIfInBounds_toArray, List.set_cons_zero, List.set_cons_succ])
    refine wpAnyH_ready (rs := [8, 12]) (by kernel_rfl) (by simp) ?_
    refine AllReadyH.cons (o := ?oZ50) ?hiZ50 (fun K hK => ?stZ50) (AllReadyH.cons (o := ?oZ51) ?hiZ51 (fun K hK => ?stZ51) AllReadyH.nil)
    case hiZ50 => (simp only [List.getElem?_toArray, List.getElem?_cons_succ, List.getElem?_cons_zero] <;> rfl)
    case hiZ51 => (simp only [List.getElem?_toArray, List.getElem?_cons_succ, List.getElem?_cons_zero] <;> rfl)
    case stZ50 =>
      go_simp
      go_at_call 19
      have hck : ∀ W, Below wb.heap.size wb W → Seg .u32 W gk 0 kTab → gk < W.heap.size → Calls Tryd.prog 19 #[.agg #[.slice (some ⟨gk, 0, none⟩) 64 ck, .int .u32 1779033703, .int .u32 3144134277, .int .u32 1013904242, .int .u32 2773480762, .int .u32 1359893119, .int .u32 2600822924, .int .u32 528734635, .int .u32 1541459225], .int .i64 k, .agg #[.int .i64 (H 0).k, .slice (H 0).ka (H 0).kn (H 0).kc, .slice (H 0).va (H 0).vn (H 0).vc, .slice (H 0).da (H 0).dn (H 0).dc, .slice (H 0).ta (H 0).tn (H 0).tc], .int .i64 m] W (CutPost k wb W l m) := fun W q1 q2 q3 => IHl.out m (H 0) W HKl.out q1 HFM.out.1 HCTl.out.1 HNM.out q2 q3
      (with_reducible refine (hck _ ?_ ?_ ?_).mono ?_)
      · exact HBW.out.trans ((HB0q.out).mono HBW.out.size)
      · exact HKS.out.1.below HB0q.out HKS.out.2
      · exact Nat.lt_of_lt_of_le HKS.out.2 HB0q.out.size
      unfold CutPost TH.v
      rintro _ wr105 ⟨hl, vl, hsl, rfl, hi105, ho105, hh105, hb105⟩
      have HB105 := Lib.hid (HB0q.out.trans (hb105.mono HB0q.out.size))
      have HQ105 : Hid (InTree wr105 hl (headA k m l).tr ∧ OwnT wr105 wq.heap.size 25 vl hsl ∧ Heads wb hsl ((partsA m l).map AT.tr) ∧ Below wq.heap.size wq wr105) := Lib.hid ⟨hi105, ho105, hh105, hb105⟩
      clear hck hi105 ho105 hh105 hb105
      go_simp
      refine hK.out _ _ ?_ (fun hHeld => ?_)
      · (exact HSS.out _ HB105.out)
      clear hK K
      (try simp only [Act.put, List.setIfInBounds_toArray, List.set_cons_zero, List.set_cons_succ])
      refine take_w (i := 9) (oi := ?oZ52) (v := ?vZ52) ?hiZ52 (by kernel_rfl) (by kernel_rfl) (by kernel_rfl) ?hQZ52 ?hwZ52 ?hyZ52 (by assumption) ?restZ52
      case hiZ52 => (simp only [List.getElem?_toArray, List.getElem?_cons_succ, List.getElem?_cons_zero] <;> rfl)
      case hQZ52 => exact (fun _ _ _ h => h)
      case hwZ52 => rfl
      case hyZ52 => (intro w hSw; (try dsimp only at hSw); go_simp; try with_reducible rfl)
      (try simp only [Act.put, List.setIfInBounds_toArray, List.set_cons_zero, List.set_cons_succ])
      refine take_w (i := 10) (oi := ?oZ53) (v := ?vZ53) ?hiZ53 (by kernel_rfl) (by kernel_rfl) (by kernel_rfl) ?hQZ53 ?hwZ53 ?hyZ53 (by assumption) ?restZ53
      case hiZ53 => (simp only [List.getElem?_toArray, List.getElem?_cons_succ, List.getElem?_cons_zero] <;> rfl)
      case hQZ53 => exact (fun _ _ _ h => h)
      case hwZ53 => rfl
      case hyZ53 => (intro w hSw; (try dsimp only at hSw); go_simp; try with_reducible rfl)
      (try simp only [Act.put, List.setIfInBounds_toArray, List.set_cons_zero, List.set_cons_succ])
      refine take_w (i := 11) (oi := ?oZ54) (v := ?vZ54) ?hiZ54 (by kernel_rfl) (by kernel_rfl) (by kernel_rfl) ?hQZ54 ?hwZ54 ?hyZ54 (by assumption) ?restZ54
      case hiZ54 => (simp only [List.getElem?_toArray, List.getElem?_cons_succ, List.getElem?_cons_zero] <;> rfl)
      case hQZ54 => exact (fun _ _ _ h => h)
      case hwZ54 => rfl
      case hyZ54 => (intro w hSw; (try dsimp only at hSw); go_simp; try with_reducible rfl)
      (try simp only [Act.put, List.setIfInBounds_toArray, List.set_cons_zero, List.set_cons_succ])
      refine wpAnyH_ready (rs := [12]) (by kernel_rfl) (by simp) ?_
      refine AllReadyH.cons (o := ?oZ55) ?hiZ55 (fun K hK => ?stZ55) AllReadyH.nil
      case hiZ55 => (simp only [List.getElem?_toArray, List.getElem?_cons_succ, List.getElem?_cons_zero] <;> rfl)
      go_simp
      have bq : Below wr105.heap.size wr105 (wr105.alloc (.cells #[.int .i64 0, .slice none 0 0, .slice none 0 0, .slice none 0 0, .slice none 0 0] 25)) := (Below.refl _ _).alloc (Nat.le_refl _) _
      have HB106 := Lib.hid (HB105.out.trans (bq.mono HB105.out.size))
      have HX106 : Hid (Box (wr105.alloc (.cells #[.int .i64 0, .slice none 0 0, .slice none 0 0, .slice none 0 0, .slice none 0 0] 25)) 25 wr105.heap.size hZ) := Lib.hid (Box.new wr105 25 hZ)
      have HQ106 : Hid (InTree (wr105.alloc (.cells #[.int .i64 0, .slice none 0 0, .slice none 0 0, .slice none 0 0, .slice none 0 0] 25)) hl (headA k m l).tr ∧ OwnT (wr105.alloc (.cells #[.int .i64 0, .slice none 0 0, .slice none 0 0, .slice none 0 0, .slice none 0 0] 25)) wq.heap.size 25 vl hsl ∧ ∀ j, vl.ownBlock = some j → j < wr105.heap.size) := Lib.hid ⟨HQ105.out.1.lower bq, HQ105.out.2.1.keep bq, fun j e => (HQ105.out.2.1.lt j e).2⟩
      have HGB : Hid (wq.heap.size ≤ wr105.heap.size) := Lib.hid HB105.out.size
      clear bq
      generalize (wr105.alloc (.cells #[.int .i64 0, .slice none 0 0, .slice none 0 0, .slice none 0 0, .slice none 0 0] 25)) = wr106 at *
      refine hK.out _ _ ?_ (fun hHeld => ?_)
      · (exact HSS.out _ HB106.out)
      clear hK K
      (try simp only [Act.put, List.setIfInBounds_toArray, List.set_cons_zero, List.set_cons_succ])
      refine wpAnyH_ready (rs := [13]) (by kernel_rfl) (by simp) ?_
      refine AllReadyH.cons (o := ?oZ56) ?hiZ56 (fun K hK => ?stZ56) AllReadyH.nil
      case hiZ56 => (simp only [List.getElem?_toArray, List.getElem?_cons_succ, List.getElem?_cons_zero] <;> rfl)
      refine step_store_box rfl 25 (.tmp 12) (.tmp 43) rfl (wr105.heap.size) hZ hl rfl rfl 25 HX106.out infoTree5 ?_
      intro wr107 hbx hg
      have HB107 := Lib.hid (HB106.out.grown hg HB106.out.size (fun j hj => by injection hj with hj; have := HGB.out; omega))
      have HE107 : Hid (Box wr107 25 wr105.heap.size hl ∧ InTree wr107 hl (headA k m l).tr ∧ OwnT wr107 wq.heap.size 25 vl hsl ∧ Heads wb hsl ((partsA m l).map AT.tr)) := Lib.hid ⟨hbx, InTree.outBox HX106.out hg _ _ (head_formed m l HFM.out.1) HQ106.out.1, World.ownsRow.kept HQ106.out.2.1 hg (.inr (fun e => Nat.lt_irrefl _ (HQ106.out.2.2 _ e))), HQ105.out.2.2.1⟩
      clear hbx hg
      refine hK.out _ _ ?_ (fun hHeld => ?_)
      · (exact HSS.out _ HB107.out)
      clear hK K
      (try simp only [Act.put])
      refine take_w (i := 14) (oi := ?oZ57) (v := ?vZ57) ?hiZ57 (by kernel_rfl) (by kernel_rfl) (by kernel_rfl) ?hQZ57 ?hwZ57 ?hyZ57 (by assumption) ?restZ57
      case hiZ57 => (simp only [List.getElem?_toArray, List.getElem?_cons_succ, List.getElem?_cons_zero] <;> rfl)
      case hQZ57 => exact (fun _ _ _ h => h)
      case hwZ57 => rfl
      case hyZ57 => (intro w hSw; (try dsimp only at hSw); go_simp; try with_reducible rfl)
      (try simp only [Act.put, List.setIfInBounds_toArray, List.set_cons_zero, List.set_cons_succ])
      refine wpAnyH_done (by kernel_rfl) ?_ _
      clear hHeld
      go_wp2_with fail
      go_meet
      exact ⟨wr105.heap.size, hl, vl, hsl, rfl, rfl, ⟨HE107.out.1, HE107.out.2.1, HE107.out.2.2.1.weak HBq.out.size, HE107.out.2.2.2, Nat.le_trans HBq.out.size HGB.out⟩, HBq.out.trans (HB107.out.mono HBq.out.size)⟩
    case stZ51 =>
      go_simp
      have bq : Below wq.heap.size wq (wq.alloc (.cells #[.int .i64 0, .slice none 0 0, .slice none 0 0, .slice none 0 0, .slice none 0 0] 25)) := (Below.refl _ _).alloc (Nat.le_refl _) _
      have HB109 := Lib.hid (HB0q.out.trans (bq.mono HB0q.out.size))
      have HX109 : Hid (Box (wq.alloc (.cells #[.int .i64 0, .slice none 0 0, .slice none 0 0, .slice none 0 0, .slice none 0 0] 25)) 25 wq.heap.size hZ) := Lib.hid (Box.new wq 25 hZ)
      clear bq
      have HGB : Hid (wq.heap.size ≤ wq.heap.size) := Lib.hid (Nat.le_refl _)
      generalize (wq.alloc (.cells #[.int .i64 0, .slice none 0 0, .slice none 0 0, .slice none 0 0, .slice none 0 0] 25)) = wr109 at *
      refine hK.out _ _ ?_ (fun hHeld => ?_)
      · (exact HSS.out _ HB109.out)
      clear hK K
      (try simp only [Act.put, List.setIfInBounds_toArray, List.set_cons_zero, List.set_cons_succ])
      refine wpAnyH_ready (rs := [8]) (by kernel_rfl) (by simp) ?_
      refine AllReadyH.cons (o := ?oZ58) ?hiZ58 (fun K hK => ?stZ58) AllReadyH.nil
      case hiZ58 => (simp only [List.getElem?_toArray, List.getElem?_cons_succ, List.getElem?_cons_zero] <;> rfl)
      go_simp
      go_at_call 19
      have hck : ∀ W, Below wb.heap.size wb W → Seg .u32 W gk 0 kTab → gk < W.heap.size → Calls Tryd.prog 19 #[.agg #[.slice (some ⟨gk, 0, none⟩) 64 ck, .int .u32 1779033703, .int .u32 3144134277, .int .u32 1013904242, .int .u32 2773480762, .int .u32 1359893119, .int .u32 2600822924, .int .u32 528734635, .int .u32 1541459225], .int .i64 k, .agg #[.int .i64 (H 0).k, .slice (H 0).ka (H 0).kn (H 0).kc, .slice (H 0).va (H 0).vn (H 0).vc, .slice (H 0).da (H 0).dn (H 0).dc, .slice (H 0).ta (H 0).tn (H 0).tc], .int .i64 m] W (CutPost k wb W l m) := fun W q1 q2 q3 => IHl.out m (H 0) W HKl.out q1 HFM.out.1 HCTl.out.1 HNM.out q2 q3
      (with_reducible refine (hck _ ?_ ?_ ?_).mono ?_)
      · exact HBW.out.trans ((HB109.out).mono HBW.out.size)
      · exact HKS.out.1.below HB109.out HKS.out.2
      · exact Nat.lt_of_lt_of_le HKS.out.2 HB109.out.size
      unfold CutPost TH.v
      rintro _ wr108 ⟨hl, vl, hsl, rfl, hi108, ho108, hh108, hb108⟩
      have HB108 := Lib.hid (HB109.out.trans (hb108.mono HB109.out.size))
      have HQ108 : Hid (InTree wr108 hl (headA k m l).tr ∧ OwnT wr108 wr109.heap.size 25 vl hsl ∧ Heads wb hsl ((partsA m l).map AT.tr) ∧ Below wr109.heap.size wr109 wr108) := Lib.hid ⟨hi108, ho108, hh108, hb108⟩
      clear hck hi108 ho108 hh108 hb108
      go_simp
      have HX108 := Lib.hid (HX109.out.below HQ108.out.2.2.2 HX109.out.lt)
      refine hK.out _ _ ?_ (fun hHeld => ?_)
      · (exact HSS.out _ HB108.out)
      clear hK K
      (try simp only [Act.put, List.setIfInBounds_toArray, List.set_cons_zero, List.set_cons_succ])
      refine take_w (i := 9) (oi := ?oZ59) (v := ?vZ59) ?hiZ59 (by kernel_rfl) (by kernel_rfl) (by kernel_rfl) ?hQZ59 ?hwZ59 ?hyZ59 (by assumption) ?restZ59
      case hiZ59 => (simp only [List.getElem?_toArray, List.getElem?_cons_succ, List.getElem?_cons_zero] <;> rfl)
      case hQZ59 => exact (fun _ _ _ h => h)
      case hwZ59 => rfl
      case hyZ59 => (intro w hSw; (try dsimp only at hSw); go_simp; try with_reducible rfl)
      (try simp only [Act.put, List.setIfInBounds_toArray, List.set_cons_zero, List.set_cons_succ])
      refine take_w (i := 10) (oi := ?oZ60) (v := ?vZ60) ?hiZ60 (by kernel_rfl) (by kernel_rfl) (by kernel_rfl) ?hQZ60 ?hwZ60 ?hyZ60 (by assumption) ?restZ60
      case hiZ60 => (simp only [List.getElem?_toArray, List.getElem?_cons_succ, List.getElem?_cons_zero] <;> rfl)
      case hQZ60 => exact (fun _ _ _ h => h)
      case hwZ60 => rfl
      case hyZ60 => (intro w hSw; (try dsimp only at hSw); go_simp; try with_reducible rfl)
      (try simp only [Act.put, List.setIfInBounds_toArray, List.set_cons_zero, List.set_cons_succ])
      refine take_w (i := 11) (oi := ?oZ61) (v := ?vZ61) ?hiZ61 (by kernel_rfl) (by kernel_rfl) (by kernel_rfl) ?hQZ61 ?hwZ61 ?hyZ61 (by assumption) ?restZ61
      case hiZ61 => (simp only [List.getElem?_toArray, List.getElem?_cons_succ, List.getElem?_cons_zero] <;> rfl)
      case hQZ61 => exact (fun _ _ _ h => h)
      case hwZ61 => rfl
      case hyZ61 => (intro w hSw; (try dsimp only at hSw); go_simp; try with_reducible rfl)
      (try simp only [Act.put, List.setIfInBounds_toArray, List.set_cons_zero, List.set_cons_succ])
      refine wpAnyH_ready (rs := [13]) (by kernel_rfl) (by simp) ?_
      refine AllReadyH.cons (o := ?oZ62) ?hiZ62 (fun K hK => ?stZ62) AllReadyH.nil
      case hiZ62 => (simp only [List.getElem?_toArray, List.getElem?_cons_succ, List.getElem?_cons_zero] <;> rfl)
      refine step_store_box rfl 25 (.tmp 12) (.tmp 43) rfl wq.heap.size hZ hl rfl rfl 25 HX108.out infoTree5 ?_
      intro wr110 hbx hg
      have HB110 := Lib.hid (HB108.out.grown hg HB108.out.size (fun j hj => by injection hj with hj; omega))
      have HE110 : Hid (Box wr110 25 wq.heap.size hl ∧ InTree wr110 hl (headA k m l).tr ∧ OwnT wr110 wq.heap.size 25 vl hsl ∧ Heads wb hsl ((partsA m l).map AT.tr)) := Lib.hid ⟨hbx, InTree.outBox HX108.out hg _ _ (head_formed m l HFM.out.1) HQ108.out.1, OwnT.weak (World.ownsRow.kept HQ108.out.2.1 hg (.inr (fun e => by have q1 := (HQ108.out.2.1.lt _ e).1; have q2 := HX109.out.lt; omega))) (Nat.le_of_lt HX109.out.lt), HQ108.out.2.2.1⟩
      clear hbx hg
      refine hK.out _ _ ?_ (fun hHeld => ?_)
      · (exact HSS.out _ HB110.out)
      clear hK K
      (try simp only [Act.put])
      refine take_w (i := 14) (oi := ?oZ63) (v := ?vZ63) ?hiZ63 (by kernel_rfl) (by kernel_rfl) (by kernel_rfl) ?hQZ63 ?hwZ63 ?hyZ63 (by assumption) ?restZ63
      case hiZ63 => (simp only [List.getElem?_toArray, List.getElem?_cons_succ, List.getElem?_cons_zero] <;> rfl)
      case hQZ63 => exact (fun _ _ _ h => h)
      case hwZ63 => rfl
      case hyZ63 => (intro w hSw; (try dsimp only at hSw); go_simp; try with_reducible rfl)
      (try simp only [Act.put, List.setIfInBounds_toArray, List.set_cons_zero, List.set_cons_succ])
      refine wpAnyH_done (by kernel_rfl) ?_ _
      clear hHeld
      go_wp2_with fail
      go_meet
      exact ⟨wq.heap.size, hl, vl, hsl, rfl, rfl, ⟨HE110.out.1, HE110.out.2.1, HE110.out.2.2.1.weak HBq.out.size, HE110.out.2.2.2, Nat.le_trans HBq.out.size HGB.out⟩, HBq.out.trans (HB110.out.mono HBq.out.size)⟩
  case rest =>
  obtain ⟨gl, hl, v1, hs1, rfl, rfl, ⟨hbxl, hil, hol, hhl, hgl⟩, hbl⟩ := hcut
  obtain ⟨wa, hwa⟩ : ∃ x, x = wc := ⟨_, rfl⟩
  subst hwa
  have HL := Lib.hid (And.intro hbxl (And.intro hil (And.intro hol (And.intro hhl hgl))))
  have HDr := Lib.hid (HD.out.below hbl)
  have HW0 : Hid (w.heap.size + 3 ≤ w0.heap.size) := Lib.hid HD.out.box2.lt
  have HWC : Hid (w0.heap.size ≤ wa.heap.size) := Lib.hid hbl.size
  clear hbxl hil hol hhl hgl hbl
  go_upto_region 7 with fail
  go_cut [14, 15] (fun s1 s2 wx => ∃ (gb : Nat) (hr : TH) (vr : Value) (hsr : List TH), s1 = .pointer (some ⟨gb, 0, none⟩) ∧ vr = s2 ∧ (Box wx 25 gb hr ∧ InTree wx hr (headA k m r).tr ∧ OwnT wx wa.heap.size 25 vr hsr ∧ Heads wb hsr ((partsA m r).map AT.tr) ∧ wa.heap.size ≤ gb) ∧ Below wa.heap.size wa wx)
  case first =>
    have HDq := Lib.hid (HDr.out.below (Below.refl _ _).drew)
    have HBq : Hid (Below wa.heap.size wa wa.drew) := Lib.hid (Below.refl _ _).drew
    have HB0q : Hid (Below wa.drew.heap.size wa.drew wa.drew) := Lib.hid (Below.refl _ _)
    have HBW : Hid (Below wb.heap.size wb wa.drew) := Lib.hid (HBW0.out.trans (HDq.out.d.b.mono HBW0.out.size))
    have HKS : Hid (Seg .u32 wa.drew gk 0 kTab ∧ gk < wa.drew.heap.size) := Lib.hid ⟨HDq.out.d.ks, Nat.lt_of_lt_of_le HDq.out.d.gk HDq.out.d.b.size⟩
    have HSS : Hid (∀ W, Below wa.drew.heap.size wa.drew W → (fun W => (W.cell? ⟨w.heap.size, 0, none⟩ = some (.slice (some ⟨gk, 0, none⟩) 64 ck) ∧ W.cell? ⟨w.heap.size, 1, none⟩ = some (.int .u32 1779033703) ∧ W.cell? ⟨w.heap.size, 2, none⟩ = some (.int .u32 3144134277) ∧ W.cell? ⟨w.heap.size, 3, none⟩ = some (.int .u32 1013904242) ∧ W.cell? ⟨w.heap.size, 4, none⟩ = some (.int .u32 2773480762) ∧ W.cell? ⟨w.heap.size, 5, none⟩ = some (.int .u32 1359893119) ∧ W.cell? ⟨w.heap.size, 6, none⟩ = some (.int .u32 2600822924) ∧ W.cell? ⟨w.heap.size, 7, none⟩ = some (.int .u32 528734635) ∧ W.cell? ⟨w.heap.size, 8, none⟩ = some (.int .u32 1541459225)) ∧ (W.cell? ⟨w.heap.size + 1, 0, none⟩ = some (.int .i64 h.k) ∧ W.cell? ⟨w.heap.size + 1, 1, none⟩ = some (.slice h.ka h.kn h.kc) ∧ W.cell? ⟨w.heap.size + 1, 2, none⟩ = some (.slice h.va h.vn h.vc) ∧ W.cell? ⟨w.heap.size + 1, 3, none⟩ = some (.slice h.da h.dn h.dc) ∧ W.cell? ⟨w.heap.size + 1, 4, none⟩ = some (.slice (some ⟨g, off, none⟩) h.tn h.tc)) ∧ (W.cell? ⟨g, off + 5, none⟩ = some (.int .i64 (H 1).k) ∧ W.cell? ⟨g, off + 5 + 1, none⟩ = some (.slice (H 1).ka (H 1).kn (H 1).kc) ∧ W.cell? ⟨g, off + 5 + 2, none⟩ = some (.slice (H 1).va (H 1).vn (H 1).vc) ∧ W.cell? ⟨g, off + 5 + 3, none⟩ = some (.slice (H 1).da (H 1).dn (H 1).dc) ∧ W.cell? ⟨g, off + 5 + 4, none⟩ = some (.slice (H 1).ta (H 1).tn (H 1).tc))) W) := Lib.hid (fun W hbw => (HSA.out W (HDq.out.below hbw)).2)
    have HS0 := Lib.hid (HSS.out _ (Below.refl _ _))
    refine wp_region_held_drew (S := (fun W => (W.cell? ⟨w.heap.size, 0, none⟩ = some (.slice (some ⟨gk, 0, none⟩) 64 ck) ∧ W.cell? ⟨w.heap.size, 1, none⟩ = some (.int .u32 1779033703) ∧ W.cell? ⟨w.heap.size, 2, none⟩ = some (.int .u32 3144134277) ∧ W.cell? ⟨w.heap.size, 3, none⟩ = some (.int .u32 1013904242) ∧ W.cell? ⟨w.heap.size, 4, none⟩ = some (.int .u32 2773480762) ∧ W.cell? ⟨w.heap.size, 5, none⟩ = some (.int .u32 1359893119) ∧ W.cell? ⟨w.heap.size, 6, none⟩ = some (.int .u32 2600822924) ∧ W.cell? ⟨w.heap.size, 7, none⟩ = some (.int .u32 528734635) ∧ W.cell? ⟨w.heap.size, 8, none⟩ = some (.int .u32 1541459225)) ∧ (W.cell? ⟨w.heap.size + 1, 0, none⟩ = some (.int .i64 h.k) ∧ W.cell? ⟨w.heap.size + 1, 1, none⟩ = some (.slice h.ka h.kn h.kc) ∧ W.cell? ⟨w.heap.size + 1, 2, none⟩ = some (.slice h.va h.vn h.vc) ∧ W.cell? ⟨w.heap.size + 1, 3, none⟩ = some (.slice h.da h.dn h.dc) ∧ W.cell? ⟨w.heap.size + 1, 4, none⟩ = some (.slice (some ⟨g, off, none⟩) h.tn h.tc)) ∧ (W.cell? ⟨g, off + 5, none⟩ = some (.int .i64 (H 1).k) ∧ W.cell? ⟨g, off + 5 + 1, none⟩ = some (.slice (H 1).ka (H 1).kn (H 1).kc) ∧ W.cell? ⟨g, off + 5 + 2, none⟩ = some (.slice (H 1).va (H 1).vn (H 1).vc) ∧ W.cell? ⟨g, off + 5 + 3, none⟩ = some (.slice (H 1).da (H 1).dn (H 1).dc) ∧ W.cell? ⟨g, off + 5 + 4, none⟩ = some (.slice (H 1).ta (H 1).tn (H 1).tc)))) (by kernel_rfl) HS0.out (fun hHeld => ?_)
    clear HDq HS0 HSA
    generalize wa.drew = wq at *
    refine take_w (i := 0) (oi := ?oZ64) (v := ?vZ64) ?hiZ64 (by kernel_rfl) (by kernel_rfl) (by kernel_rfl) ?hQZ64 ?hwZ64 ?hyZ64 (by assumption) ?restZ64
    case hiZ64 => (simp only [List.getElem?_toArray, List.getElem?_cons_zero] <;> rfl)
    case hQZ64 => exact (fun _ _ _ h => h)
    case hwZ64 => rfl
    case hyZ64 => (intro w hSw; (try dsimp only at hSw); go_simp; try with_reducible rfl)
    (try simp only [Act.put, List.setIfInBounds_toArray, List.set_cons_zero, List.set_cons_succ])
    refine take_w (i := 1) (oi := ?oZ65) (v := ?vZ65) ?hiZ65 (by kernel_rfl) (by kernel_rfl) (by kernel_rfl) ?hQZ65 ?hwZ65 ?hyZ65 (by assumption) ?restZ65
    case hiZ65 => (simp only [List.getElem?_toArray, List.getElem?_cons_succ, List.getElem?_cons_zero] <;> rfl)
    case hQZ65 => exact (fun _ _ _ h => h)
    case hwZ65 => rfl
    case hyZ65 => (intro w hSw; (try dsimp only at hSw); go_simp; try with_reducible rfl)
    (try simp only [Act.put, List.setIfInBounds_toArray, List.set_cons_zero, List.set_cons_succ])
    refine take_w (i := 2) (oi := ?oZ66) (v := ?vZ66) ?hiZ66 (by kernel_rfl) (by kernel_rfl) (by kernel_rfl) ?hQZ66 ?hwZ66 ?hyZ66 (by assumption) ?restZ66
    case hiZ66 => (simp only [List.getElem?_toArray, List.getElem?_cons_succ, List.getElem?_cons_zero] <;> rfl)
    case hQZ66 => exact (fun _ _ _ h => h)
    case hwZ66 => rfl
    case hyZ66 => (intro w hSw; (try dsimp only at hSw); go_simp; try with_reducible rfl)
    (try simp only [Act.put, List.setIfInBounds_toArray, List.set_cons_zero, List.set_cons_succ])
    refine take_w (i := 3) (oi := ?oZ67) (v := ?vZ67) ?hiZ67 (by kernel_rfl) (by kernel_rfl) (by kernel_rfl) ?hQZ67 ?hwZ67 ?hyZ67 (by assumption) ?restZ67
    case hiZ67 => (simp only [List.getElem?_toArray, List.getElem?_cons_succ, List.getElem?_cons_zero] <;> rfl)
    case hQZ67 => exact (fun _ _ _ h => h)
    case hwZ67 => rfl
    case hyZ67 => (intro w hSw; (try dsimp only at hSw); go_simp; try with_reducible rfl)
    (try simp only [Act.put, List.setIfInBounds_toArray, List.set_cons_zero, List.set_cons_succ])
    refine take_w (i := 4) (oi := ?oZ68) (v := ?vZ68) ?hiZ68 (by kernel_rfl) (by kernel_rfl) (by kernel_rfl) ?hQZ68 ?hwZ68 ?hyZ68 (by assumption) ?restZ68
    case hiZ68 => (simp only [List.getElem?_toArray, List.getElem?_cons_succ, List.getElem?_cons_zero] <;> rfl)
    case hQZ68 => exact (fun _ _ _ h => h)
    case hwZ68 => rfl
    case hyZ68 => (intro w hSw; (try dsimp only at hSw); go_simp; try with_reducible rfl)
    (try simp only [Act.put, List.setIfInBounds_toArray, List.set_cons_zero, List.set_cons_succ])
    refine take_w (i := 5) (oi := ?oZ69) (v := ?vZ69) ?hiZ69 (by kernel_rfl) (by kernel_rfl) (by kernel_rfl) ?hQZ69 ?hwZ69 ?hyZ69 (by assumption) ?restZ69
    case hiZ69 => (simp only [List.getElem?_toArray, List.getElem?_cons_succ, List.getElem?_cons_zero] <;> rfl)
    case hQZ69 => exact (fun _ _ _ h => h)
    case hwZ69 => rfl
    case hyZ69 => (intro w hSw; (try dsimp only at hSw); go_simp; try with_reducible rfl)
    (try simp only [Act.put, List.setIfInBounds_toArray, List.set_cons_zero, List.set_cons_succ])
    refine take_w (i := 6) (oi := ?oZ70) (v := ?vZ70) ?hiZ70 (by kernel_rfl) (by kernel_rfl) (by kernel_rfl) ?hQZ70 ?hwZ70 ?hyZ70 (by assumption) ?restZ70
    case hiZ70 => (simp only [List.getElem?_toArray, List.getElem?_cons_succ, List.getElem?_cons_zero] <;> rfl)
    case hQZ70 => exact (fun _ _ _ h => h)
    case hwZ70 => rfl
    case hyZ70 => (intro w hSw; (try dsimp only at hSw); go_simp; try with_reducible rfl)
    (try simp only [Act.put, List.setIfInBounds_toArray, List.set_cons_zero, List.set_cons_succ])
    refine take_w (i := 7) (oi := ?oZ71) (v := ?vZ71) ?hiZ71 (by kernel_rfl) (by kernel_rfl) (by kernel_rfl) ?hQZ71 ?hwZ71 ?hyZ71 (by assumption) ?restZ71
    case hiZ71 => (simp only [List.getElem?_toArray, List.getElem?_cons_succ, List.getElem?_cons_zero] <;> rfl)
    case hQZ71 => exact (fun _ _ _ h => h)
    case hwZ71 => rfl
    case hyZ71 => (intro w hSw; (try dsimp only at hSw); go_simp; try with_reducible rfl)
    (try simp only [Act.put, List.setIfInBounds_toArray, List.set_cons_zero, List.set_cons_succ])
    refine wpAnyH_ready (rs := [8, 12]) (by kernel_rfl) (by simp) ?_
    refine AllReadyH.cons (o := ?oZ72) ?hiZ72 (fun K hK => ?stZ72) (AllReadyH.cons (o := ?oZ73) ?hiZ73 (fun K hK => ?stZ73) AllReadyH.nil)
    case hiZ72 => (simp only [List.getElem?_toArray, List.getElem?_cons_succ, List.getElem?_cons_zero] <;> rfl)
    case hiZ73 => (simp only [List.getElem?_toArray, List.getElem?_cons_succ, List.getElem?_cons_zero] <;> rfl)
    case stZ72 =>
      go_simp
      go_at_call 19
      have hck : ∀ W, Below wb.heap.size wb W → Seg .u32 W gk 0 kTab → gk < W.heap.size → Calls Tryd.prog 19 #[.agg #[.slice (some ⟨gk, 0, none⟩) 64 ck, .int .u32 1779033703, .int .u32 3144134277, .int .u32 1013904242, .int .u32 2773480762, .int .u32 1359893119, .int .u32 2600822924, .int .u32 528734635, .int .u32 1541459225], .int .i64 k, .agg #[.int .i64 (H 1).k, .slice (H 1).ka (H 1).kn (H 1).kc, .slice (H 1).va (H 1).vn (H 1).vc, .slice (H 1).da (H 1).dn (H 1).dc, .slice (H 1).ta (H 1).tn (H 1).tc], .int .i64 m] W (CutPost k wb W r m) := fun W q1 q2 q3 => IHr.out m (H 1) W HKr.out q1 HFM.out.2 HCTl.out.2 HNM.out q2 q3
      (with_reducible refine (hck _ ?_ ?_ ?_).mono ?_)
      · exact HBW.out.trans ((HB0q.out).mono HBW.out.size)
      · exact HKS.out.1.below HB0q.out HKS.out.2
      · exact Nat.lt_of_lt_of_le HKS.out.2 HB0q.out.size
      unfold CutPost TH.v
      rintro _ wr111 ⟨hr, vr, hsr, rfl, hi111, ho111, hh111, hb111⟩
      have HB111 := Lib.hid (HB0q.out.trans (hb111.mono HB0q.out.size))
      have HQ111 : Hid (InTree wr111 hr (headA k m r).tr ∧ OwnT wr111 wq.heap.size 25 vr hsr ∧ Heads wb hsr ((partsA m r).map AT.tr) ∧ Below wq.heap.size wq wr111) := Lib.hid ⟨hi111, ho111, hh111, hb111⟩
      clear hck hi111 ho111 hh111 hb111
      go_simp
      refine hK.out _ _ ?_ (fun hHeld => ?_)
      · (exact HSS.out _ HB111.out)
      clear hK K
      (try simp only [Act.put, List.setIfInBounds_toArray, List.set_cons_zero, List.set_cons_succ])
      refine take_w (i := 9) (oi := ?oZ74) (v := ?vZ74) ?hiZ74 (by kernel_rfl) (by kernel_rfl) (by kernel_rfl) ?hQZ74 ?hwZ74 ?hyZ74 (by assumption) ?restZ74
      case hiZ74 => (simp only [List.getElem?_toArray, List.getElem?_cons_succ, List.getElem?_cons_zero] <;> rfl)
      case hQZ74 => exact (fun _ _ _ h => h)
      case hwZ74 => rfl
      case hyZ74 => (intro w hSw; (try dsimp only at hSw); go_simp; try with_reducible rfl)
      (try simp only [Act.put, List.setIfInBounds_toArray, List.set_cons_zero, List.set_cons_succ])
      refine take_w (i := 10) (oi := ?oZ75) (v := ?vZ75) ?hiZ75 (by kernel_rfl) (by kernel_rfl) (by kernel_rfl) ?hQZ75 ?hwZ75 ?hyZ75 (by assumption) ?restZ75
      case hiZ75 => (simp only [List.getElem?_toArray, List.getElem?_cons_succ, List.getElem?_cons_zero] <;> rfl)
      case hQZ75 => exact (fun _ _ _ h => h)
      case hwZ75 => rfl
      case hyZ75 => (intro w hSw; (try dsimp only at hSw); go_simp; try with_reducible rfl)
      (try simp only [Act.put, List.setIfInBounds_toArray, List.set_cons_zero, List.set_cons_succ])
      refine take_w (i := 11) (oi := ?oZ76) (v := ?vZ76) ?hiZ76 (by kernel_rfl) (by kernel_rfl) (by kernel_rfl) ?hQZ76 ?hwZ76 ?hyZ76 (by assumption) ?restZ76
      case hiZ76 => (simp only [List.getElem?_toArray, List.getElem?_cons_succ, List.getElem?_cons_zero] <;> rfl)
      case hQZ76 => exact (fun _ _ _ h => h)
      case hwZ76 => rfl
      case hyZ76 => (intro w hSw; (try dsimp only at hSw); go_simp; try with_reducible rfl)
      (try simp only [Act.put, List.setIfInBounds_toArray, List.set_cons_zero, List.set_cons_succ])
      refine wpAnyH_ready (rs := [12]) (by kernel_rfl) (by simp) ?_
      refine AllReadyH.cons (o := ?oZ77) ?hiZ77 (fun K hK => ?stZ77) AllReadyH.nil
      case hiZ77 => (simp only [List.getElem?_toArray, List.getElem?_cons_succ, List.getElem?_cons_zero] <;> rfl)
      go_simp
      have bq : Below wr111.heap.size wr111 (wr111.alloc (.cells #[.int .i64 0, .slice none 0 0, .slice none 0 0, .slice none 0 0, .slice none 0 0] 25)) := (Below.refl _ _).alloc (Nat.le_refl _) _
      have HB112 := Lib.hid (HB111.out.trans (bq.mono HB111.out.size))
      have HX112 : Hid (Box (wr111.alloc (.cells #[.int .i64 0, .slice none 0 0, .slice none 0 0, .slice none 0 0, .slice none 0 0] 25)) 25 wr111.heap.size hZ) := Lib.hid (Box.new wr111 25 hZ)
      have HQ112 : Hid (InTree (wr111.alloc (.cells #[.int .i64 0, .slice none 0 0, .slice none 0 0, .slice none 0 0, .slice none 0 0] 25)) hr (headA k m r).tr ∧ OwnT (wr111.alloc (.cells #[.int .i64 0, .slice none 0 0, .slice none 0 0, .slice none 0 0, .slice none 0 0] 25)) wq.heap.size 25 vr hsr ∧ ∀ j, vr.ownBlock = some j → j < wr111.heap.size) := Lib.hid ⟨HQ111.out.1.lower bq, HQ111.out.2.1.keep bq, fun j e => (HQ111.out.2.1.lt j e).2⟩
      have HGB : Hid (wq.heap.size ≤ wr111.heap.size) := Lib.hid HB111.out.size
      clear bq
      generalize (wr111.alloc (.cells #[.int .i64 0, .slice none 0 0, .slice none 0 0, .slice none 0 0, .slice none 0 0] 25)) = wr112 at *
      refine hK.out _ _ ?_ (fun hHeld => ?_)
      · (exact HSS.out _ HB112.out)
      clear hK K
      (try simp only [Act.put, List.setIfInBounds_toArray, List.set_cons_zero, List.set_cons_succ])
      refine wpAnyH_ready (rs := [13]) (by kernel_rfl) (by simp) ?_
      refine AllReadyH.cons (o := ?oZ78) ?hiZ78 (fun K hK => ?stZ78) AllReadyH.nil
      case hiZ78 => (simp only [List.getElem?_toArray, List.getElem?_cons_succ, List.getElem?_cons_zero] <;> rfl)
      refine step_store_box rfl 25 (.tmp 14) (.tmp 55) rfl (wr111.heap.size) hZ hr rfl rfl 25 HX112.out infoTree5 ?_
      intro wr113 hbx hg
      have HB113 := Lib.hid (HB112.out.grown hg HB112.out.size (fun j hj => by injection hj with hj; have := HGB.out; omega))
      have HE113 : Hid (Box wr113 25 wr111.heap.size hr ∧ InTree wr113 hr (headA k m r).tr ∧ OwnT wr113 wq.heap.size 25 vr hsr ∧ Heads wb hsr ((partsA m r).map AT.tr)) := Lib.hid ⟨hbx, InTree.outBox HX112.out hg _ _ (head_formed m r HFM.out.2) HQ112.out.1, World.ownsRow.kept HQ112.out.2.1 hg (.inr (fun e => Nat.lt_irrefl _ (HQ112.out.2.2 _ e))), HQ111.out.2.2.1⟩
      clear hbx hg
      refine hK.out _ _ ?_ (fun hHeld => ?_)
      · (exact HSS.out _ HB113.out)
      clear hK K
      (try simp only [Act.put])
      refine take_w (i := 14) (oi := ?oZ79) (v := ?vZ79) ?hiZ79 (by kernel_rfl) (by kernel_rfl) (by kernel_rfl) ?hQZ79 ?hwZ79 ?hyZ79 (by assumption) ?restZ79
      case hiZ79 => (simp only [List.getElem?_toArray, List.getElem?_cons_succ, List.getElem?_cons_zero] <;> rfl)
      case hQZ79 => exact (fun _ _ _ h => h)
      case hwZ79 => rfl
      case hyZ79 => (intro w hSw; (try dsimp only at hSw); go_simp; try with_reducible rfl)
      (try simp only [Act.put, List.setIfInBounds_toArray, List.set_cons_zero, List.set_cons_succ])
      refine wpAnyH_done (by kernel_rfl) ?_ _
      clear hHeld
      go_wp2_with fail
      go_meet
      exact ⟨wr111.heap.size, hr, vr, hsr, rfl, rfl, ⟨HE113.out.1, HE113.out.2.1, HE113.out.2.2.1.weak HBq.out.size, HE113.out.2.2.2, Nat.le_trans HBq.out.size HGB.out⟩, HBq.out.trans (HB113.out.mono HBq.out.size)⟩
    case stZ73 =>
      go_simp
      have bq : Below wq.heap.size wq (wq.alloc (.cells #[.int .i64 0, .slice none 0 0, .slice none 0 0, .slice none 0 0, .slice none 0 0] 25)) := (Below.refl _ _).alloc (Nat.le_refl _) _
      have HB115 := Lib.hid (HB0q.out.trans (bq.mono HB0q.out.size))
      have HX115 : Hid (Box (wq.alloc (.cells #[.int .i64 0, .slice none 0 0, .slice none 0 0, .slice none 0 0, .slice none 0 0] 25)) 25 wq.heap.size hZ) := Lib.hid (Box.new wq 25 hZ)
      clear bq
      have HGB : Hid (wq.heap.size ≤ wq.heap.size) := Lib.hid (Nat.le_refl _)
      generalize (wq.alloc (.cells #[.int .i64 0, .slice none 0 0, .slice none 0 0, .slice none 0 0, .slice none 0 0] 25)) = wr115 at *
      refine hK.out _ _ ?_ (fun hHeld => ?_)
      · (exact HSS.out _ HB115.out)
      clear hK K
      (try simp only [Act.put, List.setIfInBounds_toArray, List.set_cons_zero, List.set_cons_succ])
      refine wpAnyH_ready (rs := [8]) (by kernel_rfl) (by simp) ?_
      refine AllReadyH.cons (o := ?oZ80) ?hiZ80 (fun K hK => ?stZ80) AllReadyH.nil
      case hiZ80 => (simp only [List.getElem?_toArray, List.getElem?_cons_succ, List.getElem?_cons_zero] <;> rfl)
      go_simp
      go_at_call 19
      have hck : ∀ W, Below wb.heap.size wb W → Seg .u32 W gk 0 kTab → gk < W.heap.size → Calls Tryd.prog 19 #[.agg #[.slice (some ⟨gk, 0, none⟩) 64 ck, .int .u32 1779033703, .int .u32 3144134277, .int .u32 1013904242, .int .u32 2773480762, .int .u32 1359893119, .int .u32 2600822924, .int .u32 528734635, .int .u32 1541459225], .int .i64 k, .agg #[.int .i64 (H 1).k, .slice (H 1).ka (H 1).kn (H 1).kc, .slice (H 1).va (H 1).vn (H 1).vc, .slice (H 1).da (H 1).dn (H 1).dc, .slice (H 1).ta (H 1).tn (H 1).tc], .int .i64 m] W (CutPost k wb W r m) := fun W q1 q2 q3 => IHr.out m (H 1) W HKr.out q1 HFM.out.2 HCTl.out.2 HNM.out q2 q3
      (with_reducible refine (hck _ ?_ ?_ ?_).mono ?_)
      · exact HBW.out.trans ((HB115.out).mono HBW.out.size)
      · exact HKS.out.1.below HB115.out HKS.out.2
      · exact Nat.lt_of_lt_of_le HKS.out.2 HB115.out.size
      unfold CutPost TH.v
      rintro _ wr114 ⟨hr, vr, hsr, rfl, hi114, ho114, hh114, hb114⟩
      have HB114 := Lib.hid (HB115.out.trans (hb114.mono HB115.out.size))
      have HQ114 : Hid (InTree wr114 hr (headA k m r).tr ∧ OwnT wr114 wr115.heap.size 25 vr hsr ∧ Heads wb hsr ((partsA m r).map AT.tr) ∧ Below wr115.heap.size wr115 wr114) := Lib.hid ⟨hi114, ho114, hh114, hb114⟩
      clear hck hi114 ho114 hh114 hb114
      go_simp
      have HX114 := Lib.hid (HX115.out.below HQ114.out.2.2.2 HX115.out.lt)
      refine hK.out _ _ ?_ (fun hHeld => ?_)
      · (exact HSS.out _ HB114.out)
      clear hK K
      (try simp only [Act.put, List.setIfInBounds_toArray, List.set_cons_zero, List.set_cons_succ])
      refine take_w (i := 9) (oi := ?oZ81) (v := ?vZ81) ?hiZ81 (by kernel_rfl) (by kernel_rfl) (by kernel_rfl) ?hQZ81 ?hwZ81 ?hyZ81 (by assumption) ?restZ81
      case hiZ81 => (simp only [List.getElem?_toArray, List.getElem?_cons_succ, List.getElem?_cons_zero] <;> rfl)
      case hQZ81 => exact (fun _ _ _ h => h)
      case hwZ81 => rfl
      case hyZ81 => (intro w hSw; (try dsimp only at hSw); go_simp; try with_reducible rfl)
      (try simp only [Act.put, List.setIfInBounds_toArray, List.set_cons_zero, List.set_cons_succ])
      refine take_w (i := 10) (oi := ?oZ82) (v := ?vZ82) ?hiZ82 (by kernel_rfl) (by kernel_rfl) (by kernel_rfl) ?hQZ82 ?hwZ82 ?hyZ82 (by assumption) ?restZ82
      case hiZ82 => (simp only [List.getElem?_toArray, List.getElem?_cons_succ, List.getElem?_cons_zero] <;> rfl)
      case hQZ82 => exact (fun _ _ _ h => h)
      case hwZ82 => rfl
      case hyZ82 => (intro w hSw; (try dsimp only at hSw); go_simp; try with_reducible rfl)
      (try simp only [Act.put, List.setIfInBounds_toArray, List.set_cons_zero, List.set_cons_succ])
      refine take_w (i := 11) (oi := ?oZ83) (v := ?vZ83) ?hiZ83 (by kernel_rfl) (by kernel_rfl) (by kernel_rfl) ?hQZ83 ?hwZ83 ?hyZ83 (by assumption) ?restZ83
      case hiZ83 => (simp only [List.getElem?_toArray, List.getElem?_cons_succ, List.getElem?_cons_zero] <;> rfl)
      case hQZ83 => exact (fun _ _ _ h => h)
      case hwZ83 => rfl
      case hyZ83 => (intro w hSw; (try dsimp only at hSw); go_simp; try with_reducible rfl)
      (try simp only [Act.put, List.setIfInBounds_toArray, List.set_cons_zero, List.set_cons_succ])
      refine wpAnyH_ready (rs := [13]) (by kernel_rfl) (by simp) ?_
      refine AllReadyH.cons (o := ?oZ84) ?hiZ84 (fun K hK => ?stZ84) AllReadyH.nil
      case hiZ84 => (simp only [List.getElem?_toArray, List.getElem?_cons_succ, List.getElem?_cons_zero] <;> rfl)
      refine step_store_box rfl 25 (.tmp 14) (.tmp 55) rfl wq.heap.size hZ hr rfl rfl 25 HX114.out infoTree5 ?_
      intro wr116 hbx hg
      have HB116 := Lib.hid (HB114.out.grown hg HB114.out.size (fun j hj => by injection hj with hj; omega))
      have HE116 : Hid (Box wr116 25 wq.heap.size hr ∧ InTree wr116 hr (headA k m r).tr ∧ OwnT wr116 wq.heap.size 25 vr hsr ∧ Heads wb hsr ((partsA m r).map AT.tr)) := Lib.hid ⟨hbx, InTree.outBox HX114.out hg _ _ (head_formed m r HFM.out.2) HQ114.out.1, OwnT.weak (World.ownsRow.kept HQ114.out.2.1 hg (.inr (fun e => by have q1 := (HQ114.out.2.1.lt _ e).1; have q2 := HX115.out.lt; omega))) (Nat.le_of_lt HX115.out.lt), HQ114.out.2.2.1⟩
      clear hbx hg
      refine hK.out _ _ ?_ (fun hHeld => ?_)
      · (exact HSS.out _ HB116.out)
      clear hK K
      (try simp only [Act.put])
      refine take_w (i := 14) (oi := ?oZ85) (v := ?vZ85) ?hiZ85 (by kernel_rfl) (by kernel_rfl) (by kernel_rfl) ?hQZ85 ?hwZ85 ?hyZ85 (by assumption) ?restZ85
      case hiZ85 => (simp only [List.getElem?_toArray, List.getElem?_cons_succ, List.getElem?_cons_zero] <;> rfl)
      case hQZ85 => exact (fun _ _ _ h => h)
      case hwZ85 => rfl
      case hyZ85 => (intro w hSw; (try dsimp only at hSw); go_simp; try with_reducible rfl)
      (try simp only [Act.put, List.setIfInBounds_toArray, List.set_cons_zero, List.set_cons_succ])
      refine wpAnyH_done (by kernel_rfl) ?_ _
      clear hHeld
      go_wp2_with fail
      go_meet
      exact ⟨wq.heap.size, hr, vr, hsr, rfl, rfl, ⟨HE116.out.1, HE116.out.2.1, HE116.out.2.2.1.weak HBq.out.size, HE116.out.2.2.2, Nat.le_trans HBq.out.size HGB.out⟩, HBq.out.trans (HB116.out.mono HBq.out.size)⟩
  case rest =>
  obtain ⟨gr, hr, v2, hs2, rfl, rfl, ⟨hbxr, hir, hor, hhr, hgr⟩, hbr⟩ := hcut
  go_upto_region 8 with fail
  have hHL := HL.out
  have HDs := Lib.hid (HDr.out.below hbr)
  have hbd : Below wc.heap.size wc wc.drew := (Below.refl _ _).drew
  have HDq := Lib.hid (HDs.out.below hbd)
  have hbrd := hbr.trans (hbd.mono hbr.size)
  have HX1 : Hid (Box wc.drew 25 gl hl ∧ InTree wc.drew hl (headA k m l).tr) := Lib.hid ⟨hHL.1.below hbrd hHL.1.lt, hHL.2.1.lower hbrd⟩
  have HX2 : Hid (Box wc.drew 25 gr hr ∧ InTree wc.drew hr (headA k m r).tr) := Lib.hid ⟨hbxr.below hbd hbxr.lt, hir.lower hbd⟩
  have hw0 := HW0.out
  have hw1 : w.heap.size + 3 ≤ wa.heap.size := Nat.le_trans hw0 HWC.out
  have HO1 : Hid (OwnT wc.drew (w.heap.size + 3) 25 v1 hs1 ∧ OwnT wc.drew (w.heap.size + 3) 25 v2 hs2) := Lib.hid ⟨(hHL.2.2.1.keep hbrd).weak hw0, (hor.keep hbd).weak hw1⟩
  have HGG : Hid (w.heap.size + 3 ≤ gl ∧ w.heap.size + 3 ≤ gr) := Lib.hid ⟨Nat.le_trans hw0 hHL.2.2.2.2, Nat.le_trans hw1 hgr⟩
  have HHD : Hid (Heads wb (hs1 ++ hs2) ((partsA m l).map AT.tr ++ (partsA m r).map AT.tr)) := Lib.hid (hHL.2.2.2.1.app hhr)
  have HLN : Hid (hs1.length + hs2.length ≤ 1000) := Lib.hid (by
    have e1 := hHL.2.2.2.1.1
    have e2 := hhr.1
    rw [List.length_map] at e1 e2
    have q1 := parts_len m l
    have q2 := parts_len m r
    have q3 := HCT.out.2.2
    omega)
  have HU0 := Lib.hid (only_refl wc.drew (some (w.heap.size + 2)))
  have HR0 : Hid (Box wc.drew 25 (w.heap.size + 2) hZ) := Lib.hid HDq.out.box2
  have HRQ : Hid ((w.heap.size + 2) < wc.drew.heap.size) := Lib.hid HDq.out.box2.lt
  have HWQ : Hid (w.heap.size ≤ wc.drew.heap.size) := Lib.hid HDq.out.b.size
  have HB0 : Hid (Below w.heap.size w wc.drew) := Lib.hid HDq.out.b
  have HOO : Hid (∀ W, wc.drew.grownBy W (some (w.heap.size + 2)) → OwnT W (w.heap.size + 2) 25 v1 hs1 ∧ OwnT W (w.heap.size + 2) 25 v2 hs2) := Lib.hid (fun W hu => ⟨OwnT.weak (World.ownsRow.kept HO1.out.1 hu (.inr (fun e => by have q1 := (HO1.out.1.lt _ e).1; omega))) (by omega), OwnT.weak (World.ownsRow.kept HO1.out.2 hu (.inr (fun e => by have q1 := (HO1.out.2.lt _ e).1; omega))) (by omega)⟩)
  have HSS : Hid (∀ W, wc.drew.grownBy W (some (w.heap.size + 2)) → (fun W => (W.cell? ⟨w.heap.size + 1, 0, none⟩ = some (.int .i64 h.k) ∧ W.cell? ⟨w.heap.size + 1, 1, none⟩ = some (.slice h.ka h.kn h.kc) ∧ W.cell? ⟨w.heap.size + 1, 2, none⟩ = some (.slice h.va h.vn h.vc) ∧ W.cell? ⟨w.heap.size + 1, 3, none⟩ = some (.slice h.da h.dn h.dc) ∧ W.cell? ⟨w.heap.size + 1, 4, none⟩ = some (.slice h.ta h.tn h.tc)) ∧ (W.cell? ⟨gl, 0, none⟩ = some (.int .i64 hl.k) ∧ W.cell? ⟨gl, 1, none⟩ = some (.slice hl.ka hl.kn hl.kc) ∧ W.cell? ⟨gl, 2, none⟩ = some (.slice hl.va hl.vn hl.vc) ∧ W.cell? ⟨gl, 3, none⟩ = some (.slice hl.da hl.dn hl.dc) ∧ W.cell? ⟨gl, 4, none⟩ = some (.slice hl.ta hl.tn hl.tc)) ∧ (W.cell? ⟨gr, 0, none⟩ = some (.int .i64 hr.k) ∧ W.cell? ⟨gr, 1, none⟩ = some (.slice hr.ka hr.kn hr.kc) ∧ W.cell? ⟨gr, 2, none⟩ = some (.slice hr.va hr.vn hr.vc) ∧ W.cell? ⟨gr, 3, none⟩ = some (.slice hr.da hr.dn hr.dc) ∧ W.cell? ⟨gr, 4, none⟩ = some (.slice hr.ta hr.tn hr.tc))) W) := Lib.hid (fun W hu => ⟨(HDq.out.d.box.grown hu (fun e => by injection e; omega)).cells, (HX1.out.1.grown hu (fun e => by injection e; have := HGG.out.1; omega)).cells, (HX2.out.1.grown hu (fun e => by injection e; have := HGG.out.2; omega)).cells⟩)
  have HHK : Hid (InBytes wc.drew h.ka h.kn h.kc key ∧ InBytes wc.drew h.va h.vn h.vc v) := Lib.hid (by
    have q := HP.out.below (HBW0.out.trans (HDq.out.d.b.mono HBW0.out.size))
    exact ⟨q.key, q.val⟩)
  have FIN8 : Hid (∀ W gp, wc.drew.grownBy W (some (w.heap.size + 2)) → Two5 W 25 gp hl hr → InTree W ⟨1, h.ka, h.kn, h.kc, h.va, h.vn, h.vc, none, 0, 0, some ⟨gp, 0, none⟩, 2, 2⟩ (headA k (m + 1) (.node l key v r)).tr) := Lib.hid (fun W gp hu hx => inTree_pair hx (InTree.outBox HR0.out hu _ _ (head_formed m l HFM.out.1) HX1.out.2) (InTree.outBox HR0.out hu _ _ (head_formed m r HFM.out.2) HX2.out.2) (by omega) (by omega) (HHK.out.1.outBox HR0.out hu) (HHK.out.2.outBox HR0.out hu) (none_in _))
  have HE : Hid ((partsA (m + 1) (.node l key v r)).map AT.tr = (partsA m l).map AT.tr ++ (partsA m r).map AT.tr) := Lib.hid (by rw [partsA, List.map_append])
  have HSI := Lib.hid (HSS.out _ (only_refl _ _))
  clear hHL HDs hbd hbrd hbxr hir hor hhr hgr hbr hw0 hw1 HL HDr HD HSA
  refine wp_region_held_drew (S := (fun W => (W.cell? ⟨w.heap.size + 1, 0, none⟩ = some (.int .i64 h.k) ∧ W.cell? ⟨w.heap.size + 1, 1, none⟩ = some (.slice h.ka h.kn h.kc) ∧ W.cell? ⟨w.heap.size + 1, 2, none⟩ = some (.slice h.va h.vn h.vc) ∧ W.cell? ⟨w.heap.size + 1, 3, none⟩ = some (.slice h.da h.dn h.dc) ∧ W.cell? ⟨w.heap.size + 1, 4, none⟩ = some (.slice h.ta h.tn h.tc)) ∧ (W.cell? ⟨gl, 0, none⟩ = some (.int .i64 hl.k) ∧ W.cell? ⟨gl, 1, none⟩ = some (.slice hl.ka hl.kn hl.kc) ∧ W.cell? ⟨gl, 2, none⟩ = some (.slice hl.va hl.vn hl.vc) ∧ W.cell? ⟨gl, 3, none⟩ = some (.slice hl.da hl.dn hl.dc) ∧ W.cell? ⟨gl, 4, none⟩ = some (.slice hl.ta hl.tn hl.tc)) ∧ (W.cell? ⟨gr, 0, none⟩ = some (.int .i64 hr.k) ∧ W.cell? ⟨gr, 1, none⟩ = some (.slice hr.ka hr.kn hr.kc) ∧ W.cell? ⟨gr, 2, none⟩ = some (.slice hr.va hr.vn hr.vc) ∧ W.cell? ⟨gr, 3, none⟩ = some (.slice hr.da hr.dn hr.dc) ∧ W.cell? ⟨gr, 4, none⟩ = some (.slice hr.ta hr.tn hr.tc)))) (by kernel_rfl) HSI.out (fun hHeld => ?_)
  clear HDq HSI HO1 HX1 HX2
  generalize wc.drew = wq at *
  refine take_w (i := 0) (oi := ?oZ86) (v := ?vZ86) ?hiZ86 (by kernel_rfl) (by kernel_rfl) (by kernel_rfl) ?hQZ86 ?hwZ86 ?hyZ86 (by assumption) ?restZ86
  case hiZ86 => (simp only [List.getElem?_toArray, List.getElem?_cons_zero] <;> rfl)
  case hQZ86 => exact (fun _ _ _ h => h)
  case hwZ86 => rfl
  case hyZ86 => (intro w hSw; (try dsimp only at hSw); go_simp; try with_reducible rfl)
  (try simp only [Act.put, List.setIfInBounds_toArray, List.set_cons_zero, List.set_cons_succ])
  refine take_w (i := 1) (oi := ?oZ87) (v := ?vZ87) ?hiZ87 (by kernel_rfl) (by kernel_rfl) (by kernel_rfl) ?hQZ87 ?hwZ87 ?hyZ87 (by assumption) ?restZ87
  case hiZ87 => (simp only [List.getElem?_toArray, List.getElem?_cons_succ, List.getElem?_cons_zero] <;> rfl)
  case hQZ87 => exact (fun _ _ _ h => h)
  case hwZ87 => rfl
  case hyZ87 => (intro w hSw; (try dsimp only at hSw); go_simp; try with_reducible rfl)
  (try simp only [Act.put, List.setIfInBounds_toArray, List.set_cons_zero, List.set_cons_succ])
  refine take_w (i := 2) (oi := ?oZ88) (v := ?vZ88) ?hiZ88 (by kernel_rfl) (by kernel_rfl) (by kernel_rfl) ?hQZ88 ?hwZ88 ?hyZ88 (by assumption) ?restZ88
  case hiZ88 => (simp only [List.getElem?_toArray, List.getElem?_cons_succ, List.getElem?_cons_zero] <;> rfl)
  case hQZ88 => exact (fun _ _ _ h => h)
  case hwZ88 => rfl
  case hyZ88 => (intro w hSw; (try dsimp only at hSw); go_simp; try with_reducible rfl)
  (try simp only [Act.put, List.setIfInBounds_toArray, List.set_cons_zero, List.set_cons_succ])
  refine take_w (i := 3) (oi := ?oZ89) (v := ?vZ89) ?hiZ89 (by kernel_rfl) (by kernel_rfl) (by kernel_rfl) ?hQZ89 ?hwZ89 ?hyZ89 (by assumption) ?restZ89
  case hiZ89 => (simp only [List.getElem?_toArray, List.getElem?_cons_succ, List.getElem?_cons_zero] <;> rfl)
  case hQZ89 => exact (fun _ _ _ h => h)
  case hwZ89 => rfl
  case hyZ89 => (intro w hSw; (try dsimp only at hSw); go_simp; try with_reducible rfl)
  (try simp only [Act.put, List.setIfInBounds_toArray, List.set_cons_zero, List.set_cons_succ])
  refine take_w (i := 4) (oi := ?oZ90) (v := ?vZ90) ?hiZ90 (by kernel_rfl) (by kernel_rfl) (by kernel_rfl) ?hQZ90 ?hwZ90 ?hyZ90 (by assumption) ?restZ90
  case hiZ90 => (simp only [List.getElem?_toArray, List.getElem?_cons_succ, List.getElem?_cons_zero] <;> rfl)
  case hQZ90 => exact (fun _ _ _ h => h)
  case hwZ90 => rfl
  case hyZ90 => (intro w hSw; (try dsimp only at hSw); go_simp; try with_reducible rfl)
  (try simp only [Act.put, List.setIfInBounds_toArray, List.set_cons_zero, List.set_cons_succ])
  refine take_w (i := 5) (oi := ?oZ91) (v := ?vZ91) ?hiZ91 (by kernel_rfl) (by kernel_rfl) (by kernel_rfl) ?hQZ91 ?hwZ91 ?hyZ91 (by assumption) ?restZ91
  case hiZ91 => (simp only [List.getElem?_toArray, List.getElem?_cons_succ, List.getElem?_cons_zero] <;> rfl)
  case hQZ91 => exact (fun _ _ _ h => h)
  case hwZ91 => rfl
  case hyZ91 => (intro w hSw; (try dsimp only at hSw); go_simp; try with_reducible rfl)
  (try simp only [Act.put, List.setIfInBounds_toArray, List.set_cons_zero, List.set_cons_succ])
  refine take_w (i := 9) (oi := ?oZ92) (v := ?vZ92) ?hiZ92 (by kernel_rfl) (by kernel_rfl) (by kernel_rfl) ?hQZ92 ?hwZ92 ?hyZ92 (by assumption) ?restZ92
  case hiZ92 => (simp only [List.getElem?_toArray, List.getElem?_cons_succ, List.getElem?_cons_zero] <;> rfl)
  case hQZ92 => exact (fun _ _ _ h => h)
  case hwZ92 => rfl
  case hyZ92 => (intro w hSw; (try dsimp only at hSw); go_simp; try with_reducible rfl)
  (try simp only [Act.put, List.setIfInBounds_toArray, List.set_cons_zero, List.set_cons_succ])
  refine take_w (i := 11) (oi := ?oZ93) (v := ?vZ93) ?hiZ93 (by kernel_rfl) (by kernel_rfl) (by kernel_rfl) ?hQZ93 ?hwZ93 ?hyZ93 (by assumption) ?restZ93
  case hiZ93 => (simp only [List.getElem?_toArray, List.getElem?_cons_succ, List.getElem?_cons_zero] <;> rfl)
  case hQZ93 => exact (fun _ _ _ h => h)
  case hwZ93 => rfl
  case hyZ93 => (intro w hSw; (try dsimp only at hSw); go_simp; try with_reducible rfl)
  (try simp only [Act.put, List.setIfInBounds_toArray, List.set_cons_zero, List.set_cons_succ])
  refine wpAnyH_ready (rs := [6, 8]) (by kernel_rfl) (by simp) ?_
  refine AllReadyH.cons (o := ?oZ94) ?hiZ94 (fun K hK => ?stZ94) (AllReadyH.cons (o := ?oZ95) ?hiZ95 (fun K hK => ?stZ95) AllReadyH.nil)
  case hiZ94 => (simp only [List.getElem?_toArray, List.getElem?_cons_succ, List.getElem?_cons_zero] <;> rfl)
  case hiZ95 => (simp only [List.getElem?_toArray, List.getElem?_cons_succ, List.getElem?_cons_zero] <;> rfl)
  case stZ94 =>
    go_simp
    have bq : Below wq.heap.size wq (wq.alloc (.cells #[.int .i64 hl.k, .slice hl.ka hl.kn hl.kc, .slice hl.va hl.vn hl.vc, .slice hl.da hl.dn hl.dc, .slice hl.ta hl.tn hl.tc, .int .i64 hr.k, .slice hr.ka hr.kn hr.kc, .slice hr.va hr.vn hr.vc, .slice hr.da hr.dn hr.dc, .slice hr.ta hr.tn hr.tc] 25)) := (Below.refl _ _).alloc (Nat.le_refl _) _
    have HU117 := Lib.hid (only_trans HU0.out (only_below bq _))
    have HR117 := Lib.hid (HR0.out.below bq HR0.out.lt)
    have HPp117 : Hid (Two5 (wq.alloc (.cells #[.int .i64 hl.k, .slice hl.ka hl.kn hl.kc, .slice hl.va hl.vn hl.vc, .slice hl.da hl.dn hl.dc, .slice hl.ta hl.tn hl.tc, .int .i64 hr.k, .slice hr.ka hr.kn hr.kc, .slice hr.va hr.vn hr.vc, .slice hr.da hr.dn hr.dc, .slice hr.ta hr.tn hr.tc] 25)) 25 wq.heap.size hl hr ∧ wq.heap.size ≤ wq.heap.size) := Lib.hid ⟨Two5.new wq 25 hl hr, HU0.out.size⟩
    have HP117 := Lib.hid HPp117.out.1
    have HZ117 := Lib.hid HPp117.out.2
    clear HPp117
    clear bq
    generalize (wq.alloc (.cells #[.int .i64 hl.k, .slice hl.ka hl.kn hl.kc, .slice hl.va hl.vn hl.vc, .slice hl.da hl.dn hl.dc, .slice hl.ta hl.tn hl.tc, .int .i64 hr.k, .slice hr.ka hr.kn hr.kc, .slice hr.va hr.vn hr.vc, .slice hr.da hr.dn hr.dc, .slice hr.ta hr.tn hr.tc] 25)) = wr117 at *
    refine hK.out _ _ ?_ (fun hHeld => ?_)
    · (exact HSS.out _ HU117.out)
    clear hK K
    (try simp only [Act.put, List.setIfInBounds_toArray, List.set_cons_zero, List.set_cons_succ])
    refine take_w (i := 7) (oi := ?oZ96) (v := ?vZ96) ?hiZ96 (by kernel_rfl) (by kernel_rfl) (by kernel_rfl) ?hQZ96 ?hwZ96 ?hyZ96 (by assumption) ?restZ96
    case hiZ96 => (simp only [List.getElem?_toArray, List.getElem?_cons_succ, List.getElem?_cons_zero] <;> rfl)
    case hQZ96 => exact (fun _ _ _ h => h)
    case hwZ96 => rfl
    case hyZ96 => (intro w hSw; (try dsimp only at hSw); go_simp; try with_reducible rfl)
    (try simp only [Act.put, List.setIfInBounds_toArray, List.set_cons_zero, List.set_cons_succ])
    refine wpAnyH_ready (rs := [8]) (by kernel_rfl) (by simp) ?_
    refine AllReadyH.cons (o := ?oZ97) ?hiZ97 (fun K hK => ?stZ97) AllReadyH.nil
    case hiZ97 => (simp only [List.getElem?_toArray, List.getElem?_cons_succ, List.getElem?_cons_zero] <;> rfl)
    go_simp
    have bq : Below wr117.heap.size wr117 (wr117.alloc (.cells #[] 25)) := (Below.refl _ _).alloc (Nat.le_refl _) _
    have HU118 := Lib.hid (only_trans HU117.out (only_below bq _))
    have HR118 := Lib.hid (HR117.out.below bq HR117.out.lt)
    have HP118 := Lib.hid (HP117.out.below bq HP117.out.lt)
    have HA118 : Hid (OwnT (wr117.alloc (.cells #[] 25)) wq.heap.size 25 (Value.slice (some ⟨wr117.heap.size, 0, none⟩) 0 0) []) := Lib.hid (own_empty wr117 25 HU117.out.size)
    have HN118 : Hid ((Value.slice (some ⟨wr117.heap.size, 0, none⟩) 0 0).ownBlock ≠ some wq.heap.size) := Lib.hid (fun e => by have q1 := HP117.out.lt; have q2 : wr117.heap.size = wq.heap.size := Option.some.inj e; omega)
    clear bq
    generalize (wr117.alloc (.cells #[] 25)) = wr118 at *
    refine hK.out _ _ ?_ (fun hHeld => ?_)
    · (exact HSS.out _ HU118.out)
    clear hK K
    (try simp only [Act.put, List.setIfInBounds_toArray, List.set_cons_zero, List.set_cons_succ])
    refine wpAnyH_ready (rs := [10]) (by kernel_rfl) (by simp) ?_
    refine AllReadyH.cons (o := ?oZ98) ?hiZ98 (fun K hK => ?stZ98) AllReadyH.nil
    case hiZ98 => (simp only [List.getElem?_toArray, List.getElem?_cons_succ, List.getElem?_cons_zero] <;> rfl)
    refine step_append_rows _ rfl (.tmp 65) (.tmp 66) 23 rfl wq.heap.size 25 ti _ 104 Tryd.underlying23 hti hz0 hz1 hz2 rfl (Value.slice (some ⟨wr117.heap.size, 0, none⟩) 0 0) [] rfl HA118.out (w.heap.size + 2) v1 hs1 rfl (HOO.out _ HU118.out).1 (by have q1 := HLN.out; simp only [List.length_nil]; omega) (by omega) HU118.out.size ?_
    intro va119 wr119 ho hg hob
    have HU119 := Lib.hid (up_own HU118.out HA118.out hg)
    have HR119 := Lib.hid (HR118.out.grown hg (fun e => by have q1 := (HA118.out.lt _ e.symm).1; have q2 := HRQ.out; omega))
    have HA119 := Lib.hid ho
    have HP119 : Hid (Two5 wr119 25 wq.heap.size hl hr) := Lib.hid ((hg.block _ HP118.out.lt (fun e => HN118.out e.symm)).trans HP118.out)
    have HN119 : Hid (va119.ownBlock ≠ some wq.heap.size) := Lib.hid (fun e => by
      rcases hob with q | q
      · exact HN118.out (q.symm.trans e)
      · have q1 := HP118.out.lt
        have q2 : wr118.heap.size = wq.heap.size := Option.some.inj (q.symm.trans e)
        omega)
    clear ho hg hob
    refine hK.out _ _ ?_ (fun hHeld => ?_)
    · (exact HSS.out _ HU119.out)
    clear hK K
    (try simp only [Act.put, List.setIfInBounds_toArray, List.set_cons_zero, List.set_cons_succ])
    refine wpAnyH_ready (rs := [12]) (by kernel_rfl) (by simp) ?_
    refine AllReadyH.cons (o := ?oZ99) ?hiZ99 (fun K hK => ?stZ99) AllReadyH.nil
    case hiZ99 => (simp only [List.getElem?_toArray, List.getElem?_cons_succ, List.getElem?_cons_zero] <;> rfl)
    refine step_append_rows _ rfl (.tmp 67) (.tmp 68) 23 rfl wq.heap.size 25 ti _ 104 Tryd.underlying23 hti hz0 hz1 hz2 rfl (va119) ([] ++ hs1) rfl HA119.out (w.heap.size + 2) v2 hs2 rfl (HOO.out _ HU119.out).2 (by have q1 := HLN.out; simp only [List.length_append, List.length_nil]; omega) (by omega) HU119.out.size ?_
    intro va120 wr120 ho hg hob
    have HU120 := Lib.hid (up_own HU119.out HA119.out hg)
    have HR120 := Lib.hid (HR119.out.grown hg (fun e => by have q1 := (HA119.out.lt _ e.symm).1; have q2 := HRQ.out; omega))
    have HA120 := Lib.hid ho
    have HP120 : Hid (Two5 wr120 25 wq.heap.size hl hr) := Lib.hid ((hg.block _ HP119.out.lt (fun e => HN119.out e.symm)).trans HP119.out)
    have HN120 : Hid (va120.ownBlock ≠ some wq.heap.size) := Lib.hid (fun e => by
      rcases hob with q | q
      · exact HN119.out (q.symm.trans e)
      · have q1 := HP119.out.lt
        have q2 : wr119.heap.size = wq.heap.size := Option.some.inj (q.symm.trans e)
        omega)
    clear ho hg hob
    refine hK.out _ _ ?_ (fun hHeld => ?_)
    · (exact HSS.out _ HU120.out)
    clear hK K
    (try simp only [Act.put, List.setIfInBounds_toArray, List.set_cons_zero, List.set_cons_succ])
    refine wpAnyH_ready (rs := [13]) (by kernel_rfl) (by simp) ?_
    refine AllReadyH.cons (o := ?oZ100) ?hiZ100 (fun K hK => ?stZ100) AllReadyH.nil
    case hiZ100 => (simp only [List.getElem?_toArray, List.getElem?_cons_succ, List.getElem?_cons_zero] <;> rfl)
    refine step_store_box rfl 25 (.tmp 8) (.tmp 64) rfl (w.heap.size + 2) hZ ⟨1, h.ka, h.kn, h.kc, h.va, h.vn, h.vc, none, 0, 0, some ⟨wq.heap.size, 0, none⟩, 2, 2⟩ rfl rfl 25 HR120.out infoTree5 ?_
    intro wr121 hbx hg
    have HU121 := Lib.hid (only_trans HU120.out hg)
    have HR121 := Lib.hid hbx
    have HP121 : Hid (Two5 wr121 25 wq.heap.size hl hr) := Lib.hid ((hg.block _ HP120.out.lt (fun e => by injection e with e; have q1 := HZ117.out; have q2 := HRQ.out; omega)).trans HP120.out)
    have HA121 : Hid (OwnT wr121 wq.heap.size 25 (va120) (([] ++ hs1) ++ hs2)) := Lib.hid (World.ownsRow.kept HA120.out hg (.inr (fun e => by have q1 := (HA120.out.lt _ e).1; have q2 := HRQ.out; omega)))
    clear hbx hg
    refine hK.out _ _ ?_ (fun hHeld => ?_)
    · (exact HSS.out _ HU121.out)
    clear hK K
    (try simp only [Act.put])
    refine take_w (i := 14) (oi := ?oZ101) (v := ?vZ101) ?hiZ101 (by kernel_rfl) (by kernel_rfl) (by kernel_rfl) ?hQZ101 ?hwZ101 ?hyZ101 (by assumption) ?restZ101
    case hiZ101 => (simp only [List.getElem?_toArray, List.getElem?_cons_succ, List.getElem?_cons_zero] <;> rfl)
    case hQZ101 => exact (fun _ _ _ h => h)
    case hwZ101 => rfl
    case hyZ101 => (intro w hSw; (try dsimp only at hSw); go_simp; try with_reducible rfl)
    (try simp only [Act.put, List.setIfInBounds_toArray, List.set_cons_zero, List.set_cons_succ])
    refine wpAnyH_done (by kernel_rfl) ?_ _
    clear hHeld
    go_wp2_with fail
    exact bodyPost_ret (v := .tuple #[TH.v ⟨1, h.ka, h.kn, h.kc, h.va, h.vn, h.vc, none, 0, 0, some ⟨wq.heap.size, 0, none⟩, 2, 2⟩, va120]) (Box.result Tryd.results19 _ HR121.out rfl Tryd.underlying25 infoTree5) rfl ⟨⟨1, h.ka, h.kn, h.kc, h.va, h.vn, h.vc, none, 0, 0, some ⟨wq.heap.size, 0, none⟩, 2, 2⟩, va120, _, rfl, FIN8.out _ _ HU121.out HP121.out, (HA121.out).weak HWQ.out, by rw [HE.out, List.nil_append]; exact HHD.out, HB0.out.grown HU121.out HB0.out.size (fun j hj => by injection hj; omega)⟩
  case stZ95 =>
    go_simp
    have bq : Below wq.heap.size wq (wq.alloc (.cells #[] 25)) := (Below.refl _ _).alloc (Nat.le_refl _) _
    have HU122 := Lib.hid (only_trans HU0.out (only_below bq _))
    have HR122 := Lib.hid (HR0.out.below bq HR0.out.lt)
    have HA122 : Hid (OwnT (wq.alloc (.cells #[] 25)) wq.heap.size 25 (Value.slice (some ⟨wq.heap.size, 0, none⟩) 0 0) []) := Lib.hid (own_empty wq 25 HU0.out.size)
    clear bq
    generalize (wq.alloc (.cells #[] 25)) = wr122 at *
    refine hK.out _ _ ?_ (fun hHeld => ?_)
    · (exact HSS.out _ HU122.out)
    clear hK K
    (try simp only [Act.put, List.setIfInBounds_toArray, List.set_cons_zero, List.set_cons_succ])
    refine wpAnyH_ready (rs := [6, 10]) (by kernel_rfl) (by simp) ?_
    refine AllReadyH.cons (o := ?oZ102) ?hiZ102 (fun K hK => ?stZ102) (AllReadyH.cons (o := ?oZ103) ?hiZ103 (fun K hK => ?stZ103) AllReadyH.nil)
    case hiZ102 => (simp only [List.getElem?_toArray, List.getElem?_cons_succ, List.getElem?_cons_zero] <;> rfl)
    case hiZ103 => (simp only [List.getElem?_toArray, List.getElem?_cons_succ, List.getElem?_cons_zero] <;> rfl)
    case stZ102 =>
      go_simp
      have bq : Below wr122.heap.size wr122 (wr122.alloc (.cells #[.int .i64 hl.k, .slice hl.ka hl.kn hl.kc, .slice hl.va hl.vn hl.vc, .slice hl.da hl.dn hl.dc, .slice hl.ta hl.tn hl.tc, .int .i64 hr.k, .slice hr.ka hr.kn hr.kc, .slice hr.va hr.vn hr.vc, .slice hr.da hr.dn hr.dc, .slice hr.ta hr.tn hr.tc] 25)) := (Below.refl _ _).alloc (Nat.le_refl _) _
      have HU123 := Lib.hid (only_trans HU122.out (only_below bq _))
      have HR123 := Lib.hid (HR122.out.below bq HR122.out.lt)
      have HA123 := Lib.hid (HA122.out.keep bq)
      have HPp123 : Hid (Two5 (wr122.alloc (.cells #[.int .i64 hl.k, .slice hl.ka hl.kn hl.kc, .slice hl.va hl.vn hl.vc, .slice hl.da hl.dn hl.dc, .slice hl.ta hl.tn hl.tc, .int .i64 hr.k, .slice hr.ka hr.kn hr.kc, .slice hr.va hr.vn hr.vc, .slice hr.da hr.dn hr.dc, .slice hr.ta hr.tn hr.tc] 25)) 25 wr122.heap.size hl hr ∧ wq.heap.size ≤ wr122.heap.size) := Lib.hid ⟨Two5.new wr122 25 hl hr, HU122.out.size⟩
      have HP123 := Lib.hid HPp123.out.1
      have HZ123 := Lib.hid HPp123.out.2
      clear HPp123
      have HN123 : Hid ((Value.slice (some ⟨wq.heap.size, 0, none⟩) 0 0).ownBlock ≠ some wr122.heap.size) := Lib.hid (fun e => Nat.lt_irrefl _ (HA122.out.lt _ e).2)
      clear bq
      generalize (wr122.alloc (.cells #[.int .i64 hl.k, .slice hl.ka hl.kn hl.kc, .slice hl.va hl.vn hl.vc, .slice hl.da hl.dn hl.dc, .slice hl.ta hl.tn hl.tc, .int .i64 hr.k, .slice hr.ka hr.kn hr.kc, .slice hr.va hr.vn hr.vc, .slice hr.da hr.dn hr.dc, .slice hr.ta hr.tn hr.tc] 25)) = wr123 at *
      refine hK.out _ _ ?_ (fun hHeld => ?_)
      · (exact HSS.out _ HU123.out)
      clear hK K
      (try simp only [Act.put, List.setIfInBounds_toArray, List.set_cons_zero, List.set_cons_succ])
      refine take_w (i := 7) (oi := ?oZ104) (v := ?vZ104) ?hiZ104 (by kernel_rfl) (by kernel_rfl) (by kernel_rfl) ?hQZ104 ?hwZ104 ?hyZ104 (by assumption) ?restZ104
      case hiZ104 => (simp only [List.getElem?_toArray, List.getElem?_cons_succ, List.getElem?_cons_zero] <;> rfl)
      case hQZ104 => exact (fun _ _ _ h => h)
      case hwZ104 => rfl
      case hyZ104 => (intro w hSw; (try dsimp only at hSw); go_simp; try with_reducible rfl)
      (try simp only [Act.put, List.setIfInBounds_toArray, List.set_cons_zero, List.set_cons_succ])
      refine wpAnyH_ready (rs := [10]) (by kernel_rfl) (by simp) ?_
      refine AllReadyH.cons (o := ?oZ105) ?hiZ105 (fun K hK => ?stZ105) AllReadyH.nil
      case hiZ105 => (simp only [List.getElem?_toArray, List.getElem?_cons_succ, List.getElem?_cons_zero] <;> rfl)
      refine step_append_rows _ rfl (.tmp 65) (.tmp 66) 23 rfl wq.heap.size 25 ti _ 104 Tryd.underlying23 hti hz0 hz1 hz2 rfl (Value.slice (some ⟨wq.heap.size, 0, none⟩) 0 0) [] rfl HA123.out (w.heap.size + 2) v1 hs1 rfl (HOO.out _ HU123.out).1 (by have q1 := HLN.out; simp only [List.length_nil]; omega) (by omega) HU123.out.size ?_
      intro va124 wr124 ho hg hob
      have HU124 := Lib.hid (up_own HU123.out HA123.out hg)
      have HR124 := Lib.hid (HR123.out.grown hg (fun e => by have q1 := (HA123.out.lt _ e.symm).1; have q2 := HRQ.out; omega))
      have HA124 := Lib.hid ho
      have HP124 : Hid (Two5 wr124 25 wr122.heap.size hl hr) := Lib.hid ((hg.block _ HP123.out.lt (fun e => HN123.out e.symm)).trans HP123.out)
      have HN124 : Hid (va124.ownBlock ≠ some wr122.heap.size) := Lib.hid (fun e => by
        rcases hob with q | q
        · exact HN123.out (q.symm.trans e)
        · have q1 := HP123.out.lt
          have q2 : wr123.heap.size = wr122.heap.size := Option.some.inj (q.symm.trans e)
          omega)
      clear ho hg hob
      refine hK.out _ _ ?_ (fun hHeld => ?_)
      · (exact HSS.out _ HU124.out)
      clear hK K
      (try simp only [Act.put, List.setIfInBounds_toArray, List.set_cons_zero, List.set_cons_succ])
      refine wpAnyH_ready (rs := [12]) (by kernel_rfl) (by simp) ?_
      refine AllReadyH.cons (o := ?oZ106) ?hiZ106 (fun K hK => ?stZ106) AllReadyH.nil
      case hiZ106 => (simp only [List.getElem?_toArray, List.getElem?_cons_succ, List.getElem?_cons_zero] <;> rfl)
      refine step_append_rows _ rfl (.tmp 67) (.tmp 68) 23 rfl wq.heap.size 25 ti _ 104 Tryd.underlying23 hti hz0 hz1 hz2 rfl (va124) ([] ++ hs1) rfl HA124.out (w.heap.size + 2) v2 hs2 rfl (HOO.out _ HU124.out).2 (by have q1 := HLN.out; simp only [List.length_append, List.length_nil]; omega) (by omega) HU124.out.size ?_
      intro va125 wr125 ho hg hob
      have HU125 := Lib.hid (up_own HU124.out HA124.out hg)
      have HR125 := Lib.hid (HR124.out.grown hg (fun e => by have q1 := (HA124.out.lt _ e.symm).1; have q2 := HRQ.out; omega))
      have HA125 := Lib.hid ho
      have HP125 : Hid (Two5 wr125 25 wr122.heap.size hl hr) := Lib.hid ((hg.block _ HP124.out.lt (fun e => HN124.out e.symm)).trans HP124.out)
      have HN125 : Hid (va125.ownBlock ≠ some wr122.heap.size) := Lib.hid (fun e => by
        rcases hob with q | q
        · exact HN124.out (q.symm.trans e)
        · have q1 := HP124.out.lt
          have q2 : wr124.heap.size = wr122.heap.size := Option.some.inj (q.symm.trans e)
          omega)
      clear ho hg hob
      refine hK.out _ _ ?_ (fun hHeld => ?_)
      · (exact HSS.out _ HU125.out)
      clear hK K
      (try simp only [Act.put, List.setIfInBounds_toArray, List.set_cons_zero, List.set_cons_succ])
      refine wpAnyH_ready (rs := [13]) (by kernel_rfl) (by simp) ?_
      refine AllReadyH.cons (o := ?oZ107) ?hiZ107 (fun K hK => ?stZ107) AllReadyH.nil
      case hiZ107 => (simp only [List.getElem?_toArray, List.getElem?_cons_succ, List.getElem?_cons_zero] <;> rfl)
      refine step_store_box rfl 25 (.tmp 8) (.tmp 64) rfl (w.heap.size + 2) hZ ⟨1, h.ka, h.kn, h.kc, h.va, h.vn, h.vc, none, 0, 0, some ⟨wr122.heap.size, 0, none⟩, 2, 2⟩ rfl rfl 25 HR125.out infoTree5 ?_
      intro wr126 hbx hg
      have HU126 := Lib.hid (only_trans HU125.out hg)
      have HR126 := Lib.hid hbx
      have HP126 : Hid (Two5 wr126 25 wr122.heap.size hl hr) := Lib.hid ((hg.block _ HP125.out.lt (fun e => by injection e with e; have q1 := HZ123.out; have q2 := HRQ.out; omega)).trans HP125.out)
      have HA126 : Hid (OwnT wr126 wq.heap.size 25 (va125) (([] ++ hs1) ++ hs2)) := Lib.hid (World.ownsRow.kept HA125.out hg (.inr (fun e => by have q1 := (HA125.out.lt _ e).1; have q2 := HRQ.out; omega)))
      clear hbx hg
      refine hK.out _ _ ?_ (fun hHeld => ?_)
      · (exact HSS.out _ HU126.out)
      clear hK K
      (try simp only [Act.put])
      refine take_w (i := 14) (oi := ?oZ108) (v := ?vZ108) ?hiZ108 (by kernel_rfl) (by kernel_rfl) (by kernel_rfl) ?hQZ108 ?hwZ108 ?hyZ108 (by assumption) ?restZ108
      case hiZ108 => (simp only [List.getElem?_toArray, List.getElem?_cons_succ, List.getElem?_cons_zero] <;> rfl)
      case hQZ108 => exact (fun _ _ _ h => h)
      case hwZ108 => rfl
      case hyZ108 => (intro w hSw; (try dsimp only at hSw); go_simp; try with_reducible rfl)
      (try simp only [Act.put, List.setIfInBounds_toArray, List.set_cons_zero, List.set_cons_succ])
      refine wpAnyH_done (by kernel_rfl) ?_ _
      clear hHeld
      go_wp2_with fail
      exact bodyPost_ret (v := .tuple #[TH.v ⟨1, h.ka, h.kn, h.kc, h.va, h.vn, h.vc, none, 0, 0, some ⟨wr122.heap.size, 0, none⟩, 2, 2⟩, va125]) (Box.result Tryd.results19 _ HR126.out rfl Tryd.underlying25 infoTree5) rfl ⟨⟨1, h.ka, h.kn, h.kc, h.va, h.vn, h.vc, none, 0, 0, some ⟨wr122.heap.size, 0, none⟩, 2, 2⟩, va125, _, rfl, FIN8.out _ _ HU126.out HP126.out, (HA126.out).weak HWQ.out, by rw [HE.out, List.nil_append]; exact HHD.out, HB0.out.grown HU126.out HB0.out.size (fun j hj => by injection hj; omega)⟩
    case stZ103 =>
      refine step_append_rows _ rfl (.tmp 65) (.tmp 66) 23 rfl wq.heap.size 25 ti _ 104 Tryd.underlying23 hti hz0 hz1 hz2 rfl (Value.slice (some ⟨wq.heap.size, 0, none⟩) 0 0) [] rfl HA122.out (w.heap.size + 2) v1 hs1 rfl (HOO.out _ HU122.out).1 (by have q1 := HLN.out; simp only [List.length_nil]; omega) (by omega) HU122.out.size ?_
      intro va127 wr127 ho hg hob
      have HU127 := Lib.hid (up_own HU122.out HA122.out hg)
      have HR127 := Lib.hid (HR122.out.grown hg (fun e => by have q1 := (HA122.out.lt _ e.symm).1; have q2 := HRQ.out; omega))
      have HA127 := Lib.hid ho
      clear ho hg hob
      refine hK.out _ _ ?_ (fun hHeld => ?_)
      · (exact HSS.out _ HU127.out)
      clear hK K
      (try simp only [Act.put, List.setIfInBounds_toArray, List.set_cons_zero, List.set_cons_succ])
      refine wpAnyH_ready (rs := [6, 12]) (by kernel_rfl) (by simp) ?_
      refine AllReadyH.cons (o := ?oZ109) ?hiZ109 (fun K hK => ?stZ109) (AllReadyH.cons (o := ?oZ110) ?hiZ110 (fun K hK => ?stZ110) AllReadyH.nil)
      case hiZ109 => (simp only [List.getElem?_toArray, List.getElem?_cons_succ, List.getElem?_cons_zero] <;> rfl)
      case hiZ110 => (simp only [List.getElem?_toArray, List.getElem?_cons_succ, List.getElem?_cons_zero] <;> rfl)
      case stZ109 =>
        go_simp
        have bq : Below wr127.heap.size wr127 (wr127.alloc (.cells #[.int .i64 hl.k, .slice hl.ka hl.kn hl.kc, .slice hl.va hl.vn hl.vc, .slice hl.da hl.dn hl.dc, .slice hl.ta hl.tn hl.tc, .int .i64 hr.k, .slice hr.ka hr.kn hr.kc, .slice hr.va hr.vn hr.vc, .slice hr.da hr.dn hr.dc, .slice hr.ta hr.tn hr.tc] 25)) := (Below.refl _ _).alloc (Nat.le_refl _) _
        have HU128 := Lib.hid (only_trans HU127.out (only_below bq _))
        have HR128 := Lib.hid (HR127.out.below bq HR127.out.lt)
        have HA128 := Lib.hid (HA127.out.keep bq)
        have HPp128 : Hid (Two5 (wr127.alloc (.cells #[.int .i64 hl.k, .slice hl.ka hl.kn hl.kc, .slice hl.va hl.vn hl.vc, .slice hl.da hl.dn hl.dc, .slice hl.ta hl.tn hl.tc, .int .i64 hr.k, .slice hr.ka hr.kn hr.kc, .slice hr.va hr.vn hr.vc, .slice hr.da hr.dn hr.dc, .slice hr.ta hr.tn hr.tc] 25)) 25 wr127.heap.size hl hr ∧ wq.heap.size ≤ wr127.heap.size) := Lib.hid ⟨Two5.new wr127 25 hl hr, HU127.out.size⟩
        have HP128 := Lib.hid HPp128.out.1
        have HZ128 := Lib.hid HPp128.out.2
        clear HPp128
        have HN128 : Hid ((va127).ownBlock ≠ some wr127.heap.size) := Lib.hid (fun e => Nat.lt_irrefl _ (HA127.out.lt _ e).2)
        clear bq
        generalize (wr127.alloc (.cells #[.int .i64 hl.k, .slice hl.ka hl.kn hl.kc, .slice hl.va hl.vn hl.vc, .slice hl.da hl.dn hl.dc, .slice hl.ta hl.tn hl.tc, .int .i64 hr.k, .slice hr.ka hr.kn hr.kc, .slice hr.va hr.vn hr.vc, .slice hr.da hr.dn hr.dc, .slice hr.ta hr.tn hr.tc] 25)) = wr128 at *
        refine hK.out _ _ ?_ (fun hHeld => ?_)
        · (exact HSS.out _ HU128.out)
        clear hK K
        (try simp only [Act.put, List.setIfInBounds_toArray, List.set_cons_zero, List.set_cons_succ])
        refine take_w (i := 7) (oi := ?oZ111) (v := ?vZ111) ?hiZ111 (by kernel_rfl) (by kernel_rfl) (by kernel_rfl) ?hQZ111 ?hwZ111 ?hyZ111 (by assumption) ?restZ111
        case hiZ111 => (simp only [List.getElem?_toArray, List.getElem?_cons_succ, List.getElem?_cons_zero] <;> rfl)
        case hQZ111 => exact (fun _ _ _ h => h)
        case hwZ111 => rfl
        case hyZ111 => (intro w hSw; (try dsimp only at hSw); go_simp; try with_reducible rfl)
        (try simp only [Act.put, List.setIfInBounds_toArray, List.set_cons_zero, List.set_cons_succ])
        refine wpAnyH_ready (rs := [12]) (by kernel_rfl) (by simp) ?_
        refine AllReadyH.cons (o := ?oZ112) ?hiZ112 (fun K hK => ?stZ112) AllReadyH.nil
        case hiZ112 => (simp only [List.getElem?_toArray, List.getElem?_cons_succ, List.getElem?_cons_zero] <;> rfl)
        refine step_append_rows _ rfl (.tmp 67) (.tmp 68) 23 rfl wq.heap.size 25 ti _ 104 Tryd.underlying23 hti hz0 hz1 hz2 rfl (va127) ([] ++ hs1) rfl HA128.out (w.heap.size + 2) v2 hs2 rfl (HOO.out _ HU128.out).2 (by have q1 := HLN.out; simp only [List.length_append, List.length_nil]; omega) (by omega) HU128.out.size ?_
        intro va129 wr129 ho hg hob
        have HU129 := Lib.hid (up_own HU128.out HA128.out hg)
        have HR129 := Lib.hid (HR128.out.grown hg (fun e => by have q1 := (HA128.out.lt _ e.symm).1; have q2 := HRQ.out; omega))
        have HA129 := Lib.hid ho
        have HP129 : Hid (Two5 wr129 25 wr127.heap.size hl hr) := Lib.hid ((hg.block _ HP128.out.lt (fun e => HN128.out e.symm)).trans HP128.out)
        have HN129 : Hid (va129.ownBlock ≠ some wr127.heap.size) := Lib.hid (fun e => by
          rcases hob with q | q
          · exact HN128.out (q.symm.trans e)
          · have q1 := HP128.out.lt
            have q2 : wr128.heap.size = wr127.heap.size := Option.some.inj (q.symm.trans e)
            omega)
        clear ho hg hob
        refine hK.out _ _ ?_ (fun hHeld => ?_)
        · (exact HSS.out _ HU129.out)
        clear hK K
        (try simp only [Act.put, List.setIfInBounds_toArray, List.set_cons_zero, List.set_cons_succ])
        refine wpAnyH_ready (rs := [13]) (by kernel_rfl) (by simp) ?_
        refine AllReadyH.cons (o := ?oZ113) ?hiZ113 (fun K hK => ?stZ113) AllReadyH.nil
        case hiZ113 => (simp only [List.getElem?_toArray, List.getElem?_cons_succ, List.getElem?_cons_zero] <;> rfl)
        refine step_store_box rfl 25 (.tmp 8) (.tmp 64) rfl (w.heap.size + 2) hZ ⟨1, h.ka, h.kn, h.kc, h.va, h.vn, h.vc, none, 0, 0, some ⟨wr127.heap.size, 0, none⟩, 2, 2⟩ rfl rfl 25 HR129.out infoTree5 ?_
        intro wr130 hbx hg
        have HU130 := Lib.hid (only_trans HU129.out hg)
        have HR130 := Lib.hid hbx
        have HP130 : Hid (Two5 wr130 25 wr127.heap.size hl hr) := Lib.hid ((hg.block _ HP129.out.lt (fun e => by injection e with e; have q1 := HZ128.out; have q2 := HRQ.out; omega)).trans HP129.out)
        have HA130 : Hid (OwnT wr130 wq.heap.size 25 (va129) (([] ++ hs1) ++ hs2)) := Lib.hid (World.ownsRow.kept HA129.out hg (.inr (fun e => by have q1 := (HA129.out.lt _ e).1; have q2 := HRQ.out; omega)))
        clear hbx hg
        refine hK.out _ _ ?_ (fun hHeld => ?_)
        · (exact HSS.out _ HU130.out)
        clear hK K
        (try simp only [Act.put])
        refine take_w (i := 14) (oi := ?oZ114) (v := ?vZ114) ?hiZ114 (by kernel_rfl) (by kernel_rfl) (by kernel_rfl) ?hQZ114 ?hwZ114 ?hyZ114 (by assumption) ?restZ114
        case hiZ114 => (simp only [List.getElem?_toArray, List.getElem?_cons_succ, List.getElem?_cons_zero] <;> rfl)
        case hQZ114 => exact (fun _ _ _ h => h)
        case hwZ114 => rfl
        case hyZ114 => (intro w hSw; (try dsimp only at hSw); go_simp; try with_reducible rfl)
        (try simp only [Act.put, List.setIfInBounds_toArray, List.set_cons_zero, List.set_cons_succ])
        refine wpAnyH_done (by kernel_rfl) ?_ _
        clear hHeld
        go_wp2_with fail
        exact bodyPost_ret (v := .tuple #[TH.v ⟨1, h.ka, h.kn, h.kc, h.va, h.vn, h.vc, none, 0, 0, some ⟨wr127.heap.size, 0, none⟩, 2, 2⟩, va129]) (Box.result Tryd.results19 _ HR130.out rfl Tryd.underlying25 infoTree5) rfl ⟨⟨1, h.ka, h.kn, h.kc, h.va, h.vn, h.vc, none, 0, 0, some ⟨wr127.heap.size, 0, none⟩, 2, 2⟩, va129, _, rfl, FIN8.out _ _ HU130.out HP130.out, (HA130.out).weak HWQ.out, by rw [HE.out, List.nil_append]; exact HHD.out, HB0.out.grown HU130.out HB0.out.size (fun j hj => by injection hj; omega)⟩
      case stZ110 =>
        refine step_append_rows _ rfl (.tmp 67) (.tmp 68) 23 rfl wq.heap.size 25 ti _ 104 Tryd.underlying23 hti hz0 hz1 hz2 rfl (va127) ([] ++ hs1) rfl HA127.out (w.heap.size + 2) v2 hs2 rfl (HOO.out _ HU127.out).2 (by have q1 := HLN.out; simp only [List.length_append, List.length_nil]; omega) (by omega) HU127.out.size ?_
        intro va131 wr131 ho hg hob
        have HU131 := Lib.hid (up_own HU127.out HA127.out hg)
        have HR131 := Lib.hid (HR127.out.grown hg (fun e => by have q1 := (HA127.out.lt _ e.symm).1; have q2 := HRQ.out; omega))
        have HA131 := Lib.hid ho
        clear ho hg hob
        refine hK.out _ _ ?_ (fun hHeld => ?_)
        · (exact HSS.out _ HU131.out)
        clear hK K
        (try simp only [Act.put, List.setIfInBounds_toArray, List.set_cons_zero, List.set_cons_succ])
        refine wpAnyH_ready (rs := [6]) (by kernel_rfl) (by simp) ?_
        refine AllReadyH.cons (o := ?oZ115) ?hiZ115 (fun K hK => ?stZ115) AllReadyH.nil
        case hiZ115 => (simp only [List.getElem?_toArray, List.getElem?_cons_succ, List.getElem?_cons_zero] <;> rfl)
        go_simp
        have bq : Below wr131.heap.size wr131 (wr131.alloc (.cells #[.int .i64 hl.k, .slice hl.ka hl.kn hl.kc, .slice hl.va hl.vn hl.vc, .slice hl.da hl.dn hl.dc, .slice hl.ta hl.tn hl.tc, .int .i64 hr.k, .slice hr.ka hr.kn hr.kc, .slice hr.va hr.vn hr.vc, .slice hr.da hr.dn hr.dc, .slice hr.ta hr.tn hr.tc] 25)) := (Below.refl _ _).alloc (Nat.le_refl _) _
        have HU132 := Lib.hid (only_trans HU131.out (only_below bq _))
        have HR132 := Lib.hid (HR131.out.below bq HR131.out.lt)
        have HA132 := Lib.hid (HA131.out.keep bq)
        have HPp132 : Hid (Two5 (wr131.alloc (.cells #[.int .i64 hl.k, .slice hl.ka hl.kn hl.kc, .slice hl.va hl.vn hl.vc, .slice hl.da hl.dn hl.dc, .slice hl.ta hl.tn hl.tc, .int .i64 hr.k, .slice hr.ka hr.kn hr.kc, .slice hr.va hr.vn hr.vc, .slice hr.da hr.dn hr.dc, .slice hr.ta hr.tn hr.tc] 25)) 25 wr131.heap.size hl hr ∧ wq.heap.size ≤ wr131.heap.size) := Lib.hid ⟨Two5.new wr131 25 hl hr, HU131.out.size⟩
        have HP132 := Lib.hid HPp132.out.1
        have HZ132 := Lib.hid HPp132.out.2
        clear HPp132
        have HN132 : Hid ((va131).ownBlock ≠ some wr131.heap.size) := Lib.hid (fun e => Nat.lt_irrefl _ (HA131.out.lt _ e).2)
        clear bq
        generalize (wr131.alloc (.cells #[.int .i64 hl.k, .slice hl.ka hl.kn hl.kc, .slice hl.va hl.vn hl.vc, .slice hl.da hl.dn hl.dc, .slice hl.ta hl.tn hl.tc, .int .i64 hr.k, .slice hr.ka hr.kn hr.kc, .slice hr.va hr.vn hr.vc, .slice hr.da hr.dn hr.dc, .slice hr.ta hr.tn hr.tc] 25)) = wr132 at *
        refine hK.out _ _ ?_ (fun hHeld => ?_)
        · (exact HSS.out _ HU132.out)
        clear hK K
        (try simp only [Act.put, List.setIfInBounds_toArray, List.set_cons_zero, List.set_cons_succ])
        refine take_w (i := 7) (oi := ?oZ116) (v := ?vZ116) ?hiZ116 (by kernel_rfl) (by kernel_rfl) (by kernel_rfl) ?hQZ116 ?hwZ116 ?hyZ116 (by assumption) ?restZ116
        case hiZ116 => (simp only [List.getElem?_toArray, List.getElem?_cons_succ, List.getElem?_cons_zero] <;> rfl)
        case hQZ116 => exact (fun _ _ _ h => h)
        case hwZ116 => rfl
        case hyZ116 => (intro w hSw; (try dsimp only at hSw); go_simp; try with_reducible rfl)
        (try simp only [Act.put, List.setIfInBounds_toArray, List.set_cons_zero, List.set_cons_succ])
        refine wpAnyH_ready (rs := [13]) (by kernel_rfl) (by simp) ?_
        refine AllReadyH.cons (o := ?oZ117) ?hiZ117 (fun K hK => ?stZ117) AllReadyH.nil
        case hiZ117 => (simp only [List.getElem?_toArray, List.getElem?_cons_succ, List.getElem?_cons_zero] <;> rfl)
        refine step_store_box rfl 25 (.tmp 8) (.tmp 64) rfl (w.heap.size + 2) hZ ⟨1, h.ka, h.kn, h.kc, h.va, h.vn, h.vc, none, 0, 0, some ⟨wr131.heap.size, 0, none⟩, 2, 2⟩ rfl rfl 25 HR132.out infoTree5 ?_
        intro wr133 hbx hg
        have HU133 := Lib.hid (only_trans HU132.out hg)
        have HR133 := Lib.hid hbx
        have HP133 : Hid (Two5 wr133 25 wr131.heap.size hl hr) := Lib.hid ((hg.block _ HP132.out.lt (fun e => by injection e with e; have q1 := HZ132.out; have q2 := HRQ.out; omega)).trans HP132.out)
        have HA133 : Hid (OwnT wr133 wq.heap.size 25 (va131) (([] ++ hs1) ++ hs2)) := Lib.hid (World.ownsRow.kept HA132.out hg (.inr (fun e => by have q1 := (HA132.out.lt _ e).1; have q2 := HRQ.out; omega)))
        clear hbx hg
        refine hK.out _ _ ?_ (fun hHeld => ?_)
        · (exact HSS.out _ HU133.out)
        clear hK K
        (try simp only [Act.put])
        refine take_w (i := 14) (oi := ?oZ118) (v := ?vZ118) ?hiZ118 (by kernel_rfl) (by kernel_rfl) (by kernel_rfl) ?hQZ118 ?hwZ118 ?hyZ118 (by assumption) ?restZ118
        case hiZ118 => (simp only [List.getElem?_toArray, List.getElem?_cons_succ, List.getElem?_cons_zero] <;> rfl)
        case hQZ118 => exact (fun _ _ _ h => h)
        case hwZ118 => rfl
        case hyZ118 => (intro w hSw; (try dsimp only at hSw); go_simp; try with_reducible rfl)
        (try simp only [Act.put, List.setIfInBounds_toArray, List.set_cons_zero, List.set_cons_succ])
        refine wpAnyH_done (by kernel_rfl) ?_ _
        clear hHeld
        go_wp2_with fail
        exact bodyPost_ret (v := .tuple #[TH.v ⟨1, h.ka, h.kn, h.kc, h.va, h.vn, h.vc, none, 0, 0, some ⟨wr131.heap.size, 0, none⟩, 2, 2⟩, va131]) (Box.result Tryd.results19 _ HR133.out rfl Tryd.underlying25 infoTree5) rfl ⟨⟨1, h.ka, h.kn, h.kc, h.va, h.vn, h.vc, none, 0, 0, some ⟨wr131.heap.size, 0, none⟩, 2, 2⟩, va131, _, rfl, FIN8.out _ _ HU133.out HP133.out, (HA133.out).weak HWQ.out, by rw [HE.out, List.nil_append]; exact HHD.out, HB0.out.grown HU133.out HB0.out.size (fun j hj => by injection hj; omega)⟩

theorem refCut_any (k : Nat) (hk1 : 1 ≤ k) (hk2 : k ≤ 32) (gk ck : Nat) (wb : World) : ∀ (a : AT) (n : Nat) (h : TH) (w : World), InTree wb h a.tr → Below wb.heap.size wb w → formedT a.tr = true → countT a.tr ≤ 1000 → n ≤ 1000 → Seg .u32 w gk 0 kTab → gk < w.heap.size → Calls Tryd.prog 19 #[.agg (Value.slice (some ⟨gk, 0, none⟩) 64 ck :: hTab.map (Value.int .u32)).toArray, .int .i64 k, .agg #[.int .i64 h.k, .slice h.ka h.kn h.kc, .slice h.va h.vn h.vc, .slice h.da h.dn h.dc, .slice h.ta h.tn h.tc], .int .i64 n] w (CutPost k wb w a n) := by
  intro a
  induction a with
  | nil => exact fun n h w ht hb _ _ _ hks hgk => cut_nil11 k gk ck wb n h w ht hb hks hgk
  | node l key v r ihl ihr =>
    intro n h w ht hb hf hcn hn hks hgk
    cases n with
    | zero => exact cut_whole11 k hk1 hk2 gk ck wb l key v r h w ht hb hf hks hgk
    | succ m => exact cut_node11 k gk ck wb l key v r m h w ht hb hf hcn hn hks hgk ihl ihr
end Go.Proofs.YtkcmohmfejmfoaaDoor

/- What the walk of the law ChunkCuts needs: what Cut tells, case by case. -/
namespace Go.Proofs.YtkcmohmfejmfoaaDoor
open Go.RowKit
set_option linter.unusedVariables false

theorem checkT_le13 (t : Tr) : checkT t ≤ 13 := by
  unfold checkT
  split
  · omega
  · split <;> omega
theorem cut_check {x n : Int} {t : Tr} (h : 0 ≤ n ∧ n ≤ 64 ∧ 1 ≤ x ∧ x ≤ 32) (hc : ¬ checkT t = 0) : cutX x t n = (checkT t, tNil, []) := by
  have e : toldD x t = checkT t := by unfold toldD; rw [if_pos ⟨h.2.2.1, h.2.2.2⟩, if_pos hc]
  unfold cutX
  rw [if_neg (by omega), e, if_pos hc]
theorem cut_none {x n : Int} {t : Tr} (h : 0 ≤ n ∧ n ≤ 64 ∧ 1 ≤ x ∧ x ≤ 32) (hc : checkT t = 0) (hd : digT x.toNat t = none) : cutX x t n = (3, tNil, []) := by
  have e : toldD x t = 3 := by unfold toldD; rw [if_pos ⟨h.2.2.1, h.2.2.2⟩, if_neg (by rw [hc]; simp), if_pos hd]
  unfold cutX
  rw [if_neg (by omega), e, if_pos (by omega)]
theorem cut_part {x n : Int} {t : Tr} {zs : List Int} (h : 0 ≤ n ∧ n ≤ 64 ∧ 1 ≤ x ∧ x ≤ 32) (hc : checkT t = 0) (hd : digT x.toNat t = some zs) (hf : fullT t = false) : cutX x t n = (3, tNil, []) := by
  have e : toldD x t = 0 := by unfold toldD; rw [if_pos ⟨h.2.2.1, h.2.2.2⟩, if_neg (by rw [hc]; simp), if_neg (by rw [hd]; simp)]
  unfold cutX
  rw [if_neg (by omega), e, if_neg (by simp), if_pos hf]
/-- The tree's box, the head's box, the parts. -/
structure QB11 (w W : World) (h : TH) (t : Tr) (g3 : Nat) (h4 : TH) (th : Tr) (a4 : Option Addr) (n4 c4 : Nat) (pl : List Tr) (H4 : Nat → TH) : Prop where
  b : BW w W h t
  c : Box W 25 g3 h4
  ci : InTree W h4 th
  ps : TreesAt W a4 n4 c4 pl H4
theorem QB11.below {w W W' : World} {h : TH} {t : Tr} {g3 : Nat} {h4 : TH} {th : Tr} {a4 : Option Addr} {n4 c4 : Nat} {pl : List Tr} {H4 : Nat → TH} (x : QB11 w W h t g3 h4 th a4 n4 c4 pl H4) (hb : Below W.heap.size W W') : QB11 w W' h t g3 h4 th a4 n4 c4 pl H4 :=
  ⟨x.b.below hb, x.c.below hb x.c.lt, x.ci.lower hb, x.ps.below hb⟩
/-- The tables' box, too. -/
structure QT11 (w W : World) (h : TH) (t : Tr) (g3 : Nat) (h4 : TH) (th : Tr) (a4 : Option Addr) (n4 c4 : Nat) (pl : List Tr) (H4 : Nat → TH) (gt gk ck : Nat) : Prop where
  q : QB11 w W h t g3 h4 th a4 n4 c4 pl H4
  tab : TB W gt (.slice (some ⟨gk, 0, none⟩) 64 ck) hTab
  ks : Seg .u32 W gk 0 kTab
  gkl : gk < W.heap.size
section
variable {w W W' : World} {h : TH} {t : Tr} {g3 : Nat} {h4 : TH} {th : Tr} {a4 : Option Addr} {n4 c4 : Nat} {pl : List Tr} {H4 : Nat → TH} {gt gk ck : Nat}
theorem QT11.below (x : QT11 w W h t g3 h4 th a4 n4 c4 pl H4 gt gk ck) (hb : Below W.heap.size W W') : QT11 w W' h t g3 h4 th a4 n4 c4 pl H4 gt gk ck :=
  ⟨x.q.below hb, x.tab.below hb x.tab.lt, x.ks.below hb x.gkl, Nat.lt_of_lt_of_le x.gkl hb.size⟩
theorem QT11.new (x : QB11 w W h t g3 h4 th a4 n4 c4 pl H4) (hk : Seg .u32 W gk 0 kTab) (hg : gk < W.heap.size) : QT11 w (W.alloc (.cells #[.slice (some ⟨gk, 0, none⟩) 64 ck, .int .u32 1779033703, .int .u32 3144134277, .int .u32 1013904242, .int .u32 2773480762, .int .u32 1359893119, .int .u32 2600822924, .int .u32 528734635, .int .u32 1541459225] 39)) h t g3 h4 th a4 n4 c4 pl H4 W.heap.size gk ck :=
  have hb : Below W.heap.size W (W.alloc (.cells #[.slice (some ⟨gk, 0, none⟩) 64 ck, .int .u32 1779033703, .int .u32 3144134277, .int .u32 1013904242, .int .u32 2773480762, .int .u32 1359893119, .int .u32 2600822924, .int .u32 528734635, .int .u32 1541459225] 39)) := (Below.refl _ _).alloc (Nat.le_refl _) _
  ⟨x.below hb, heap_alloc_new W _, hk.below hb hg, Nat.lt_of_lt_of_le hg hb.size⟩
theorem QT11.nine (d : QT11 w W h t g3 h4 th a4 n4 c4 pl H4 gt gk ck) : (W.cell? ⟨gt, 0, none⟩ = some (.slice (some ⟨gk, 0, none⟩) 64 ck) ∧ W.cell? ⟨gt, 1, none⟩ = some (.int .u32 1779033703) ∧ W.cell? ⟨gt, 2, none⟩ = some (.int .u32 3144134277) ∧ W.cell? ⟨gt, 3, none⟩ = some (.int .u32 1013904242) ∧ W.cell? ⟨gt, 4, none⟩ = some (.int .u32 2773480762) ∧ W.cell? ⟨gt, 5, none⟩ = some (.int .u32 1359893119) ∧ W.cell? ⟨gt, 6, none⟩ = some (.int .u32 2600822924) ∧ W.cell? ⟨gt, 7, none⟩ = some (.int .u32 528734635) ∧ W.cell? ⟨gt, 8, none⟩ = some (.int .u32 1541459225)) := ⟨d.tab.cell0, tb_cells d.tab⟩
end
end Go.Proofs.YtkcmohmfejmfoaaDoor

/- The walk of the law ChunkCuts, case by case: arguments out of bounds. -/
namespace Go.Proofs.YtkcmohmfejmfoaaDoor
open Go.RowKit
set_option linter.unusedVariables false

set_option maxRecDepth 100000 in
set_option maxHeartbeats 4000000 in
theorem cuts_bad0 (x n : Int) (t : Tr) (h : TH) (w : World) (ht : InTree w h t) (hT : TabLies w) (hx1 : -9223372036854775808 ≤ x) (hx2 : x ≤ 9223372036854775807) (hn1 : -9223372036854775808 ≤ n) (hn2 : n ≤ 9223372036854775807) (hbd : ¬ (0 ≤ n ∧ n ≤ 64) ∨ ¬ (1 ≤ x ∧ x ≤ 32)) (hck : checkT t = 0) :
    Calls Tryd.prog 3 #[.int .i64 x, h.v, .int .i64 n] w (Says w (.bool true)) := by
  have HBD := Lib.hid hbd
  have HCK := Lib.hid hck
  have HCX := Lib.hid (cut_bad (t := t) hbd)
  clear hbd hck
  unfold TH.v
  have HD := Lib.hid (BW.new w ht)
  have HT := Lib.hid hT
  clear hT ht
  go_enter Tryd.func3, Tryd.ntmps3
  go_upto_region 1 with fail
  generalize (w.alloc (.cells #[.int .i64 h.k, .slice h.ka h.kn h.kc, .slice h.va h.vn h.vc, .slice h.da h.dn h.dc, .slice h.ta h.tn h.tc] 25)) = w0 at *
  go_upto_region 2 with (first
    | (go_at_call 8
       refine (up11_any _ (HT.out.below HD.out.b (Nat.le_refl _))).mono ?_
       rintro _ w1 ⟨rfl, hb1⟩
       have HD1 := Lib.hid (HD.out.below hb1)
       clear hb1))
  obtain ⟨x0, x1, x2, x3, x4⟩ := HD1.out.box.cells
  go_upto_region 3 with (first
    | (go_at_call 9
       refine (small11_any t h _ HD1.out.ti).mono ?_
       rintro _ w2 ⟨b, rfl, hok, hb2⟩
       have HD2 := Lib.hid (HD1.out.below hb2)
       have HK2 := Lib.hid hok
       clear hok hb2 x0 x1 x2 x3 x4))
  cases b with
  | false =>
    go_wp2_with fail
    go_ret
    exact ⟨rfl, HD2.out.b⟩
  | true =>
  have HCN : Hid (countT t ≤ 200) := Lib.hid (HK2.out rfl).2
  clear HK2 HD HD1
  obtain ⟨x0, x1, x2, x3, x4⟩ := HD2.out.box.cells
  go_upto_region 6 with (first
    | (go_at_call 10
       refine (ccut_any x hx1 hx2 t h n hn1 hn2 _ HD2.out.ti (by have := HCN.out; omega) (HT.out.below HD2.out.b (Nat.le_refl _))).mono ?_
       rw [HCX.out]
       unfold CutTold TH.v
       rintro _ w4 ⟨h4, a4, n4, c4, H4, rfl, hi4, ht4, hb4⟩
       rw [show codeV ((1, tNil, ([] : List Tr)) : Nat × Tr × List Tr).1 = codeV 1 from rfl]
       have HI4 := Lib.hid (And.intro hi4 ht4)
       have HD4 := Lib.hid (HD2.out.below hb4)
       clear hi4 ht4 hb4 x0 x1 x2 x3 x4)
    | (refine wpList_store_box rfl 25 (.tmp 9) (.tmp 31) rfl w4.heap.size hZ h4 rfl rfl 25 (Box.new w4 25 hZ) infoTree5 ?_
       intro w4b hbx hg
       have qq : Below w4.heap.size w4 w4b := ((Below.refl w4.heap.size w4).alloc (Nat.le_refl _) _).grown hg (by simp) (fun j hj => by injection hj; omega)
       have HQ5 : Hid (QB11 w w4b h t w4.heap.size h4 tNil a4 n4 c4 ([] : List Tr) H4) := Lib.hid ⟨HD4.out.below qq, hbx, HI4.out.1.lower qq, HI4.out.2.below qq⟩
       clear hbx hg qq))
  generalize w4.heap.size = g3 at *
  clear HD2 HD4 HI4
  have hn0 : n4 = 0 := HQ5.out.ps.len.symm
  subst hn0
  obtain ⟨x0, x1, x2, x3, x4⟩ := HQ5.out.b.box.cells
  go_upto_region 10 with (first
    | (go_at_call 11
       refine (refCheck_any t h _ HQ5.out.b.ti).mono ?_
       rintro _ w6 ⟨rfl, hb6⟩
       rw [HCK.out]
       have HQ6 := Lib.hid (HQ5.out.below hb6)
       clear hb6 x0 x1 x2 x3 x4
       obtain ⟨x0, x1, x2, x3, x4⟩ := HQ6.out.b.box.cells)
    | (go_at_call 12
       refine (refCuts_any _ t h _ HQ6.out.b.ti (Below.refl _ _) (by have := HCN.out; omega)).mono ?_
       rintro _ w7 ⟨v7, rs, rfl, ho7, hs7, hb7⟩
       obtain ⟨a7, c7, hv7⟩ := ho7.sl
       subst hv7
       have HL7 : Hid (countX t = rs.length) := Lib.hid (by unfold countX; rw [if_pos HCK.out]; exact hs7.1.symm)
       have HQ7 := Lib.hid (HQ6.out.below hb7)
       clear ho7 hs7 hb7 x0 x1 x2 x3 x4))
  obtain ⟨x0, x1, x2, x3, x4⟩ := HQ7.out.b.box.cells
  generalize rs.length = L at *
  have hqn : ((L : Int) != (L : Int)) = false := by simp
  go_upto_region 12 with (first
    | (go_at_call 13
       refine (ccount_any t h _ HQ7.out.b.ti (by have := HCN.out; omega)).mono ?_
       rw [HL7.out]
       rintro _ w8 ⟨rfl, hb8⟩
       have HQ8 := Lib.hid (HQ7.out.below hb8)
       clear hb8 x0 x1 x2 x3 x4))
  go_cut [58] (fun s58 wx => s58 = .bool true ∧ wx = w8)
  case first =>
    by_cases c1 : n < 0
    · go_wp2_with fail
      go_meet
      exact ⟨rfl, rfl⟩
    by_cases c2 : (64 : Int) < n
    · go_wp2_with fail
      go_meet
      exact ⟨rfl, rfl⟩
    by_cases c3 : x < 1
    · go_wp2_with fail
      go_meet
      exact ⟨rfl, rfl⟩
    have c4 : (32 : Int) < x := by have q := HBD.out; omega
    go_wp2_with fail
    go_meet
    exact ⟨rfl, rfl⟩
  case rest =>
  obtain ⟨rfl, rfl⟩ := hcut
  go_upto_region 15 with (first
    | (go_at_call 14
       refine (made_any _).mono ?_
       rintro e6 w9 ⟨gk, ck, hq6, ho6, hb6⟩
       have hqq : e6 = Ending.returned (.agg #[.slice (some ⟨gk, 0, none⟩) 64 ck, .int .u32 1779033703, .int .u32 3144134277, .int .u32 1013904242, .int .u32 2773480762, .int .u32 1359893119, .int .u32 2600822924, .int .u32 528734635, .int .u32 1541459225]) := hq6
       clear hq6
       subst hqq
       have HKS : Hid (Seg .u32 w9 gk 0 kTab ∧ gk < w9.heap.size) := Lib.hid (And.intro (own_seg ho6) (ho6.lt gk rfl).2)
       have HQ9 := Lib.hid (HQ8.out.below hb6)
       clear ho6 hb6))
  have HR : Hid (QT11 w (w9.alloc (.cells #[.slice (some ⟨gk, 0, none⟩) 64 ck, .int .u32 1779033703, .int .u32 3144134277, .int .u32 1013904242, .int .u32 2773480762, .int .u32 1359893119, .int .u32 2600822924, .int .u32 528734635, .int .u32 1541459225] 39)) h t g3 h4 tNil a4 0 c4 ([] : List Tr) H4 w9.heap.size gk ck) := Lib.hid (QT11.new HQ9.out HKS.out.1 HKS.out.2)
  generalize (w9.alloc (.cells #[.slice (some ⟨gk, 0, none⟩) 64 ck, .int .u32 1779033703, .int .u32 3144134277, .int .u32 1013904242, .int .u32 2773480762, .int .u32 1359893119, .int .u32 2600822924, .int .u32 528734635, .int .u32 1541459225] 39)) = w10 at *
  generalize w9.heap.size = gt at *
  clear HQ9 HKS HQ8 HQ5 HQ6
  obtain ⟨x0, x1, x2, x3, x4⟩ := HR.out.q.b.box.cells
  go_wp2_with (first
    | (go_at_call 17
       refine (code_any 1 (by omega) _).mono ?_
       rintro _ wa ⟨rfl, ma, rfl⟩
       have HRc := Lib.hid (HR.out.below (below_drawn (Below.refl _ _) ma))
       obtain ⟨y0, y1, y2, y3, y4⟩ := HRc.out.q.c.cells)
    | (go_at_call 18
       have hck : ∀ W, InTree W h4 tNil → Calls Tryd.prog 18 #[.agg #[.int .i64 h4.k, .slice h4.ka h4.kn h4.kc, .slice h4.va h4.vn h4.vc, .slice h4.da h4.dn h4.dc, .slice h4.ta h4.tn h4.tc], .agg #[.int .i64 0, .slice none 0 0, .slice none 0 0, .slice none 0 0, .slice none 0 0]] W (Says W (.bool true)) := fun W p => refSame_any tNil h4 hNil W p (inTree_nil W)
       (with_reducible refine (hck _ ?_).mono ?_)
       · exact HRc.out.q.ci
       rintro _ wb ⟨rfl, hbb⟩
       have HBb : Hid (Below w.heap.size w wb) := Lib.hid (HRc.out.q.b.b.trans (hbb.mono HRc.out.q.b.b.size))
       clear hck hbb y0 y1 y2 y3 y4))
  go_ret
  exact ⟨rfl, HBb.out⟩

set_option maxRecDepth 100000 in
set_option maxHeartbeats 4000000 in
theorem cuts_bad1 (x n : Int) (t : Tr) (h : TH) (w : World) (ht : InTree w h t) (hT : TabLies w) (hx1 : -9223372036854775808 ≤ x) (hx2 : x ≤ 9223372036854775807) (hn1 : -9223372036854775808 ≤ n) (hn2 : n ≤ 9223372036854775807) (hbd : ¬ (0 ≤ n ∧ n ≤ 64) ∨ ¬ (1 ≤ x ∧ x ≤ 32)) (hck : ¬ checkT t = 0) :
    Calls Tryd.prog 3 #[.int .i64 x, h.v, .int .i64 n] w (Says w (.bool true)) := by
  have HBD := Lib.hid hbd
  have HCK := Lib.hid hck
  have HCX := Lib.hid (cut_bad (t := t) hbd)
  clear hbd hck
  unfold TH.v
  have HD := Lib.hid (BW.new w ht)
  have HT := Lib.hid hT
  clear hT ht
  go_enter Tryd.func3, Tryd.ntmps3
  go_upto_region 1 with fail
  generalize (w.alloc (.cells #[.int .i64 h.k, .slice h.ka h.kn h.kc, .slice h.va h.vn h.vc, .slice h.da h.dn h.dc, .slice h.ta h.tn h.tc] 25)) = w0 at *
  go_upto_region 2 with (first
    | (go_at_call 8
       refine (up11_any _ (HT.out.below HD.out.b (Nat.le_refl _))).mono ?_
       rintro _ w1 ⟨rfl, hb1⟩
       have HD1 := Lib.hid (HD.out.below hb1)
       clear hb1))
  obtain ⟨x0, x1, x2, x3, x4⟩ := HD1.out.box.cells
  go_upto_region 3 with (first
    | (go_at_call 9
       refine (small11_any t h _ HD1.out.ti).mono ?_
       rintro _ w2 ⟨b, rfl, hok, hb2⟩
       have HD2 := Lib.hid (HD1.out.below hb2)
       have HK2 := Lib.hid hok
       clear hok hb2 x0 x1 x2 x3 x4))
  cases b with
  | false =>
    go_wp2_with fail
    go_ret
    exact ⟨rfl, HD2.out.b⟩
  | true =>
  have HCN : Hid (countT t ≤ 200) := Lib.hid (HK2.out rfl).2
  clear HK2 HD HD1
  obtain ⟨x0, x1, x2, x3, x4⟩ := HD2.out.box.cells
  go_upto_region 6 with (first
    | (go_at_call 10
       refine (ccut_any x hx1 hx2 t h n hn1 hn2 _ HD2.out.ti (by have := HCN.out; omega) (HT.out.below HD2.out.b (Nat.le_refl _))).mono ?_
       rw [HCX.out]
       unfold CutTold TH.v
       rintro _ w4 ⟨h4, a4, n4, c4, H4, rfl, hi4, ht4, hb4⟩
       rw [show codeV ((1, tNil, ([] : List Tr)) : Nat × Tr × List Tr).1 = codeV 1 from rfl]
       have HI4 := Lib.hid (And.intro hi4 ht4)
       have HD4 := Lib.hid (HD2.out.below hb4)
       clear hi4 ht4 hb4 x0 x1 x2 x3 x4)
    | (refine wpList_store_box rfl 25 (.tmp 9) (.tmp 31) rfl w4.heap.size hZ h4 rfl rfl 25 (Box.new w4 25 hZ) infoTree5 ?_
       intro w4b hbx hg
       have qq : Below w4.heap.size w4 w4b := ((Below.refl w4.heap.size w4).alloc (Nat.le_refl _) _).grown hg (by simp) (fun j hj => by injection hj; omega)
       have HQ5 : Hid (QB11 w w4b h t w4.heap.size h4 tNil a4 n4 c4 ([] : List Tr) H4) := Lib.hid ⟨HD4.out.below qq, hbx, HI4.out.1.lower qq, HI4.out.2.below qq⟩
       clear hbx hg qq))
  generalize w4.heap.size = g3 at *
  clear HD2 HD4 HI4
  have hn0 : n4 = 0 := HQ5.out.ps.len.symm
  subst hn0
  obtain ⟨x0, x1, x2, x3, x4⟩ := HQ5.out.b.box.cells
  have hcb : ((checkT t : Int) == 0) = false := by have := HCK.out; simp; omega
  go_upto_region 10 with (first
    | (go_at_call 11
       refine (refCheck_any t h _ HQ5.out.b.ti).mono ?_
       rintro _ w6 ⟨rfl, hb6⟩
       have HQ6 := Lib.hid (HQ5.out.below hb6)
       clear hb6 x0 x1 x2 x3 x4
       obtain ⟨x0, x1, x2, x3, x4⟩ := HQ6.out.b.box.cells))
  have HL7 : Hid (countX t = 0) := Lib.hid (by unfold countX; rw [if_neg HCK.out])
  go_upto_region 12 with (first
    | (go_at_call 13
       refine (ccount_any t h _ HQ6.out.b.ti (by have := HCN.out; omega)).mono ?_
       rw [HL7.out]
       rintro _ w8 ⟨rfl, hb8⟩
       have HQ8 := Lib.hid (HQ6.out.below hb8)
       clear hb8 x0 x1 x2 x3 x4))
  go_cut [58] (fun s58 wx => s58 = .bool true ∧ wx = w8)
  case first =>
    by_cases c1 : n < 0
    · go_wp2_with fail
      go_meet
      exact ⟨rfl, rfl⟩
    by_cases c2 : (64 : Int) < n
    · go_wp2_with fail
      go_meet
      exact ⟨rfl, rfl⟩
    by_cases c3 : x < 1
    · go_wp2_with fail
      go_meet
      exact ⟨rfl, rfl⟩
    have c4 : (32 : Int) < x := by have q := HBD.out; omega
    go_wp2_with fail
    go_meet
    exact ⟨rfl, rfl⟩
  case rest =>
  obtain ⟨rfl, rfl⟩ := hcut
  go_upto_region 15 with (first
    | (go_at_call 14
       refine (made_any _).mono ?_
       rintro e6 w9 ⟨gk, ck, hq6, ho6, hb6⟩
       have hqq : e6 = Ending.returned (.agg #[.slice (some ⟨gk, 0, none⟩) 64 ck, .int .u32 1779033703, .int .u32 3144134277, .int .u32 1013904242, .int .u32 2773480762, .int .u32 1359893119, .int .u32 2600822924, .int .u32 528734635, .int .u32 1541459225]) := hq6
       clear hq6
       subst hqq
       have HKS : Hid (Seg .u32 w9 gk 0 kTab ∧ gk < w9.heap.size) := Lib.hid (And.intro (own_seg ho6) (ho6.lt gk rfl).2)
       have HQ9 := Lib.hid (HQ8.out.below hb6)
       clear ho6 hb6))
  have HR : Hid (QT11 w (w9.alloc (.cells #[.slice (some ⟨gk, 0, none⟩) 64 ck, .int .u32 1779033703, .int .u32 3144134277, .int .u32 1013904242, .int .u32 2773480762, .int .u32 1359893119, .int .u32 2600822924, .int .u32 528734635, .int .u32 1541459225] 39)) h t g3 h4 tNil a4 0 c4 ([] : List Tr) H4 w9.heap.size gk ck) := Lib.hid (QT11.new HQ9.out HKS.out.1 HKS.out.2)
  generalize (w9.alloc (.cells #[.slice (some ⟨gk, 0, none⟩) 64 ck, .int .u32 1779033703, .int .u32 3144134277, .int .u32 1013904242, .int .u32 2773480762, .int .u32 1359893119, .int .u32 2600822924, .int .u32 528734635, .int .u32 1541459225] 39)) = w10 at *
  generalize w9.heap.size = gt at *
  clear HQ9 HKS HQ8 HQ5 HQ6
  obtain ⟨x0, x1, x2, x3, x4⟩ := HR.out.q.b.box.cells
  go_wp2_with (first
    | (go_at_call 17
       refine (code_any 1 (by omega) _).mono ?_
       rintro _ wa ⟨rfl, ma, rfl⟩
       have HRc := Lib.hid (HR.out.below (below_drawn (Below.refl _ _) ma))
       obtain ⟨y0, y1, y2, y3, y4⟩ := HRc.out.q.c.cells)
    | (go_at_call 18
       have hck : ∀ W, InTree W h4 tNil → Calls Tryd.prog 18 #[.agg #[.int .i64 h4.k, .slice h4.ka h4.kn h4.kc, .slice h4.va h4.vn h4.vc, .slice h4.da h4.dn h4.dc, .slice h4.ta h4.tn h4.tc], .agg #[.int .i64 0, .slice none 0 0, .slice none 0 0, .slice none 0 0, .slice none 0 0]] W (Says W (.bool true)) := fun W p => refSame_any tNil h4 hNil W p (inTree_nil W)
       (with_reducible refine (hck _ ?_).mono ?_)
       · exact HRc.out.q.ci
       rintro _ wb ⟨rfl, hbb⟩
       have HBb : Hid (Below w.heap.size w wb) := Lib.hid (HRc.out.q.b.b.trans (hbb.mono HRc.out.q.b.b.size))
       clear hck hbb y0 y1 y2 y3 y4))
  go_ret
  exact ⟨rfl, HBb.out⟩
end Go.Proofs.YtkcmohmfejmfoaaDoor

/- The walk of the law ChunkCuts, case by case: a tree that is not well-formed. -/
namespace Go.Proofs.YtkcmohmfejmfoaaDoor
open Go.RowKit
set_option linter.unusedVariables false

set_option maxRecDepth 100000 in
set_option maxHeartbeats 4000000 in
theorem cuts_check (x n : Int) (t : Tr) (h : TH) (w : World) (ht : InTree w h t) (hT : TabLies w) (hx1 : -9223372036854775808 ≤ x) (hx2 : x ≤ 9223372036854775807) (hn1 : -9223372036854775808 ≤ n) (hn2 : n ≤ 9223372036854775807) (hgd : 0 ≤ n ∧ n ≤ 64 ∧ 1 ≤ x ∧ x ≤ 32) (hck : ¬ checkT t = 0) :
    Calls Tryd.prog 3 #[.int .i64 x, h.v, .int .i64 n] w (Says w (.bool true)) := by
  have HGD := Lib.hid hgd
  have HCK := Lib.hid hck
  have HCX := Lib.hid (cut_check hgd hck)
  clear hgd hck
  unfold TH.v
  have HD := Lib.hid (BW.new w ht)
  have HT := Lib.hid hT
  clear hT ht
  go_enter Tryd.func3, Tryd.ntmps3
  go_upto_region 1 with fail
  generalize (w.alloc (.cells #[.int .i64 h.k, .slice h.ka h.kn h.kc, .slice h.va h.vn h.vc, .slice h.da h.dn h.dc, .slice h.ta h.tn h.tc] 25)) = w0 at *
  go_upto_region 2 with (first
    | (go_at_call 8
       refine (up11_any _ (HT.out.below HD.out.b (Nat.le_refl _))).mono ?_
       rintro _ w1 ⟨rfl, hb1⟩
       have HD1 := Lib.hid (HD.out.below hb1)
       clear hb1))
  obtain ⟨x0, x1, x2, x3, x4⟩ := HD1.out.box.cells
  go_upto_region 3 with (first
    | (go_at_call 9
       refine (small11_any t h _ HD1.out.ti).mono ?_
       rintro _ w2 ⟨b, rfl, hok, hb2⟩
       have HD2 := Lib.hid (HD1.out.below hb2)
       have HK2 := Lib.hid hok
       clear hok hb2 x0 x1 x2 x3 x4))
  cases b with
  | false =>
    go_wp2_with fail
    go_ret
    exact ⟨rfl, HD2.out.b⟩
  | true =>
  have HCN : Hid (countT t ≤ 200) := Lib.hid (HK2.out rfl).2
  clear HK2 HD HD1
  obtain ⟨x0, x1, x2, x3, x4⟩ := HD2.out.box.cells
  go_upto_region 6 with (first
    | (go_at_call 10
       refine (ccut_any x hx1 hx2 t h n hn1 hn2 _ HD2.out.ti (by have := HCN.out; omega) (HT.out.below HD2.out.b (Nat.le_refl _))).mono ?_
       rw [HCX.out]
       unfold CutTold TH.v
       rintro _ w4 ⟨h4, a4, n4, c4, H4, rfl, hi4, ht4, hb4⟩
       rw [show codeV ((checkT t, tNil, ([] : List Tr)) : Nat × Tr × List Tr).1 = codeV (checkT t) from rfl]
       have HI4 := Lib.hid (And.intro hi4 ht4)
       have HD4 := Lib.hid (HD2.out.below hb4)
       clear hi4 ht4 hb4 x0 x1 x2 x3 x4)
    | (refine wpList_store_box rfl 25 (.tmp 9) (.tmp 31) rfl w4.heap.size hZ h4 rfl rfl 25 (Box.new w4 25 hZ) infoTree5 ?_
       intro w4b hbx hg
       have qq : Below w4.heap.size w4 w4b := ((Below.refl w4.heap.size w4).alloc (Nat.le_refl _) _).grown hg (by simp) (fun j hj => by injection hj; omega)
       have HQ5 : Hid (QB11 w w4b h t w4.heap.size h4 tNil a4 n4 c4 ([] : List Tr) H4) := Lib.hid ⟨HD4.out.below qq, hbx, HI4.out.1.lower qq, HI4.out.2.below qq⟩
       clear hbx hg qq))
  generalize w4.heap.size = g3 at *
  clear HD2 HD4 HI4
  have hn0 : n4 = 0 := HQ5.out.ps.len.symm
  subst hn0
  obtain ⟨x0, x1, x2, x3, x4⟩ := HQ5.out.b.box.cells
  have hcb : ((checkT t : Int) == 0) = false := by have := HCK.out; simp; omega
  go_upto_region 10 with (first
    | (go_at_call 11
       refine (refCheck_any t h _ HQ5.out.b.ti).mono ?_
       rintro _ w6 ⟨rfl, hb6⟩
       have HQ6 := Lib.hid (HQ5.out.below hb6)
       clear hb6 x0 x1 x2 x3 x4
       obtain ⟨x0, x1, x2, x3, x4⟩ := HQ6.out.b.box.cells))
  have HL7 : Hid (countX t = 0) := Lib.hid (by unfold countX; rw [if_neg HCK.out])
  go_upto_region 12 with (first
    | (go_at_call 13
       refine (ccount_any t h _ HQ6.out.b.ti (by have := HCN.out; omega)).mono ?_
       rw [HL7.out]
       rintro _ w8 ⟨rfl, hb8⟩
       have HQ8 := Lib.hid (HQ6.out.below hb8)
       clear hb8 x0 x1 x2 x3 x4))
  go_cut [58] (fun s58 wx => s58 = .bool false ∧ wx = w8)
  case first =>
    have c1 : ¬ n < 0 := by have q := HGD.out; omega
    have c2 : ¬ (64 : Int) < n := by have q := HGD.out; omega
    have c3 : ¬ x < 1 := by have q := HGD.out; omega
    have c4 : ¬ (32 : Int) < x := by have q := HGD.out; omega
    go_wp2_with fail
    go_meet
    exact ⟨rfl, rfl⟩
  case rest =>
  obtain ⟨rfl, rfl⟩ := hcut
  go_upto_region 15 with (first
    | (go_at_call 14
       refine (made_any _).mono ?_
       rintro e6 w9 ⟨gk, ck, hq6, ho6, hb6⟩
       have hqq : e6 = Ending.returned (.agg #[.slice (some ⟨gk, 0, none⟩) 64 ck, .int .u32 1779033703, .int .u32 3144134277, .int .u32 1013904242, .int .u32 2773480762, .int .u32 1359893119, .int .u32 2600822924, .int .u32 528734635, .int .u32 1541459225]) := hq6
       clear hq6
       subst hqq
       have HKS : Hid (Seg .u32 w9 gk 0 kTab ∧ gk < w9.heap.size) := Lib.hid (And.intro (own_seg ho6) (ho6.lt gk rfl).2)
       have HQ9 := Lib.hid (HQ8.out.below hb6)
       clear ho6 hb6))
  have HR : Hid (QT11 w (w9.alloc (.cells #[.slice (some ⟨gk, 0, none⟩) 64 ck, .int .u32 1779033703, .int .u32 3144134277, .int .u32 1013904242, .int .u32 2773480762, .int .u32 1359893119, .int .u32 2600822924, .int .u32 528734635, .int .u32 1541459225] 39)) h t g3 h4 tNil a4 0 c4 ([] : List Tr) H4 w9.heap.size gk ck) := Lib.hid (QT11.new HQ9.out HKS.out.1 HKS.out.2)
  generalize (w9.alloc (.cells #[.slice (some ⟨gk, 0, none⟩) 64 ck, .int .u32 1779033703, .int .u32 3144134277, .int .u32 1013904242, .int .u32 2773480762, .int .u32 1359893119, .int .u32 2600822924, .int .u32 528734635, .int .u32 1541459225] 39)) = w10 at *
  generalize w9.heap.size = gt at *
  clear HQ9 HKS HQ8 HQ5 HQ6
  obtain ⟨x0, x1, x2, x3, x4⟩ := HR.out.q.b.box.cells
  have hcc : ((checkT t : Int) != 0) = true := by have := HCK.out; simp; omega
  have hm13 : checkT t ≤ 13 := checkT_le13 t
  have hqm : ((checkT t : Int) == (checkT t : Int)) = true := by simp
  go_wp2_with (first
    | (go_at_call 17
       refine (code_any (checkT t) hm13 _).mono ?_
       rintro _ wa ⟨rfl, ma, rfl⟩
       have HRc := Lib.hid (HR.out.below (below_drawn (Below.refl _ _) ma))
       obtain ⟨y0, y1, y2, y3, y4⟩ := HRc.out.q.c.cells)
    | (go_at_call 18
       have hck : ∀ W, InTree W h4 tNil → Calls Tryd.prog 18 #[.agg #[.int .i64 h4.k, .slice h4.ka h4.kn h4.kc, .slice h4.va h4.vn h4.vc, .slice h4.da h4.dn h4.dc, .slice h4.ta h4.tn h4.tc], .agg #[.int .i64 0, .slice none 0 0, .slice none 0 0, .slice none 0 0, .slice none 0 0]] W (Says W (.bool true)) := fun W p => refSame_any tNil h4 hNil W p (inTree_nil W)
       (with_reducible refine (hck _ ?_).mono ?_)
       · exact HRc.out.q.ci
       rintro _ wb ⟨rfl, hbb⟩
       have HBb : Hid (Below w.heap.size w wb) := Lib.hid (HRc.out.q.b.b.trans (hbb.mono HRc.out.q.b.b.size))
       clear hck hbb y0 y1 y2 y3 y4))
  go_ret
  exact ⟨rfl, HBb.out⟩
end Go.Proofs.YtkcmohmfejmfoaaDoor

/- The walk of the law ChunkCuts, case by case: a tree that has no digest, or is not full. -/
namespace Go.Proofs.YtkcmohmfejmfoaaDoor
open Go.RowKit
set_option linter.unusedVariables false

set_option maxRecDepth 100000 in
set_option maxHeartbeats 4000000 in
theorem cuts_none (x n : Int) (t : Tr) (h : TH) (w : World) (ht : InTree w h t) (hT : TabLies w) (hx1 : -9223372036854775808 ≤ x) (hx2 : x ≤ 9223372036854775807) (hn1 : -9223372036854775808 ≤ n) (hn2 : n ≤ 9223372036854775807) (hgd : 0 ≤ n ∧ n ≤ 64 ∧ 1 ≤ x ∧ x ≤ 32) (hck : checkT t = 0) (hdg : digT x.toNat t = none) :
    Calls Tryd.prog 3 #[.int .i64 x, h.v, .int .i64 n] w (Says w (.bool true)) := by
  obtain ⟨k, rfl⟩ : ∃ k : Nat, x = (k : Int) := ⟨x.toNat, by omega⟩
  have hk1 : 1 ≤ k := by omega
  have hk2 : k ≤ 32 := by omega
  have HGD := Lib.hid hgd
  have HCK := Lib.hid hck
  have HFT := Lib.hid (check_zeroR hck).1
  have HDG : Hid (digT k t = none) := Lib.hid hdg
  have HCX := Lib.hid (cut_none hgd hck hdg)
  clear hgd hck hdg
  unfold TH.v
  have HD := Lib.hid (BW.new w ht)
  have HT := Lib.hid hT
  clear hT ht
  go_enter Tryd.func3, Tryd.ntmps3
  go_upto_region 1 with fail
  generalize (w.alloc (.cells #[.int .i64 h.k, .slice h.ka h.kn h.kc, .slice h.va h.vn h.vc, .slice h.da h.dn h.dc, .slice h.ta h.tn h.tc] 25)) = w0 at *
  go_upto_region 2 with (first
    | (go_at_call 8
       refine (up11_any _ (HT.out.below HD.out.b (Nat.le_refl _))).mono ?_
       rintro _ w1 ⟨rfl, hb1⟩
       have HD1 := Lib.hid (HD.out.below hb1)
       clear hb1))
  obtain ⟨x0, x1, x2, x3, x4⟩ := HD1.out.box.cells
  go_upto_region 3 with (first
    | (go_at_call 9
       refine (small11_any t h _ HD1.out.ti).mono ?_
       rintro _ w2 ⟨b, rfl, hok, hb2⟩
       have HD2 := Lib.hid (HD1.out.below hb2)
       have HK2 := Lib.hid hok
       clear hok hb2 x0 x1 x2 x3 x4))
  cases b with
  | false =>
    go_wp2_with fail
    go_ret
    exact ⟨rfl, HD2.out.b⟩
  | true =>
  have HCN : Hid (countT t ≤ 200) := Lib.hid (HK2.out rfl).2
  clear HK2 HD HD1
  obtain ⟨x0, x1, x2, x3, x4⟩ := HD2.out.box.cells
  go_upto_region 6 with (first
    | (go_at_call 10
       refine (ccut_any (k : Int) hx1 hx2 t h n hn1 hn2 _ HD2.out.ti (by have := HCN.out; omega) (HT.out.below HD2.out.b (Nat.le_refl _))).mono ?_
       rw [HCX.out]
       unfold CutTold TH.v
       rintro _ w4 ⟨h4, a4, n4, c4, H4, rfl, hi4, ht4, hb4⟩
       rw [show codeV ((3, tNil, ([] : List Tr)) : Nat × Tr × List Tr).1 = codeV 3 from rfl]
       have HI4 := Lib.hid (And.intro hi4 ht4)
       have HD4 := Lib.hid (HD2.out.below hb4)
       clear hi4 ht4 hb4 x0 x1 x2 x3 x4)
    | (refine wpList_store_box rfl 25 (.tmp 9) (.tmp 31) rfl w4.heap.size hZ h4 rfl rfl 25 (Box.new w4 25 hZ) infoTree5 ?_
       intro w4b hbx hg
       have qq : Below w4.heap.size w4 w4b := ((Below.refl w4.heap.size w4).alloc (Nat.le_refl _) _).grown hg (by simp) (fun j hj => by injection hj; omega)
       have HQ5 : Hid (QB11 w w4b h t w4.heap.size h4 tNil a4 n4 c4 ([] : List Tr) H4) := Lib.hid ⟨HD4.out.below qq, hbx, HI4.out.1.lower qq, HI4.out.2.below qq⟩
       clear hbx hg qq))
  generalize w4.heap.size = g3 at *
  clear HD2 HD4 HI4
  have hn0 : n4 = 0 := HQ5.out.ps.len.symm
  subst hn0
  obtain ⟨x0, x1, x2, x3, x4⟩ := HQ5.out.b.box.cells
  go_upto_region 10 with (first
    | (go_at_call 11
       refine (refCheck_any t h _ HQ5.out.b.ti).mono ?_
       rintro _ w6 ⟨rfl, hb6⟩
       rw [HCK.out]
       have HQ6 := Lib.hid (HQ5.out.below hb6)
       clear hb6 x0 x1 x2 x3 x4
       obtain ⟨x0, x1, x2, x3, x4⟩ := HQ6.out.b.box.cells)
    | (go_at_call 12
       refine (refCuts_any _ t h _ HQ6.out.b.ti (Below.refl _ _) (by have := HCN.out; omega)).mono ?_
       rintro _ w7 ⟨v7, rs, rfl, ho7, hs7, hb7⟩
       obtain ⟨a7, c7, hv7⟩ := ho7.sl
       subst hv7
       have HL7 : Hid (countX t = rs.length) := Lib.hid (by unfold countX; rw [if_pos HCK.out]; exact hs7.1.symm)
       have HQ7 := Lib.hid (HQ6.out.below hb7)
       clear ho7 hs7 hb7 x0 x1 x2 x3 x4))
  obtain ⟨x0, x1, x2, x3, x4⟩ := HQ7.out.b.box.cells
  generalize rs.length = L at *
  have hqn : ((L : Int) != (L : Int)) = false := by simp
  go_upto_region 12 with (first
    | (go_at_call 13
       refine (ccount_any t h _ HQ7.out.b.ti (by have := HCN.out; omega)).mono ?_
       rw [HL7.out]
       rintro _ w8 ⟨rfl, hb8⟩
       have HQ8 := Lib.hid (HQ7.out.below hb8)
       clear hb8 x0 x1 x2 x3 x4))
  go_cut [58] (fun s58 wx => s58 = .bool false ∧ wx = w8)
  case first =>
    have c1 : ¬ n < 0 := by have q := HGD.out; omega
    have c2 : ¬ (64 : Int) < n := by have q := HGD.out; omega
    have c3 : ¬ (k : Int) < 1 := by have q := HGD.out; omega
    have c4 : ¬ (32 : Int) < (k : Int) := by have q := HGD.out; omega
    go_wp2_with fail
    go_meet
    exact ⟨rfl, rfl⟩
  case rest =>
  obtain ⟨rfl, rfl⟩ := hcut
  go_upto_region 15 with (first
    | (go_at_call 14
       refine (made_any _).mono ?_
       rintro e6 w9 ⟨gk, ck, hq6, ho6, hb6⟩
       have hqq : e6 = Ending.returned (.agg #[.slice (some ⟨gk, 0, none⟩) 64 ck, .int .u32 1779033703, .int .u32 3144134277, .int .u32 1013904242, .int .u32 2773480762, .int .u32 1359893119, .int .u32 2600822924, .int .u32 528734635, .int .u32 1541459225]) := hq6
       clear hq6
       subst hqq
       have HKS : Hid (Seg .u32 w9 gk 0 kTab ∧ gk < w9.heap.size) := Lib.hid (And.intro (own_seg ho6) (ho6.lt gk rfl).2)
       have HQ9 := Lib.hid (HQ8.out.below hb6)
       clear ho6 hb6))
  have HR : Hid (QT11 w (w9.alloc (.cells #[.slice (some ⟨gk, 0, none⟩) 64 ck, .int .u32 1779033703, .int .u32 3144134277, .int .u32 1013904242, .int .u32 2773480762, .int .u32 1359893119, .int .u32 2600822924, .int .u32 528734635, .int .u32 1541459225] 39)) h t g3 h4 tNil a4 0 c4 ([] : List Tr) H4 w9.heap.size gk ck) := Lib.hid (QT11.new HQ9.out HKS.out.1 HKS.out.2)
  generalize (w9.alloc (.cells #[.slice (some ⟨gk, 0, none⟩) 64 ck, .int .u32 1779033703, .int .u32 3144134277, .int .u32 1013904242, .int .u32 2773480762, .int .u32 1359893119, .int .u32 2600822924, .int .u32 528734635, .int .u32 1541459225] 39)) = w10 at *
  generalize w9.heap.size = gt at *
  clear HQ9 HKS HQ8 HQ5 HQ6
  obtain ⟨x0, x1, x2, x3, x4⟩ := HR.out.q.b.box.cells
  obtain ⟨t0, t1, t2, t3, t4, t5, t6, t7, t8⟩ := HR.out.nine
  go_upto_region 18 with (first
    | (go_at_call 15
       refine (refDigest_any k hk1 hk2 gk ck t h _ HR.out.q.b.ti HFT.out HR.out.ks HR.out.gkl).mono ?_
       rintro _ w11 ⟨a5, n5, c5, is5, rfl, hres5, hb11⟩
       have his : is5 = false := by
         rcases hres5 with ⟨-, zs, q1, q2⟩ | ⟨q1, -⟩
         · rw [HDG.out] at q1; cases q1
         · exact q1
       rw [his]
       have HR1 := Lib.hid (HR.out.below hb11)
       clear hres5 hb11 his x0 x1 x2 x3 x4 t0 t1 t2 t3 t4 t5 t6 t7 t8
       obtain ⟨x0, x1, x2, x3, x4⟩ := HR1.out.q.b.box.cells)
    | (go_at_call 16
       refine (refFull_any t h _ HR1.out.q.b.ti).mono ?_
       generalize fullT t = fu
       rintro _ w12 ⟨rfl, hb12⟩
       have HR2 := Lib.hid (HR1.out.below hb12)
       clear hb12 x0 x1 x2 x3 x4))
  cases fu
  all_goals
    go_wp2_with (first
      | (go_at_call 17
         refine (code_any 3 (by omega) _).mono ?_
         rintro _ wa ⟨rfl, ma, rfl⟩
         have HRc := Lib.hid (HR2.out.below (below_drawn (Below.refl _ _) ma))
         obtain ⟨y0, y1, y2, y3, y4⟩ := HRc.out.q.c.cells)
      | (go_at_call 18
         have hck : ∀ W, InTree W h4 tNil → Calls Tryd.prog 18 #[.agg #[.int .i64 h4.k, .slice h4.ka h4.kn h4.kc, .slice h4.va h4.vn h4.vc, .slice h4.da h4.dn h4.dc, .slice h4.ta h4.tn h4.tc], .agg #[.int .i64 0, .slice none 0 0, .slice none 0 0, .slice none 0 0, .slice none 0 0]] W (Says W (.bool true)) := fun W p => refSame_any tNil h4 hNil W p (inTree_nil W)
         (with_reducible refine (hck _ ?_).mono ?_)
         · exact HRc.out.q.ci
         rintro _ wb ⟨rfl, hbb⟩
         have HBb : Hid (Below w.heap.size w wb) := Lib.hid (HRc.out.q.b.b.trans (hbb.mono HRc.out.q.b.b.size))
         clear hck hbb y0 y1 y2 y3 y4))
    go_ret
    exact ⟨rfl, HBb.out⟩

set_option maxRecDepth 100000 in
set_option maxHeartbeats 4000000 in
theorem cuts_part (x n : Int) (t : Tr) (h : TH) (w : World) (ht : InTree w h t) (hT : TabLies w) (hx1 : -9223372036854775808 ≤ x) (hx2 : x ≤ 9223372036854775807) (hn1 : -9223372036854775808 ≤ n) (hn2 : n ≤ 9223372036854775807) (hgd : 0 ≤ n ∧ n ≤ 64 ∧ 1 ≤ x ∧ x ≤ 32) (hck : checkT t = 0) (zs : List Int) (hdg : digT x.toNat t = some zs) (hfu : fullT t = false) :
    Calls Tryd.prog 3 #[.int .i64 x, h.v, .int .i64 n] w (Says w (.bool true)) := by
  obtain ⟨k, rfl⟩ : ∃ k : Nat, x = (k : Int) := ⟨x.toNat, by omega⟩
  have hk1 : 1 ≤ k := by omega
  have hk2 : k ≤ 32 := by omega
  have HGD := Lib.hid hgd
  have HCK := Lib.hid hck
  have HFT := Lib.hid (check_zeroR hck).1
  have HDG : Hid (digT k t = some zs) := Lib.hid hdg
  have HFU := Lib.hid hfu
  have HCX := Lib.hid (cut_part hgd hck hdg hfu)
  clear hgd hck hdg hfu
  unfold TH.v
  have HD := Lib.hid (BW.new w ht)
  have HT := Lib.hid hT
  clear hT ht
  go_enter Tryd.func3, Tryd.ntmps3
  go_upto_region 1 with fail
  generalize (w.alloc (.cells #[.int .i64 h.k, .slice h.ka h.kn h.kc, .slice h.va h.vn h.vc, .slice h.da h.dn h.dc, .slice h.ta h.tn h.tc] 25)) = w0 at *
  go_upto_region 2 with (first
    | (go_at_call 8
       refine (up11_any _ (HT.out.below HD.out.b (Nat.le_refl _))).mono ?_
       rintro _ w1 ⟨rfl, hb1⟩
       have HD1 := Lib.hid (HD.out.below hb1)
       clear hb1))
  obtain ⟨x0, x1, x2, x3, x4⟩ := HD1.out.box.cells
  go_upto_region 3 with (first
    | (go_at_call 9
       refine (small11_any t h _ HD1.out.ti).mono ?_
       rintro _ w2 ⟨b, rfl, hok, hb2⟩
       have HD2 := Lib.hid (HD1.out.below hb2)
       have HK2 := Lib.hid hok
       clear hok hb2 x0 x1 x2 x3 x4))
  cases b with
  | false =>
    go_wp2_with fail
    go_ret
    exact ⟨rfl, HD2.out.b⟩
  | true =>
  have HCN : Hid (countT t ≤ 200) := Lib.hid (HK2.out rfl).2
  clear HK2 HD HD1
  obtain ⟨x0, x1, x2, x3, x4⟩ := HD2.out.box.cells
  go_upto_region 6 with (first
    | (go_at_call 10
       refine (ccut_any (k : Int) hx1 hx2 t h n hn1 hn2 _ HD2.out.ti (by have := HCN.out; omega) (HT.out.below HD2.out.b (Nat.le_refl _))).mono ?_
       rw [HCX.out]
       unfold CutTold TH.v
       rintro _ w4 ⟨h4, a4, n4, c4, H4, rfl, hi4, ht4, hb4⟩
       rw [show codeV ((3, tNil, ([] : List Tr)) : Nat × Tr × List Tr).1 = codeV 3 from rfl]
       have HI4 := Lib.hid (And.intro hi4 ht4)
       have HD4 := Lib.hid (HD2.out.below hb4)
       clear hi4 ht4 hb4 x0 x1 x2 x3 x4)
    | (refine wpList_store_box rfl 25 (.tmp 9) (.tmp 31) rfl w4.heap.size hZ h4 rfl rfl 25 (Box.new w4 25 hZ) infoTree5 ?_
       intro w4b hbx hg
       have qq : Below w4.heap.size w4 w4b := ((Below.refl w4.heap.size w4).alloc (Nat.le_refl _) _).grown hg (by simp) (fun j hj => by injection hj; omega)
       have HQ5 : Hid (QB11 w w4b h t w4.heap.size h4 tNil a4 n4 c4 ([] : List Tr) H4) := Lib.hid ⟨HD4.out.below qq, hbx, HI4.out.1.lower qq, HI4.out.2.below qq⟩
       clear hbx hg qq))
  generalize w4.heap.size = g3 at *
  clear HD2 HD4 HI4
  have hn0 : n4 = 0 := HQ5.out.ps.len.symm
  subst hn0
  obtain ⟨x0, x1, x2, x3, x4⟩ := HQ5.out.b.box.cells
  go_upto_region 10 with (first
    | (go_at_call 11
       refine (refCheck_any t h _ HQ5.out.b.ti).mono ?_
       rintro _ w6 ⟨rfl, hb6⟩
       rw [HCK.out]
       have HQ6 := Lib.hid (HQ5.out.below hb6)
       clear hb6 x0 x1 x2 x3 x4
       obtain ⟨x0, x1, x2, x3, x4⟩ := HQ6.out.b.box.cells)
    | (go_at_call 12
       refine (refCuts_any _ t h _ HQ6.out.b.ti (Below.refl _ _) (by have := HCN.out; omega)).mono ?_
       rintro _ w7 ⟨v7, rs, rfl, ho7, hs7, hb7⟩
       obtain ⟨a7, c7, hv7⟩ := ho7.sl
       subst hv7
       have HL7 : Hid (countX t = rs.length) := Lib.hid (by unfold countX; rw [if_pos HCK.out]; exact hs7.1.symm)
       have HQ7 := Lib.hid (HQ6.out.below hb7)
       clear ho7 hs7 hb7 x0 x1 x2 x3 x4))
  obtain ⟨x0, x1, x2, x3, x4⟩ := HQ7.out.b.box.cells
  generalize rs.length = L at *
  have hqn : ((L : Int) != (L : Int)) = false := by simp
  go_upto_region 12 with (first
    | (go_at_call 13
       refine (ccount_any t h _ HQ7.out.b.ti (by have := HCN.out; omega)).mono ?_
       rw [HL7.out]
       rintro _ w8 ⟨rfl, hb8⟩
       have HQ8 := Lib.hid (HQ7.out.below hb8)
       clear hb8 x0 x1 x2 x3 x4))
  go_cut [58] (fun s58 wx => s58 = .bool false ∧ wx = w8)
  case first =>
    have c1 : ¬ n < 0 := by have q := HGD.out; omega
    have c2 : ¬ (64 : Int) < n := by have q := HGD.out; omega
    have c3 : ¬ (k : Int) < 1 := by have q := HGD.out; omega
    have c4 : ¬ (32 : Int) < (k : Int) := by have q := HGD.out; omega
    go_wp2_with fail
    go_meet
    exact ⟨rfl, rfl⟩
  case rest =>
  obtain ⟨rfl, rfl⟩ := hcut
  go_upto_region 15 with (first
    | (go_at_call 14
       refine (made_any _).mono ?_
       rintro e6 w9 ⟨gk, ck, hq6, ho6, hb6⟩
       have hqq : e6 = Ending.returned (.agg #[.slice (some ⟨gk, 0, none⟩) 64 ck, .int .u32 1779033703, .int .u32 3144134277, .int .u32 1013904242, .int .u32 2773480762, .int .u32 1359893119, .int .u32 2600822924, .int .u32 528734635, .int .u32 1541459225]) := hq6
       clear hq6
       subst hqq
       have HKS : Hid (Seg .u32 w9 gk 0 kTab ∧ gk < w9.heap.size) := Lib.hid (And.intro (own_seg ho6) (ho6.lt gk rfl).2)
       have HQ9 := Lib.hid (HQ8.out.below hb6)
       clear ho6 hb6))
  have HR : Hid (QT11 w (w9.alloc (.cells #[.slice (some ⟨gk, 0, none⟩) 64 ck, .int .u32 1779033703, .int .u32 3144134277, .int .u32 1013904242, .int .u32 2773480762, .int .u32 1359893119, .int .u32 2600822924, .int .u32 528734635, .int .u32 1541459225] 39)) h t g3 h4 tNil a4 0 c4 ([] : List Tr) H4 w9.heap.size gk ck) := Lib.hid (QT11.new HQ9.out HKS.out.1 HKS.out.2)
  generalize (w9.alloc (.cells #[.slice (some ⟨gk, 0, none⟩) 64 ck, .int .u32 1779033703, .int .u32 3144134277, .int .u32 1013904242, .int .u32 2773480762, .int .u32 1359893119, .int .u32 2600822924, .int .u32 528734635, .int .u32 1541459225] 39)) = w10 at *
  generalize w9.heap.size = gt at *
  clear HQ9 HKS HQ8 HQ5 HQ6
  obtain ⟨x0, x1, x2, x3, x4⟩ := HR.out.q.b.box.cells
  obtain ⟨t0, t1, t2, t3, t4, t5, t6, t7, t8⟩ := HR.out.nine
  go_upto_region 18 with (first
    | (go_at_call 15
       refine (refDigest_any k hk1 hk2 gk ck t h _ HR.out.q.b.ti HFT.out HR.out.ks HR.out.gkl).mono ?_
       rintro _ w11 ⟨a5, n5, c5, is5, rfl, hres5, hb11⟩
       have his : is5 = true := by
         rcases hres5 with ⟨q1, -⟩ | ⟨-, q1⟩
         · exact q1
         · rw [HDG.out] at q1; cases q1
       rw [his]
       have HR1 := Lib.hid (HR.out.below hb11)
       clear hres5 hb11 his x0 x1 x2 x3 x4 t0 t1 t2 t3 t4 t5 t6 t7 t8
       obtain ⟨x0, x1, x2, x3, x4⟩ := HR1.out.q.b.box.cells)
    | (go_at_call 16
       refine (refFull_any t h _ HR1.out.q.b.ti).mono ?_
       rw [HFU.out]
       rintro _ w12 ⟨rfl, hb12⟩
       have HR2 := Lib.hid (HR1.out.below hb12)
       clear hb12 x0 x1 x2 x3 x4))
  go_wp2_with (first
    | (go_at_call 17
       refine (code_any 3 (by omega) _).mono ?_
       rintro _ wa ⟨rfl, ma, rfl⟩
       have HRc := Lib.hid (HR2.out.below (below_drawn (Below.refl _ _) ma))
       obtain ⟨y0, y1, y2, y3, y4⟩ := HRc.out.q.c.cells)
    | (go_at_call 18
       have hck : ∀ W, InTree W h4 tNil → Calls Tryd.prog 18 #[.agg #[.int .i64 h4.k, .slice h4.ka h4.kn h4.kc, .slice h4.va h4.vn h4.vc, .slice h4.da h4.dn h4.dc, .slice h4.ta h4.tn h4.tc], .agg #[.int .i64 0, .slice none 0 0, .slice none 0 0, .slice none 0 0, .slice none 0 0]] W (Says W (.bool true)) := fun W p => refSame_any tNil h4 hNil W p (inTree_nil W)
       (with_reducible refine (hck _ ?_).mono ?_)
       · exact HRc.out.q.ci
       rintro _ wb ⟨rfl, hbb⟩
       have HBb : Hid (Below w.heap.size w wb) := Lib.hid (HRc.out.q.b.b.trans (hbb.mono HRc.out.q.b.b.size))
       clear hck hbb y0 y1 y2 y3 y4))
  go_ret
  exact ⟨rfl, HBb.out⟩
end Go.Proofs.YtkcmohmfejmfoaaDoor

/- The walk of the law ChunkCuts, case by case: all is well. -/
namespace Go.Proofs.YtkcmohmfejmfoaaDoor
open Go.RowKit
set_option linter.unusedVariables false

set_option maxRecDepth 100000 in
set_option maxHeartbeats 4000000 in
theorem cuts_full (x n : Int) (t : Tr) (h : TH) (w : World) (ht : InTree w h t) (hT : TabLies w) (hx1 : -9223372036854775808 ≤ x) (hx2 : x ≤ 9223372036854775807) (hn1 : -9223372036854775808 ≤ n) (hn2 : n ≤ 9223372036854775807) (hgd : 0 ≤ n ∧ n ≤ 64 ∧ 1 ≤ x ∧ x ≤ 32) (hck : checkT t = 0) (zs : List Int) (hdg : digT x.toNat t = some zs) (hfu : fullT t = true) :
    Calls Tryd.prog 3 #[.int .i64 x, h.v, .int .i64 n] w (Says w (.bool true)) := by
  obtain ⟨k, rfl⟩ : ∃ k : Nat, x = (k : Int) := ⟨x.toNat, by omega⟩
  have hk1 : 1 ≤ k := by omega
  have hk2 : k ≤ 32 := by omega
  have HGD := Lib.hid hgd
  have HCK := Lib.hid hck
  have HFT := Lib.hid (check_zeroR hck).1
  obtain ⟨m, rfl⟩ : ∃ m : Nat, n = (m : Int) := ⟨n.toNat, by omega⟩
  obtain ⟨a, hta⟩ := full_at hck hfu
  have HDG : Hid (digT k t = some zs) := Lib.hid hdg
  have HFU := Lib.hid hfu
  have HTA := Lib.hid hta
  have HCX : Hid (cutX k t m = (0, (headA k m a).tr, (partsA m a).map AT.tr)) := Lib.hid (by rw [hta]; exact cut_good hk1 hk2 (by omega) (by rw [← hta]; exact hck))
  have hm64 : m ≤ 64 := by omega
  clear hgd hck hdg hfu hta
  unfold TH.v
  have HD := Lib.hid (BW.new w ht)
  have HT := Lib.hid hT
  clear hT ht
  go_enter Tryd.func3, Tryd.ntmps3
  go_upto_region 1 with fail
  generalize (w.alloc (.cells #[.int .i64 h.k, .slice h.ka h.kn h.kc, .slice h.va h.vn h.vc, .slice h.da h.dn h.dc, .slice h.ta h.tn h.tc] 25)) = w0 at *
  go_upto_region 2 with (first
    | (go_at_call 8
       refine (up11_any _ (HT.out.below HD.out.b (Nat.le_refl _))).mono ?_
       rintro _ w1 ⟨rfl, hb1⟩
       have HD1 := Lib.hid (HD.out.below hb1)
       clear hb1))
  obtain ⟨x0, x1, x2, x3, x4⟩ := HD1.out.box.cells
  go_upto_region 3 with (first
    | (go_at_call 9
       refine (small11_any t h _ HD1.out.ti).mono ?_
       rintro _ w2 ⟨b, rfl, hok, hb2⟩
       have HD2 := Lib.hid (HD1.out.below hb2)
       have HK2 := Lib.hid hok
       clear hok hb2 x0 x1 x2 x3 x4))
  cases b with
  | false =>
    go_wp2_with fail
    go_ret
    exact ⟨rfl, HD2.out.b⟩
  | true =>
  have HCN : Hid (countT t ≤ 200) := Lib.hid (HK2.out rfl).2
  clear HK2 HD HD1
  obtain ⟨x0, x1, x2, x3, x4⟩ := HD2.out.box.cells
  go_upto_region 6 with (first
    | (go_at_call 10
       refine (ccut_any (k : Int) hx1 hx2 t h (m : Int) hn1 hn2 _ HD2.out.ti (by have := HCN.out; omega) (HT.out.below HD2.out.b (Nat.le_refl _))).mono ?_
       rw [HCX.out]
       unfold CutTold TH.v
       rintro _ w4 ⟨h4, a4, n4, c4, H4, rfl, hi4, ht4, hb4⟩
       rw [show codeV ((0, (headA k m a).tr, ((partsA m a).map AT.tr)) : Nat × Tr × List Tr).1 = .nilIface from rfl]
       have HI4 := Lib.hid (And.intro hi4 ht4)
       have HD4 := Lib.hid (HD2.out.below hb4)
       clear hi4 ht4 hb4 x0 x1 x2 x3 x4)
    | (refine wpList_store_box rfl 25 (.tmp 9) (.tmp 31) rfl w4.heap.size hZ h4 rfl rfl 25 (Box.new w4 25 hZ) infoTree5 ?_
       intro w4b hbx hg
       have qq : Below w4.heap.size w4 w4b := ((Below.refl w4.heap.size w4).alloc (Nat.le_refl _) _).grown hg (by simp) (fun j hj => by injection hj; omega)
       have HQ5 : Hid (QB11 w w4b h t w4.heap.size h4 (headA k m a).tr a4 n4 c4 ((partsA m a).map AT.tr) H4) := Lib.hid ⟨HD4.out.below qq, hbx, HI4.out.1.lower qq, HI4.out.2.below qq⟩
       clear hbx hg qq))
  generalize w4.heap.size = g3 at *
  clear HD2 HD4 HI4
  obtain ⟨x0, x1, x2, x3, x4⟩ := HQ5.out.b.box.cells
  go_upto_region 10 with (first
    | (go_at_call 11
       refine (refCheck_any t h _ HQ5.out.b.ti).mono ?_
       rintro _ w6 ⟨rfl, hb6⟩
       rw [HCK.out]
       have HQ6 := Lib.hid (HQ5.out.below hb6)
       clear hb6 x0 x1 x2 x3 x4
       obtain ⟨x0, x1, x2, x3, x4⟩ := HQ6.out.b.box.cells)
    | (go_at_call 12
       refine (refCuts_any _ t h _ HQ6.out.b.ti (Below.refl _ _) (by have := HCN.out; omega)).mono ?_
       rintro _ w7 ⟨v7, rs, rfl, ho7, hs7, hb7⟩
       obtain ⟨a7, c7, hv7⟩ := ho7.sl
       subst hv7
       have HL7 : Hid (countX t = rs.length) := Lib.hid (by unfold countX; rw [if_pos HCK.out]; exact hs7.1.symm)
       have HQ7 := Lib.hid (HQ6.out.below hb7)
       clear ho7 hs7 hb7 x0 x1 x2 x3 x4))
  obtain ⟨x0, x1, x2, x3, x4⟩ := HQ7.out.b.box.cells
  generalize rs.length = L at *
  have hqn : ((L : Int) != (L : Int)) = false := by simp
  go_upto_region 12 with (first
    | (go_at_call 13
       refine (ccount_any t h _ HQ7.out.b.ti (by have := HCN.out; omega)).mono ?_
       rw [HL7.out]
       rintro _ w8 ⟨rfl, hb8⟩
       have HQ8 := Lib.hid (HQ7.out.below hb8)
       clear hb8 x0 x1 x2 x3 x4))
  go_cut [58] (fun s58 wx => s58 = .bool false ∧ wx = w8)
  case first =>
    have c1 : ¬ (m : Int) < 0 := by have q := HGD.out; omega
    have c2 : ¬ (64 : Int) < (m : Int) := by have q := HGD.out; omega
    have c3 : ¬ (k : Int) < 1 := by have q := HGD.out; omega
    have c4 : ¬ (32 : Int) < (k : Int) := by have q := HGD.out; omega
    go_wp2_with fail
    go_meet
    exact ⟨rfl, rfl⟩
  case rest =>
  obtain ⟨rfl, rfl⟩ := hcut
  go_upto_region 15 with (first
    | (go_at_call 14
       refine (made_any _).mono ?_
       rintro e6 w9 ⟨gk, ck, hq6, ho6, hb6⟩
       have hqq : e6 = Ending.returned (.agg #[.slice (some ⟨gk, 0, none⟩) 64 ck, .int .u32 1779033703, .int .u32 3144134277, .int .u32 1013904242, .int .u32 2773480762, .int .u32 1359893119, .int .u32 2600822924, .int .u32 528734635, .int .u32 1541459225]) := hq6
       clear hq6
       subst hqq
       have HKS : Hid (Seg .u32 w9 gk 0 kTab ∧ gk < w9.heap.size) := Lib.hid (And.intro (own_seg ho6) (ho6.lt gk rfl).2)
       have HQ9 := Lib.hid (HQ8.out.below hb6)
       clear ho6 hb6))
  have HR : Hid (QT11 w (w9.alloc (.cells #[.slice (some ⟨gk, 0, none⟩) 64 ck, .int .u32 1779033703, .int .u32 3144134277, .int .u32 1013904242, .int .u32 2773480762, .int .u32 1359893119, .int .u32 2600822924, .int .u32 528734635, .int .u32 1541459225] 39)) h t g3 h4 (headA k m a).tr a4 n4 c4 ((partsA m a).map AT.tr) H4 w9.heap.size gk ck) := Lib.hid (QT11.new HQ9.out HKS.out.1 HKS.out.2)
  generalize (w9.alloc (.cells #[.slice (some ⟨gk, 0, none⟩) 64 ck, .int .u32 1779033703, .int .u32 3144134277, .int .u32 1013904242, .int .u32 2773480762, .int .u32 1359893119, .int .u32 2600822924, .int .u32 528734635, .int .u32 1541459225] 39)) = w10 at *
  generalize w9.heap.size = gt at *
  clear HQ9 HKS HQ8 HQ5 HQ6
  obtain ⟨x0, x1, x2, x3, x4⟩ := HR.out.q.b.box.cells
  obtain ⟨t0, t1, t2, t3, t4, t5, t6, t7, t8⟩ := HR.out.nine
  go_upto_region 22 with (first
    | (go_at_call 15
       refine (refDigest_any k hk1 hk2 gk ck t h _ HR.out.q.b.ti HFT.out HR.out.ks HR.out.gkl).mono ?_
       rintro _ w11 ⟨a5, n5, c5, is5, rfl, hres5, hb11⟩
       have his : is5 = true := by
         rcases hres5 with ⟨q1, -⟩ | ⟨-, q1⟩
         · exact q1
         · rw [HDG.out] at q1; cases q1
       rw [his]
       have HR1 := Lib.hid (HR.out.below hb11)
       clear hres5 hb11 his x0 x1 x2 x3 x4 t0 t1 t2 t3 t4 t5 t6 t7 t8
       obtain ⟨x0, x1, x2, x3, x4⟩ := HR1.out.q.b.box.cells)
    | (go_at_call 16
       refine (refFull_any t h _ HR1.out.q.b.ti).mono ?_
       rw [HFU.out]
       rintro _ w12 ⟨rfl, hb12⟩
       have HR2 := Lib.hid (HR1.out.below hb12)
       clear hb12 x0 x1 x2 x3 x4))
  obtain ⟨x0, x1, x2, x3, x4⟩ := HR2.out.q.b.box.cells
  obtain ⟨t0, t1, t2, t3, t4, t5, t6, t7, t8⟩ := HR2.out.nine
  go_upto_region 23 with (first
    | (go_at_call 19
       refine (refCut_any k hk1 hk2 gk ck _ a m h _ (HTA.out ▸ HR2.out.q.b.ti) (Below.refl _ _) (HTA.out ▸ HFT.out) (by have := HCN.out; rw [HTA.out] at this; omega) (by omega) HR2.out.ks HR2.out.gkl).mono ?_
       unfold CutPost TH.v
       rintro _ w13 ⟨h5, v5, hs5, rfl, hi5, ho5, hh5, hb13⟩
       have HI5 := Lib.hid hi5
       have HTR := Lib.hid (trees_of_own ho5 (hh5.lower hb13))
       have HR3 := Lib.hid (HR2.out.below hb13)
       clear hi5 ho5 hh5 hb13 x0 x1 x2 x3 x4 t0 t1 t2 t3 t4 t5 t6 t7 t8)
    | (refine wpList_store_box rfl 25 (.tmp 18) (.tmp 102) rfl w13.heap.size hZ h5 rfl rfl 25 (Box.new w13 25 hZ) infoTree5 ?_
       intro w13b hbx hg
       have qq : Below w13.heap.size w13 w13b := ((Below.refl w13.heap.size w13).alloc (Nat.le_refl _) _).grown hg (by simp) (fun j hj => by injection hj; omega)
       have HR4 : Hid (QT11 w w13b h t g3 h4 (headA k m a).tr a4 n4 c4 ((partsA m a).map AT.tr) H4 gt gk ck ∧ Box w13b 25 w13.heap.size h5 ∧ InTree w13b h5 (headA k m a).tr ∧ ∃ a5 c5, v5 = .slice a5 hs5.length c5 ∧ TreesAt w13b a5 hs5.length c5 ((partsA m a).map AT.tr) (fun i => hs5.getD i hZ)) := Lib.hid ⟨HR3.out.below qq, hbx, HI5.out.lower qq, by obtain ⟨a5, c5, e, x⟩ := HTR.out; exact ⟨a5, c5, e, x.below qq⟩⟩
       clear hbx hg qq))
  generalize w13.heap.size = g5 at *
  clear HR3 HTR HI5 HR2 HR
  obtain ⟨a5, c5, hv5, ht5⟩ := HR4.out.2.2.2
  subst hv5
  have hl5 : hs5.length = n4 := ht5.len.symm.trans HR4.out.1.q.ps.len
  have HT5 := Lib.hid ht5
  clear ht5
  generalize hs5.length = n5 at *
  subst hl5
  obtain ⟨y0, y1, y2, y3, y4⟩ := HR4.out.1.q.c.cells
  obtain ⟨z0, z1, z2, z3, z4⟩ := HR4.out.2.1.cells
  go_wp2_with (first
    | (go_at_call 18
       have hck : ∀ W, InTree W h4 (headA k m a).tr → InTree W h5 (headA k m a).tr → Calls Tryd.prog 18 #[.agg #[.int .i64 h4.k, .slice h4.ka h4.kn h4.kc, .slice h4.va h4.vn h4.vc, .slice h4.da h4.dn h4.dc, .slice h4.ta h4.tn h4.tc], .agg #[.int .i64 h5.k, .slice h5.ka h5.kn h5.kc, .slice h5.va h5.vn h5.vc, .slice h5.da h5.dn h5.dc, .slice h5.ta h5.tn h5.tc]] W (Says W (.bool true)) := fun W p q => refSame_any (headA k m a).tr h4 h5 W p q
       (with_reducible refine (hck _ ?_ ?_).mono ?_)
       · exact HR4.out.1.q.ci
       · exact HR4.out.2.2.1
       rintro _ wb ⟨rfl, hbb⟩
       have HBb : Hid (Below w.heap.size w wb ∧ TreesAt wb a4 n5 c4 ((partsA m a).map AT.tr) H4 ∧ TreesAt wb a5 n5 c5 ((partsA m a).map AT.tr) (fun i => hs5.getD i hZ)) := Lib.hid ⟨HR4.out.1.q.b.b.trans (hbb.mono HR4.out.1.q.b.b.size), HR4.out.1.q.ps.below hbb, HT5.out.below hbb⟩
       clear hck hbb y0 y1 y2 y3 y4 z0 z1 z2 z3 z4)
    | (go_at_call 20
       refine (same11_any a4 n5 c4 H4 a5 c5 (fun i => hs5.getD i hZ) ((partsA m a).map AT.tr) _ HBb.out.2.1 HBb.out.2.2).mono ?_
       rintro _ wd ⟨rfl, hbd⟩
       have HBd : Hid (Below w.heap.size w wd) := Lib.hid (HBb.out.1.trans (hbd.mono HBb.out.1.size))
       clear hbd))
  go_ret
  exact ⟨rfl, HBd.out⟩
end Go.Proofs.YtkcmohmfejmfoaaDoor

/- The walk of the law ChunkCuts. -/
namespace Go.Proofs.YtkcmohmfejmfoaaDoor
open Go.RowKit
set_option linter.unusedVariables false

theorem chunkCuts_law (x n : Int) (t : Tr) (h : TH) (w : World) (ht : InTree w h t) (hT : TabLies w) (hx1 : -9223372036854775808 ≤ x) (hx2 : x ≤ 9223372036854775807) (hn1 : -9223372036854775808 ≤ n) (hn2 : n ≤ 9223372036854775807) :
    Calls Tryd.prog 3 #[.int .i64 x, h.v, .int .i64 n] w (Says w (.bool true)) := by
  by_cases hbd : ¬ (0 ≤ n ∧ n ≤ 64) ∨ ¬ (1 ≤ x ∧ x ≤ 32)
  · by_cases hck : checkT t = 0
    · exact cuts_bad0 x n t h w ht hT hx1 hx2 hn1 hn2 hbd hck
    · exact cuts_bad1 x n t h w ht hT hx1 hx2 hn1 hn2 hbd hck
  have hgd : 0 ≤ n ∧ n ≤ 64 ∧ 1 ≤ x ∧ x ≤ 32 := by omega
  by_cases hck : checkT t = 0
  · cases hdg : digT x.toNat t with
    | none => exact cuts_none x n t h w ht hT hx1 hx2 hn1 hn2 hgd hck hdg
    | some zs =>
      cases hfu : fullT t with
      | false => exact cuts_part x n t h w ht hT hx1 hx2 hn1 hn2 hgd hck zs hdg hfu
      | true => exact cuts_full x n t h w ht hT hx1 hx2 hn1 hn2 hgd hck zs hdg hfu
  · exact cuts_check x n t h w ht hT hx1 hx2 hn1 hn2 hgd hck
end Go.Proofs.YtkcmohmfejmfoaaDoor

/- A tree that is an argument of the program. -/
namespace Go.Proofs.YtkcmohmfejmfoaaDoor
open Go.ChangeShapes Go.WideShapes Go.RowKit Go.Deep
set_option linter.unusedVariables false

set_option maxRecDepth 100000 in
theorem open_tree {H : Type} {enc : TypeId × Value → H} {w : World} {base : Nat} {spare : Nat → Bool} {held : Bool} {r : Reach} {b0 : Nat} {v : Value} {d : DataW H} {p : List MemPlace}
    (hv : Value.okWide Tryd.prog w r b0 25 v) (h : DataW.Trod enc Tryd.prog w base spare held 25 v d p) : ∃ hd t, v = TH.v hd ∧ InTree w hd t := by
  obtain ⟨cs, rfl, hs⟩ := okWide_struct Tryd.underlying25 hv
  obtain ⟨fuel, hf⟩ := h
  obtain ⟨hd, t, e, ht⟩ := trod_tree Tryd.underlying25 (by kernel_rfl) rfl rfl rfl rfl rfl (by kernel_rfl) (by kernel_rfl) (by kernel_rfl) (by kernel_rfl) (by kernel_rfl)
    Tryd.underlying3 Tryd.underlying22 Tryd.underlying22 Tryd.underlying22 Tryd.underlying23 Tryd.underlying5 (by kernel_rfl) fuel _ _ hf
  refine ⟨hd, t, ?_, ht⟩
  have e2 : cs = hd.cells.toArray := by
    simp only [Value.cells] at e
    rw [← e]
  rw [e2]
  rfl
end Go.Proofs.YtkcmohmfejmfoaaDoor
