/- The contract of the document's list of nodes. -/
import Derived.Test.YtpjojhmdgeejmaaRefTree2
import Derived.Test.YtpjojhmdgeejmaaTreeRow
import Derived.Test.YtpjojhmdgeejmaaTreeBox
namespace Go.Proofs.Ytpjojhmdgeejmaa
open Go.RowKit
set_option linter.unusedVariables false

theorem infoTree2 : (Try.prog.info? 33).map (fun i => (i.zero, i.size, i.bytes)) = some (some (.agg #[.int .i64 0, .slice none 0 0, .slice none 0 0, .slice none 0 0, .slice none 0 0]), 5, 104) := by kernel_rfl
theorem count_two {t : Tr} (h2 : t.kids.length = 2) : countT t = 1 + countT (t.kids[0]'(by omega)) + countT (t.kids[1]'(by omega)) := by
  rw [countT_eq, sum_two (by rw [List.length_map]; exact h2), List.getElem_map, List.getElem_map]
  omega
theorem list_len : ∀ t : Tr, formedT t = true → (listT t).length ≤ countT t := by
  intro t
  induction t using Tr.ind with
  | h t ih =>
  intro hf
  obtain ⟨hp, hk⟩ := formed_kids hf
  rcases part_kids hp with ⟨h0, _⟩ | ⟨h2, _⟩
  · rw [listT_0 h0]
    exact Nat.zero_le _
  · rw [listT_2 h2, count_two h2]
    have i0 := ih _ (List.getElem_mem (by omega : 0 < t.kids.length)) (hk 0 (by omega))
    have i1 := ih _ (List.getElem_mem (by omega : 1 < t.kids.length)) (hk 1 (by omega))
    simp only [List.length_append, List.length_cons]
    omega

set_option maxRecDepth 100000 in
set_option maxHeartbeats 4000000 in
theorem refList_any : ∀ (t : Tr) (h : TH) (wb w : World), InTree wb h t → Below wb.heap.size wb w → formedT t = true → countT t ≤ 500 →
    Calls Try.prog 31 #[h.v] w (fun e w' => ∃ v hs, e = .returned v ∧ OwnT w' w.heap.size 33 v hs ∧ Heads wb hs (listT t) ∧ Below w.heap.size w w') := by
  intro t
  induction t using Tr.ind with
  | h t ih =>
  intro h wb w ht hbw hf hcn
  obtain ⟨hpb, hfk⟩ := formed_kids hf
  unfold TH.v
  obtain ⟨H, hp⟩ := ht.parts
  have htl := hp.len
  have htm := Nat.le_trans hp.sl.le hp.sl.max
  have htc := hp.sl.le
  simp only [maxLen] at htm
  have HP := Lib.hid hp
  have HTT := Lib.hid ht
  have IH := Lib.hid ih
  have HBW := Lib.hid hbw
  have hbox := Box.new w 33 h
  have HX := Lib.hid hbox
  obtain ⟨x0, x1, x2, x3, x4⟩ := hbox.cells
  have hw1 : Below w.heap.size w (w.alloc (.cells #[.int .i64 h.k, .slice h.ka h.kn h.kc, .slice h.va h.vn h.vc, .slice h.da h.dn h.dc, .slice h.ta h.tn h.tc] 33)) := (Below.refl _ _).alloc (Nat.le_refl _) _
  have HB := Lib.hid hw1
  clear hbox hw1 hp ht ih hbw
  obtain ⟨ti, hti, htz⟩ := Option.map_eq_some_iff.1 infoTree2
  simp only [Prod.mk.injEq] at htz
  obtain ⟨hz0, hz1, hz2⟩ := htz
  go_enter Try.func31, Try.ntmps31
  rcases part_kids hpb with ⟨h0, _⟩ | ⟨h2, _⟩
  · have htn : ((h.tn : Int) == 0) = true := by simp; omega
    go_wp2_with fail
    go_ret
    exact ⟨_, [], rfl, OwnT.nil _ _ _, by rw [listT_0 h0]; exact Heads.nil wb, HB.out⟩
  · have htn : ((h.tn : Int) == 0) = false := by simp; omega
    have l0 : 0 < t.kids.length := by omega
    have l1 : 1 < t.kids.length := by omega
    have hct := count_two h2
    have ll0 := list_len _ (hfk 0 l0)
    have ll1 := list_len _ (hfk 1 l1)
    have HL := Lib.hid (listT_2 h2)
    have HF := Lib.hid hfk
    have c0 : countT t.kids[0] ≤ 500 := by omega
    have c1 : countT t.kids[1] ≤ 500 := by omega
    have cc : countT t.kids[0] + countT t.kids[1] ≤ 500 := by omega
    clear hfk hf hct
    go_upto_region 3 with fail
    generalize hw0 : w.alloc (.cells #[.int .i64 h.k, .slice h.ka h.kn h.kc, .slice h.va h.vn h.vc, .slice h.da h.dn h.dc, .slice h.ta h.tn h.tc] 33) = w0 at *
    have hs0 : w0.heap.size = w.heap.size + 1 := by rw [← hw0]; simp
    have HS := Lib.hid hs0
    have HBB : Hid (Below wb.heap.size wb w0) := Lib.hid (HBW.out.trans (HB.out.mono HBW.out.size))
    obtain ⟨g, off, hta, hg, -⟩ := (HP.out.below HBB.out).place (by omega)
    have HTA := Lib.hid hta
    rw [hta]
    clear x0 x1 x2 x3 x4 hw0 hs0 hta hg
    have ht1 : (1 : Int) < (h.tn : Int) := by omega
    have ht0 : 0 < h.tn := by omega
    have hb1 : Below w0.heap.size w0 (w0.alloc (.cells #[] 33)) := (Below.refl _ _).alloc (Nat.le_refl _) _
    have x4 := ((HX.out.below hb1 HX.out.lt).cells.2.2.2.2).trans (by rw [HTA.out])
    obtain ⟨k0, k1, k2, k3, k4⟩ := (HP.out.below (HBB.out.trans (hb1.mono HBB.out.size))).kid0 HTA.out ht0
    have HE := Lib.hid (OwnT.empty w0 33 w0.heap.size (Nat.le_refl _))
    have HB1 := Lib.hid hb1
    clear hb1
    go_upto_region 4 with (first
    | (go_at_call 31
       refine (IH.out _ (List.getElem_mem l0) (H 0) wb _ (HP.out.kids 0 l0) (HBB.out.trans (HB1.out.mono HBB.out.size)) (HF.out 0 l0) c0).mono ?_
       rintro _ w2 ⟨v2, hs2, rfl, ho2, hh2, hb2⟩
       have HB2 : Hid (Below w0.heap.size w0 w2) := Lib.hid (HB1.out.trans (hb2.mono HB1.out.size))
       have HE2 := Lib.hid (HE.out.keep hb2)
       have HO2 := Lib.hid ho2
       have hl2 := hh2.1
       have HH2 := Lib.hid hh2
       clear ho2 hh2 hb2)
    | (at_builtin
       refine wpList_append_trees _ rfl (.tmp 8) (.tmp 13) 31 rfl w0.heap.size 33 ti _ 104 Try.underlying31 hti hz0 hz1 hz2 rfl (.slice (some ⟨w0.heap.size, 0, none⟩) 0 0) [] rfl HE2.out _ v2 hs2 rfl HO2.out (by simp only [List.length_nil]; omega) (by omega) HB2.out.size ?_
       intro v3 w3 ho3 hg3 _
       have HB3 : Hid (Below w0.heap.size w0 w3) := Lib.hid (HB2.out.grown hg3 HB2.out.size (fun j hj => by have hj' : some w0.heap.size = some j := hj; injection hj' with hj'; omega))
       have HO3 := Lib.hid ho3
       clear ho3 hg3))
    clear x4 k0 k1 k2 k3 k4 HE HE2 HO2
    have hx3 := HX.out.below HB3.out HX.out.lt
    obtain ⟨x0, x1, x2, x3, x4⟩ := hx3.cells
    have hb4 : Below w3.heap.size w3 (w3.alloc (.cells #[.int .i64 h.k, .slice h.ka h.kn h.kc, .slice h.va h.vn h.vc, .slice h.da h.dn h.dc, .slice h.ta h.tn h.tc] 33)) := (Below.refl _ _).alloc (Nat.le_refl _) _
    have HO4 := Lib.hid (HO3.out.keep hb4)
    have HN4 := Lib.hid (OwnT.one (Box.new w3 33 h) (Nat.le_refl _))
    have HB4 : Hid (Below w0.heap.size w0 (w3.alloc (.cells #[.int .i64 h.k, .slice h.ka h.kn h.kc, .slice h.va h.vn h.vc, .slice h.da h.dn h.dc, .slice h.ta h.tn h.tc] 33))) := Lib.hid (HB3.out.trans (hb4.mono HB3.out.size))
    clear hx3 hb4
    rw [HTA.out] at x4 HO4 HN4 HB4
    go_upto_region 5 with (first
    | (at_builtin
       refine wpList_append_trees _ rfl (.tmp 15) (.tmp 17) 31 rfl w0.heap.size 33 ti _ 104 Try.underlying31 hti hz0 hz1 hz2 rfl v3 ([] ++ hs2) rfl HO4.out _ (.slice (some ⟨w3.heap.size, 0, none⟩) 1 1) [h] rfl HN4.out (by simp only [List.nil_append, List.length_cons, List.length_nil]; omega) (by omega) HB4.out.size ?_
       intro v5 w5 ho5 hg5 _
       have HB5 : Hid (Below w0.heap.size w0 w5) := Lib.hid (HB4.out.grown hg5 HB4.out.size (fun j hj => (HO4.out.lt j hj).1))
       have HO5 := Lib.hid ho5
       clear ho5 hg5))
    clear x0 x1 x2 x3 x4 HO3 HO4 HN4
    have x4 := ((HX.out.below HB5.out HX.out.lt).cells.2.2.2.2).trans (by rw [HTA.out])
    obtain ⟨k0, k1, k2, k3, k4⟩ := (HP.out.below (HBB.out.trans (HB5.out.mono HBB.out.size))).kid1 HTA.out (by omega)
    go_wp2_with (first
    | (go_at_call 31
       refine (IH.out _ (List.getElem_mem l1) (H 1) wb _ (HP.out.kids 1 l1) (HBB.out.trans (HB5.out.mono HBB.out.size)) (HF.out 1 l1) c1).mono ?_
       rintro _ w6 ⟨v6, hs6, rfl, ho6, hh6, hb6⟩
       have HB6 : Hid (Below w0.heap.size w0 w6) := Lib.hid (HB5.out.trans (hb6.mono HB5.out.size))
       have HE6 := Lib.hid (HO5.out.keep hb6)
       have HO6 := Lib.hid ho6
       have hl6 := hh6.1
       have HH6 := Lib.hid hh6
       clear ho6 hh6 hb6)
    | (at_builtin
       refine wpList_append_trees _ rfl (.tmp 19) (.tmp 24) 31 rfl w0.heap.size 33 ti _ 104 Try.underlying31 hti hz0 hz1 hz2 rfl v5 ([] ++ hs2 ++ [h]) rfl HE6.out _ v6 hs6 rfl HO6.out (by simp only [List.nil_append, List.length_append, List.length_cons, List.length_nil]; omega) (by omega) HB6.out.size ?_
       intro v7 w7 ho7 hg7 _
       have HB7 : Hid (Below w0.heap.size w0 w7) := Lib.hid (HB6.out.grown hg7 HB6.out.size (fun j hj => (HE6.out.lt j hj).1))
       have HO7 := Lib.hid ho7
       clear ho7 hg7))
    go_ret
    refine ⟨v7, [] ++ hs2 ++ [h] ++ hs6, rfl, HO7.out.weak (by rw [HS.out]; omega), ?_, HB.out.trans (HB7.out.mono (by rw [HS.out]; omega))⟩
    rw [HL.out, List.nil_append, List.append_assoc]
    exact HH2.out.app ((Heads.one HTT.out).app HH6.out)
end Go.Proofs.Ytpjojhmdgeejmaa
