/- The contracts of the document's checks of trees: Check, Full, Depth. -/
import Derived.Test.YtpjojhmdgeejmaaRefTree
namespace Go.Proofs.Ytpjojhmdgeejmaa
open Go.RowKit
set_option linter.unusedVariables false

set_option maxRecDepth 100000 in
set_option maxHeartbeats 4000000 in
theorem refCheck_any (t : Tr) (h : TH) (w : World) (ht : InTree w h t) :
    Calls Try.prog 29 #[h.v] w (Says w (.int .i64 (checkT t : Nat))) := by
  unfold TH.v
  have hbox := Box.new w 33 h
  have HX := Lib.hid hbox
  have HT := Lib.hid ht
  obtain ⟨x0, x1, x2, x3, x4⟩ := hbox.cells
  clear hbox ht
  go_enter Try.func29, Try.ntmps29
  go_upto_region 2 with (first
    | (go_at_call 41
       refine (refDeep_any t h 64 _ ?_ (by omega) (by omega)).mono ?_
       · exact HT.out.lower ((Below.refl _ _).alloc (Nat.le_refl _) _)
       rintro _ w1 ⟨rfl, hb1⟩
       have HB1 : Hid (Below w.heap.size w w1) := Lib.hid (((Below.refl w.heap.size w).alloc (Nat.le_refl _) _).trans (hb1.mono (by simp)))
       obtain ⟨y0, y1, y2, y3, y4⟩ := (HX.out.below hb1 HX.out.lt).cells
       generalize hr : deepT t 64 = r
       have HR := Lib.hid hr
       clear hb1 hr x0 x1 x2 x3 x4))
  cases r
  · go_upto_region 5 with (first
      | (go_at_call 42
         refine (refFormed_any t h _ ?_).mono ?_
         · exact HT.out.lower HB1.out
         rintro _ w2 ⟨rfl, hb2⟩
         have HB2 : Hid (Below w.heap.size w w2) := Lib.hid (HB1.out.trans (hb2.mono HB1.out.size))
         generalize hq : formedT t = q
         have HQ := Lib.hid hq
         clear hb2 hq y0 y1 y2 y3 y4))
    cases q
    · go_wp2_with fail
      go_ret
      have e : checkT t = 3 := by unfold checkT; rw [HR.out, HQ.out]; rfl
      exact ⟨by rw [e]; rfl, HB2.out⟩
    · go_wp2_with fail
      go_ret
      have e : checkT t = 0 := by unfold checkT; rw [HR.out, HQ.out]; rfl
      exact ⟨by rw [e]; rfl, HB2.out⟩
  · go_wp2_with fail
    go_ret
    have e : checkT t = 5 := by unfold checkT; rw [HR.out]; rfl
    exact ⟨by rw [e]; rfl, HB1.out⟩
set_option maxRecDepth 100000 in
set_option maxHeartbeats 4000000 in
theorem refFull_any : ∀ (t : Tr) (h : TH) (w : World), InTree w h t →
    Calls Try.prog 30 #[h.v] w (Says w (.bool (fullT t))) := by
  intro t
  induction t using Tr.ind with
  | h t ih =>
  intro h w ht
  unfold TH.v
  obtain ⟨H, hp⟩ := ht.parts
  have hkl := hp.key.len
  have hvl := hp.val.len
  have hdl := hp.dig.len
  have htl := hp.len
  have HK := Lib.hid hp.hk
  have htm := Nat.le_trans hp.sl.le hp.sl.max
  have htc := hp.sl.le
  simp only [maxLen] at htm
  have HP := Lib.hid hp
  have IH := Lib.hid ih
  clear hp ht ih
  have hbox := Box.new w 33 h
  have HX := Lib.hid hbox
  obtain ⟨x0, x1, x2, x3, x4⟩ := hbox.cells
  clear hbox
  have hw1 : Below w.heap.size w (w.alloc (.cells #[.int .i64 h.k, .slice h.ka h.kn h.kc, .slice h.va h.vn h.vc, .slice h.da h.dn h.dc, .slice h.ta h.tn h.tc] 33)) := (Below.refl _ _).alloc (Nat.le_refl _) _
  have HB := Lib.hid hw1
  clear hw1
  go_enter Try.func30, Try.ntmps30
  by_cases hk1 : 1 < h.k
  · go_wp2_with fail
    go_ret
    have hd : fullT t = false := by
      rw [fullT_eq, ← HK.out]
      have : decide (h.k ≤ 1) = false := by simp; omega
      rw [this]
      rfl
    exact ⟨by rw [hd]; rfl, HB.out⟩
  have HK1 : Hid (decide (t.k ≤ 1) = true) := Lib.hid (by rw [← HK.out]; simp; omega)
  go_wp2_with fail
  clear x0 x1 x2 x3 x4
  go_loopw [3] (fun s3 wx => ∃ i : Nat, i ≤ h.tn ∧ s3 = .int .i64 i ∧ Box wx 33 w.heap.size h ∧ Below w.heap.size w wx ∧ (t.kids.take i).all fullT = true) (fun s3 _ => h.tn - (intOf s3).toNat)
  case atStart => exact ⟨0, by omega, rfl, HX.out, HB.out, by simp⟩
  case round =>
    clear HX HB
    obtain ⟨i, hi, rfl, hbx, hbw, hany⟩ := hrel
    have hx4 := hbx.cells.2.2.2.2
    have HBX := Lib.hid hbx
    have HBW := Lib.hid hbw
    have HA := Lib.hid hany
    clear hbx hbw hany
    by_cases hlt : i < h.tn
    · have q1 : (i : Int) < (h.tn : Int) := by omega
      obtain ⟨g, off, hta, hg, hcs⟩ := (HP.out.below HBW.out).place (by omega)
      rw [hta] at hx4
      obtain ⟨k0, k1, k2, k3, k4⟩ := hcs i hlt
      have him : i < t.kids.length := by omega
      clear hcs hta
      go_upto_region 7 with (first
        | (go_at_call 30
           refine (IH.out _ (List.getElem_mem him) (H i) _ ((HP.out.below HBW.out).kids i him)).mono ?_
           rintro _ w1 ⟨rfl, hb1⟩
           have HB1 : Hid (Below w.heap.size w w1) := Lib.hid (HBW.out.trans (hb1.mono HBW.out.size))
           have HX1 := Lib.hid (HBX.out.below hb1 HBX.out.lt)
           generalize hr : fullT t.kids[i] = r
           have HR := Lib.hid hr
           clear hb1 hr))
      clear hx4 k0 k1 k2 k3 k4
      cases r
      · go_wp2_with fail
        go_ret
        have hd : fullT t = false := by rw [fullT_eq, all_not i him HR.out, Bool.and_false]
        exact ⟨by rw [hd]; rfl, HB1.out⟩
      · go_wp2_with fail
        exact ⟨⟨i + 1, by omega, by go_num, HX1.out, HB1.out, by rw [all_take _ _ i him, HA.out, HR.out]; rfl⟩, by simp [intOf]; omega⟩
    · obtain rfl : i = h.tn := by omega
      have q1 : ¬ (h.tn : Int) < (h.tn : Int) := by omega
      go_wp2_with fail
      go_ret
      have hA := HA.out
      rw [List.take_of_length_le (by omega)] at hA
      have hd : fullT t = true := by rw [fullT_eq, HK1.out, hA]; rfl
      exact ⟨by rw [hd]; rfl, HBW.out⟩
theorem formed_kids {t : Tr} (hf : formedT t = true) : partB t = true ∧ ∀ i (hi : i < t.kids.length), formedT t.kids[i] = true := by
  rw [formedT_eq, Bool.and_eq_true, List.all_eq_true] at hf
  exact ⟨hf.1, fun i hi => hf.2 _ (List.getElem_mem hi)⟩
theorem part_kids {t : Tr} (hp : partB t = true) : (t.kids.length = 0 ∧ (t.k = 0 ∨ t.k = 3)) ∨ (t.kids.length = 2 ∧ (t.k = 1 ∨ t.k = 2)) := by
  unfold partB at hp
  split at hp
  · simp only [Bool.and_eq_true, decide_eq_true_eq] at hp; omega
  · split at hp
    · simp only [Bool.and_eq_true, decide_eq_true_eq] at hp; omega
    · split at hp
      · simp only [Bool.and_eq_true, decide_eq_true_eq] at hp; omega
      · split at hp
        · simp only [Bool.and_eq_true, decide_eq_true_eq] at hp; omega
        · cases hp
theorem deep_kids {t : Tr} {b : Int} (hd : deepT t b = false) (h0 : 0 < t.kids.length) : b ≠ 0 ∧ ∀ i (hi : i < t.kids.length), deepT t.kids[i] (b - 1) = false := by
  rw [deepT_eq, Bool.or_eq_false_iff] at hd
  have hn : isNode t = true := by unfold isNode; simp [h0]
  rw [hn, Bool.true_and] at hd
  exact ⟨by simpa using hd.1, fun i hi => by
    have := hd.2
    rw [List.any_eq_false] at this
    simpa using this _ (List.getElem_mem hi)⟩
theorem depth_two {t : Tr} (h2 : t.kids.length = 2) : depthT t = max (depthT (t.kids[0]'(by omega))) (depthT (t.kids[1]'(by omega))) + 1 := by
  rw [depthT_eq, if_neg (by omega)]
  simp [List.getD, h2]
theorem depth_le : ∀ (t : Tr) (b : Int), formedT t = true → deepT t b = false → 0 ≤ b → (depthT t : Int) ≤ b := by
  intro t
  induction t using Tr.ind with
  | h t ih =>
  intro b hf hd hb
  obtain ⟨hp, hk⟩ := formed_kids hf
  rcases part_kids hp with ⟨h0, _⟩ | ⟨h2, _⟩
  · rw [depthT_eq, if_pos h0]
    exact hb
  · obtain ⟨hb0, hdk⟩ := deep_kids hd (by omega)
    have i0 := ih _ (List.getElem_mem (by omega : 0 < t.kids.length)) (b - 1) (hk 0 (by omega)) (hdk 0 (by omega)) (by omega)
    have i1 := ih _ (List.getElem_mem (by omega : 1 < t.kids.length)) (b - 1) (hk 1 (by omega)) (hdk 1 (by omega)) (by omega)
    rw [depth_two h2]
    omega
set_option maxRecDepth 100000 in
set_option maxHeartbeats 4000000 in
theorem refDepth_any : ∀ (t : Tr) (h : TH) (b : Int) (w : World), InTree w h t → formedT t = true → deepT t b = false → 0 ≤ b → b ≤ 64 →
    Calls Try.prog 32 #[h.v] w (Says w (.int .i64 (depthT t))) := by
  intro t
  induction t using Tr.ind with
  | h t ih =>
  intro h b w ht hf hd hb0 hb1
  obtain ⟨hpb, hfk⟩ := formed_kids hf
  unfold TH.v
  obtain ⟨H, hp⟩ := ht.parts
  have hkl := hp.key.len
  have hvl := hp.val.len
  have hdl := hp.dig.len
  have htl := hp.len
  have HK := Lib.hid hp.hk
  have htm := Nat.le_trans hp.sl.le hp.sl.max
  have htc := hp.sl.le
  simp only [maxLen] at htm
  have HP := Lib.hid hp
  have IH := Lib.hid ih
  clear hp ht ih
  have hbox := Box.new w 33 h
  have HX := Lib.hid hbox
  obtain ⟨x0, x1, x2, x3, x4⟩ := hbox.cells
  clear hbox
  have hw1 : Below w.heap.size w (w.alloc (.cells #[.int .i64 h.k, .slice h.ka h.kn h.kc, .slice h.va h.vn h.vc, .slice h.da h.dn h.dc, .slice h.ta h.tn h.tc] 33)) := (Below.refl _ _).alloc (Nat.le_refl _) _
  have HB := Lib.hid hw1
  clear hw1
  rcases part_kids hpb with ⟨h0, _⟩ | ⟨h2, _⟩
  · have htn : ((h.tn : Int) == 0) = true := by simp; omega
    go_enter Try.func32, Try.ntmps32
    go_wp2_with fail
    go_ret
    have e : depthT t = 0 := by rw [depthT_eq, if_pos h0]
    exact ⟨by rw [e]; rfl, HB.out⟩
  · obtain ⟨hbn, hdk⟩ := deep_kids hd (by omega)
    have htn : ((h.tn : Int) == 0) = false := by simp; omega
    have l0 : 0 < t.kids.length := by omega
    have l1 : 1 < t.kids.length := by omega
    have e := depth_two h2
    have b0 := depth_le _ (b - 1) (hfk 0 l0) (hdk 0 l0) (by omega)
    have b1 := depth_le _ (b - 1) (hfk 1 l1) (hdk 1 l1) (by omega)
    have HE := Lib.hid (And.intro e (And.intro hfk hdk))
    clear e hfk hdk hf hd
    go_enter Try.func32, Try.ntmps32
    go_upto_region 3 with fail
    generalize w.alloc (.cells #[.int .i64 h.k, .slice h.ka h.kn h.kc, .slice h.va h.vn h.vc, .slice h.da h.dn h.dc, .slice h.ta h.tn h.tc] 33) = w0 at *
    obtain ⟨g, off, hta, hg, hcs⟩ := (HP.out.below HB.out).place (by omega)
    have ht1 : (1 : Int) < (h.tn : Int) := by omega
    have ht0 : 0 < h.tn := by omega
    rw [hta] at x4
    obtain ⟨k0, k1, k2, k3, k4⟩ := hcs 0 (by omega)
    simp only [Nat.zero_mul, Nat.add_zero] at k0 k1 k2 k3 k4
    clear hcs
    go_upto_region 4 with (first
        | (go_at_call 32
           refine (IH.out _ (List.getElem_mem l0) (H 0) (b - 1) _ ((HP.out.below HB.out).kids 0 l0) (HE.out.2.1 0 l0) (HE.out.2.2 0 l0) (by omega) (by omega)).mono ?_
           rintro _ w1 ⟨rfl, hb1⟩
           have HB1 : Hid (Below w.heap.size w w1) := Lib.hid (HB.out.trans (hb1.mono HB.out.size))
           have hx1 := HX.out.below hb1 HX.out.lt
           have y4 := hx1.cells.2.2.2.2
           clear hb1 hx1))
    clear x0 x1 x2 x3 x4 k0 k1 k2 k3 k4
    obtain ⟨g', off', hta', hg', hcs'⟩ := (HP.out.below HB1.out).place (by omega)
    rw [hta'] at y4
    obtain ⟨k0, k1, k2, k3, k4⟩ := hcs' 1 (by omega)
    simp only [Nat.one_mul] at k0 k1 k2 k3 k4
    clear hcs' hta hta'
    go_upto_region 5 with (first
        | (go_at_call 32
           refine (IH.out _ (List.getElem_mem l1) (H 1) (b - 1) _ ((HP.out.below HB1.out).kids 1 l1) (HE.out.2.1 1 l1) (HE.out.2.2 1 l1) (by omega) (by omega)).mono ?_
           rintro _ w2 ⟨rfl, hb2⟩
           have HB2 : Hid (Below w.heap.size w w2) := Lib.hid (HB1.out.trans (hb2.mono HB1.out.size))
           clear hb2))
    have he := HE.out.1
    generalize depthT t.kids[0] = d0 at *
    generalize depthT t.kids[1] = d1 at *
    have HE2 := Lib.hid he
    clear he HE
    by_cases hc : (d1 : Int) < (d0 : Int)
    · go_wp2_with fail
      go_ret
      have e : (depthT t : Int) = (d0 : Int) + 1 := by rw [HE2.out]; omega
      exact ⟨by rw [e]; rfl, HB2.out⟩
    · go_wp2_with fail
      go_ret
      have e : (depthT t : Int) = (d1 : Int) + 1 := by rw [HE2.out]; omega
      exact ⟨by rw [e]; rfl, HB2.out⟩
end Go.Proofs.Ytpjojhmdgeejmaa
