/- The contracts of the document's checks of trees. -/
import Derived.Test.YtpjojhmdgeejmaaTreeMath
import Derived.Test.YtpjojhmdgeejmaaInfo
import Derived.Deep.CutBlock
namespace Go.Proofs.Ytpjojhmdgeejmaa
open Go.RowKit
set_option linter.unusedVariables false

/-- It answers v; what was there stays. -/
def Says (w : World) (v : Value) (e : Ending) (w' : World) : Prop := e = .returned v ∧ Below w.heap.size w w'

theorem any_take {α : Type} (l : List α) (p : α → Bool) (i : Nat) (hi : i < l.length) : (l.take (i + 1)).any p = ((l.take i).any p || p l[i]) := by
  rw [List.take_succ_eq_append_getElem hi, List.any_append]
  simp
theorem all_take {α : Type} (l : List α) (p : α → Bool) (i : Nat) (hi : i < l.length) : (l.take (i + 1)).all p = ((l.take i).all p && p l[i]) := by
  rw [List.take_succ_eq_append_getElem hi, List.all_append]
  simp
theorem any_at {α : Type} {l : List α} {p : α → Bool} (i : Nat) (hi : i < l.length) (h : p l[i] = true) : l.any p = true := List.any_eq_true.mpr ⟨_, List.getElem_mem hi, h⟩
theorem all_not {α : Type} {l : List α} {p : α → Bool} (i : Nat) (hi : i < l.length) (h : p l[i] = false) : l.all p = false := by
  rw [Bool.eq_false_iff]
  intro hc
  have := List.all_eq_true.mp hc _ (List.getElem_mem hi)
  rw [this] at h
  cases h
set_option maxRecDepth 100000 in
set_option maxHeartbeats 4000000 in
theorem refDeep_any : ∀ (t : Tr) (h : TH) (b : Int) (w : World), InTree w h t → 0 ≤ b → b ≤ 64 →
    Calls Try.prog 41 #[h.v, .int .i64 b] w (Says w (.bool (deepT t b))) := by
  intro t
  induction t using Tr.ind with
  | h t ih =>
  intro h b w ht hb0 hb1
  unfold TH.v
  obtain ⟨H, hp⟩ := ht.parts
  have hkl := hp.key.len
  have hvl := hp.val.len
  have hdl := hp.dig.len
  have htl := hp.len
  have HK := Lib.hid hp.hk
  have htm := Nat.le_trans hp.sl.le hp.sl.max
  have htc := hp.sl.le
  simp only [maxLen] at htm
  have HP := Lib.hid hp
  have IH := Lib.hid ih
  clear hp ht ih
  have hbox := Box.new w 33 h
  have HX := Lib.hid hbox
  obtain ⟨x0, x1, x2, x3, x4⟩ := hbox.cells
  clear hbox
  have hw1 : Below w.heap.size w (w.alloc (.cells #[.int .i64 h.k, .slice h.ka h.kn h.kc, .slice h.va h.vn h.vc, .slice h.da h.dn h.dc, .slice h.ta h.tn h.tc] 33)) := (Below.refl _ _).alloc (Nat.le_refl _) _
  have HB := Lib.hid hw1
  clear hw1
  go_enter Try.func41, Try.ntmps41
  go_upto_region 1 with fail
  go_cut [5] (fun s5 wx => s5 = .bool (isNode t) ∧ Box wx 33 w.heap.size h ∧ Below w.heap.size w wx)
  case first =>
    have hk := HK.out
    have hin : isNode t = (h.k == 1 || (h.k == 2 || decide (0 < h.tn))) := by unfold isNode; rw [hk, htl]
    have HI := Lib.hid hin
    clear hk hin
    cases hb1 : (h.k == 1)
    · cases hb2 : (h.k == 2)
      · go_wp2_with fail
        go_meet
        refine ⟨?_, HX.out, HB.out⟩
        rw [HI.out, hb1, hb2]
        simp
      · go_wp2_with fail
        go_meet
        refine ⟨?_, HX.out, HB.out⟩
        rw [HI.out, hb1, hb2]
        simp
    · go_wp2_with fail
      go_meet
      refine ⟨?_, HX.out, HB.out⟩
      rw [HI.out, hb1]
      simp
  case rest =>
    obtain ⟨rfl, hbx, hbw⟩ := hcut
    clear x0 x1 x2 x3 x4 HX HB
    have HBX := Lib.hid hbx
    have HBW := Lib.hid hbw
    have hx4 := hbx.cells.2.2.2.2
    clear hbx hbw
    by_cases hn : isNode t = true
    · by_cases hb : b = 0
      · subst hb
        go_wp2_with fail
        go_ret
        have hd : deepT t 0 = true := by rw [deepT_eq, hn]; rfl
        exact ⟨by rw [hd]; rfl, HBW.out⟩
      · have HNB : Hid (0 < h.tn → 1 ≤ b) := Lib.hid (by omega)
        have HC : Hid ((isNode t && b == 0) = false) := Lib.hid (by simp [hb])
        have hbb : (b == 0) = false := by simp [hb]
        go_wp2_with fail
        clear hx4
        go_loopw [6] (fun s6 wx => ∃ i : Nat, i ≤ h.tn ∧ s6 = .int .i64 i ∧ Box wx 33 w.heap.size h ∧ Below w.heap.size w wx ∧ (t.kids.take i).any (fun x => deepT x (b - 1)) = false) (fun s6 _ => h.tn - (intOf s6).toNat)
        case atStart => exact ⟨0, by omega, rfl, HBX.out, HBW.out, by simp⟩
        case round =>
          clear HBX HBW
          obtain ⟨i, hi, rfl, hbx, hbw, hany⟩ := hrel
          have hx4 := hbx.cells.2.2.2.2
          have HBX := Lib.hid hbx
          have HBW := Lib.hid hbw
          have HA := Lib.hid hany
          clear hbx hbw hany
          by_cases hlt : i < h.tn
          · have q1 : (i : Int) < (h.tn : Int) := by omega
            have hb1' := HNB.out (by omega)
            obtain ⟨g, off, hta, hg, hcs⟩ := (HP.out.below HBW.out).place (by omega)
            rw [hta] at hx4
            obtain ⟨k0, k1, k2, k3, k4⟩ := hcs i hlt
            have him : i < t.kids.length := by omega
            clear hcs hta
            go_upto_region 8 with (first
              | (go_at_call 41
                 refine (IH.out _ (List.getElem_mem him) (H i) (b - 1) _ ((HP.out.below HBW.out).kids i him) (by omega) (by omega)).mono ?_
                 rintro _ w1 ⟨rfl, hb1⟩
                 have HB1 : Hid (Below w.heap.size w w1) := Lib.hid (HBW.out.trans (hb1.mono HBW.out.size))
                 have HX1 := Lib.hid (HBX.out.below hb1 HBX.out.lt)
                 generalize hr : deepT t.kids[i] (b - 1) = r
                 have HR := Lib.hid hr
                 clear hb1 hr))
            clear hx4 k0 k1 k2 k3 k4
            cases r
            · go_wp2_with fail
              exact ⟨⟨i + 1, by omega, by go_num, HX1.out, HB1.out, by rw [any_take _ _ i him, HA.out, HR.out]; rfl⟩, by simp [intOf]; omega⟩
            · go_wp2_with fail
              go_ret
              have hd : deepT t b = true := by rw [deepT_eq, any_at i him HR.out, Bool.or_true]
              exact ⟨by rw [hd]; rfl, HB1.out⟩
          · obtain rfl : i = h.tn := by omega
            have q1 : ¬ (h.tn : Int) < (h.tn : Int) := by omega
            go_wp2_with fail
            go_ret
            have hA := HA.out
            rw [List.take_of_length_le (by omega)] at hA
            have hd : deepT t b = false := by rw [deepT_eq, HC.out, hA]; rfl
            exact ⟨by rw [hd]; rfl, HBW.out⟩
    · have hn2 : isNode t = false := by simpa using hn
      have HNB : Hid (0 < h.tn → 1 ≤ b) := Lib.hid (fun h0 => by
        exfalso
        apply hn
        unfold isNode
        rw [htl]
        simp [h0])
      have HC : Hid ((isNode t && b == 0) = false) := Lib.hid (by simp [hn2])
      clear hn
      go_wp2_with fail
      clear hx4
      go_loopw [6] (fun s6 wx => ∃ i : Nat, i ≤ h.tn ∧ s6 = .int .i64 i ∧ Box wx 33 w.heap.size h ∧ Below w.heap.size w wx ∧ (t.kids.take i).any (fun x => deepT x (b - 1)) = false) (fun s6 _ => h.tn - (intOf s6).toNat)
      case atStart => exact ⟨0, by omega, rfl, HBX.out, HBW.out, by simp⟩
      case round =>
        clear HBX HBW
        obtain ⟨i, hi, rfl, hbx, hbw, hany⟩ := hrel
        have hx4 := hbx.cells.2.2.2.2
        have HBX := Lib.hid hbx
        have HBW := Lib.hid hbw
        have HA := Lib.hid hany
        clear hbx hbw hany
        by_cases hlt : i < h.tn
        · have q1 : (i : Int) < (h.tn : Int) := by omega
          have hb1' := HNB.out (by omega)
          obtain ⟨g, off, hta, hg, hcs⟩ := (HP.out.below HBW.out).place (by omega)
          rw [hta] at hx4
          obtain ⟨k0, k1, k2, k3, k4⟩ := hcs i hlt
          have him : i < t.kids.length := by omega
          clear hcs hta
          go_upto_region 8 with (first
            | (go_at_call 41
               refine (IH.out _ (List.getElem_mem him) (H i) (b - 1) _ ((HP.out.below HBW.out).kids i him) (by omega) (by omega)).mono ?_
               rintro _ w1 ⟨rfl, hb1⟩
               have HB1 : Hid (Below w.heap.size w w1) := Lib.hid (HBW.out.trans (hb1.mono HBW.out.size))
               have HX1 := Lib.hid (HBX.out.below hb1 HBX.out.lt)
               generalize hr : deepT t.kids[i] (b - 1) = r
               have HR := Lib.hid hr
               clear hb1 hr))
          clear hx4 k0 k1 k2 k3 k4
          cases r
          · go_wp2_with fail
            exact ⟨⟨i + 1, by omega, by go_num, HX1.out, HB1.out, by rw [any_take _ _ i him, HA.out, HR.out]; rfl⟩, by simp [intOf]; omega⟩
          · go_wp2_with fail
            go_ret
            have hd : deepT t b = true := by rw [deepT_eq, any_at i him HR.out, Bool.or_true]
            exact ⟨by rw [hd]; rfl, HB1.out⟩
        · obtain rfl : i = h.tn := by omega
          have q1 : ¬ (h.tn : Int) < (h.tn : Int) := by omega
          go_wp2_with fail
          go_ret
          have hA := HA.out
          rw [List.take_of_length_le (by omega)] at hA
          have hd : deepT t b = false := by rw [deepT_eq, HC.out, hA]; rfl
          exact ⟨by rw [hd]; rfl, HBW.out⟩
set_option maxRecDepth 100000 in
set_option maxHeartbeats 4000000 in
theorem partB_head {w : World} {h : TH} {t : Tr} {H : Nat → TH} (hp : TreeAt w h t H) : partB t = (if h.k == 0 then (((h.kn : Int) == 0) && (((h.vn : Int) == 0) && (((h.dn : Int) == 0) && ((h.tn : Int) == 0)))) else if h.k == 1 then (decide ((h.kn : Int) ≤ 80) && (decide ((h.vn : Int) ≤ 1024) && (((h.dn : Int) == 0) && ((h.tn : Int) == 2)))) else if h.k == 2 then (decide ((h.kn : Int) ≤ 80) && (((h.vn : Int) == 0) && ((h.tn : Int) == 2))) else if h.k == 3 then (((h.kn : Int) == 0) && (((h.vn : Int) == 0) && ((h.tn : Int) == 0))) else false) := by
  have e1 := hp.hk
  have e2 := hp.key.len
  have e3 := hp.val.len
  have e4 := hp.dig.len
  have e5 := hp.len
  unfold partB
  rw [← e1, e2, e3, e4, e5]
  have q : ∀ (x : Nat) (y : Nat), decide (x = y) = ((x : Int) == (y : Int)) := fun x y => by rw [Bool.eq_iff_iff]; simp; omega
  have q2 : ∀ (x : Nat) (y : Nat), decide (x ≤ y) = decide ((x : Int) ≤ (y : Int)) := fun x y => by rw [Bool.eq_iff_iff]; simp
  rw [q, q, q, q, q, q2, q2]
  simp only [beq_iff_eq]
  rfl
set_option maxRecDepth 100000 in
set_option maxHeartbeats 4000000 in
theorem refFormed_any : ∀ (t : Tr) (h : TH) (w : World), InTree w h t →
    Calls Try.prog 42 #[h.v] w (Says w (.bool (formedT t))) := by
  intro t
  induction t using Tr.ind with
  | h t ih =>
  intro h w ht
  unfold TH.v
  obtain ⟨H, hp⟩ := ht.parts
  have hkl := hp.key.len
  have hvl := hp.val.len
  have hdl := hp.dig.len
  have htl := hp.len
  have HK := Lib.hid hp.hk
  have htm := Nat.le_trans hp.sl.le hp.sl.max
  have htc := hp.sl.le
  simp only [maxLen] at htm
  have HP := Lib.hid hp
  have IH := Lib.hid ih
  clear hp ht ih
  have hbox := Box.new w 33 h
  have HX := Lib.hid hbox
  obtain ⟨x0, x1, x2, x3, x4⟩ := hbox.cells
  clear hbox
  have hw1 : Below w.heap.size w (w.alloc (.cells #[.int .i64 h.k, .slice h.ka h.kn h.kc, .slice h.va h.vn h.vc, .slice h.da h.dn h.dc, .slice h.ta h.tn h.tc] 33)) := (Below.refl _ _).alloc (Nat.le_refl _) _
  have HB := Lib.hid hw1
  clear hw1
  have HI := Lib.hid (partB_head HP.out)
  go_enter Try.func42, Try.ntmps42
  go_upto_block 0 with fail
  go_cut [7] (fun s7 wx => s7 = .bool (partB t) ∧ Box wx 33 w.heap.size h ∧ Below w.heap.size w wx)
  case first =>
    cases f0 : (h.k == 0)
    · cases f1 : (h.k == 1)
      · cases f2 : (h.k == 2)
        · cases f3 : (h.k == 3)
          · go_wp2_with fail
            go_meet
            refine ⟨?_, HX.out, HB.out⟩
            rw [HI.out]
            simp [f0, f1, f2, f3]
          · cases f4 : ((h.kn : Int) == 0)
            · go_wp2_with fail
              go_meet
              refine ⟨?_, HX.out, HB.out⟩
              rw [HI.out]
              simp [f0, f1, f2, f3, f4]
            · cases f5 : ((h.vn : Int) == 0)
              · go_wp2_with fail
                go_meet
                refine ⟨?_, HX.out, HB.out⟩
                rw [HI.out]
                simp [f0, f1, f2, f3, f5]
              · cases f6 : ((h.tn : Int) == 0)
                · go_wp2_with fail
                  go_meet
                  refine ⟨?_, HX.out, HB.out⟩
                  rw [HI.out]
                  simp [f0, f1, f2, f3, f6]
                · go_wp2_with fail
                  go_meet
                  refine ⟨?_, HX.out, HB.out⟩
                  rw [HI.out]
                  simp [f0, f1, f2, f3, f4, f5, f6]
        · by_cases f3 : (h.kn : Int) ≤ 80
          · cases f4 : ((h.vn : Int) == 0)
            · go_wp2_with fail
              go_meet
              refine ⟨?_, HX.out, HB.out⟩
              rw [HI.out]
              simp [f0, f1, f2, f4]
            · cases f5 : ((h.tn : Int) == 2)
              · go_wp2_with fail
                go_meet
                refine ⟨?_, HX.out, HB.out⟩
                rw [HI.out]
                simp [f0, f1, f2, f5]
              · go_wp2_with fail
                go_meet
                refine ⟨?_, HX.out, HB.out⟩
                rw [HI.out]
                simp [f0, f1, f2, f3, f4, f5]
          · go_wp2_with fail
            go_meet
            refine ⟨?_, HX.out, HB.out⟩
            rw [HI.out]
            simp [f0, f1, f2, show ¬ (h.kn : Int) ≤ 80 by omega]
      · by_cases f2 : (h.kn : Int) ≤ 80
        · by_cases f3 : (h.vn : Int) ≤ 1024
          · cases f4 : ((h.dn : Int) == 0)
            · go_wp2_with fail
              go_meet
              refine ⟨?_, HX.out, HB.out⟩
              rw [HI.out]
              simp [f0, f1, f4]
            · cases f5 : ((h.tn : Int) == 2)
              · go_wp2_with fail
                go_meet
                refine ⟨?_, HX.out, HB.out⟩
                rw [HI.out]
                simp [f0, f1, f5]
              · go_wp2_with fail
                go_meet
                refine ⟨?_, HX.out, HB.out⟩
                rw [HI.out]
                simp [f0, f1, f2, f3, f4, f5]
          · go_wp2_with fail
            go_meet
            refine ⟨?_, HX.out, HB.out⟩
            rw [HI.out]
            simp [f0, f1, show ¬ (h.vn : Int) ≤ 1024 by omega]
        · go_wp2_with fail
          go_meet
          refine ⟨?_, HX.out, HB.out⟩
          rw [HI.out]
          simp [f0, f1, show ¬ (h.kn : Int) ≤ 80 by omega]
    · cases f1 : ((h.kn : Int) == 0)
      · go_wp2_with fail
        go_meet
        refine ⟨?_, HX.out, HB.out⟩
        rw [HI.out]
        simp [f0, f1]
      · cases f2 : ((h.vn : Int) == 0)
        · go_wp2_with fail
          go_meet
          refine ⟨?_, HX.out, HB.out⟩
          rw [HI.out]
          simp [f0, f2]
        · cases f3 : ((h.dn : Int) == 0)
          · go_wp2_with fail
            go_meet
            refine ⟨?_, HX.out, HB.out⟩
            rw [HI.out]
            simp [f0, f3]
          · cases f4 : ((h.tn : Int) == 0)
            · go_wp2_with fail
              go_meet
              refine ⟨?_, HX.out, HB.out⟩
              rw [HI.out]
              simp [f0, f4]
            · go_wp2_with fail
              go_meet
              refine ⟨?_, HX.out, HB.out⟩
              rw [HI.out]
              simp [f0, f1, f2, f3, f4]
  case rest =>
    obtain ⟨rfl, hbx, hbw⟩ := hcut
    clear x0 x1 x2 x3 x4
    have HBX := Lib.hid hbx
    have HBW := Lib.hid hbw
    clear hbx hbw HX HB HI
    go_wp2_with fail
    go_loopw [7, 8] (fun s7 s8 wx => ∃ i : Nat, i ≤ h.tn ∧ s7 = .bool (partB t && (t.kids.take i).all formedT) ∧ s8 = .int .i64 i ∧ Box wx 33 w.heap.size h ∧ Below w.heap.size w wx) (fun _ s8 _ => h.tn - (intOf s8).toNat)
    case atStart => exact ⟨0, by omega, by simp, rfl, HBX.out, HBW.out⟩
    case round =>
      clear HBX HBW
      obtain ⟨i, hi, rfl, rfl, hbx, hbw⟩ := hrel
      have hx4 := hbx.cells.2.2.2.2
      have HBX := Lib.hid hbx
      have HBW := Lib.hid hbw
      clear hbx hbw
      by_cases hlt : i < h.tn
      · have q1 : (i : Int) < (h.tn : Int) := by omega
        have him : i < t.kids.length := by omega
        by_cases hok : (partB t && (t.kids.take i).all formedT) = true
        · obtain ⟨g, off, hta, hg, hcs⟩ := (HP.out.below HBW.out).place (by omega)
          rw [hta] at hx4
          obtain ⟨k0, k1, k2, k3, k4⟩ := hcs i hlt
          have HOK := Lib.hid hok
          clear hcs hta
          rw [hok]
          clear hok
          go_wp2_with (first
            | (go_at_call 42
               refine (IH.out _ (List.getElem_mem him) (H i) _ ((HP.out.below HBW.out).kids i him)).mono ?_
               rintro _ w1 ⟨rfl, hb1⟩
               have HB1 : Hid (Below w.heap.size w w1) := Lib.hid (HBW.out.trans (hb1.mono HBW.out.size))
               have HX1 := Lib.hid (HBX.out.below hb1 HBX.out.lt)
               clear hb1))
          exact ⟨⟨i + 1, by omega, by rw [all_take _ _ i him, ← Bool.and_assoc, HOK.out, Bool.true_and], by go_num, HX1.out, HB1.out⟩, by simp [intOf]; omega⟩
        · have hok2 : (partB t && (t.kids.take i).all formedT) = false := by simpa using hok
          have HOK := Lib.hid hok2
          rw [hok2]
          clear hok hok2 hx4
          go_wp2_with fail
          go_ret
          refine ⟨?_, HBW.out⟩
          rw [formedT_eq]
          have h1 := HOK.out
          rw [Bool.and_eq_false_iff] at h1
          rcases h1 with h1 | h1
          · rw [h1]; rfl
          · have h2 : t.kids.all formedT = false := by
              rw [Bool.eq_false_iff]
              intro hc
              rw [List.all_eq_true] at hc
              rw [Bool.eq_false_iff] at h1
              apply h1
              rw [List.all_eq_true]
              exact fun x hx => hc x (List.mem_of_mem_take hx)
            rw [h2, Bool.and_false]
            rfl
      · obtain rfl : i = h.tn := by omega
        have q1 : ¬ (h.tn : Int) < (h.tn : Int) := by omega
        rw [List.take_of_length_le (by omega), ← formedT_eq]
        go_wp2_with fail
        go_ret
        exact ⟨rfl, HBW.out⟩
end Go.Proofs.Ytpjojhmdgeejmaa
