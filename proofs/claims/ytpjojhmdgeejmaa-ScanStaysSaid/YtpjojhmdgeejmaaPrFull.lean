/- The contracts of the program's Check and Full. -/
import Derived.Test.YtpjojhmdgeejmaaPrTreeA
import Derived.Test.YtpjojhmdgeejmaaTake
namespace Go.Proofs.Ytpjojhmdgeejmaa
open Go.RowKit
set_option linter.unusedVariables false
theorem check_cases (t : Tr) : checkT t = if deepT t 64 then 5 else if formedT t then 0 else 3 := rfl

set_option maxRecDepth 100000 in
set_option maxHeartbeats 4000000 in
theorem check_any (t : Tr) (h : TH) (w : World) (ht : InTree w h t) : Calls Try.prog 38 #[h.v] w (Says w (codeV (checkT t))) := by
  unfold TH.v
  have hbox := Box.new w 33 h
  have HX := Lib.hid hbox
  have HT := Lib.hid ht
  obtain ⟨x0, x1, x2, x3, x4⟩ := hbox.cells
  clear hbox ht
  go_enter Try.func38, Try.ntmps38
  go_upto_if 4 with (first
    | (go_at_call 48
       refine (tooDeep_any t h _ ?_).mono ?_
       · exact HT.out.lower ((Below.refl _ _).alloc (Nat.le_refl _) _)
       rintro _ w1 ⟨rfl, hb1⟩
       have HB1 : Hid (Below w.heap.size w w1) := Lib.hid (((Below.refl w.heap.size w).alloc (Nat.le_refl _) _).trans (hb1.mono (by simp)))
       obtain ⟨y0, y1, y2, y3, y4⟩ := (HX.out.below hb1 HX.out.lt).cells
       generalize hr : deepT t 64 = r
       have HR := Lib.hid hr
       clear hb1 hr x0 x1 x2 x3 x4))
  cases r
  · go_upto_if 8 with (first
      | (go_at_call 45
         refine (everyPart t h _ ?_).mono ?_
         · exact HT.out.lower HB1.out
         rintro _ w2 ⟨rfl, hb2⟩
         have HB2 : Hid (Below w.heap.size w w2) := Lib.hid (HB1.out.trans (hb2.mono HB1.out.size))
         rw [allT_part]
         generalize hq : formedT t = q
         have HQ := Lib.hid hq
         clear hb2 hq y0 y1 y2 y3 y4))
    cases q
    · go_wp2_with fail
      go_ret
      have e : checkT t = 3 := by unfold checkT; rw [HR.out, HQ.out]; rfl
      exact ⟨by rw [e]; rfl, HB2.out⟩
    · simp only [Bool.not_true]
      go_wp2_with fail
      go_ret
      have e : checkT t = 0 := by unfold checkT; rw [HR.out, HQ.out]; rfl
      exact ⟨by rw [e]; rfl, HB2.out⟩
  · go_wp2_with fail
    go_ret
    have e : checkT t = 5 := by unfold checkT; rw [HR.out]; rfl
    exact ⟨by rw [e]; rfl, HB1.out⟩
theorem check_zero {t : Tr} (h : checkT t = 0) : formedT t = true ∧ deepT t 64 = false := by
  unfold checkT at h
  split at h
  · cases h
  · split at h
    · exact ⟨by assumption, by rename_i q _; simpa using q⟩
    · cases h
theorem codeV_pos {k : Nat} (h : k ≠ 0) : codeV k = .iface 41 (.int .i64 k) := by
  unfold codeV
  rw [if_neg h]

set_option maxRecDepth 100000 in
set_option maxHeartbeats 4000000 in
theorem full_any (t : Tr) (h : TH) (w : World) (ht : InTree w h t) : Calls Try.prog 35 #[h.v] w (Says w (.bool (decide (checkT t = 0) && fullT t))) := by
  unfold TH.v
  have hbox := Box.new w 33 h
  have HX := Lib.hid hbox
  have HT := Lib.hid ht
  obtain ⟨x0, x1, x2, x3, x4⟩ := hbox.cells
  clear hbox ht
  go_enter Try.func35, Try.ntmps35
  by_cases hc : checkT t = 0
  · have HCZ := Lib.hid hc
    clear hc
    go_wp2_with (first
      | (go_at_call 38
         refine (check_any t h _ ?_).mono ?_
         · exact HT.out.lower ((Below.refl _ _).alloc (Nat.le_refl _) _)
         rintro _ w1 ⟨rfl, hb1⟩
         have HB1 : Hid (Below w.heap.size w w1) := Lib.hid (((Below.refl w.heap.size w).alloc (Nat.le_refl _) _).trans (hb1.mono (by simp)))
         obtain ⟨y0, y1, y2, y3, y4⟩ := (HX.out.below hb1 HX.out.lt).cells
         have hcv : codeV (checkT t) = .nilIface := by rw [HCZ.out]; rfl
         rw [hcv]
         clear hcv
         clear hb1 x0 x1 x2 x3 x4)
      | (go_at_call 45
         refine (everyTold t h _ ?_).mono ?_
         · exact HT.out.lower HB1.out
         rintro _ w2 ⟨rfl, hb2⟩
         have HB2 : Hid (Below w.heap.size w w2) := Lib.hid (HB1.out.trans (hb2.mono HB1.out.size))
         rw [allT_told t (check_zero HCZ.out).1]
         clear hb2 y0 y1 y2 y3 y4))
    go_ret
    refine ⟨?_, HB2.out⟩
    rw [HCZ.out]
    rfl
  · have HCZ := Lib.hid hc
    clear hc
    go_wp2_with (first
      | (go_at_call 38
         refine (check_any t h _ ?_).mono ?_
         · exact HT.out.lower ((Below.refl _ _).alloc (Nat.le_refl _) _)
         rintro _ w1 ⟨rfl, hb1⟩
         have HB1 : Hid (Below w.heap.size w w1) := Lib.hid (((Below.refl w.heap.size w).alloc (Nat.le_refl _) _).trans (hb1.mono (by simp)))
         rw [codeV_pos HCZ.out]
         clear hb1 x0 x1 x2 x3 x4))
    go_ret
    refine ⟨?_, HB1.out⟩
    rw [decide_eq_false HCZ.out]
    rfl
end Go.Proofs.Ytpjojhmdgeejmaa
