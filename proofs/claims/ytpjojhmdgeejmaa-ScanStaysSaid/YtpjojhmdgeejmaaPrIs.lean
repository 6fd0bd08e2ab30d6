/- The contracts of the program's ascending and Is. -/
import Derived.Test.YtpjojhmdgeejmaaPrAsc
import Derived.Test.YtpjojhmdgeejmaaPrFull
namespace Go.Proofs.Ytpjojhmdgeejmaa
open Go.RowKit
set_option linter.unusedVariables false

set_option maxRecDepth 100000 in
set_option maxHeartbeats 4000000 in
theorem asc_any (a : AT) (h : TH) (w : World) (ht : InTree w h a.tr) : Calls Try.prog 36 #[h.v] w (Says w (.bool (a.asc none).1)) := by
  have hmf : ∀ (fn : Fn) (first cap : Array Value) (w : World), (Instr.makeFunc fn first cap).run Try.prog w = .ok (.func fn first cap) w := fun _ _ _ _ => rfl
  unfold TH.v
  have HTT := Lib.hid ht
  clear ht
  obtain ⟨e1, e2, e3, e4⟩ := enter2 w h
  have q1 := (Below.refl ((w.alloc (.cells #[.int .i64 h.k, .slice h.ka h.kn h.kc, .slice h.va h.vn h.vc, .slice h.da h.dn h.dc, .slice h.ta h.tn h.tc] 33)).alloc (.cells #[.int .i64 0, .slice none 0 0, .slice none 0 0, .slice none 0 0, .slice none 0 0] 33)).heap.size ((w.alloc (.cells #[.int .i64 h.k, .slice h.ka h.kn h.kc, .slice h.va h.vn h.vc, .slice h.da h.dn h.dc, .slice h.ta h.tn h.tc] 33)).alloc (.cells #[.int .i64 0, .slice none 0 0, .slice none 0 0, .slice none 0 0, .slice none 0 0] 33))).alloc (Nat.le_refl _) (.cells #[.nilFunc] 40)
  have hnf := Var1.new ((w.alloc (.cells #[.int .i64 h.k, .slice h.ka h.kn h.kc, .slice h.va h.vn h.vc, .slice h.da h.dn h.dc, .slice h.ta h.tn h.tc] 33)).alloc (.cells #[.int .i64 0, .slice none 0 0, .slice none 0 0, .slice none 0 0, .slice none 0 0] 33)) 40 .nilFunc
  have hbx3 := e1.below q1 e1.lt
  have hbl3 := e2.below q1 e2.lt
  have hbw3 := e3.trans (q1.mono e3.size)
  rw [e4] at hnf
  clear e1 e2 e3 e4 q1
  go_enter Try.func36, Try.ntmps36
  go_upto_region 3 with fail
  generalize (((w.alloc (.cells #[.int .i64 h.k, .slice h.ka h.kn h.kc, .slice h.va h.vn h.vc, .slice h.da h.dn h.dc, .slice h.ta h.tn h.tc] 33)).alloc (.cells #[.int .i64 0, .slice none 0 0, .slice none 0 0, .slice none 0 0, .slice none 0 0] 33)).alloc (.cells #[.nilFunc] 40)) = w2 at *
  have c0 := hnf.cell
  have c1 := hnf.frozen 0
  have hn4 := hnf.set (.func (.func 47) #[] #[.pointer (some ⟨w.heap.size + 2, 0, none⟩), .pointer (some ⟨w.heap.size + 1, 0, none⟩)])
  have hbx4 : Box (w2.setCell ⟨w.heap.size + 2, 0, none⟩ (.func (.func 47) #[] #[.pointer (some ⟨w.heap.size + 2, 0, none⟩), .pointer (some ⟨w.heap.size + 1, 0, none⟩)])) 33 w.heap.size h := (Below.heap_setCell w2 ⟨w.heap.size + 2, 0, none⟩ _ w.heap.size (by simp)).trans hbx3
  have hbl4 : Box (w2.setCell ⟨w.heap.size + 2, 0, none⟩ (.func (.func 47) #[] #[.pointer (some ⟨w.heap.size + 2, 0, none⟩), .pointer (some ⟨w.heap.size + 1, 0, none⟩)])) 33 (w.heap.size + 1) hZ := (Below.heap_setCell w2 ⟨w.heap.size + 2, 0, none⟩ _ (w.heap.size + 1) (by simp)).trans hbl3
  have hb4 : Below w.heap.size w (w2.setCell ⟨w.heap.size + 2, 0, none⟩ (.func (.func 47) #[] #[.pointer (some ⟨w.heap.size + 2, 0, none⟩), .pointer (some ⟨w.heap.size + 1, 0, none⟩)])) := hbw3.setCell (by simp) _
  clear hnf hbx3 hbl3 hbw3
  go_upto_region 4 with fail
  generalize (w2.setCell ⟨w.heap.size + 2, 0, none⟩ (.func (.func 47) #[] #[.pointer (some ⟨w.heap.size + 2, 0, none⟩), .pointer (some ⟨w.heap.size + 1, 0, none⟩)])) = w3 at *
  obtain ⟨x0, x1, x2, x3, x4⟩ := hbx4.cells
  have c2 := hn4.cell
  have HN := Lib.hid hn4
  have HL := Lib.hid hbl4
  have HB3 := Lib.hid hb4
  clear c0 c1 hbx4 hb4 hbl4 hn4
  go_wp2_with (first
    | (go_at_call 47
       refine (ascC_any a h _ (w.heap.size + 2) (w.heap.size + 1) hZ none (HTT.out.lower HB3.out) HN.out HL.out rfl (by omega)).mono ?_
       rintro _ w4 ⟨rfl, hg4, -⟩
       have HB4 : Hid (Below w.heap.size w w4) := Lib.hid (HB3.out.grown hg4 HB3.out.size (fun j hj => by injection hj; omega))
       clear hg4))
  go_ret
  exact ⟨rfl, HB4.out⟩

theorem is_no {t : Tr} (h : (decide (checkT t = 0) && fullT t) = false) : isT t = false := by
  unfold isT
  rw [← Bool.and_assoc, h]
  rfl
theorem is_yes {t : Tr} (h : (decide (checkT t = 0) && fullT t) = true) : ∃ a : AT, t = a.tr ∧ a.depth ≤ 64 ∧ Lim a.pairs ∧ isT t = (decide (a.dep ≠ -1) && (a.asc none).1) := by
  rw [Bool.and_eq_true, decide_eq_true_eq] at h
  obtain ⟨hf, hd⟩ := check_zero h.1
  obtain ⟨a, rfl⟩ := AT.of_full t hf h.2
  rw [AT.tr_deep a 64 (by omega), decide_eq_false_iff_not] at hd
  refine ⟨a, rfl, by omega, (AT.tr_formed a).1 hf, ?_⟩
  rw [Bool.eq_iff_iff, isT_iff, Bool.and_eq_true, decide_eq_true_eq, AT.asc_rise]
  constructor
  · rintro ⟨b, e, h1, h2, -, -⟩
    obtain rfl := AT.tr_inj e
    refine ⟨?_, h2⟩
    rw [AT.dep_bal h1]
    omega
  · rintro ⟨h1, h2⟩
    refine ⟨a, rfl, ?_, h2, (AT.tr_formed a).1 hf, by omega⟩
    rcases AT.dep_iff a with q | q
    · exact q.1
    · exact absurd q.2 h1

set_option maxRecDepth 100000 in
set_option maxHeartbeats 4000000 in
theorem is_any (t : Tr) (h : TH) (w : World) (ht : InTree w h t) : Calls Try.prog 27 #[h.v] w (Says w (.bool (isT t))) := by
  unfold TH.v
  have hbox := Box.new w 33 h
  have HX := Lib.hid hbox
  have HT := Lib.hid ht
  obtain ⟨x0, x1, x2, x3, x4⟩ := hbox.cells
  clear hbox ht
  go_enter Try.func27, Try.ntmps27
  cases hq : (decide (checkT t = 0) && fullT t) with
  | false =>
    have HQ := Lib.hid hq
    have HE := Lib.hid (is_no hq)
    clear hq
    go_wp2_with (first
      | (go_at_call 35
         refine (full_any t h _ ?_).mono ?_
         · exact HT.out.lower ((Below.refl _ _).alloc (Nat.le_refl _) _)
         rintro _ w1 ⟨rfl, hb1⟩
         have HB1 : Hid (Below w.heap.size w w1) := Lib.hid (((Below.refl w.heap.size w).alloc (Nat.le_refl _) _).trans (hb1.mono (by simp)))
         rw [HQ.out]
         clear hb1 x0 x1 x2 x3 x4))
    go_ret
    exact ⟨by rw [HE.out]; rfl, HB1.out⟩
  | true =>
    have HQ := Lib.hid hq
    obtain ⟨a, hta, hde, -, he⟩ := is_yes hq
    have HE := Lib.hid he
    have HTA := Lib.hid hta
    clear hq he hta
    cases hs : (a.asc none).1 with
    | false =>
      have HS := Lib.hid hs
      clear hs
      go_wp2_with (first
        | (go_at_call 35
           refine (full_any t h _ ?_).mono ?_
           · exact HT.out.lower ((Below.refl _ _).alloc (Nat.le_refl _) _)
           rintro _ w1 ⟨rfl, hb1⟩
           have HB1 : Hid (Below w.heap.size w w1) := Lib.hid (((Below.refl w.heap.size w).alloc (Nat.le_refl _) _).trans (hb1.mono (by simp)))
           obtain ⟨y0, y1, y2, y3, y4⟩ := (HX.out.below hb1 HX.out.lt).cells
           rw [HQ.out]
           clear hb1 x0 x1 x2 x3 x4)
        | (go_at_call 36
           refine (asc_any a h _ ?_).mono ?_
           · rw [← HTA.out]
             exact HT.out.lower HB1.out
           rintro _ w2 ⟨rfl, hb2⟩
           have HB2 : Hid (Below w.heap.size w w2) := Lib.hid (HB1.out.trans (hb2.mono HB1.out.size))
           rw [HS.out]
           clear hb2 y0 y1 y2 y3 y4))
      go_ret
      exact ⟨by rw [HE.out, HS.out, Bool.and_false]; rfl, HB2.out⟩
    | true =>
      have HS := Lib.hid hs
      clear hs
      have HDE := Lib.hid hde
      clear hde
      cases hd : decide (a.dep ≠ -1) with
      | false =>
        have hd1 : a.dep = -1 := by
          rw [decide_eq_false_iff_not] at hd
          omega
        have HD := Lib.hid hd
        have HD1 := Lib.hid hd1
        clear hd hd1
        go_wp2_with (first
          | (go_at_call 35
             refine (full_any t h _ ?_).mono ?_
             · exact HT.out.lower ((Below.refl _ _).alloc (Nat.le_refl _) _)
             rintro _ w1 ⟨rfl, hb1⟩
             have HB1 : Hid (Below w.heap.size w w1) := Lib.hid (((Below.refl w.heap.size w).alloc (Nat.le_refl _) _).trans (hb1.mono (by simp)))
             have HX1 := Lib.hid (HX.out.below hb1 HX.out.lt)
             obtain ⟨y0, y1, y2, y3, y4⟩ := HX1.out.cells
             rw [HQ.out]
             clear hb1 x0 x1 x2 x3 x4)
          | (go_at_call 36
             refine (asc_any a h _ ?_).mono ?_
             · rw [← HTA.out]
               exact HT.out.lower HB1.out
             rintro _ w2 ⟨rfl, hb2⟩
             have HB2 : Hid (Below w.heap.size w w2) := Lib.hid (HB1.out.trans (hb2.mono HB1.out.size))
             obtain ⟨z0, z1, z2, z3, z4⟩ := (HX1.out.below hb2 HX1.out.lt).cells
             rw [HS.out]
             clear hb2 y0 y1 y2 y3 y4)
          | (go_at_call 37
             refine (prDepth_any a h _ ?_ ?_).mono ?_
             · rw [← HTA.out]
               exact HT.out.lower HB2.out
             · have := HDE.out
               omega
             rintro _ w3 ⟨rfl, hb3⟩
             have HB3 : Hid (Below w.heap.size w w3) := Lib.hid (HB2.out.trans (hb3.mono HB2.out.size))
             rw [HD1.out]
             clear hb3 z0 z1 z2 z3 z4))
        go_ret
        exact ⟨by rw [HE.out, HD.out]; rfl, HB3.out⟩
      | true =>
        have hd1 : (a.dep != -1) = true := by
          rw [decide_eq_true_eq] at hd
          simpa using hd
        have HD := Lib.hid hd
        clear hd
        generalize hdd : a.dep = dp at *
        have HDD := Lib.hid hdd
        clear hdd
        go_wp2_with (first
          | (go_at_call 35
             refine (full_any t h _ ?_).mono ?_
             · exact HT.out.lower ((Below.refl _ _).alloc (Nat.le_refl _) _)
             rintro _ w1 ⟨rfl, hb1⟩
             have HB1 : Hid (Below w.heap.size w w1) := Lib.hid (((Below.refl w.heap.size w).alloc (Nat.le_refl _) _).trans (hb1.mono (by simp)))
             have HX1 := Lib.hid (HX.out.below hb1 HX.out.lt)
             obtain ⟨y0, y1, y2, y3, y4⟩ := HX1.out.cells
             rw [HQ.out]
             clear hb1 x0 x1 x2 x3 x4)
          | (go_at_call 36
             refine (asc_any a h _ ?_).mono ?_
             · rw [← HTA.out]
               exact HT.out.lower HB1.out
             rintro _ w2 ⟨rfl, hb2⟩
             have HB2 : Hid (Below w.heap.size w w2) := Lib.hid (HB1.out.trans (hb2.mono HB1.out.size))
             obtain ⟨z0, z1, z2, z3, z4⟩ := (HX1.out.below hb2 HX1.out.lt).cells
             rw [HS.out]
             clear hb2 y0 y1 y2 y3 y4)
          | (go_at_call 37
             refine (prDepth_any a h _ ?_ ?_).mono ?_
             · rw [← HTA.out]
               exact HT.out.lower HB2.out
             · have := HDE.out
               omega
             rintro _ w3 ⟨rfl, hb3⟩
             have HB3 : Hid (Below w.heap.size w w3) := Lib.hid (HB2.out.trans (hb3.mono HB2.out.size))
             rw [HDD.out]
             clear hb3 z0 z1 z2 z3 z4))
        go_ret
        exact ⟨by rw [HE.out, HD.out, HS.out]; rfl, HB3.out⟩
end Go.Proofs.Ytpjojhmdgeejmaa
