/- The walk of the law ClashRight. A tree that is an argument of the program. -/
import Derived.Test.YtioifkbkllnkgaaDoorMBE
import Derived.Test.YtioifkbkllnkgaaDoorMAB
import Derived.Test.YtioifkbkllnkgaaDoorMAC
import Derived.Test.YtioifkbkllnkgaaDoorProg
/- The walk of the law ClashRight. -/
namespace Go.Proofs.YtioifkbkllnkgaaDoor
open Go.RowKit
set_option linter.unusedVariables false

set_option maxRecDepth 100000 in
set_option maxHeartbeats 8000000 in
theorem clashRight_law (x : Int) (p q : Tr) (h h2 : TH) (w : World) (ht : InTree w h p) (ht2 : InTree w h2 q) (hT : TabLies w) (hx1 : -9223372036854775808 ≤ x) (hx2 : x ≤ 9223372036854775807) :
    Calls Tryd.prog 4 #[.int .i64 x, h.v, h2.v] w (Says w (.bool true)) := by
  unfold TH.v
  have HD := Lib.hid (TK9.enter w h h2 p q ht ht2)
  have HT := Lib.hid hT
  clear hT ht ht2
  go_enter Tryd.func4, Tryd.ntmps4
  go_upto_region 1 with fail
  generalize ((w.alloc (.cells #[.int .i64 h.k, .slice h.ka h.kn h.kc, .slice h.va h.vn h.vc, .slice h.da h.dn h.dc, .slice h.ta h.tn h.tc] 25)).alloc (.cells #[.int .i64 h2.k, .slice h2.ka h2.kn h2.kc, .slice h2.va h2.vn h2.vc, .slice h2.da h2.dn h2.dc, .slice h2.ta h2.tn h2.tc] 25)) = w0 at *
  go_upto_region 2 with (first
    | (go_at_call 8
       refine (up9_any _ (HT.out.below HD.out.b (Nat.le_refl _))).mono ?_
       rintro _ w1 ⟨rfl, hb1⟩
       have HD1 := Lib.hid (HD.out.below hb1)
       clear hb1))
  go_cut [23] (fun s23 wx => ∃ b : Bool, s23 = .bool b ∧ TK9 w wx h h2 p q ∧ (b = false → countT p ≤ 200 ∧ countT q ≤ 200))
  case first =>
    obtain ⟨x0, x1, x2, x3, x4⟩ := HD1.out.b1.cells
    obtain ⟨y0, y1, y2, y3, y4⟩ := HD1.out.b2.cells
    go_wp2_with (first
      | (go_at_call 9
         have hck : ∀ W, InTree W h p → Calls Tryd.prog 9 #[.agg #[.int .i64 h.k, .slice h.ka h.kn h.kc, .slice h.va h.vn h.vc, .slice h.da h.dn h.dc, .slice h.ta h.tn h.tc]] W (fun e w' => ∃ b, e = .returned (.bool b) ∧ (b = true → LightOK p ∧ countT p ≤ 200) ∧ Below W.heap.size W w') := fun W a => small9_any p h W a
         (with_reducible refine (hck _ ?_).mono ?_)
         · exact HD1.out.t1
         rintro _ w2 ⟨s2, rfl, hok2, hb2⟩
         have HD2 := Lib.hid (HD1.out.below hb2)
         have HK2 := Lib.hid hok2
         clear hck hok2 hb2 x0 x1 x2 x3 x4 y0 y1 y2 y3 y4
         obtain ⟨y0, y1, y2, y3, y4⟩ := HD2.out.b2.cells)
      | (go_at_call 9
         have hck : ∀ W, InTree W h2 q → Calls Tryd.prog 9 #[.agg #[.int .i64 h2.k, .slice h2.ka h2.kn h2.kc, .slice h2.va h2.vn h2.vc, .slice h2.da h2.dn h2.dc, .slice h2.ta h2.tn h2.tc]] W (fun e w' => ∃ b, e = .returned (.bool b) ∧ (b = true → LightOK q ∧ countT q ≤ 200) ∧ Below W.heap.size W w') := fun W a => small9_any q h2 W a
         (with_reducible refine (hck _ ?_).mono ?_)
         · exact HD2.out.t2
         rintro _ w3 ⟨s3, rfl, hok3, hb3⟩
         have HD3 := Lib.hid (HD2.out.below hb3)
         have HK3 := Lib.hid hok3
         clear hck hok3 hb3 y0 y1 y2 y3 y4
         skip))
    · go_meet
      cases s3 with
      | true => exact ⟨false, rfl, HD3.out, fun _ => ⟨(HK2.out (by assumption)).2, (HK3.out rfl).2⟩⟩
      | false => exact ⟨true, rfl, HD3.out, fun q => (by cases q)⟩
    · go_meet
      exact ⟨true, rfl, HD2.out, fun q => (by cases q)⟩
  case rest =>
    obtain ⟨b, rfl, hd, hcc⟩ := hcut
    have HD4 := Lib.hid hd
    have HCC := Lib.hid hcc
    clear hd hcc HD1 HD
    cases b with
    | true =>
      go_wp2_with fail
      go_ret
      exact ⟨rfl, HD4.out.b⟩
    | false =>
    obtain ⟨hc1, hc2⟩ := HCC.out rfl
    clear HCC
    obtain ⟨r, hr⟩ : ∃ r, findX x p q = r := ⟨_, rfl⟩
    have HR := Lib.hid hr
    clear hr
    obtain ⟨x0, x1, x2, x3, x4⟩ := HD4.out.b1.cells
    obtain ⟨y0, y1, y2, y3, y4⟩ := HD4.out.b2.cells
    go_upto_region 5 with (first
      | (go_at_call 10
         have hck : ∀ W, InTree W h p → InTree W h2 q → TabLies W → Calls Tryd.prog 10 #[.int .i64 x, .agg #[.int .i64 h.k, .slice h.ka h.kn h.kc, .slice h.va h.vn h.vc, .slice h.da h.dn h.dc, .slice h.ta h.tn h.tc], .agg #[.int .i64 h2.k, .slice h2.ka h2.kn h2.kc, .slice h2.va h2.vn h2.vc, .slice h2.da h2.dn h2.dc, .slice h2.ta h2.tn h2.tc]] W (FindTold W (findX x p q)) := fun W a b c => find_any x hx1 hx2 p q h h2 W a b (by omega) (by omega) c
         (with_reducible refine (hck _ ?_ ?_ ?_).mono ?_)
         · exact HD4.out.t1
         · exact HD4.out.t2
         · exact HT.out.below HD4.out.b (Nat.le_refl _)
         rw [HR.out]
         rintro _ w5 ⟨a5, n5, c5, b5, m5, d5, rfl, f5, g5, hb5⟩
         have HD5 := Lib.hid (HD4.out.below hb5)
         have HF5 := Lib.hid (And.intro (f5 w5 (Nat.le_refl _) (fun _ _ _ => rfl)) (g5 w5 (Nat.le_refl _) (fun _ _ _ => rfl)))
         
         clear hck f5 g5 hb5))
    clear x0 x1 x2 x3 x4 y0 y1 y2 y3 y4
    by_cases hr0 : r.1 = 0
    case neg =>
      rw [codeV_pos hr0]
      clear hr0
      go_wp2_with fail
      go_ret
      exact ⟨rfl, HD5.out.b⟩
    obtain ⟨k, s, hf⟩ := findX_zero (x := x) (p := p) (q := q) (by rw [HR.out]; exact hr0)
    have HFD := Lib.hid hf
    have hk1 := hf.k1
    have hk2 := hf.k2
    have hxk := hf.hx
    have hrs : r = (0, s) := by rw [← HR.out, hf.is]
    have HA5 : Hid (InBytes w5 a5 n5 c5 s.1) := Lib.hid (by have q1 := HF5.out.1; rw [hrs] at q1; exact q1)
    have HB5 : Hid (InBytes w5 b5 m5 d5 s.2) := Lib.hid (by have q1 := HF5.out.2; rw [hrs] at q1; exact q1)
    have HLA : Hid ((n5 : Int) ≤ 1125899906842624) := Lib.hid (by have q1 := HA5.out.len; have q2 := hf.l1; omega)
    have HLB : Hid ((m5 : Int) ≤ 1125899906842624) := Lib.hid (by have q1 := HB5.out.len; have q2 := hf.l2; omega)
    have hcd : codeV r.1 = .nilIface := by rw [hrs]; rfl
    rw [hcd]
    clear hcd hrs hr0 hf
    subst hxk
    go_upto_region 8 with (first
      | (go_at_call 16
         (with_reducible refine (of_ok k a5 n5 c5 s.1 _ ?_ ?_ ?_ hk1 hk2).mono ?_)
         · exact HA5.out
         · exact HLA.out
         · exact HT.out.below HD5.out.b (Nat.le_refl _)
         rintro _ w6 ⟨g6, hg6, rfl, hr6, hb6⟩
         have HD6 := Lib.hid (HD5.out.below hb6)
         have HI6 := Lib.hid (of_in hr6 hk2)
         have HA6 := Lib.hid (HA5.out.below hb6)
         have HB6 := Lib.hid (HB5.out.below hb6)
         clear hg6 hr6 hb6))
    go_upto_region 9 with (first
      | (go_at_call 16
         (with_reducible refine (of_ok k b5 m5 d5 s.2 _ ?_ ?_ ?_ hk1 hk2).mono ?_)
         · exact HB6.out
         · exact HLB.out
         · exact HT.out.below HD6.out.b (Nat.le_refl _)
         rintro _ w7 ⟨g7, hg7, rfl, hr7, hb7⟩
         have HD7 := Lib.hid (HD6.out.below hb7)
         have HI7 := Lib.hid (of_in hr7 hk2)
         have HA7 := Lib.hid (HA6.out.below hb7)
         have HB7 := Lib.hid (HB6.out.below hb7)
         have HI67 := Lib.hid (HI6.out.below hb7)
         clear hg7 hr7 hb7))
    have cv1 := conv_key HA7.out
    have cv2 := conv_key HB7.out
    have cv3 := conv_key HI67.out
    have cv4 := conv_key HI7.out
    have hse : ((strOfNums s.1).toList == (strOfNums s.2).toList) = false := by rw [str_eq HA7.out.bytes HB7.out.bytes]; simpa using HFD.out.ne
    have hsd : ((strOfNums ((sumL s.1).take k)).toList == (strOfNums ((sumL s.2).take k)).toList) = true := by rw [HFD.out.eq]; simp
    go_wp2_with fail
    go_ret
    exact ⟨rfl, HD7.out.b⟩
end Go.Proofs.YtioifkbkllnkgaaDoor

/- A tree that is an argument of the program. -/
namespace Go.Proofs.YtioifkbkllnkgaaDoor
open Go.ChangeShapes Go.WideShapes Go.RowKit Go.Deep
set_option linter.unusedVariables false

set_option maxRecDepth 100000 in
theorem open_tree {H : Type} {enc : TypeId × Value → H} {w : World} {base : Nat} {spare : Nat → Bool} {held : Bool} {r : Reach} {b0 : Nat} {v : Value} {d : DataW H} {p : List MemPlace}
    (hv : Value.okWide Tryd.prog w r b0 25 v) (h : DataW.Trod enc Tryd.prog w base spare held 25 v d p) : ∃ hd t, v = TH.v hd ∧ InTree w hd t := by
  obtain ⟨cs, rfl, hs⟩ := okWide_struct Tryd.underlying25 hv
  obtain ⟨fuel, hf⟩ := h
  obtain ⟨hd, t, e, ht⟩ := trod_tree Tryd.underlying25 (by kernel_rfl) rfl rfl rfl rfl rfl (by kernel_rfl) (by kernel_rfl) (by kernel_rfl) (by kernel_rfl) (by kernel_rfl)
    Tryd.underlying3 Tryd.underlying22 Tryd.underlying22 Tryd.underlying22 Tryd.underlying23 Tryd.underlying5 (by kernel_rfl) fuel _ _ hf
  refine ⟨hd, t, ?_, ht⟩
  have e2 : cs = hd.cells.toArray := by
    simp only [Value.cells] at e
    rw [← e]
  rw [e2]
  rfl
end Go.Proofs.YtioifkbkllnkgaaDoor
