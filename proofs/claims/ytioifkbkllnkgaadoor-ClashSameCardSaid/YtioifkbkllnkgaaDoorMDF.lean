/- The walk of the law ClashRight. The walk of the law ClashSame. A tree that is an argument of the program. -/
import Derived.Test.YtioifkbkllnkgaaDoorMBE
import Derived.Test.YtioifkbkllnkgaaDoorMAB
import Derived.Test.YtioifkbkllnkgaaDoorMAC
import Derived.Test.YtioifkbkllnkgaaDoorProg
/- The walk of the law ClashRight. -/
namespace Go.Proofs.YtioifkbkllnkgaaDoor
open Go.RowKit
set_option linter.unusedVariables false

set_option maxRecDepth 100000 in
set_option maxHeartbeats 8000000 in
theorem clashRight_law (x : Int) (p q : Tr) (h h2 : TH) (w : World) (ht : InTree w h p) (ht2 : InTree w h2 q) (hT : TabLies w) (hx1 : -9223372036854775808 ≤ x) (hx2 : x ≤ 9223372036854775807) :
    Calls Tryd.prog 4 #[.int .i64 x, h.v, h2.v] w (Says w (.bool true)) := by
  unfold TH.v
  have HD := Lib.hid (TK9.enter w h h2 p q ht ht2)
  have HT := Lib.hid hT
  clear hT ht ht2
  go_enter Tryd.func4, Tryd.ntmps4
  go_upto_region 1 with fail
  generalize ((w.alloc (.cells #[.int .i64 h.k, .slice h.ka h.kn h.kc, .slice h.va h.vn h.vc, .slice h.da h.dn h.dc, .slice h.ta h.tn h.tc] 25)).alloc (.cells #[.int .i64 h2.k, .slice h2.ka h2.kn h2.kc, .slice h2.va h2.vn h2.vc, .slice h2.da h2.dn h2.dc, .slice h2.ta h2.tn h2.tc] 25)) = w0 at *
  go_upto_region 2 with (first
    | (go_at_call 8
       refine (up9_any _ (HT.out.below HD.out.b (Nat.le_refl _))).mono ?_
       rintro _ w1 ⟨rfl, hb1⟩
       have HD1 := Lib.hid (HD.out.below hb1)
       clear hb1))
  go_cut [23] (fun s23 wx => ∃ b : Bool, s23 = .bool b ∧ TK9 w wx h h2 p q ∧ (b = false → countT p ≤ 200 ∧ countT q ≤ 200))
  case first =>
    obtain ⟨x0, x1, x2, x3, x4⟩ := HD1.out.b1.cells
    obtain ⟨y0, y1, y2, y3, y4⟩ := HD1.out.b2.cells
    go_wp2_with (first
      | (go_at_call 9
         have hck : ∀ W, InTree W h p → Calls Tryd.prog 9 #[.agg #[.int .i64 h.k, .slice h.ka h.kn h.kc, .slice h.va h.vn h.vc, .slice h.da h.dn h.dc, .slice h.ta h.tn h.tc]] W (fun e w' => ∃ b, e = .returned (.bool b) ∧ (b = true → LightOK p ∧ countT p ≤ 200) ∧ Below W.heap.size W w') := fun W a => small9_any p h W a
         (with_reducible refine (hck _ ?_).mono ?_)
         · exact HD1.out.t1
         rintro _ w2 ⟨s2, rfl, hok2, hb2⟩
         have HD2 := Lib.hid (HD1.out.below hb2)
         have HK2 := Lib.hid hok2
         clear hck hok2 hb2 x0 x1 x2 x3 x4 y0 y1 y2 y3 y4
         obtain ⟨y0, y1, y2, y3, y4⟩ := HD2.out.b2.cells)
      | (go_at_call 9
         have hck : ∀ W, InTree W h2 q → Calls Tryd.prog 9 #[.agg #[.int .i64 h2.k, .slice h2.ka h2.kn h2.kc, .slice h2.va h2.vn h2.vc, .slice h2.da h2.dn h2.dc, .slice h2.ta h2.tn h2.tc]] W (fun e w' => ∃ b, e = .returned (.bool b) ∧ (b = true → LightOK q ∧ countT q ≤ 200) ∧ Below W.heap.size W w') := fun W a => small9_any q h2 W a
         (with_reducible refine (hck _ ?_).mono ?_)
         · exact HD2.out.t2
         rintro _ w3 ⟨s3, rfl, hok3, hb3⟩
         have HD3 := Lib.hid (HD2.out.below hb3)
         have HK3 := Lib.hid hok3
         clear hck hok3 hb3 y0 y1 y2 y3 y4
         skip))
    · go_meet
      cases s3 with
      | true => exact ⟨false, rfl, HD3.out, fun _ => ⟨(HK2.out (by assumption)).2, (HK3.out rfl).2⟩⟩
      | false => exact ⟨true, rfl, HD3.out, fun q => (by cases q)⟩
    · go_meet
      exact ⟨true, rfl, HD2.out, fun q => (by cases q)⟩
  case rest =>
    obtain ⟨b, rfl, hd, hcc⟩ := hcut
    have HD4 := Lib.hid hd
    have HCC := Lib.hid hcc
    clear hd hcc HD1 HD
    cases b with
    | true =>
      go_wp2_with fail
      go_ret
      exact ⟨rfl, HD4.out.b⟩
    | false =>
    obtain ⟨hc1, hc2⟩ := HCC.out rfl
    clear HCC
    obtain ⟨r, hr⟩ : ∃ r, findX x p q = r := ⟨_, rfl⟩
    have HR := Lib.hid hr
    clear hr
    obtain ⟨x0, x1, x2, x3, x4⟩ := HD4.out.b1.cells
    obtain ⟨y0, y1, y2, y3, y4⟩ := HD4.out.b2.cells
    go_upto_region 5 with (first
      | (go_at_call 10
         have hck : ∀ W, InTree W h p → InTree W h2 q → TabLies W → Calls Tryd.prog 10 #[.int .i64 x, .agg #[.int .i64 h.k, .slice h.ka h.kn h.kc, .slice h.va h.vn h.vc, .slice h.da h.dn h.dc, .slice h.ta h.tn h.tc], .agg #[.int .i64 h2.k, .slice h2.ka h2.kn h2.kc, .slice h2.va h2.vn h2.vc, .slice h2.da h2.dn h2.dc, .slice h2.ta h2.tn h2.tc]] W (FindTold W (findX x p q)) := fun W a b c => find_any x hx1 hx2 p q h h2 W a b (by omega) (by omega) c
         (with_reducible refine (hck _ ?_ ?_ ?_).mono ?_)
         · exact HD4.out.t1
         · exact HD4.out.t2
         · exact HT.out.below HD4.out.b (Nat.le_refl _)
         rw [HR.out]
         rintro _ w5 ⟨a5, n5, c5, b5, m5, d5, rfl, f5, g5, hb5⟩
         have HD5 := Lib.hid (HD4.out.below hb5)
         have HF5 := Lib.hid (And.intro (f5 w5 (Nat.le_refl _) (fun _ _ _ => rfl)) (g5 w5 (Nat.le_refl _) (fun _ _ _ => rfl)))
         
         clear hck f5 g5 hb5))
    clear x0 x1 x2 x3 x4 y0 y1 y2 y3 y4
    by_cases hr0 : r.1 = 0
    case neg =>
      rw [codeV_pos hr0]
      clear hr0
      go_wp2_with fail
      go_ret
      exact ⟨rfl, HD5.out.b⟩
    obtain ⟨k, s, hf⟩ := findX_zero (x := x) (p := p) (q := q) (by rw [HR.out]; exact hr0)
    have HFD := Lib.hid hf
    have hk1 := hf.k1
    have hk2 := hf.k2
    have hxk := hf.hx
    have hrs : r = (0, s) := by rw [← HR.out, hf.is]
    have HA5 : Hid (InBytes w5 a5 n5 c5 s.1) := Lib.hid (by have q1 := HF5.out.1; rw [hrs] at q1; exact q1)
    have HB5 : Hid (InBytes w5 b5 m5 d5 s.2) := Lib.hid (by have q1 := HF5.out.2; rw [hrs] at q1; exact q1)
    have HLA : Hid ((n5 : Int) ≤ 1125899906842624) := Lib.hid (by have q1 := HA5.out.len; have q2 := hf.l1; omega)
    have HLB : Hid ((m5 : Int) ≤ 1125899906842624) := Lib.hid (by have q1 := HB5.out.len; have q2 := hf.l2; omega)
    have hcd : codeV r.1 = .nilIface := by rw [hrs]; rfl
    rw [hcd]
    clear hcd hrs hr0 hf
    subst hxk
    go_upto_region 8 with (first
      | (go_at_call 16
         (with_reducible refine (of_ok k a5 n5 c5 s.1 _ ?_ ?_ ?_ hk1 hk2).mono ?_)
         · exact HA5.out
         · exact HLA.out
         · exact HT.out.below HD5.out.b (Nat.le_refl _)
         rintro _ w6 ⟨g6, hg6, rfl, hr6, hb6⟩
         have HD6 := Lib.hid (HD5.out.below hb6)
         have HI6 := Lib.hid (of_in hr6 hk2)
         have HA6 := Lib.hid (HA5.out.below hb6)
         have HB6 := Lib.hid (HB5.out.below hb6)
         clear hg6 hr6 hb6))
    go_upto_region 9 with (first
      | (go_at_call 16
         (with_reducible refine (of_ok k b5 m5 d5 s.2 _ ?_ ?_ ?_ hk1 hk2).mono ?_)
         · exact HB6.out
         · exact HLB.out
         · exact HT.out.below HD6.out.b (Nat.le_refl _)
         rintro _ w7 ⟨g7, hg7, rfl, hr7, hb7⟩
         have HD7 := Lib.hid (HD6.out.below hb7)
         have HI7 := Lib.hid (of_in hr7 hk2)
         have HA7 := Lib.hid (HA6.out.below hb7)
         have HB7 := Lib.hid (HB6.out.below hb7)
         have HI67 := Lib.hid (HI6.out.below hb7)
         clear hg7 hr7 hb7))
    have cv1 := conv_key HA7.out
    have cv2 := conv_key HB7.out
    have cv3 := conv_key HI67.out
    have cv4 := conv_key HI7.out
    have hse : ((strOfNums s.1).toList == (strOfNums s.2).toList) = false := by rw [str_eq HA7.out.bytes HB7.out.bytes]; simpa using HFD.out.ne
    have hsd : ((strOfNums ((sumL s.1).take k)).toList == (strOfNums ((sumL s.2).take k)).toList) = true := by rw [HFD.out.eq]; simp
    go_wp2_with fail
    go_ret
    exact ⟨rfl, HD7.out.b⟩
end Go.Proofs.YtioifkbkllnkgaaDoor

/- The walk of the law ClashSame. -/
namespace Go.Proofs.YtioifkbkllnkgaaDoor
open Go.RowKit
set_option linter.unusedVariables false

set_option maxRecDepth 100000 in
set_option maxHeartbeats 8000000 in
theorem clashSame_law (x y : Int) (p : Tr) (h : TH) (w : World) (ht : InTree w h p) (hT : TabLies w) (hx1 : -9223372036854775808 ≤ x) (hx2 : x ≤ 9223372036854775807) (hy1 : -9223372036854775808 ≤ y) (hy2 : y ≤ 9223372036854775807) :
    Calls Tryd.prog 6 #[.int .i64 x, h.v, .int .i64 y] w (Says w (.bool true)) := by
  have heq : ∀ (W : World) (p q : Int), (binOp .eql 29 (.iface 42 (.int .i64 p)) (.iface 42 (.int .i64 q))).run Tryd.prog W = .ok (.bool (p == q)) W := fun W p q => eql_code p q W
  unfold TH.v
  have HD := Lib.hid (BW.new w ht)
  have HT := Lib.hid hT
  clear hT ht
  go_enter Tryd.func6, Tryd.ntmps6
  go_upto_region 1 with fail
  generalize (w.alloc (.cells #[.int .i64 h.k, .slice h.ka h.kn h.kc, .slice h.va h.vn h.vc, .slice h.da h.dn h.dc, .slice h.ta h.tn h.tc] 25)) = w0 at *
  go_upto_region 2 with (first
    | (go_at_call 8
       refine (up9_any _ (HT.out.below HD.out.b (Nat.le_refl _))).mono ?_
       rintro _ w1 ⟨rfl, hb1⟩
       have HD1 := Lib.hid (HD.out.below hb1)
       clear hb1))
  obtain ⟨x0, x1, x2, x3, x4⟩ := HD1.out.box.cells
  go_upto_region 3 with (first
    | (go_at_call 9
       have hck : ∀ W, InTree W h p → Calls Tryd.prog 9 #[.agg #[.int .i64 h.k, .slice h.ka h.kn h.kc, .slice h.va h.vn h.vc, .slice h.da h.dn h.dc, .slice h.ta h.tn h.tc]] W (fun e w' => ∃ b, e = .returned (.bool b) ∧ (b = true → LightOK p ∧ countT p ≤ 200) ∧ Below W.heap.size W w') := fun W a => small9_any p h W a
       (with_reducible refine (hck _ ?_).mono ?_)
       · exact HD1.out.ti
       rintro _ w2 ⟨b, rfl, hok, hb2⟩
       have HD2 := Lib.hid (HD1.out.below hb2)
       have HK2 := Lib.hid hok
       clear hck hok hb2))
  clear x0 x1 x2 x3 x4
  obtain ⟨x0, x1, x2, x3, x4⟩ := HD2.out.box.cells
  by_cases hno : ∃ k zs, DigIs x p k zs
  case neg =>
    have HNO := Lib.hid hno
    clear hno
    cases b with
    | false =>
      go_wp2_with (first
        | (go_at_call 17
           have hck : ∀ W, InTree W h p → TabLies W → Calls Tryd.prog 17 #[.int .i64 x, .agg #[.int .i64 h.k, .slice h.ka h.kn h.kc, .slice h.va h.vn h.vc, .slice h.da h.dn h.dc, .slice h.ta h.tn h.tc]] W (fun e w' => ∃ m a c, m ≠ 0 ∧ e = .returned (.tuple #[.slice a 0 c, .iface 42 (.int .i64 (m : Nat))]) ∧ Below W.heap.size W w') := fun W a b => digest_bad x p h W a b hx1 hx2 HNO.out
           (with_reducible refine (hck _ ?_ ?_).mono ?_)
           · exact HD2.out.ti
           · exact HT.out.below HD2.out.b (Nat.le_refl _)
           rintro _ w3 ⟨m3, a3, c3, hm3, rfl, hb3⟩
           have HD3 := Lib.hid (HD2.out.below hb3)
           clear hck hb3))
      go_ret
      exact ⟨rfl, HD3.out.b⟩
    | true =>
      go_wp2_with (first
        | (go_at_call 17
           have hck : ∀ W, InTree W h p → TabLies W → Calls Tryd.prog 17 #[.int .i64 x, .agg #[.int .i64 h.k, .slice h.ka h.kn h.kc, .slice h.va h.vn h.vc, .slice h.da h.dn h.dc, .slice h.ta h.tn h.tc]] W (fun e w' => ∃ m a c, m ≠ 0 ∧ e = .returned (.tuple #[.slice a 0 c, .iface 42 (.int .i64 (m : Nat))]) ∧ Below W.heap.size W w') := fun W a b => digest_bad x p h W a b hx1 hx2 HNO.out
           (with_reducible refine (hck _ ?_ ?_).mono ?_)
           · exact HD2.out.ti
           · exact HT.out.below HD2.out.b (Nat.le_refl _)
           rintro _ w3 ⟨m3, a3, c3, hm3, rfl, hb3⟩
           have HD3 := Lib.hid (HD2.out.below hb3)
           clear hck hb3))
      go_ret
      exact ⟨rfl, HD3.out.b⟩
  obtain ⟨k, zs, his⟩ := hno
  have HIS := Lib.hid his
  obtain ⟨hxk, hk1, hk2, hck0, hz⟩ := his
  have HCK := Lib.hid hck0
  have HZ := Lib.hid hz
  subst hxk
  clear hck0 hz
  cases b with
  | false =>
    go_wp2_with (first
      | (go_at_call 17
         have hck : ∀ W, InTree W h p → TabLies W → Calls Tryd.prog 17 #[.int .i64 (k : Int), .agg #[.int .i64 h.k, .slice h.ka h.kn h.kc, .slice h.va h.vn h.vc, .slice h.da h.dn h.dc, .slice h.ta h.tn h.tc]] W (fun e w' => ∃ a c, e = .returned (.tuple #[.slice a k c, .nilIface]) ∧ InBytes w' a k c zs ∧ Below W.heap.size W w') := fun W a b => digest_is (k : Int) p h W a b HIS.out
         (with_reducible refine (hck _ ?_ ?_).mono ?_)
         · exact HD2.out.ti
         · exact HT.out.below HD2.out.b (Nat.le_refl _)
         rintro _ w3 ⟨a3, c3, rfl, hi3, hb3⟩
         have HD3 := Lib.hid (HD2.out.below hb3)
         have HI3 := Lib.hid hi3
         clear hck hi3 hb3))
    go_ret
    exact ⟨rfl, HD3.out.b⟩
  | true =>
  have hcn : countT p ≤ 200 := (HK2.out rfl).2
  clear HK2
  have HS1 : Hid (findX (k : Int) p p = (9, [], [])) := Lib.hid (find_same hk1 hk2 HCK.out HZ.out)
  have HS2 : Hid (findX (k : Int) p (Tr.mk 3 [] [] zs []) = (9, [], [])) := Lib.hid (find_cut hk1 hk2 HCK.out HZ.out)
  have e9 : codeV ((9, (([] : List Int), ([] : List Int))) : Nat × (List Int × List Int)).1 = .iface 42 (.int .i64 9) := rfl
  go_upto_region 6 with (first
    | (go_at_call 17
       have hck : ∀ W, InTree W h p → TabLies W → Calls Tryd.prog 17 #[.int .i64 (k : Int), .agg #[.int .i64 h.k, .slice h.ka h.kn h.kc, .slice h.va h.vn h.vc, .slice h.da h.dn h.dc, .slice h.ta h.tn h.tc]] W (fun e w' => ∃ a c, e = .returned (.tuple #[.slice a k c, .nilIface]) ∧ InBytes w' a k c zs ∧ Below W.heap.size W w') := fun W a b => digest_is (k : Int) p h W a b HIS.out
       (with_reducible refine (hck _ ?_ ?_).mono ?_)
       · exact HD2.out.ti
       · exact HT.out.below HD2.out.b (Nat.le_refl _)
       rintro _ w3 ⟨a3, c3, rfl, hi3, hb3⟩
       have HD3 := Lib.hid (HD2.out.below hb3)
       have HI3 := Lib.hid hi3
       clear hck hi3 hb3))
  clear x0 x1 x2 x3 x4
  obtain ⟨x0, x1, x2, x3, x4⟩ := HD3.out.box.cells
  go_upto_region 7 with (first
    | (go_at_call 10
       have hck : ∀ W (hh hh2 : TH), hh.v = .agg #[.int .i64 h.k, .slice h.ka h.kn h.kc, .slice h.va h.vn h.vc, .slice h.da h.dn h.dc, .slice h.ta h.tn h.tc] → hh2.v = .agg #[.int .i64 h.k, .slice h.ka h.kn h.kc, .slice h.va h.vn h.vc, .slice h.da h.dn h.dc, .slice h.ta h.tn h.tc] → InTree W hh p → InTree W hh2 p → TabLies W → Calls Tryd.prog 10 #[.int .i64 (k : Int), .agg #[.int .i64 h.k, .slice h.ka h.kn h.kc, .slice h.va h.vn h.vc, .slice h.da h.dn h.dc, .slice h.ta h.tn h.tc], .agg #[.int .i64 h.k, .slice h.ka h.kn h.kc, .slice h.va h.vn h.vc, .slice h.da h.dn h.dc, .slice h.ta h.tn h.tc]] W (FindTold W (findX (k : Int) p p)) := fun W hh hh2 e1 e2 a b c => by
         have q1 := find_any (k : Int) hx1 hx2 p p hh hh2 W a b (by omega) (by omega) c
         rw [e1, e2] at q1
         exact q1
       (with_reducible refine (hck _ _ _ ?_ ?_ HD3.out.ti HD3.out.ti ?_).mono ?_)
       · rfl
       · rfl
       · exact HT.out.below HD3.out.b (Nat.le_refl _)
       rw [HS1.out]
       rintro _ w4 ⟨a4, n4, c4, b4, m4, d4, rfl, -, -, hb4⟩
       have HD4 := Lib.hid (HD3.out.below hb4)
       have HI4 := Lib.hid (HI3.out.below hb4)
       clear hck hb4))
  clear x0 x1 x2 x3 x4
  obtain ⟨x0, x1, x2, x3, x4⟩ := HD4.out.box.cells
  go_upto_region 8 with (first
    | (go_at_call 10
       have hck : ∀ W (hh hh2 : TH), hh.v = .agg #[.int .i64 h.k, .slice h.ka h.kn h.kc, .slice h.va h.vn h.vc, .slice h.da h.dn h.dc, .slice h.ta h.tn h.tc] → hh2.v = .agg #[.int .i64 3, .slice none 0 0, .slice none 0 0, .slice a3 k c3, .slice none 0 0] → InTree W hh p → InTree W hh2 (Tr.mk 3 [] [] zs []) → TabLies W → Calls Tryd.prog 10 #[.int .i64 (k : Int), .agg #[.int .i64 h.k, .slice h.ka h.kn h.kc, .slice h.va h.vn h.vc, .slice h.da h.dn h.dc, .slice h.ta h.tn h.tc], .agg #[.int .i64 3, .slice none 0 0, .slice none 0 0, .slice a3 k c3, .slice none 0 0]] W (FindTold W (findX (k : Int) p (Tr.mk 3 [] [] zs []))) := fun W hh hh2 e1 e2 a b c => by
         have q1 := find_any (k : Int) hx1 hx2 p (Tr.mk 3 [] [] zs []) hh hh2 W a b (by omega) (by rw [count_none9]; omega) c
         rw [e1, e2] at q1
         exact q1
       (with_reducible refine (hck _ _ _ ?_ ?_ HD4.out.ti (inTree_leaf (by omega) (by omega) HI4.out) ?_).mono ?_)
       · rfl
       · rfl
       · exact HT.out.below HD4.out.b (Nat.le_refl _)
       rw [HS2.out]
       rintro _ w5 ⟨a5, n5, c5, b5, m5, d5, rfl, -, -, hb5⟩
       have HD5 := Lib.hid (HD4.out.below hb5)
       skip
       clear hck hb5))
  clear x0 x1 x2 x3 x4
  obtain ⟨x0, x1, x2, x3, x4⟩ := HD5.out.box.cells
  by_cases htn : h.tn = 2
  case neg =>
    have hb8 : ((h.tn : Int) != 2) = true := by simp; omega
    clear htn
    go_wp2_with fail
    go_ret
    exact ⟨rfl, HD5.out.b⟩
  have hb8 : ((h.tn : Int) != 2) = false := by rw [htn]; rfl
  have HTN := Lib.hid htn
  clear htn
  cases hym : (y.tmod 2 != 0) with
  | true =>
    go_wp2_with fail
    go_ret
    exact ⟨rfl, HD5.out.b⟩
  | false =>
  obtain ⟨P, hP⟩ := PT.of p (check_zeroR HCK.out).1
  subst hP
  have hn : P.isNode = true := PT.node_two (by
    obtain ⟨H0, hp0⟩ := HD5.out.ti.parts
    rw [hp0.len, HTN.out])
  have HN := Lib.hid hn
  obtain ⟨H, hp⟩ := HD5.out.ti.parts
  have HP := Lib.hid hp
  have HKS := Lib.hid (kids_two hp (PT.node_kids hn))
  have HOK := Lib.hid (PT.node_ok hk2 hn (PT.ok_of hk2 P zs HZ.out))
  have HCK2 := Lib.hid (check_kids HCK.out (PT.node_kids hn))
  have HLD : Hid (DigIs (k : Int) P.left.tr k (P.left.dgP k)) := Lib.hid ⟨rfl, hk1, hk2, HCK2.out.1, PT.dg_ok hk2 _ HOK.out.1⟩
  have HS3 : Hid (findX (k : Int) (Tr.mk P.tr.k P.tr.key P.tr.val P.tr.dig [Tr.mk 3 [] [] (P.left.dgP k) [], P.right.tr]) P.tr = (9, [], [])) := Lib.hid (find_left hk1 hk2 hn HCK.out HZ.out)
  have ht0 : 0 < h.tn := by have := HTN.out; omega
  have ht1 : (1 : Int) < (h.tn : Int) := by have := HTN.out; omega
  obtain ⟨g, off, hta, -, -⟩ := hp.place ht0
  have HTA := Lib.hid hta
  have x4' : w5.cell? ⟨w.heap.size, 4, none⟩ = some (.slice (some ⟨g, off, none⟩) h.tn h.tc) := x4.trans (by rw [hta])
  obtain ⟨k0, k1, k2, k3, k4⟩ := hp.kid0 hta ht0
  have HKB : Hid (-9223372036854775808 ≤ h.k ∧ h.k ≤ 9223372036854775807) := Lib.hid ⟨hp.hk1, hp.hk2⟩
  have HKE : Hid (h.k = P.tr.k) := Lib.hid hp.hk
  clear x4 hp hn hta
  go_upto_region 11 with (first
    | (go_at_call 17
       have hck : ∀ W, InTree W (H 0) P.left.tr → TabLies W → Calls Tryd.prog 17 #[.int .i64 (k : Int), .agg #[.int .i64 (H 0).k, .slice (H 0).ka (H 0).kn (H 0).kc, .slice (H 0).va (H 0).vn (H 0).vc, .slice (H 0).da (H 0).dn (H 0).dc, .slice (H 0).ta (H 0).tn (H 0).tc]] W (fun e w' => ∃ a c, e = .returned (.tuple #[.slice a k c, .nilIface]) ∧ InBytes w' a k c (P.left.dgP k) ∧ Below W.heap.size W w') := fun W a b => digest_is (k : Int) P.left.tr (H 0) W a b HLD.out
       (with_reducible refine (hck _ ?_ ?_).mono ?_)
       · exact HKS.out.1
       · exact HT.out.below HD5.out.b (Nat.le_refl _)
       rintro _ w6 ⟨a6, c6, rfl, hi6, hb6⟩
       have HD6 := Lib.hid (HD5.out.below hb6)
       have HI6 := Lib.hid hi6
       have HP6 := Lib.hid (HP.out.below hb6)
       have HR6 := Lib.hid (HKS.out.2.1.lower hb6)
       clear hck hi6 hb6))
  clear x0 x1 x2 x3 x4' k0 k1 k2 k3 k4
  have HDD := Lib.hid HD6.out.drew
  have KEEP : Hid (∀ W, Below w6.drew.heap.size w6.drew W → (fun W => (W.cell? ⟨w.heap.size, 0, none⟩ = some (.int .i64 h.k) ∧ W.cell? ⟨w.heap.size, 1, none⟩ = some (.slice h.ka h.kn h.kc) ∧ W.cell? ⟨w.heap.size, 2, none⟩ = some (.slice h.va h.vn h.vc) ∧ W.cell? ⟨w.heap.size, 3, none⟩ = some (.slice h.da h.dn h.dc) ∧ W.cell? ⟨w.heap.size, 4, none⟩ = some (.slice (some ⟨g, off, none⟩) h.tn h.tc)) ∧ (W.cell? ⟨g, off + 5, none⟩ = some (.int .i64 (H 1).k) ∧ W.cell? ⟨g, off + 5 + 1, none⟩ = some (.slice (H 1).ka (H 1).kn (H 1).kc) ∧ W.cell? ⟨g, off + 5 + 2, none⟩ = some (.slice (H 1).va (H 1).vn (H 1).vc) ∧ W.cell? ⟨g, off + 5 + 3, none⟩ = some (.slice (H 1).da (H 1).dn (H 1).dc) ∧ W.cell? ⟨g, off + 5 + 4, none⟩ = some (.slice (H 1).ta (H 1).tn (H 1).tc))) W) := Lib.hid (fun W hb => ⟨⟨(HDD.out.below hb).box.cells.1, (HDD.out.below hb).box.cells.2.1, (HDD.out.below hb).box.cells.2.2.1, (HDD.out.below hb).box.cells.2.2.2.1, ((HDD.out.below hb).box.cells.2.2.2.2).trans (by rw [HTA.out])⟩, ((HP6.out.below (Below.refl _ _).drew).below hb).kid1 HTA.out (by omega)⟩)
  go_cut [19] (fun s19 wx => ∃ (gq : Nat) (hq : TH), s19 = .pointer (some ⟨gq, 0, none⟩) ∧ Box wx 25 gq hq ∧ InTree wx hq (Tr.mk P.tr.k P.tr.key P.tr.val P.tr.dig [Tr.mk 3 [] [] (P.left.dgP k) [], P.right.tr]) ∧ BW w wx h P.tr)
  case first =>
    refine wp_region_held_drew (S := (fun W => (W.cell? ⟨w.heap.size, 0, none⟩ = some (.int .i64 h.k) ∧ W.cell? ⟨w.heap.size, 1, none⟩ = some (.slice h.ka h.kn h.kc) ∧ W.cell? ⟨w.heap.size, 2, none⟩ = some (.slice h.va h.vn h.vc) ∧ W.cell? ⟨w.heap.size, 3, none⟩ = some (.slice h.da h.dn h.dc) ∧ W.cell? ⟨w.heap.size, 4, none⟩ = some (.slice (some ⟨g, off, none⟩) h.tn h.tc)) ∧ (W.cell? ⟨g, off + 5, none⟩ = some (.int .i64 (H 1).k) ∧ W.cell? ⟨g, off + 5 + 1, none⟩ = some (.slice (H 1).ka (H 1).kn (H 1).kc) ∧ W.cell? ⟨g, off + 5 + 2, none⟩ = some (.slice (H 1).va (H 1).vn (H 1).vc) ∧ W.cell? ⟨g, off + 5 + 3, none⟩ = some (.slice (H 1).da (H 1).dn (H 1).dc) ∧ W.cell? ⟨g, off + 5 + 4, none⟩ = some (.slice (H 1).ta (H 1).tn (H 1).tc)))) (by kernel_rfl) (KEEP.out _ (Below.refl _ _)) (fun hHeld => ?_)
    refine take_w (i := 0) (oi := ?oZ1) (v := ?vZ1) ?hiZ1 (by kernel_rfl) (by kernel_rfl) (by kernel_rfl) ?hQZ1 ?hwZ1 ?hyZ1 (by assumption) ?restZ1
    case hiZ1 => (simp only [List.getElem?_toArray, List.getElem?_cons_zero] <;> rfl)
    case hQZ1 => exact (fun _ _ _ h => h)
    case hwZ1 => rfl
    case hyZ1 => (intro w hSw; (try dsimp only at hSw); go_simp; try with_reducible rfl)
    (try simp only [Act.put, List.setIfInBounds_toArray, List.set_cons_zero, List.set_cons_succ])
    refine take_w (i := 1) (oi := ?oZ2) (v := ?vZ2) ?hiZ2 (by kernel_rfl) (by kernel_rfl) (by kernel_rfl) ?hQZ2 ?hwZ2 ?hyZ2 (by assumption) ?restZ2
    case hiZ2 => (simp only [List.getElem?_toArray, List.getElem?_cons_succ, List.getElem?_cons_zero] <;> rfl)
    case hQZ2 => exact (fun _ _ _ h => h)
    case hwZ2 => rfl
    case hyZ2 => (intro w hSw; (try dsimp only at hSw); go_simp; try with_reducible rfl)
    (try simp only [Act.put, List.setIfInBounds_toArray, List.set_cons_zero, List.set_cons_succ])
    refine take_w (i := 2) (oi := ?oZ3) (v := ?vZ3) ?hiZ3 (by kernel_rfl) (by kernel_rfl) (by kernel_rfl) ?hQZ3 ?hwZ3 ?hyZ3 (by assumption) ?restZ3
    case hiZ3 => (simp only [List.getElem?_toArray, List.getElem?_cons_succ, List.getElem?_cons_zero] <;> rfl)
    case hQZ3 => exact (fun _ _ _ h => h)
    case hwZ3 => rfl
    case hyZ3 => (intro w hSw; (try dsimp only at hSw); go_simp; try with_reducible rfl)
    (try simp only [Act.put, List.setIfInBounds_toArray, List.set_cons_zero, List.set_cons_succ])
    refine take_w (i := 3) (oi := ?oZ4) (v := ?vZ4) ?hiZ4 (by kernel_rfl) (by kernel_rfl) (by kernel_rfl) ?hQZ4 ?hwZ4 ?hyZ4 (by assumption) ?restZ4
    case hiZ4 => (simp only [List.getElem?_toArray, List.getElem?_cons_succ, List.getElem?_cons_zero] <;> rfl)
    case hQZ4 => exact (fun _ _ _ h => h)
    case hwZ4 => rfl
    case hyZ4 => (intro w hSw; (try dsimp only at hSw); go_simp; try with_reducible rfl)
    (try simp only [Act.put, List.setIfInBounds_toArray, List.set_cons_zero, List.set_cons_succ])
    refine take_w (i := 4) (oi := ?oZ5) (v := ?vZ5) ?hiZ5 (by kernel_rfl) (by kernel_rfl) (by kernel_rfl) ?hQZ5 ?hwZ5 ?hyZ5 (by assumption) ?restZ5
    case hiZ5 => (simp only [List.getElem?_toArray, List.getElem?_cons_succ, List.getElem?_cons_zero] <;> rfl)
    case hQZ5 => exact (fun _ _ _ h => h)
    case hwZ5 => rfl
    case hyZ5 => (intro w hSw; (try dsimp only at hSw); go_simp; try with_reducible rfl)
    (try simp only [Act.put, List.setIfInBounds_toArray, List.set_cons_zero, List.set_cons_succ])
    refine take_w (i := 5) (oi := ?oZ6) (v := ?vZ6) ?hiZ6 (by kernel_rfl) (by kernel_rfl) (by kernel_rfl) ?hQZ6 ?hwZ6 ?hyZ6 (by assumption) ?restZ6
    case hiZ6 => (simp only [List.getElem?_toArray, List.getElem?_cons_succ, List.getElem?_cons_zero] <;> rfl)
    case hQZ6 => exact (fun _ _ _ h => h)
    case hwZ6 => rfl
    case hyZ6 => (intro w hSw; (try dsimp only at hSw); go_simp; try with_reducible rfl)
    (try simp only [Act.put, List.setIfInBounds_toArray, List.set_cons_zero, List.set_cons_succ])
    refine take_w (i := 6) (oi := ?oZ7) (v := ?vZ7) ?hiZ7 (by kernel_rfl) (by kernel_rfl) (by kernel_rfl) ?hQZ7 ?hwZ7 ?hyZ7 (by assumption) ?restZ7
    case hiZ7 => (simp only [List.getElem?_toArray, List.getElem?_cons_succ, List.getElem?_cons_zero] <;> rfl)
    case hQZ7 => exact (fun _ _ _ h => h)
    case hwZ7 => rfl
    case hyZ7 => (intro w hSw; (try dsimp only at hSw); go_simp; try with_reducible rfl)
    (try simp only [Act.put, List.setIfInBounds_toArray, List.set_cons_zero, List.set_cons_succ])
    refine take_w (i := 7) (oi := ?oZ8) (v := ?vZ8) ?hiZ8 (by kernel_rfl) (by kernel_rfl) (by kernel_rfl) ?hQZ8 ?hwZ8 ?hyZ8 (by assumption) ?restZ8
    case hiZ8 => (simp only [List.getElem?_toArray, List.getElem?_cons_succ, List.getElem?_cons_zero] <;> rfl)
    case hQZ8 => exact (fun _ _ _ h => h)
    case hwZ8 => rfl
    case hyZ8 => (intro w hSw; (try dsimp only at hSw); go_simp; try with_reducible rfl)
    (try simp only [Act.put, List.setIfInBounds_toArray, List.set_cons_zero, List.set_cons_succ])
    refine take_w (i := 8) (oi := ?oZ9) (v := ?vZ9) ?hiZ9 (by kernel_rfl) (by kernel_rfl) (by kernel_rfl) ?hQZ9 ?hwZ9 ?hyZ9 (by assumption) ?restZ9
    case hiZ9 => (simp only [List.getElem?_toArray, List.getElem?_cons_succ, List.getElem?_cons_zero] <;> rfl)
    case hQZ9 => exact (fun _ _ _ h => h)
    case hwZ9 => rfl
    case hyZ9 => (intro w hSw; (try dsimp only at hSw); go_simp; try with_reducible rfl)
    (try simp only [Act.put, List.setIfInBounds_toArray, List.set_cons_zero, List.set_cons_succ])
    refine take_w (i := 9) (oi := ?oZ10) (v := ?vZ10) ?hiZ10 (by kernel_rfl) (by kernel_rfl) (by kernel_rfl) ?hQZ10 ?hwZ10 ?hyZ10 (by assumption) ?restZ10
    case hiZ10 => (simp only [List.getElem?_toArray, List.getElem?_cons_succ, List.getElem?_cons_zero] <;> rfl)
    case hQZ10 => exact (fun _ _ _ h => h)
    case hwZ10 => rfl
    case hyZ10 => (intro w hSw; (try dsimp only at hSw); go_simp; try with_reducible rfl)
    (try simp only [Act.put, List.setIfInBounds_toArray, List.set_cons_zero, List.set_cons_succ])
    refine take_w (i := 10) (oi := ?oZ11) (v := ?vZ11) ?hiZ11 (by kernel_rfl) (by kernel_rfl) (by kernel_rfl) ?hQZ11 ?hwZ11 ?hyZ11 (by assumption) ?restZ11
    case hiZ11 => (simp only [List.getElem?_toArray, List.getElem?_cons_succ, List.getElem?_cons_zero] <;> rfl)
    case hQZ11 => exact (fun _ _ _ h => h)
    case hwZ11 => rfl
    case hyZ11 => (intro w hSw; (try dsimp only at hSw); go_simp; try with_reducible rfl)
    (try simp only [Act.put, List.setIfInBounds_toArray, List.set_cons_zero, List.set_cons_succ])
    refine take_w (i := 11) (oi := ?oZ12) (v := ?vZ12) ?hiZ12 (by kernel_rfl) (by kernel_rfl) (by kernel_rfl) ?hQZ12 ?hwZ12 ?hyZ12 (by assumption) ?restZ12
    case hiZ12 => (simp only [List.getElem?_toArray, List.getElem?_cons_succ, List.getElem?_cons_zero] <;> rfl)
    case hQZ12 => exact (fun _ _ _ h => h)
    case hwZ12 => rfl
    case hyZ12 => (intro w hSw; (try dsimp only at hSw); go_simp; try with_reducible rfl)
    (try simp only [Act.put, List.setIfInBounds_toArray, List.set_cons_zero, List.set_cons_succ])
    refine take_w (i := 12) (oi := ?oZ13) (v := ?vZ13) ?hiZ13 (by kernel_rfl) (by kernel_rfl) (by kernel_rfl) ?hQZ13 ?hwZ13 ?hyZ13 (by assumption) ?restZ13
    case hiZ13 => (simp only [List.getElem?_toArray, List.getElem?_cons_succ, List.getElem?_cons_zero] <;> rfl)
    case hQZ13 => exact (fun _ _ _ h => h)
    case hwZ13 => rfl
    case hyZ13 => (intro w hSw; (try dsimp only at hSw); go_simp; try with_reducible rfl)
    (try simp only [Act.put, List.setIfInBounds_toArray, List.set_cons_zero, List.set_cons_succ])
    refine take_w (i := 13) (oi := ?oZ14) (v := ?vZ14) ?hiZ14 (by kernel_rfl) (by kernel_rfl) (by kernel_rfl) ?hQZ14 ?hwZ14 ?hyZ14 (by assumption) ?restZ14
    case hiZ14 => (simp only [List.getElem?_toArray, List.getElem?_cons_succ, List.getElem?_cons_zero] <;> rfl)
    case hQZ14 => exact (fun _ _ _ h => h)
    case hwZ14 => rfl
    case hyZ14 => (intro w hSw; (try dsimp only at hSw); go_simp; try with_reducible rfl)
    (try simp only [Act.put, List.setIfInBounds_toArray, List.set_cons_zero, List.set_cons_succ])
    refine wpAnyH_ready (rs := [14, 16]) (by kernel_rfl) (by simp) ?_
    refine AllReadyH.cons (o := ?oZ15) ?hiZ15 (fun K hK => ?stZ15) (AllReadyH.cons (o := ?oZ16) ?hiZ16 (fun K hK => ?stZ16) AllReadyH.nil)
    case hiZ15 => (simp only [List.getElem?_toArray, List.getElem?_cons_succ, List.getElem?_cons_zero] <;> rfl)
    case hiZ16 => (simp only [List.getElem?_toArray, List.getElem?_cons_succ, List.getElem?_cons_zero] <;> rfl)
    case stZ15 =>
      go_simp
      refine hK.out _ _ ?_ (fun hHeld => ?_)
      · (first | exact KEEP.out _ (Below.refl _ _) | exact KEEP.out _ ((Below.refl _ _).alloc (Nat.le_refl _) _) | exact KEEP.out _ (((Below.refl _ _).alloc (Nat.le_refl _) _).alloc (by simp) _) | exact KEEP.out _ HB9.out)
      clear hK K
      (try simp only [Act.put, List.setIfInBounds_toArray, List.set_cons_zero, List.set_cons_succ])
      refine take_w (i := 15) (oi := ?oZ17) (v := ?vZ17) ?hiZ17 (by kernel_rfl) (by kernel_rfl) (by kernel_rfl) ?hQZ17 ?hwZ17 ?hyZ17 (by assumption) ?restZ17
      case hiZ17 => (simp only [List.getElem?_toArray, List.getElem?_cons_succ, List.getElem?_cons_zero] <;> rfl)
      case hQZ17 => exact (fun _ _ _ h => h)
      case hwZ17 => rfl
      case hyZ17 => (intro w hSw; (try dsimp only at hSw); go_simp; try with_reducible rfl)
      (try simp only [Act.put, List.setIfInBounds_toArray, List.set_cons_zero, List.set_cons_succ])
      refine wpAnyH_ready (rs := [16]) (by kernel_rfl) (by simp) ?_
      refine AllReadyH.cons (o := ?oZ18) ?hiZ18 (fun K hK => ?stZ18) AllReadyH.nil
      case hiZ18 => (simp only [List.getElem?_toArray, List.getElem?_cons_succ, List.getElem?_cons_zero] <;> rfl)
      go_simp
      refine hK.out _ _ ?_ (fun hHeld => ?_)
      · (first | exact KEEP.out _ (Below.refl _ _) | exact KEEP.out _ ((Below.refl _ _).alloc (Nat.le_refl _) _) | exact KEEP.out _ (((Below.refl _ _).alloc (Nat.le_refl _) _).alloc (by simp) _) | exact KEEP.out _ HB9.out)
      clear hK K
      (try simp only [Act.put, List.setIfInBounds_toArray, List.set_cons_zero, List.set_cons_succ])
      refine wpAnyH_ready (rs := [17]) (by kernel_rfl) (by simp) ?_
      refine AllReadyH.cons (o := ?oZ19) ?hiZ19 (fun K hK => ?stZ19) AllReadyH.nil
      case hiZ19 => (simp only [List.getElem?_toArray, List.getElem?_cons_succ, List.getElem?_cons_zero] <;> rfl)
      have HTW : Hid (Two5 ((w6.drew.alloc (.cells #[.int .i64 3, .slice none 0 0, .slice none 0 0, .slice a6 k c6, .slice none 0 0, .int .i64 (H 1).k, .slice (H 1).ka (H 1).kn (H 1).kc, .slice (H 1).va (H 1).vn (H 1).vc, .slice (H 1).da (H 1).dn (H 1).dc, .slice (H 1).ta (H 1).tn (H 1).tc] 25)).alloc (.cells #[.int .i64 0, .slice none 0 0, .slice none 0 0, .slice none 0 0, .slice none 0 0] 25)) 25 w6.heap.size (⟨3, none, 0, 0, none, 0, 0, a6, k, c6, none, 0, 0⟩ : TH) (H 1)) := Lib.hid ((Two5.new w6.drew 25 (⟨3, none, 0, 0, none, 0, 0, a6, k, c6, none, 0, 0⟩ : TH) (H 1)).below ((Below.refl _ _).alloc (Nat.le_refl _) _) (Two5.new w6.drew 25 (⟨3, none, 0, 0, none, 0, 0, a6, k, c6, none, 0, 0⟩ : TH) (H 1)).lt)
      have HZB : Hid (Box ((w6.drew.alloc (.cells #[.int .i64 3, .slice none 0 0, .slice none 0 0, .slice a6 k c6, .slice none 0 0, .int .i64 (H 1).k, .slice (H 1).ka (H 1).kn (H 1).kc, .slice (H 1).va (H 1).vn (H 1).vc, .slice (H 1).da (H 1).dn (H 1).dc, .slice (H 1).ta (H 1).tn (H 1).tc] 25)).alloc (.cells #[.int .i64 0, .slice none 0 0, .slice none 0 0, .slice none 0 0, .slice none 0 0] 25)) 25 (w6.heap.size + 1) hZ) := Lib.hid (by have q1 := Box.new (w6.drew.alloc (.cells #[.int .i64 3, .slice none 0 0, .slice none 0 0, .slice a6 k c6, .slice none 0 0, .int .i64 (H 1).k, .slice (H 1).ka (H 1).kn (H 1).kc, .slice (H 1).va (H 1).vn (H 1).vc, .slice (H 1).da (H 1).dn (H 1).dc, .slice (H 1).ta (H 1).tn (H 1).tc] 25)) 25 hZ; rw [alloc_size] at q1; exact q1)
      have HBW : Hid (Below w6.drew.heap.size w6.drew ((w6.drew.alloc (.cells #[.int .i64 3, .slice none 0 0, .slice none 0 0, .slice a6 k c6, .slice none 0 0, .int .i64 (H 1).k, .slice (H 1).ka (H 1).kn (H 1).kc, .slice (H 1).va (H 1).vn (H 1).vc, .slice (H 1).da (H 1).dn (H 1).dc, .slice (H 1).ta (H 1).tn (H 1).tc] 25)).alloc (.cells #[.int .i64 0, .slice none 0 0, .slice none 0 0, .slice none 0 0, .slice none 0 0] 25))) := Lib.hid (((Below.refl _ _).alloc (Nat.le_refl _) _).alloc (by simp) _)
      refine step_store_box rfl 25 (.tmp 19) (.tmp 100) rfl (w6.heap.size + 1) hZ (⟨h.k, h.ka, h.kn, h.kc, h.va, h.vn, h.vc, h.da, h.dn, h.dc, some ⟨w6.heap.size, 0, none⟩, 2, 2⟩ : TH) rfl rfl 25 HZB.out infoTree5 ?_
      intro w9 hbx9 hg9
      have HX9 := Lib.hid hbx9
      have HB9 : Hid (Below w6.drew.heap.size w6.drew w9) := Lib.hid (HBW.out.grown hg9 HBW.out.size (fun j hj => by injection hj with hj; rw [← hj]; exact Nat.le_succ _))
      have HT9 : Hid (Two5 w9 25 w6.heap.size (⟨3, none, 0, 0, none, 0, 0, a6, k, c6, none, 0, 0⟩ : TH) (H 1)) := Lib.hid ((hg9.block _ HTW.out.lt (fun q => by injection q with q; omega)).trans HTW.out)
      clear hbx9 hg9
      refine hK.out _ _ ?_ (fun hHeld => ?_)
      · (first | exact KEEP.out _ (Below.refl _ _) | exact KEEP.out _ ((Below.refl _ _).alloc (Nat.le_refl _) _) | exact KEEP.out _ (((Below.refl _ _).alloc (Nat.le_refl _) _).alloc (by simp) _) | exact KEEP.out _ HB9.out)
      clear hK K
      (try simp only [Act.put])
      refine wpAnyH_done (by kernel_rfl) ?_ _
      go_wp2_with fail
      go_meet
      exact ⟨_, _, rfl, HX9.out, by rw [← HKE.out]; exact inTree_pair HT9.out (inTree_leaf (by omega) (by omega) ((HI6.out.below (Below.refl _ _).drew).below HB9.out)) ((HR6.out.lower (Below.refl _ _).drew).lower HB9.out) HKB.out.1 HKB.out.2 (((HP6.out.below (Below.refl _ _).drew).below HB9.out).key) (((HP6.out.below (Below.refl _ _).drew).below HB9.out).val) (((HP6.out.below (Below.refl _ _).drew).below HB9.out).dig), HDD.out.below HB9.out⟩
    case stZ16 =>
      go_simp
      refine hK.out _ _ ?_ (fun hHeld => ?_)
      · (first | exact KEEP.out _ (Below.refl _ _) | exact KEEP.out _ ((Below.refl _ _).alloc (Nat.le_refl _) _) | exact KEEP.out _ (((Below.refl _ _).alloc (Nat.le_refl _) _).alloc (by simp) _) | exact KEEP.out _ HB9.out)
      clear hK K
      (try simp only [Act.put, List.setIfInBounds_toArray, List.set_cons_zero, List.set_cons_succ])
      refine wpAnyH_ready (rs := [14]) (by kernel_rfl) (by simp) ?_
      refine AllReadyH.cons (o := ?oZ20) ?hiZ20 (fun K hK => ?stZ20) AllReadyH.nil
      case hiZ20 => (simp only [List.getElem?_toArray, List.getElem?_cons_succ, List.getElem?_cons_zero] <;> rfl)
      go_simp
      refine hK.out _ _ ?_ (fun hHeld => ?_)
      · (first | exact KEEP.out _ (Below.refl _ _) | exact KEEP.out _ ((Below.refl _ _).alloc (Nat.le_refl _) _) | exact KEEP.out _ (((Below.refl _ _).alloc (Nat.le_refl _) _).alloc (by simp) _) | exact KEEP.out _ HB9.out)
      clear hK K
      (try simp only [Act.put, List.setIfInBounds_toArray, List.set_cons_zero, List.set_cons_succ])
      refine take_w (i := 15) (oi := ?oZ21) (v := ?vZ21) ?hiZ21 (by kernel_rfl) (by kernel_rfl) (by kernel_rfl) ?hQZ21 ?hwZ21 ?hyZ21 (by assumption) ?restZ21
      case hiZ21 => (simp only [List.getElem?_toArray, List.getElem?_cons_succ, List.getElem?_cons_zero] <;> rfl)
      case hQZ21 => exact (fun _ _ _ h => h)
      case hwZ21 => rfl
      case hyZ21 => (intro w hSw; (try dsimp only at hSw); go_simp; try with_reducible rfl)
      (try simp only [Act.put, List.setIfInBounds_toArray, List.set_cons_zero, List.set_cons_succ])
      refine wpAnyH_ready (rs := [17]) (by kernel_rfl) (by simp) ?_
      refine AllReadyH.cons (o := ?oZ22) ?hiZ22 (fun K hK => ?stZ22) AllReadyH.nil
      case hiZ22 => (simp only [List.getElem?_toArray, List.getElem?_cons_succ, List.getElem?_cons_zero] <;> rfl)
      have HTW : Hid (Two5 ((w6.drew.alloc (.cells #[.int .i64 0, .slice none 0 0, .slice none 0 0, .slice none 0 0, .slice none 0 0] 25)).alloc (.cells #[.int .i64 3, .slice none 0 0, .slice none 0 0, .slice a6 k c6, .slice none 0 0, .int .i64 (H 1).k, .slice (H 1).ka (H 1).kn (H 1).kc, .slice (H 1).va (H 1).vn (H 1).vc, .slice (H 1).da (H 1).dn (H 1).dc, .slice (H 1).ta (H 1).tn (H 1).tc] 25)) 25 (w6.heap.size + 1) (⟨3, none, 0, 0, none, 0, 0, a6, k, c6, none, 0, 0⟩ : TH) (H 1)) := Lib.hid ((by have q1 := Two5.new (w6.drew.alloc (.cells #[.int .i64 0, .slice none 0 0, .slice none 0 0, .slice none 0 0, .slice none 0 0] 25)) 25 (⟨3, none, 0, 0, none, 0, 0, a6, k, c6, none, 0, 0⟩ : TH) (H 1); rw [alloc_size] at q1; exact q1))
      have HZB : Hid (Box ((w6.drew.alloc (.cells #[.int .i64 0, .slice none 0 0, .slice none 0 0, .slice none 0 0, .slice none 0 0] 25)).alloc (.cells #[.int .i64 3, .slice none 0 0, .slice none 0 0, .slice a6 k c6, .slice none 0 0, .int .i64 (H 1).k, .slice (H 1).ka (H 1).kn (H 1).kc, .slice (H 1).va (H 1).vn (H 1).vc, .slice (H 1).da (H 1).dn (H 1).dc, .slice (H 1).ta (H 1).tn (H 1).tc] 25)) 25 w6.heap.size hZ) := Lib.hid ((Box.new w6.drew 25 hZ).below ((Below.refl _ _).alloc (Nat.le_refl _) _) (Box.new w6.drew 25 hZ).lt)
      have HBW : Hid (Below w6.drew.heap.size w6.drew ((w6.drew.alloc (.cells #[.int .i64 0, .slice none 0 0, .slice none 0 0, .slice none 0 0, .slice none 0 0] 25)).alloc (.cells #[.int .i64 3, .slice none 0 0, .slice none 0 0, .slice a6 k c6, .slice none 0 0, .int .i64 (H 1).k, .slice (H 1).ka (H 1).kn (H 1).kc, .slice (H 1).va (H 1).vn (H 1).vc, .slice (H 1).da (H 1).dn (H 1).dc, .slice (H 1).ta (H 1).tn (H 1).tc] 25))) := Lib.hid (((Below.refl _ _).alloc (Nat.le_refl _) _).alloc (by simp) _)
      refine step_store_box rfl 25 (.tmp 19) (.tmp 100) rfl w6.heap.size hZ (⟨h.k, h.ka, h.kn, h.kc, h.va, h.vn, h.vc, h.da, h.dn, h.dc, some ⟨(w6.heap.size + 1), 0, none⟩, 2, 2⟩ : TH) rfl rfl 25 HZB.out infoTree5 ?_
      intro w9 hbx9 hg9
      have HX9 := Lib.hid hbx9
      have HB9 : Hid (Below w6.drew.heap.size w6.drew w9) := Lib.hid (HBW.out.grown hg9 HBW.out.size (fun j hj => by injection hj with hj; rw [← hj]; exact Nat.le_refl _))
      have HT9 : Hid (Two5 w9 25 (w6.heap.size + 1) (⟨3, none, 0, 0, none, 0, 0, a6, k, c6, none, 0, 0⟩ : TH) (H 1)) := Lib.hid ((hg9.block _ HTW.out.lt (fun q => by injection q with q; omega)).trans HTW.out)
      clear hbx9 hg9
      refine hK.out _ _ ?_ (fun hHeld => ?_)
      · (first | exact KEEP.out _ (Below.refl _ _) | exact KEEP.out _ ((Below.refl _ _).alloc (Nat.le_refl _) _) | exact KEEP.out _ (((Below.refl _ _).alloc (Nat.le_refl _) _).alloc (by simp) _) | exact KEEP.out _ HB9.out)
      clear hK K
      (try simp only [Act.put])
      refine wpAnyH_done (by kernel_rfl) ?_ _
      go_wp2_with fail
      go_meet
      exact ⟨_, _, rfl, HX9.out, by rw [← HKE.out]; exact inTree_pair HT9.out (inTree_leaf (by omega) (by omega) ((HI6.out.below (Below.refl _ _).drew).below HB9.out)) ((HR6.out.lower (Below.refl _ _).drew).lower HB9.out) HKB.out.1 HKB.out.2 (((HP6.out.below (Below.refl _ _).drew).below HB9.out).key) (((HP6.out.below (Below.refl _ _).drew).below HB9.out).val) (((HP6.out.below (Below.refl _ _).drew).below HB9.out).dig), HDD.out.below HB9.out⟩
  case rest =>
    obtain ⟨gq, hq, rfl, hbx, hit, hbw⟩ := hcut
    have HD7 := Lib.hid hbw
    have HIQ := Lib.hid hit
    have HBX := Lib.hid hbx
    obtain ⟨z0, z1, z2, z3, z4⟩ := hbx.cells
    obtain ⟨x0, x1, x2, x3, x4⟩ := hbw.box.cells
    have hcq : countT (Tr.mk P.tr.k P.tr.key P.tr.val P.tr.dig [Tr.mk 3 [] [] (P.left.dgP k) [], P.right.tr]) ≤ 500 := by
      rw [countT_eq]
      have q1 := countT_eq P.tr
      rw [PT.node_kids HN.out] at q1
      simp only [Tr.kids, List.map_cons, List.map_nil, List.sum_cons, List.sum_nil] at q1 ⊢
      rw [count_none9]
      omega
    clear hbx hit hbw
    go_upto_region 13 with (first
      | (go_at_call 10
         have hck : ∀ W (hh hh2 : TH), hh.v = .agg #[.int .i64 hq.k, .slice hq.ka hq.kn hq.kc, .slice hq.va hq.vn hq.vc, .slice hq.da hq.dn hq.dc, .slice hq.ta hq.tn hq.tc] → hh2.v = .agg #[.int .i64 h.k, .slice h.ka h.kn h.kc, .slice h.va h.vn h.vc, .slice h.da h.dn h.dc, .slice h.ta h.tn h.tc] → InTree W hh (Tr.mk P.tr.k P.tr.key P.tr.val P.tr.dig [Tr.mk 3 [] [] (P.left.dgP k) [], P.right.tr]) → InTree W hh2 P.tr → TabLies W → Calls Tryd.prog 10 #[.int .i64 (k : Int), .agg #[.int .i64 hq.k, .slice hq.ka hq.kn hq.kc, .slice hq.va hq.vn hq.vc, .slice hq.da hq.dn hq.dc, .slice hq.ta hq.tn hq.tc], .agg #[.int .i64 h.k, .slice h.ka h.kn h.kc, .slice h.va h.vn h.vc, .slice h.da h.dn h.dc, .slice h.ta h.tn h.tc]] W (FindTold W (findX (k : Int) (Tr.mk P.tr.k P.tr.key P.tr.val P.tr.dig [Tr.mk 3 [] [] (P.left.dgP k) [], P.right.tr]) P.tr)) := fun W hh hh2 e1 e2 a b c => by
           have q1 := find_any (k : Int) hx1 hx2 (Tr.mk P.tr.k P.tr.key P.tr.val P.tr.dig [Tr.mk 3 [] [] (P.left.dgP k) [], P.right.tr]) P.tr hh hh2 W a b hcq (by omega) c
           rw [e1, e2] at q1
           exact q1
         (with_reducible refine (hck _ _ _ ?_ ?_ HIQ.out HD7.out.ti ?_).mono ?_)
         · rfl
         · rfl
         · exact HT.out.below HD7.out.b (Nat.le_refl _)
         rw [HS3.out]
         rintro _ w8 ⟨a8, n8, c8, b8, m8, d8, rfl, -, -, hb8⟩
         have HD8 := Lib.hid (HD7.out.below hb8)
         skip
         clear hck hb8))
    clear x0 x1 x2 x3 x4 z0 z1 z2 z3 z4
    go_wp2_with fail
    go_ret
    exact ⟨rfl, HD8.out.b⟩
end Go.Proofs.YtioifkbkllnkgaaDoor

/- A tree that is an argument of the program. -/
namespace Go.Proofs.YtioifkbkllnkgaaDoor
open Go.ChangeShapes Go.WideShapes Go.RowKit Go.Deep
set_option linter.unusedVariables false

set_option maxRecDepth 100000 in
theorem open_tree {H : Type} {enc : TypeId × Value → H} {w : World} {base : Nat} {spare : Nat → Bool} {held : Bool} {r : Reach} {b0 : Nat} {v : Value} {d : DataW H} {p : List MemPlace}
    (hv : Value.okWide Tryd.prog w r b0 25 v) (h : DataW.Trod enc Tryd.prog w base spare held 25 v d p) : ∃ hd t, v = TH.v hd ∧ InTree w hd t := by
  obtain ⟨cs, rfl, hs⟩ := okWide_struct Tryd.underlying25 hv
  obtain ⟨fuel, hf⟩ := h
  obtain ⟨hd, t, e, ht⟩ := trod_tree Tryd.underlying25 (by kernel_rfl) rfl rfl rfl rfl rfl (by kernel_rfl) (by kernel_rfl) (by kernel_rfl) (by kernel_rfl) (by kernel_rfl)
    Tryd.underlying3 Tryd.underlying22 Tryd.underlying22 Tryd.underlying22 Tryd.underlying23 Tryd.underlying5 (by kernel_rfl) fuel _ _ hf
  refine ⟨hd, t, ?_, ht⟩
  have e2 : cs = hd.cells.toArray := by
    simp only [Value.cells] at e
    rw [← e]
  rw [e2]
  rfl
end Go.Proofs.YtioifkbkllnkgaaDoor
