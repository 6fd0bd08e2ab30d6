/- The walk of the law AvlGets. -/
import Derived.Test.YtolpdidjabbipaaAvlUp
import Derived.Test.YtolpdidjabbipaaTreeW
import Derived.Test.YtolpdidjabbipaaTake
import Derived.Test.YtolpdidjabbipaaCode
namespace Go.Proofs.Ytolpdidjabbipaa
open Go.RowKit
set_option linter.unusedVariables false

set_option maxRecDepth 100000 in
set_option maxHeartbeats 4000000 in
theorem avlGets_law (t : Tr) (h : TH) (key : List Int) (ka : Option Addr) (kn kc : Nat) (w : World) (ht : InTree w h t) (hk : InBytes w ka kn kc key) :
    Calls Try.prog 4 #[h.v, .slice ka kn kc] w (Says w (.bool true)) := by
  unfold TH.v
  have hd0 := TW.new w ht
  have HD0 := Lib.hid hd0
  have HK := Lib.hid hk
  clear ht hd0 hk
  go_enter Try.func4, Try.ntmps4
  go_upto_region 3 with (first
    | (go_at_call 8
       refine (up5_any _).mono ?_
       rintro _ w1 ⟨rfl, hb1⟩
       have hd1 := HD0.out.below hb1
       have HD1 := Lib.hid hd1
       obtain ⟨x0, x1, x2, x3, x4⟩ := hd1.box.cells
       clear hb1 hd1)
    | (go_at_call 9
       refine (small5_any t h _ HD1.out.t).mono ?_
       rintro _ w2 ⟨ok, rfl, hok, hb2⟩
       have hd2 := HD1.out.below hb2
       have HD2 := Lib.hid hd2
       have HOK := Lib.hid hok
       clear x0 x1 x2 x3 x4
       obtain ⟨x0, x1, x2, x3, x4⟩ := hd2.box.cells
       clear hb2 hd2 hok))
  cases ok with
  | false =>
    go_wp2_with fail
    go_ret
    exact ⟨rfl, HD2.out.b⟩
  | true =>
    have hcn := HOK.out rfl
    clear HOK
    by_cases c : 5000 < kn
    · have q1 : (5000 : Int) < (kn : Int) := by omega
      go_wp2_with fail
      go_ret
      exact ⟨rfl, HD2.out.b⟩
    · have q1 : ¬ (5000 : Int) < (kn : Int) := by omega
      by_cases hbad : badA t kn 0 = 0
      · obtain ⟨⟨a, e, -, -, hlim, -⟩, -, -⟩ := badA_zero hbad
        subst e
        have HLIM := Lib.hid hlim
        have HBAD := Lib.hid hbad
        clear hbad hlim
        generalize hgo : a.get key = o
        have HGO := Lib.hid hgo
        clear hgo
        go_upto_region 10 with (first
          | (go_at_call 12
             refine (get_ok a h key ka kn kc _ HD2.out.t (HK.out.below HD2.out.b) HBAD.out).mono ?_
             rw [HGO.out]
             rintro _ w3 ⟨a3, c3, rfl, hi3, hb3⟩
             have HD3 := Lib.hid (HD2.out.below hb3)
             have HI3 := Lib.hid hi3
             clear x0 x1 x2 x3 x4
             obtain ⟨x0, x1, x2, x3, x4⟩ := HD3.out.box.cells
             clear hi3 hb3)
          | (go_at_call 13
             refine (asked_any a.tr h ka none kn kc 0 0 _ HD3.out.t (by omega)).mono ?_
             rw [HBAD.out]
             rintro _ w4 ⟨rfl, hb4⟩
             have HD4 := Lib.hid (HD3.out.below hb4)
             have HI4 := Lib.hid (HI3.out.below hb4)
             clear x0 x1 x2 x3 x4
             obtain ⟨x0, x1, x2, x3, x4⟩ := HD4.out.box.cells
             clear hb4)
          | (go_at_call 15
             refine (refGet_any a h key ka kn kc _ HD4.out.t HLIM.out (by omega) (HK.out.below HD4.out.b)).mono ?_
             rw [HGO.out]
             rintro _ w5 ⟨a5, n5, c5, rfl, hi5, hb5⟩
             have HD5 := Lib.hid (HD4.out.below hb5)
             have HI5 := Lib.hid (And.intro (HI4.out.below hb5) hi5)
             clear hi5 hb5 x0 x1 x2 x3 x4))
        have cv1 := conv_key HI5.out.1
        have cv2 := conv_key HI5.out.2
        have hbe : (o.isSome == o.isSome) = true := by cases o <;> rfl
        have hse : ((strOfNums (o.getD [])).toList == (strOfNums (o.getD [])).toList) = true := by simp
        go_wp2_with fail
        go_ret
        exact ⟨rfl, HD5.out.b⟩
      · have HBAD := Lib.hid hbad
        have hle := badA_le t kn 0
        generalize hkk : badA t kn 0 = k at *
        have HKK := Lib.hid hkk
        have HKL := Lib.hid hle
        have hk0 : (k : Int) ≠ 0 := by omega
        clear hkk hle hbad
        go_wp2_with (first
          | (go_at_call 12
             refine (get_bad t h ka kn kc _ HD2.out.t (by rw [HKK.out]; exact HBAD.out)).mono ?_
             rw [HKK.out]
             rintro _ w3 ⟨rfl, hb3⟩
             have HD3 := Lib.hid (HD2.out.below hb3)
             clear x0 x1 x2 x3 x4
             obtain ⟨x0, x1, x2, x3, x4⟩ := HD3.out.box.cells
             clear hb3)
          | (go_at_call 13
             refine (asked_any t h ka none kn kc 0 0 _ HD3.out.t (by omega)).mono ?_
             rw [HKK.out]
             rintro _ w4 ⟨rfl, hb4⟩
             have HD4 := Lib.hid (HD3.out.below hb4)
             clear x0 x1 x2 x3 x4
             clear hb4)
          | (go_at_call 14
             refine (code_any k HKL.out _).mono ?_
             rintro _ w5 ⟨rfl, m5, rfl⟩
             have HD5 := Lib.hid (HD4.out.drewN m5)))
        go_ret
        exact ⟨rfl, HD5.out.b⟩
end Go.Proofs.Ytolpdidjabbipaa
