/- The walk of the law ScanNone. -/
import Derived.Test.YtpjojhmdgeejmaaScanUp
import Derived.Test.YtpjojhmdgeejmaaStrLt
namespace Go.Proofs.Ytpjojhmdgeejmaa
open Go.RowKit
set_option linter.unusedVariables false

set_option maxRecDepth 100000 in
set_option maxHeartbeats 8000000 in
theorem scanNone_law (sp : DH) (f t low high : List Int) (la ha : Option Addr) (ln lc hn hc : Nat) (hl hh : Bool) (w : World) (hs : SpanIn w sp f t) (hlo : InBytes w la ln lc low) (hhi : InBytes w ha hn hc high) (hln : ln ≤ 140737488351232) (key : List Int) (ka : Option Addr) (kn kc : Nat) (hk : InBytes w ka kn kc key) :
    Calls Try.prog 5 #[sp.v, .slice la ln lc, .slice ha hn hc, .bool hl, .bool hh, .slice ka kn kc] w (Says w (.bool true)) := by
  have hx1 : Op.bytesLess (strOfNums low).toList (strOfNums key).toList = ltL low key := str_lt hlo.bytes hk.bytes
  have hx2 : Op.bytesLess (strOfNums key).toList (strOfNums high).toList = ltL key high := str_lt hk.bytes hhi.bytes
  have HKK := Lib.hid hk
  clear hk
  unfold DH.v
  have HD0 := Lib.hid (SX.new w hs)
  have HK := Lib.hid (And.intro hlo hhi)
  clear hs hlo hhi
  go_enter Try.func5, Try.ntmps5
  go_upto_region 2 with (first
    | (go_at_call 9
       refine (up6_any _).mono ?_
       rintro _ w1 ⟨rfl, hb1⟩
       have HD1 := Lib.hid (HD0.out.below hb1)
       clear hb1))
  have cv0 := conv_key (HK.out.1.below HD1.out.b)
  have cv1 := conv_key (HK.out.2.below HD1.out.b)
  have cv2 := conv_key (HKK.out.below HD1.out.b)
  obtain ⟨x0, x1, x2⟩ := HD1.out.box.three
  cases hl with
  | false =>
    cases hh with
    | false =>
      cases he : emptyS f t sp.out low high false false with
      | false =>
        have HE := Lib.hid he
        clear he
        go_wp2_with (first
          | (go_at_call 13
             refine (scanEmpty_any sp f t low high la ha ln lc hn hc false false _ HD1.out.sp (HK.out.1.below HD1.out.b) (HK.out.2.below HD1.out.b) hln).mono ?_
             rw [HE.out]
             rintro _ w2 ⟨rfl, hb2⟩
             have HD2 := Lib.hid (HD1.out.below hb2)
             clear hb2))
        go_ret
        exact ⟨rfl, HD2.out.b⟩
      | true =>
        have HE := Lib.hid he
        clear he
        have HIN : Hid (inS f t sp.out key = false) := Lib.hid (empty_none HKK.out.bytes HE.out (rfl))
        go_wp2_with (first
          | (go_at_call 13
             refine (scanEmpty_any sp f t low high la ha ln lc hn hc false false _ HD1.out.sp (HK.out.1.below HD1.out.b) (HK.out.2.below HD1.out.b) hln).mono ?_
             rw [HE.out]
             rintro _ w2 ⟨rfl, hb2⟩
             have HD2 := Lib.hid (HD1.out.below hb2)
             obtain ⟨x0, x1, x2⟩ := HD2.out.box.three
             clear hb2)
          | (go_at_call 11
             refine (scanIn_any sp f t key ka kn kc _ HD2.out.sp (HKK.out.below HD2.out.b)).mono ?_
             rw [HIN.out]
             rintro _ w3 ⟨rfl, hb3⟩
             have HD3 := Lib.hid (HD2.out.below hb3)
             clear hb3 x0 x1 x2))
        go_ret
        exact ⟨rfl, HD3.out.b⟩
    | true =>
      cases c2 : ltL key high with
      | false =>
        rw [c2] at hx2
        have HKH := Lib.hid c2
        clear c2
        cases he : emptyS f t sp.out low high false true with
        | false =>
          have HE := Lib.hid he
          clear he
          go_wp2_with (first
            | (go_at_call 13
               refine (scanEmpty_any sp f t low high la ha ln lc hn hc false true _ HD1.out.sp (HK.out.1.below HD1.out.b) (HK.out.2.below HD1.out.b) hln).mono ?_
               rw [HE.out]
               rintro _ w2 ⟨rfl, hb2⟩
               have HD2 := Lib.hid (HD1.out.below hb2)
               clear hb2))
          go_ret
          exact ⟨rfl, HD2.out.b⟩
        | true =>
          have HE := Lib.hid he
          clear he
          go_wp2_with (first
            | (go_at_call 13
               refine (scanEmpty_any sp f t low high la ha ln lc hn hc false true _ HD1.out.sp (HK.out.1.below HD1.out.b) (HK.out.2.below HD1.out.b) hln).mono ?_
               rw [HE.out]
               rintro _ w2 ⟨rfl, hb2⟩
               have HD2 := Lib.hid (HD1.out.below hb2)
               clear hb2))
          go_ret
          exact ⟨rfl, HD2.out.b⟩
      | true =>
        rw [c2] at hx2
        have HKH := Lib.hid c2
        clear c2
        cases he : emptyS f t sp.out low high false true with
        | false =>
          have HE := Lib.hid he
          clear he
          go_wp2_with (first
            | (go_at_call 13
               refine (scanEmpty_any sp f t low high la ha ln lc hn hc false true _ HD1.out.sp (HK.out.1.below HD1.out.b) (HK.out.2.below HD1.out.b) hln).mono ?_
               rw [HE.out]
               rintro _ w2 ⟨rfl, hb2⟩
               have HD2 := Lib.hid (HD1.out.below hb2)
               clear hb2))
          go_ret
          exact ⟨rfl, HD2.out.b⟩
        | true =>
          have HE := Lib.hid he
          clear he
          have HIN : Hid (inS f t sp.out key = false) := Lib.hid (empty_none HKK.out.bytes HE.out (by rw [HKH.out]; rfl))
          go_wp2_with (first
            | (go_at_call 13
               refine (scanEmpty_any sp f t low high la ha ln lc hn hc false true _ HD1.out.sp (HK.out.1.below HD1.out.b) (HK.out.2.below HD1.out.b) hln).mono ?_
               rw [HE.out]
               rintro _ w2 ⟨rfl, hb2⟩
               have HD2 := Lib.hid (HD1.out.below hb2)
               obtain ⟨x0, x1, x2⟩ := HD2.out.box.three
               clear hb2)
            | (go_at_call 11
               refine (scanIn_any sp f t key ka kn kc _ HD2.out.sp (HKK.out.below HD2.out.b)).mono ?_
               rw [HIN.out]
               rintro _ w3 ⟨rfl, hb3⟩
               have HD3 := Lib.hid (HD2.out.below hb3)
               clear hb3 x0 x1 x2))
          go_ret
          exact ⟨rfl, HD3.out.b⟩
  | true =>
    cases c1 : ltL low key with
    | false =>
      rw [c1] at hx1
      have HLK := Lib.hid c1
      clear c1
      cases hh with
      | false =>
        cases he : emptyS f t sp.out low high true false with
        | false =>
          have HE := Lib.hid he
          clear he
          go_wp2_with (first
            | (go_at_call 13
               refine (scanEmpty_any sp f t low high la ha ln lc hn hc true false _ HD1.out.sp (HK.out.1.below HD1.out.b) (HK.out.2.below HD1.out.b) hln).mono ?_
               rw [HE.out]
               rintro _ w2 ⟨rfl, hb2⟩
               have HD2 := Lib.hid (HD1.out.below hb2)
               clear hb2))
          go_ret
          exact ⟨rfl, HD2.out.b⟩
        | true =>
          have HE := Lib.hid he
          clear he
          go_wp2_with (first
            | (go_at_call 13
               refine (scanEmpty_any sp f t low high la ha ln lc hn hc true false _ HD1.out.sp (HK.out.1.below HD1.out.b) (HK.out.2.below HD1.out.b) hln).mono ?_
               rw [HE.out]
               rintro _ w2 ⟨rfl, hb2⟩
               have HD2 := Lib.hid (HD1.out.below hb2)
               clear hb2))
          go_ret
          exact ⟨rfl, HD2.out.b⟩
      | true =>
        cases c2 : ltL key high with
        | false =>
          rw [c2] at hx2
          have HKH := Lib.hid c2
          clear c2
          cases he : emptyS f t sp.out low high true true with
          | false =>
            have HE := Lib.hid he
            clear he
            go_wp2_with (first
              | (go_at_call 13
                 refine (scanEmpty_any sp f t low high la ha ln lc hn hc true true _ HD1.out.sp (HK.out.1.below HD1.out.b) (HK.out.2.below HD1.out.b) hln).mono ?_
                 rw [HE.out]
                 rintro _ w2 ⟨rfl, hb2⟩
                 have HD2 := Lib.hid (HD1.out.below hb2)
                 clear hb2))
            go_ret
            exact ⟨rfl, HD2.out.b⟩
          | true =>
            have HE := Lib.hid he
            clear he
            go_wp2_with (first
              | (go_at_call 13
                 refine (scanEmpty_any sp f t low high la ha ln lc hn hc true true _ HD1.out.sp (HK.out.1.below HD1.out.b) (HK.out.2.below HD1.out.b) hln).mono ?_
                 rw [HE.out]
                 rintro _ w2 ⟨rfl, hb2⟩
                 have HD2 := Lib.hid (HD1.out.below hb2)
                 clear hb2))
            go_ret
            exact ⟨rfl, HD2.out.b⟩
        | true =>
          rw [c2] at hx2
          have HKH := Lib.hid c2
          clear c2
          cases he : emptyS f t sp.out low high true true with
          | false =>
            have HE := Lib.hid he
            clear he
            go_wp2_with (first
              | (go_at_call 13
                 refine (scanEmpty_any sp f t low high la ha ln lc hn hc true true _ HD1.out.sp (HK.out.1.below HD1.out.b) (HK.out.2.below HD1.out.b) hln).mono ?_
                 rw [HE.out]
                 rintro _ w2 ⟨rfl, hb2⟩
                 have HD2 := Lib.hid (HD1.out.below hb2)
                 clear hb2))
            go_ret
            exact ⟨rfl, HD2.out.b⟩
          | true =>
            have HE := Lib.hid he
            clear he
            go_wp2_with (first
              | (go_at_call 13
                 refine (scanEmpty_any sp f t low high la ha ln lc hn hc true true _ HD1.out.sp (HK.out.1.below HD1.out.b) (HK.out.2.below HD1.out.b) hln).mono ?_
                 rw [HE.out]
                 rintro _ w2 ⟨rfl, hb2⟩
                 have HD2 := Lib.hid (HD1.out.below hb2)
                 clear hb2))
            go_ret
            exact ⟨rfl, HD2.out.b⟩
    | true =>
      rw [c1] at hx1
      have HLK := Lib.hid c1
      clear c1
      cases hh with
      | false =>
        cases he : emptyS f t sp.out low high true false with
        | false =>
          have HE := Lib.hid he
          clear he
          go_wp2_with (first
            | (go_at_call 13
               refine (scanEmpty_any sp f t low high la ha ln lc hn hc true false _ HD1.out.sp (HK.out.1.below HD1.out.b) (HK.out.2.below HD1.out.b) hln).mono ?_
               rw [HE.out]
               rintro _ w2 ⟨rfl, hb2⟩
               have HD2 := Lib.hid (HD1.out.below hb2)
               clear hb2))
          go_ret
          exact ⟨rfl, HD2.out.b⟩
        | true =>
          have HE := Lib.hid he
          clear he
          have HIN : Hid (inS f t sp.out key = false) := Lib.hid (empty_none HKK.out.bytes HE.out (by rw [HLK.out]; rfl))
          go_wp2_with (first
            | (go_at_call 13
               refine (scanEmpty_any sp f t low high la ha ln lc hn hc true false _ HD1.out.sp (HK.out.1.below HD1.out.b) (HK.out.2.below HD1.out.b) hln).mono ?_
               rw [HE.out]
               rintro _ w2 ⟨rfl, hb2⟩
               have HD2 := Lib.hid (HD1.out.below hb2)
               obtain ⟨x0, x1, x2⟩ := HD2.out.box.three
               clear hb2)
            | (go_at_call 11
               refine (scanIn_any sp f t key ka kn kc _ HD2.out.sp (HKK.out.below HD2.out.b)).mono ?_
               rw [HIN.out]
               rintro _ w3 ⟨rfl, hb3⟩
               have HD3 := Lib.hid (HD2.out.below hb3)
               clear hb3 x0 x1 x2))
          go_ret
          exact ⟨rfl, HD3.out.b⟩
      | true =>
        cases c2 : ltL key high with
        | false =>
          rw [c2] at hx2
          have HKH := Lib.hid c2
          clear c2
          cases he : emptyS f t sp.out low high true true with
          | false =>
            have HE := Lib.hid he
            clear he
            go_wp2_with (first
              | (go_at_call 13
                 refine (scanEmpty_any sp f t low high la ha ln lc hn hc true true _ HD1.out.sp (HK.out.1.below HD1.out.b) (HK.out.2.below HD1.out.b) hln).mono ?_
                 rw [HE.out]
                 rintro _ w2 ⟨rfl, hb2⟩
                 have HD2 := Lib.hid (HD1.out.below hb2)
                 clear hb2))
            go_ret
            exact ⟨rfl, HD2.out.b⟩
          | true =>
            have HE := Lib.hid he
            clear he
            go_wp2_with (first
              | (go_at_call 13
                 refine (scanEmpty_any sp f t low high la ha ln lc hn hc true true _ HD1.out.sp (HK.out.1.below HD1.out.b) (HK.out.2.below HD1.out.b) hln).mono ?_
                 rw [HE.out]
                 rintro _ w2 ⟨rfl, hb2⟩
                 have HD2 := Lib.hid (HD1.out.below hb2)
                 clear hb2))
            go_ret
            exact ⟨rfl, HD2.out.b⟩
        | true =>
          rw [c2] at hx2
          have HKH := Lib.hid c2
          clear c2
          cases he : emptyS f t sp.out low high true true with
          | false =>
            have HE := Lib.hid he
            clear he
            go_wp2_with (first
              | (go_at_call 13
                 refine (scanEmpty_any sp f t low high la ha ln lc hn hc true true _ HD1.out.sp (HK.out.1.below HD1.out.b) (HK.out.2.below HD1.out.b) hln).mono ?_
                 rw [HE.out]
                 rintro _ w2 ⟨rfl, hb2⟩
                 have HD2 := Lib.hid (HD1.out.below hb2)
                 clear hb2))
            go_ret
            exact ⟨rfl, HD2.out.b⟩
          | true =>
            have HE := Lib.hid he
            clear he
            have HIN : Hid (inS f t sp.out key = false) := Lib.hid (empty_none HKK.out.bytes HE.out (by rw [HLK.out]; rw [HKH.out]; rfl))
            go_wp2_with (first
              | (go_at_call 13
                 refine (scanEmpty_any sp f t low high la ha ln lc hn hc true true _ HD1.out.sp (HK.out.1.below HD1.out.b) (HK.out.2.below HD1.out.b) hln).mono ?_
                 rw [HE.out]
                 rintro _ w2 ⟨rfl, hb2⟩
                 have HD2 := Lib.hid (HD1.out.below hb2)
                 obtain ⟨x0, x1, x2⟩ := HD2.out.box.three
                 clear hb2)
              | (go_at_call 11
                 refine (scanIn_any sp f t key ka kn kc _ HD2.out.sp (HKK.out.below HD2.out.b)).mono ?_
                 rw [HIN.out]
                 rintro _ w3 ⟨rfl, hb3⟩
                 have HD3 := Lib.hid (HD2.out.below hb3)
                 clear hb3 x0 x1 x2))
            go_ret
            exact ⟨rfl, HD3.out.b⟩
end Go.Proofs.Ytpjojhmdgeejmaa
