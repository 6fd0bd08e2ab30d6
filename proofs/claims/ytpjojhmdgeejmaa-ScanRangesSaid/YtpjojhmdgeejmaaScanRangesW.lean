/- The walk of the law ScanRanges. -/
import Derived.Test.YtpjojhmdgeejmaaScanUp
import Derived.Test.YtpjojhmdgeejmaaRefRange
import Derived.Test.YtpjojhmdgeejmaaPrScan
import Derived.Test.YtpjojhmdgeejmaaRefLight
namespace Go.Proofs.Ytpjojhmdgeejmaa
open Go.RowKit
set_option linter.unusedVariables false

/-- A tree's box and a span's box. -/
structure VX (w W : World) (h : TH) (t : Tr) (sp : DH) (f tt : List Int) : Prop where
  tb : Box W 33 w.heap.size h
  ti : InTree W h t
  sb : RBox recD W 24 (w.heap.size + 1) sp
  s : SpanIn w sp f tt
  b : Below w.heap.size w W
section
variable {w W W' : World} {h : TH} {t : Tr} {sp : DH} {f tt : List Int}
theorem VX.below (x : VX w W h t sp f tt) (hb : Below W.heap.size W W') : VX w W' h t sp f tt := ⟨x.tb.below hb x.tb.lt, x.ti.lower hb, x.sb.below hb x.sb.lt, x.s, x.b.trans (hb.mono x.b.size)⟩
theorem VX.drew (x : VX w W h t sp f tt) : VX w W.drew h t sp f tt := x.below (Below.refl _ _).drew
theorem VX.spn (x : VX w W h t sp f tt) : SpanIn W sp f tt := x.s.below x.b
end

set_option maxRecDepth 100000 in
set_option maxHeartbeats 8000000 in
theorem scanRanges_law (t : Tr) (h : TH) (sp : DH) (f tt : List Int) (w : World) (ht : InTree w h t) (hs : SpanIn w sp f tt) :
    Calls Try.prog 6 #[h.v, sp.v] w (Says w (.bool true)) := by
  have heq : ∀ (W : World) (p q : Int), (binOp .eql 37 (.iface 41 (.int .i64 p)) (.iface 41 (.int .i64 q))).run Try.prog W = .ok (.bool (p == q)) W := fun W p q => eql_code p q W
  unfold TH.v DH.v
  obtain ⟨e1, e2, e3, e4⟩ := enterS w h sp
  go_enter Try.func6, Try.ntmps6
  go_upto_region 1 with fail
  generalize ((w.alloc (.cells #[.int .i64 h.k, .slice h.ka h.kn h.kc, .slice h.va h.vn h.vc, .slice h.da h.dn h.dc, .slice h.ta h.tn h.tc] 33)).alloc (.cells #[.slice sp.ka sp.kn sp.kc, .slice sp.va sp.vn sp.vc, .bool sp.out] 24)) = w0 at *
  have HD0 : Hid (VX w w0 h t sp f tt) := Lib.hid ⟨e1, ht.lower e3, e2, hs, e3⟩
  clear e1 e2 e3 e4 ht hs
  go_upto_if 12 with (first
    | (go_at_call 9
       refine (up6_any _).mono ?_
       rintro _ w1 ⟨rfl, hb1⟩
       have HD1 := Lib.hid (HD0.out.below hb1)
       obtain ⟨x0, x1, x2, x3, x4⟩ := HD1.out.tb.cells
       clear hb1)
    | (go_at_call 15
       refine (light_any t h 300 100 _ HD1.out.ti (by omega) (by omega) (by omega) (by omega)).mono ?_
       rintro _ w2 ⟨r, rfl, hr1, hr2, hok, hb2⟩
       have HD2 := Lib.hid (HD1.out.below hb2)
       have HOK := Lib.hid hok
       clear hb2 hok x0 x1 x2 x3 x4))
  by_cases hr : r < 0
  · go_wp2_with fail
    go_ret
    exact ⟨rfl, HD2.out.b⟩
  · have hcn : countT t ≤ 300 := by
      have := (HOK.out (by omega)).2
      omega
    clear HOK
    obtain ⟨x0, x1, x2, x3, x4⟩ := HD2.out.tb.cells
    obtain ⟨y0, y1, y2⟩ := HD2.out.sb.three
    cases hi : isT t with
    | false =>
      have HI := Lib.hid hi
      clear hi
      have hcd : codeV 3 = .iface 41 (.int .i64 3) := rfl
      go_wp2_with (first
        | (go_at_call 16
           refine (scanRange_bad t h sp f tt _ HD2.out.ti HD2.out.spn HI.out).mono ?_
           rintro _ w3 ⟨a3, c3, rfl, hb3⟩
           have HD3 := Lib.hid (HD2.out.below hb3)
           rw [hcd]
           clear x0 x1 x2 x3 x4 y0 y1 y2
           obtain ⟨x0, x1, x2, x3, x4⟩ := HD3.out.tb.cells
           clear hb3)
        | (go_at_call 17
           refine (refIs_any t h _ HD3.out.ti (by omega)).mono ?_
           rw [HI.out]
           rintro _ w4 ⟨rfl, hb4⟩
           have HD4 := Lib.hid (HD3.out.below hb4)
           clear hb4 x0 x1 x2 x3 x4))
      go_ret
      exact ⟨rfl, HD4.out.b⟩
    | true =>
      obtain ⟨a, rfl, -, -, hlim, -⟩ := (isT_iff t).1 hi
      have HI := Lib.hid (And.intro hi hlim)
      clear hi hlim
      generalize hkv : a.pairs.filter (fun p => inS f tt sp.out p.1) = kvs
      have HKV := Lib.hid hkv
      clear hkv
      go_wp2_with (first
        | (go_at_call 16
           refine (scanRange_ok a h sp f tt _ HD2.out.ti HD2.out.spn HI.out.1 (by omega)).mono ?_
           rw [HKV.out]
           rintro _ w3 ⟨ra, r3, rc, rs, rfl, ho3, hl3, hp3, -, hb3⟩
           have HD3 := Lib.hid (HD2.out.below hb3)
           have e3 : r3 = kvs.length := by rw [← hl3, hp3.1]
           subst e3
           have HR3 : Hid (InRec recP w3 ra kvs.length rc (fun i => rs.getD i pZ) ∧ PairsD w3 (fun i => rs.getD i pZ) kvs) := Lib.hid ⟨(ho3.inRec pZ).2, hp3.byD⟩
           clear x0 x1 x2 x3 x4 y0 y1 y2
           obtain ⟨x0, x1, x2, x3, x4⟩ := HD3.out.tb.cells
           clear hb3 ho3 hp3 hl3)
        | (go_at_call 17
           refine (refIs_any a.tr h _ HD3.out.ti (by omega)).mono ?_
           rw [HI.out.1]
           rintro _ w4 ⟨rfl, hb4⟩
           have HD4 := Lib.hid (HD3.out.below hb4)
           have HR4 := Lib.hid (And.intro (HR3.out.1.below hb4) (HR3.out.2.below hb4))
           clear x0 x1 x2 x3 x4
           obtain ⟨x0, x1, x2, x3, x4⟩ := HD4.out.tb.cells
           obtain ⟨y0, y1, y2⟩ := HD4.out.sb.three
           clear hb4)
        | (go_at_call 19
           refine (refRange_any a h sp f tt _ HD4.out.ti HI.out.2 (by omega) HD4.out.spn).mono ?_
           rw [HKV.out]
           rintro _ w5 ⟨ra5, r5, rc5, rs5, rfl, ho5, hl5, hp5, hb5⟩
           have HD5 := Lib.hid (HD4.out.below hb5)
           have e5 : r5 = kvs.length := by rw [← hl5, hp5.1]
           subst e5
           have HR5 := Lib.hid (And.intro (HR4.out.1.below hb5) (HR4.out.2.below hb5))
           have HS5 : Hid (InRec recP w5 ra5 kvs.length rc5 (fun i => rs5.getD i pZ) ∧ PairsD w5 (fun i => rs5.getD i pZ) kvs) := Lib.hid ⟨(ho5.inRec pZ).2, (hp5.below hb5).byD⟩
           clear hb5 ho5 hp5 hl5 x0 x1 x2 x3 x4 y0 y1 y2)
        | (go_at_call 18
           refine (refSameP_any kvs _ _ ra ra5 kvs.length rc rc5 _ rfl HR5.out.1 HS5.out.1 HR5.out.2 HS5.out.2).mono ?_
           rintro _ w6 ⟨rfl, hb6⟩
           have HD6 := Lib.hid (HD5.out.below hb6)
           clear hb6))
      go_ret
      exact ⟨rfl, HD6.out.b⟩
end Go.Proofs.Ytpjojhmdgeejmaa
