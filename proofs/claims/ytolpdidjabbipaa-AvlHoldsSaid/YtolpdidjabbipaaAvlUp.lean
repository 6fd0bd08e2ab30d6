/- The heads of the statements of layer 5: the document's example; whether a tree is small; which error is asked for. -/
import Derived.Test.YtolpdidjabbipaaPrPut
import Derived.Test.YtolpdidjabbipaaRefGet
import Derived.Test.YtolpdidjabbipaaRefLight
import Derived.Test.YtolpdidjabbipaaAvlGood
import Derived.Lib.SlBytesConst
namespace Go.Proofs.Ytolpdidjabbipaa
open Go.RowKit
set_option linter.unusedVariables false

/-- One byte in a block of its own. -/
theorem in_one {w : World} {g : Nat} {t : TypeId} {z : Int} {fr : Nat × Nat} (h : w.heap[g]? = some (.cells #[.int .u8 z] t fr)) (h0 : 0 ≤ z) (h1 : z ≤ 255) : InBytes w (some ⟨g, 0, none⟩) 1 1 [z] := by
  have hlt : g < w.heap.size := by
    rcases Nat.lt_or_ge g w.heap.size with hlt | hge
    · exact hlt
    · rw [Array.getElem?_eq_none hge] at h
      cases h
  have hseg : Seg .u8 w g 0 [z] := fun i hi => by
    have hi0 : i = 0 := by simpa using hi
    subst hi0
    rw [cell_of_row w g (0 + 0) _ _ fr h]
    rfl
  exact ⟨rfl, (fun x hx => by simp at hx; omega), Nat.le_refl _, by simp [maxLen], (fun h => by cases h), fun _ => ⟨g, 0, rfl, hlt, hseg⟩⟩
def upA : AT := AT.put [97] [49] .nil
def upB : AT := AT.put [98] [] upA
def upC : AT := AT.put [99] [] upB
theorem upA_good : Good upA := Good.nil.put (by decide) (by decide)
theorem upB_good : Good upB := upA_good.put (by decide) (by decide)
theorem upC_good : Good upC := upB_good.put (by decide) (by decide)
theorem upC_eq : upC = .node (.node .nil [97] [49] .nil) [98] [] (.node .nil [99] [] .nil) := rfl
theorem upA_len : upA.pairs.length ≤ 1 := AT.put_len _ _ Good.nil.rise
theorem upB_len : upB.pairs.length ≤ 2 := Nat.le_trans (AT.put_len _ _ upA_good.rise) (by have := upA_len; omega)
theorem upC_len : upC.pairs.length ≤ 3 := Nat.le_trans (AT.put_len _ _ upB_good.rise) (by have := upB_len; omega)
theorem good_bad {a : AT} (h : Good a) (hl : a.pairs.length ≤ 64) {kn vn : Nat} (hk : kn ≤ 80) (hv : vn ≤ 1024) : badA a.tr kn vn = 0 := badA_ok (h.is hl) (by omega) (by omega)
theorem up_get : upC.get [97] = some [49] := by rw [upC_eq]; decide
theorem alloc_size (w : World) (o : Obj) : (w.alloc o).heap.size = w.heap.size + 1 := by simp

set_option maxRecDepth 100000 in
set_option maxHeartbeats 4000000 in
theorem up5_any (w : World) : Calls Try.prog 8 #[] w (Says w (.bool true)) := by
  have hcv : ∀ (W : World) (z : Int), (convert 22 22 (.slice (some ⟨W.heap.size, 0, none⟩) 1 1)).run Try.prog (W.alloc (.cells #[.int .u8 z] 5)) = .ok (.slice (some ⟨W.heap.size, 0, none⟩) 1 1) (W.alloc (.cells #[.int .u8 z] 5 (1, 2))) := fun W z =>
    Lib.run_convert_bytes_const W 22 5 #[.int .u8 z] 1 1 Try.underlying22 Try.underlying5
  have hcv2 : (convert 22 22 (.slice (some ⟨w.heap.size + 1, 0, none⟩) 1 1)).run Try.prog ((w.alloc (.cells #[.int .u8 97] 5 (1, 2))).alloc (.cells #[.int .u8 49] 5)) = .ok (.slice (some ⟨w.heap.size + 1, 0, none⟩) 1 1) ((w.alloc (.cells #[.int .u8 97] 5 (1, 2))).alloc (.cells #[.int .u8 49] 5 (1, 2))) := by
    have q := hcv (w.alloc (.cells #[.int .u8 97] 5 (1, 2))) 49
    rw [alloc_size] at q
    exact q
  go_enter Try.func8, Try.ntmps8
  have r1 : ((w.alloc (.cells #[.int .u8 97] 5 (1, 2))).alloc (.cells #[.int .u8 49] 5 (1, 2))).heap[w.heap.size]? = some (.cells #[.int .u8 97] 5 (1, 2)) := (Below.heap_alloc (w.alloc (.cells #[.int .u8 97] 5 (1, 2))) _ w.heap.size (by simp)).trans (heap_alloc_new w _)
  have r2 : ((w.alloc (.cells #[.int .u8 97] 5 (1, 2))).alloc (.cells #[.int .u8 49] 5 (1, 2))).heap[w.heap.size + 1]? = some (.cells #[.int .u8 49] 5 (1, 2)) := by
    have q := heap_alloc_new (w.alloc (.cells #[.int .u8 97] 5 (1, 2))) (.cells #[.int .u8 49] 5 (1, 2))
    rwa [alloc_size] at q
  have HR := Lib.hid (And.intro (in_one r1 (by omega) (by omega)) (in_one r2 (by omega) (by omega)))
  have HB0 : Hid (Below w.heap.size w ((w.alloc (.cells #[.int .u8 97] 5 (1, 2))).alloc (.cells #[.int .u8 49] 5 (1, 2)))) := Lib.hid (((Below.refl _ _).alloc (Nat.le_refl _) _).alloc (by simp) _)
  clear r1 r2
  go_upto_region 2 with (first
    | (go_at_call 16
       refine (put_ok .nil hZ [97] [49] (some ⟨w.heap.size, 0, none⟩) (some ⟨w.heap.size + 1, 0, none⟩) 1 1 1 1 _ (inTree_nil _) HR.out.1 HR.out.2 (good_bad Good.nil (by decide) (by omega) (by omega))).mono ?_
       rintro _ w1 ⟨h1, rfl, hi1, hb1⟩
       have HI1 : Hid (InTree w1 h1 upA.tr) := Lib.hid hi1
       have HB1 : Hid (Below w.heap.size w w1) := Lib.hid (HB0.out.trans (hb1.mono HB0.out.size))
       clear hi1 hb1)
    | (refine wpList_store_box rfl 25 (.tmp 1) (.tmp 17) rfl w1.heap.size hZ h1 rfl rfl 25 (Box.new w1 25 hZ) infoTree5 ?_
       intro v1 hbx1 hg1
       have q1 : Below w1.heap.size w1 v1 := ((Below.refl w1.heap.size w1).alloc (Nat.le_refl _) _).grown hg1 (by simp) (fun j hj => by injection hj; omega)
       have HJ1 := Lib.hid (HI1.out.lower q1)
       have HC1 : Hid (Below w.heap.size w v1) := Lib.hid (HB1.out.trans (q1.mono HB1.out.size))
       have HX1 := Lib.hid hbx1
       obtain ⟨x0, x1, x2, x3, x4⟩ := hbx1.cells
       clear hbx1 hg1 q1))
  clear hcv2 HR HB0
  go_upto_region 3 with (first
    | (go_at_call 16
       have hr := heap_alloc_new v1 (.cells #[.int .u8 98] 5 (1, 2))
       have qq : Below v1.heap.size v1 (v1.alloc (.cells #[.int .u8 98] 5 (1, 2))) := (Below.refl _ _).alloc (Nat.le_refl _) _
       refine (put_ok upA h1 [98] [] (some ⟨v1.heap.size, 0, none⟩) none 1 1 0 0 _ (HJ1.out.lower qq) (in_one hr (by omega) (by omega)) (none_in _) (good_bad upA_good (by have := upA_len; omega) (by omega) (by omega))).mono ?_
       rintro _ w2 ⟨h2, rfl, hi2, hb2⟩
       have HI2 : Hid (InTree w2 h2 upB.tr) := Lib.hid hi2
       have HB2 : Hid (Below w.heap.size w w2) := Lib.hid (HC1.out.trans ((qq.trans (hb2.mono qq.size)).mono HC1.out.size))
       clear hi2 hb2 hr qq x0 x1 x2 x3 x4)
    | (refine wpList_store_box rfl 25 (.tmp 3) (.tmp 24) rfl w2.heap.size hZ h2 rfl rfl 25 (Box.new w2 25 hZ) infoTree5 ?_
       intro v2 hbx2 hg2
       have q2 : Below w2.heap.size w2 v2 := ((Below.refl w2.heap.size w2).alloc (Nat.le_refl _) _).grown hg2 (by simp) (fun j hj => by injection hj; omega)
       have HJ2 := Lib.hid (HI2.out.lower q2)
       have HC2 : Hid (Below w.heap.size w v2) := Lib.hid (HB2.out.trans (q2.mono HB2.out.size))
       have HX2 := Lib.hid hbx2
       obtain ⟨x0, x1, x2, x3, x4⟩ := hbx2.cells
       clear hbx2 hg2 q2))
  go_upto_region 4 with (first
    | (go_at_call 16
       have hr := heap_alloc_new v2 (.cells #[.int .u8 99] 5 (1, 2))
       have qq : Below v2.heap.size v2 (v2.alloc (.cells #[.int .u8 99] 5 (1, 2))) := (Below.refl _ _).alloc (Nat.le_refl _) _
       refine (put_ok upB h2 [99] [] (some ⟨v2.heap.size, 0, none⟩) none 1 1 0 0 _ (HJ2.out.lower qq) (in_one hr (by omega) (by omega)) (none_in _) (good_bad upB_good (by have := upB_len; omega) (by omega) (by omega))).mono ?_
       rintro _ w3 ⟨h3, rfl, hi3, hb3⟩
       have HI3 : Hid (InTree w3 h3 upC.tr) := Lib.hid hi3
       have HB3 : Hid (Below w.heap.size w w3) := Lib.hid (HC2.out.trans ((qq.trans (hb3.mono qq.size)).mono HC2.out.size))
       clear hi3 hb3 hr qq x0 x1 x2 x3 x4)
    | (refine wpList_store_box rfl 25 (.tmp 5) (.tmp 31) rfl w3.heap.size hZ h3 rfl rfl 25 (Box.new w3 25 hZ) infoTree5 ?_
       intro v3 hbx3 hg3
       have q3 : Below w3.heap.size w3 v3 := ((Below.refl w3.heap.size w3).alloc (Nat.le_refl _) _).grown hg3 (by simp) (fun j hj => by injection hj; omega)
       have HJ3 := Lib.hid (HI3.out.lower q3)
       have HC3 : Hid (Below w.heap.size w v3) := Lib.hid (HB3.out.trans (q3.mono HB3.out.size))
       have HX3 := Lib.hid hbx3
       obtain ⟨x0, x1, x2, x3, x4⟩ := hbx3.cells
       clear hbx3 hg3 q3))
  go_upto_region 5 with (first
    | (go_at_call 12
       have hr := heap_alloc_new v3 (.cells #[.int .u8 97] 5 (1, 2))
       have qq : Below v3.heap.size v3 (v3.alloc (.cells #[.int .u8 97] 5 (1, 2))) := (Below.refl _ _).alloc (Nat.le_refl _) _
       refine (get_ok upC h3 [97] (some ⟨v3.heap.size, 0, none⟩) 1 1 _ (HJ3.out.lower qq) (in_one hr (by omega) (by omega)) (good_bad upC_good (by have := upC_len; omega) (by omega) (by omega))).mono ?_
       rw [up_get]
       rintro _ w4 ⟨a4, c4, rfl, hi4, hb4⟩
       have qb := qq.trans (hb4.mono qq.size)
       have HB4 : Hid (Below w.heap.size w w4) := Lib.hid (HC3.out.trans (qb.mono HC3.out.size))
       have HX4 := Lib.hid (HX3.out.below qb HX3.out.lt)
       have HK4 : Hid (InBytes w4 h3.ka h3.kn h3.kc [98]) := Lib.hid (by
         obtain ⟨H, hp⟩ := (HJ3.out.lower qb).parts
         exact hp.key)
       have HI4 : Hid (InBytes w4 a4 1 c4 [49]) := Lib.hid hi4
       clear hi4 hb4 hr qq qb x0 x1 x2 x3 x4))
  have hc1 : (convert 22 9 (.slice a4 1 c4)).run Try.prog w4 = .ok (.string ⟨#[49]⟩) w4 := conv_key HI4.out
  have hc2 : (convert 22 9 (.slice h3.ka h3.kn h3.kc)).run Try.prog w4 = .ok (.string ⟨#[98]⟩) w4 := conv_key HK4.out
  have x1 := HX4.out.cells.2.1
  clear hcv
  go_wp2_with fail
  go_ret
  exact ⟨rfl, HB4.out⟩

set_option maxRecDepth 100000 in
set_option maxHeartbeats 4000000 in
theorem small5_any (t : Tr) (h : TH) (w : World) (ht : InTree w h t) : Calls Try.prog 9 #[h.v] w (fun e w' => ∃ b, e = .returned (.bool b) ∧ (b = true → countT t ≤ 300) ∧ Below w.heap.size w w') := by
  unfold TH.v
  have hbox := Box.new w 25 h
  obtain ⟨x0, x1, x2, x3, x4⟩ := hbox.cells
  have HT := Lib.hid ht
  clear hbox ht
  go_enter Try.func9, Try.ntmps9
  go_wp2_with (first
    | (go_at_call 22
       refine (light_any t h 300 100 _ ?_ (by omega) (by omega) (by omega) (by omega)).mono ?_
       · exact HT.out.lower ((Below.refl _ _).alloc (Nat.le_refl _) _)
       rintro _ w1 ⟨r, rfl, hr1, hr2, hok, hb1⟩
       have HB1 : Hid (Below w.heap.size w w1) := Lib.hid (((Below.refl w.heap.size w).alloc (Nat.le_refl _) _).trans (hb1.mono (by simp)))
       have HOK := Lib.hid hok
       clear hb1 hok))
  all_goals
    go_ret
    refine ⟨_, rfl, fun hb => ?_, HB1.out⟩
    have h1 : 0 ≤ r := by simpa using hb
    have := (HOK.out h1).2
    omega

set_option maxRecDepth 100000 in
set_option maxHeartbeats 4000000 in
theorem asked_any (t : Tr) (h : TH) (ka va : Option Addr) (kn kc vn vc : Nat) (w : World) (ht : InTree w h t) (hcn : countT t ≤ 500) : Calls Try.prog 13 #[h.v, .slice ka kn kc, .slice va vn vc] w (Says w (.int .i64 (badA t kn vn : Nat))) := by
  unfold TH.v
  have hbox := Box.new w 25 h
  have HT := Lib.hid ht
  obtain ⟨x0, x1, x2, x3, x4⟩ := hbox.cells
  clear hbox ht
  go_enter Try.func13, Try.ntmps13
  go_upto_if 11 with (first
    | (go_at_call 11
       refine (refIs_any t h _ ?_ hcn).mono ?_
       · exact HT.out.lower ((Below.refl _ _).alloc (Nat.le_refl _) _)
       rintro _ w1 ⟨rfl, hb1⟩
       have HB1 : Hid (Below w.heap.size w w1) := Lib.hid (((Below.refl w.heap.size w).alloc (Nat.le_refl _) _).trans (hb1.mono (by simp)))
       clear hb1 x0 x1 x2 x3 x4))
  cases hq : isT t with
  | false =>
    have HQ := Lib.hid hq
    clear hq
    simp only [Bool.not_false]
    go_wp2_with fail
    go_ret
    exact ⟨by rw [badA_no HQ.out]; rfl, HB1.out⟩
  | true =>
    have HQ := Lib.hid hq
    clear hq
    simp only [Bool.not_true]
    by_cases c1 : 80 < kn
    · have q1 : (80 : Int) < (kn : Int) := by omega
      go_wp2_with fail
      go_ret
      exact ⟨by rw [badA_arg HQ.out (.inl c1)]; rfl, HB1.out⟩
    · have q1 : ¬ (80 : Int) < (kn : Int) := by omega
      by_cases c2 : 1024 < vn
      · have q2 : (1024 : Int) < (vn : Int) := by omega
        go_wp2_with fail
        go_ret
        exact ⟨by rw [badA_arg HQ.out (.inr c2)]; rfl, HB1.out⟩
      · have q2 : ¬ (1024 : Int) < (vn : Int) := by omega
        go_wp2_with fail
        go_ret
        exact ⟨by rw [badA_ok HQ.out c1 c2]; rfl, HB1.out⟩

end Go.Proofs.Ytolpdidjabbipaa
