/- The walk of the law TreeHides. -/
import Derived.Test.YtcplfpnaepdddaaDoorTreeDigestsW
import Derived.Test.YtcplfpnaepdddaaDoorCut
namespace Go.Proofs.YtcplfpnaepdddaaDoor
open Go.RowKit
set_option linter.unusedVariables false

/-- What Digest answers to any width and any tree: an error, or the digest. -/
def DigAll (w : World) (x : Int) (t : Tr) (e : Ending) (w' : World) : Prop := (∃ c, c ≠ 0 ∧ ErrPost w c e w') ∨ (∃ (k : Nat) (zs : List Int), x = (k : Int) ∧ 1 ≤ k ∧ k ≤ 32 ∧ checkT t = 0 ∧ digT k t = some zs ∧ BytesPost w zs e w')
theorem digest_all (x : Int) (t : Tr) (h : TH) (w : World) (ht : InTree w h t) (hT : TabLies w) (hx1 : -9223372036854775808 ≤ x) (hx2 : x ≤ 9223372036854775807) : Calls Tryd.prog 17 #[.int .i64 x, h.v] w (DigAll w x t) := by
  by_cases hx : 1 ≤ x ∧ x ≤ 32
  · obtain ⟨k, rfl⟩ : ∃ k : Nat, x = (k : Int) := ⟨x.toNat, by omega⟩
    by_cases hc : checkT t = 0
    · cases hd : digT k t with
      | none => exact (digest_none k (by omega) (by omega) t h w ht hT hc hd).mono fun e w' q => .inl ⟨3, by omega, q⟩
      | some zs => exact (digest_ok k (by omega) (by omega) t h w ht hT hc hd).mono fun e w' q => .inr ⟨k, zs, rfl, by omega, by omega, hc, hd, q⟩
    · exact (digest_err k (by omega) (by omega) t h w ht hc).mono fun e w' q => .inl ⟨_, hc, q⟩
  · exact (digest_arg x t h w ht hx1 hx2 hx).mono fun e w' q => .inl ⟨1, by omega, q⟩
/-- The depth at which parts are hidden: a number below 8. -/
theorem at_eight (y : Int) (h0 : 0 ≤ y) (h1 : y ≤ 9223372036854775807) : ∃ n : Nat, n ≤ 7 ∧ Int.tmod y 8 = (n : Int) := by
  refine ⟨(y % 8).toNat, by omega, ?_⟩
  rw [Int.tmod_eq_emod_of_nonneg h0]
  omega

set_option maxRecDepth 100000 in
set_option maxHeartbeats 4000000 in
theorem hides_law (x : Int) (t : Tr) (h : TH) (y : Int) (dark : Bool) (w : World) (ht : InTree w h t) (hT : TabLies w) (hx1 : -9223372036854775808 ≤ x) (hx2 : x ≤ 9223372036854775807) (hy1 : -9223372036854775808 ≤ y) (hy2 : y ≤ 9223372036854775807) :
    Calls Tryd.prog 6 #[.int .i64 x, h.v, .int .i64 y, .bool dark] w (Says w (.bool true)) := by
  unfold TH.v
  have hd0 := TW.new w ht
  have HD0 := Lib.hid hd0
  have HT := Lib.hid hT
  clear ht hT hd0
  go_enter Tryd.func6, Tryd.ntmps6
  go_upto_region 3 with (first
    | (go_at_call 8
       refine (upT_any _ (HT.out.below HD0.out.b (Nat.le_refl _))).mono ?_
       rintro _ w1 ⟨rfl, hb1⟩
       have hd1 := HD0.out.below hb1
       have HD1 := Lib.hid hd1
       obtain ⟨x0, x1, x2, x3, x4⟩ := hd1.box.cells
       clear hb1 hd1)
    | (go_at_call 9
       refine (small_any t h _ HD1.out.t).mono ?_
       rintro _ w2 ⟨ok, rfl, hok, hb2⟩
       have hd2 := HD1.out.below hb2
       have HD2 := Lib.hid hd2
       clear x0 x1 x2 x3 x4
       obtain ⟨x0, x1, x2, x3, x4⟩ := hd2.box.cells
       clear hb2 hd2 hok))
  by_cases hgood : ∃ (k : Nat) (zs : List Int), x = (k : Int) ∧ 1 ≤ k ∧ k ≤ 32 ∧ checkT t = 0 ∧ digT k t = some zs
  rotate_left
  · have HC : Hid (Calls Tryd.prog 17 #[.int .i64 x, h.v] w2 (fun e w' => ∃ c, c ≠ 0 ∧ ErrPost w2 c e w')) := Lib.hid ((digest_all x t h w2 HD2.out.t (HT.out.below HD2.out.b (Nat.le_refl _)) hx1 hx2).mono fun e w' q => by
      rcases q with q | ⟨k, zs, q1, q2, q3, q4, q5, _⟩
      · exact q
      · exact absurd ⟨k, zs, q1, q2, q3, q4, q5⟩ hgood)
    unfold TH.v at HC
    clear hgood
    go_upto_region 4 with (first
      | (go_at_call 17
         refine HC.out.mono ?_
         rintro _ w3 ⟨c, hc, a3, c3, rfl, hb3⟩
         rw [codeV_pos hc]
         have HD3 := Lib.hid (HD2.out.below hb3)
         clear hb3 hc))
    cases ok
    · go_wp2_with fail
      go_ret
      exact ⟨rfl, HD3.out.b⟩
    · go_wp2_with fail
      go_ret
      exact ⟨rfl, HD3.out.b⟩
  obtain ⟨k, zs, rfl, hk1, hk2, hck, hdg⟩ := hgood
  have HCK := Lib.hid hck
  have HDG := Lib.hid hdg
  clear hck hdg
  go_upto_region 4 with (first
    | (go_at_call 17
       refine (digest_ok k hk1 hk2 t h _ HD2.out.t (HT.out.below HD2.out.b (Nat.le_refl _)) HCK.out HDG.out).mono ?_
       rintro _ w3 ⟨a3, c3, rfl, hn3, hb3⟩
       have HD3 := Lib.hid (HD2.out.below hb3)
       have HI3 := Lib.hid hn3.inb
       clear hn3 hb3))
  clear x0 x1 x2 x3 x4
  obtain ⟨x0, x1, x2, x3, x4⟩ := HD3.out.box.cells
  cases ok
  · go_wp2_with fail
    go_ret
    exact ⟨rfl, HD3.out.b⟩
  by_cases hy : y < 0
  · have q1 : IntKind.i64.wrap (y + 1) = y + 1 := IntWalk.i64_in _ (by omega)
    have q2 : IntKind.i64.wrap (-(y + 1)) = -(y + 1) := IntWalk.i64_in _ (by omega)
    obtain ⟨n, hn7, hn8⟩ := at_eight (-(y + 1)) (by omega) (by omega)
    have q3 : IntKind.i64.wrap (Int.tmod (-(y + 1)) 8) = (n : Int) := by rw [hn8]; exact IntWalk.i64_in _ (by omega)
    go_upto_region 9 with (first
        | (go_at_call 23
           refine (cut_any w3 k hk1 hk2 dark n t h w3 64 zs (by omega) HD3.out.t (Below.refl _ _) (HT.out.below HD3.out.b (Nat.le_refl _)) (check_zero HCK.out).1 (check_zero HCK.out).2 (by omega) (by omega) HDG.out).mono ?_
           rintro _ w4 ⟨h4, rfl, hf4, hb4⟩
           unfold TH.v
           have HD4 := Lib.hid (HD3.out.below hb4)
           have HF4 := Lib.hid hf4
           have HB4 := Lib.hid hb4
           have HI4 := Lib.hid (HI3.out.below hb4)
           clear hf4 hb4))
    have hb5 : Below w4.heap.size w4 (w4.alloc (.cells #[.int .i64 h4.k, .slice h4.ka h4.kn h4.kc, .slice h4.va h4.vn h4.vc, .slice h4.da h4.dn h4.dc, .slice h4.ta h4.tn h4.tc] 25)) := (Below.refl _ _).alloc (Nat.le_refl _) _
    have hbx5 := Box.new w4 25 h4
    have HB5 := Lib.hid (HB4.out.trans (hb5.mono HB4.out.size))
    have HF5 := Lib.hid (HF4.out.below hb5 (Nat.le_refl _))
    have HS5 := Lib.hid hb5.size
    generalize w4.alloc (.cells #[.int .i64 h4.k, .slice h4.ka h4.kn h4.kc, .slice h4.va h4.vn h4.vc, .slice h4.da h4.dn h4.dc, .slice h4.ta h4.tn h4.tc] 25) = w5 at *
    have HD5 := Lib.hid (HD4.out.below hb5)
    have HI5 := Lib.hid (HI4.out.below hb5)
    obtain ⟨y0, y1, y2, y3, y4⟩ := hbx5.cells
    clear hb5 hbx5
    go_upto_region 10 with (first
        | (go_at_call 17
           refine (digest_ok k hk1 hk2 (cutT k dark n t) h4 _ (HF5.out.self HB5.out HS5.out) (HT.out.below HD5.out.b (Nat.le_refl _)) (cut_check dark n t (check_zero HCK.out).1 (check_zero HCK.out).2) (cut_dig hk2 dark n t zs (check_zero HCK.out).1 HDG.out)).mono ?_
           rintro _ w6 ⟨a6, c6, rfl, hn6, hb6⟩
           have HD6 := Lib.hid (HD5.out.below hb6)
           have hcv1 := conv_tree hn6.inb
           have hcv2 := conv_tree (HI5.out.below hb6)
           clear hn6 hb6))
    have hse : (strOfNums zs).toList == (strOfNums zs).toList := by simp
    go_wp2_with fail
    go_ret
    exact ⟨by simp, HD6.out.b⟩
  · obtain ⟨n, hn7, hn8⟩ := at_eight y (by omega) (by omega)
    have q3 : IntKind.i64.wrap (Int.tmod y 8) = (n : Int) := by rw [hn8]; exact IntWalk.i64_in _ (by omega)
    go_upto_region 9 with (first
        | (go_at_call 23
           refine (cut_any w3 k hk1 hk2 dark n t h w3 64 zs (by omega) HD3.out.t (Below.refl _ _) (HT.out.below HD3.out.b (Nat.le_refl _)) (check_zero HCK.out).1 (check_zero HCK.out).2 (by omega) (by omega) HDG.out).mono ?_
           rintro _ w4 ⟨h4, rfl, hf4, hb4⟩
           unfold TH.v
           have HD4 := Lib.hid (HD3.out.below hb4)
           have HF4 := Lib.hid hf4
           have HB4 := Lib.hid hb4
           have HI4 := Lib.hid (HI3.out.below hb4)
           clear hf4 hb4))
    have hb5 : Below w4.heap.size w4 (w4.alloc (.cells #[.int .i64 h4.k, .slice h4.ka h4.kn h4.kc, .slice h4.va h4.vn h4.vc, .slice h4.da h4.dn h4.dc, .slice h4.ta h4.tn h4.tc] 25)) := (Below.refl _ _).alloc (Nat.le_refl _) _
    have hbx5 := Box.new w4 25 h4
    have HB5 := Lib.hid (HB4.out.trans (hb5.mono HB4.out.size))
    have HF5 := Lib.hid (HF4.out.below hb5 (Nat.le_refl _))
    have HS5 := Lib.hid hb5.size
    generalize w4.alloc (.cells #[.int .i64 h4.k, .slice h4.ka h4.kn h4.kc, .slice h4.va h4.vn h4.vc, .slice h4.da h4.dn h4.dc, .slice h4.ta h4.tn h4.tc] 25) = w5 at *
    have HD5 := Lib.hid (HD4.out.below hb5)
    have HI5 := Lib.hid (HI4.out.below hb5)
    obtain ⟨y0, y1, y2, y3, y4⟩ := hbx5.cells
    clear hb5 hbx5
    go_upto_region 10 with (first
        | (go_at_call 17
           refine (digest_ok k hk1 hk2 (cutT k dark n t) h4 _ (HF5.out.self HB5.out HS5.out) (HT.out.below HD5.out.b (Nat.le_refl _)) (cut_check dark n t (check_zero HCK.out).1 (check_zero HCK.out).2) (cut_dig hk2 dark n t zs (check_zero HCK.out).1 HDG.out)).mono ?_
           rintro _ w6 ⟨a6, c6, rfl, hn6, hb6⟩
           have HD6 := Lib.hid (HD5.out.below hb6)
           have hcv1 := conv_tree hn6.inb
           have hcv2 := conv_tree (HI5.out.below hb6)
           clear hn6 hb6))
    have hse : (strOfNums zs).toList == (strOfNums zs).toList := by simp
    go_wp2_with fail
    go_ret
    exact ⟨by simp, HD6.out.b⟩
end Go.Proofs.YtcplfpnaepdddaaDoor
