/- The contract of the program's Find. The contracts of the document's Number and Bytes. The contracts of the document's preimages. The first 64 primes, as the document seeks them. No program is named here. The roots of the primes 0 to 15, reckoned: they are the constants. No program is named here. The roots of the primes 16 to 31, reckoned: they are the constants. No program is named here. The roots of the primes 32 to 47, reckoned: they are the constants. No program is named here. The roots of the primes 48 to 63, reckoned: they are the constants. No program is named here. All the roots. No program is named here. The contract of the document's times. The contract of the document's below. The contract of the document's root. The contract of the document's Made: the tables. The contract of the document's Tail. The contract of the document's Words. The contract of the document's step of a block. Facts on states and tables that the laws ask. The contract of the document's digest. The contract of the document's digest. -/
import Derived.Test.YtioifkbkllnkgaaDoorMAC
import Derived.Test.YtioifkbkllnkgaaDoorMAB
import Derived.Test.YtioifkbkllnkgaaDoorMAA
import Derived.Test.YtioifkbkllnkgaaDoorProg
import Derived.WalkLawsBesides
import Derived.WalkSpells
import Derived.Outline
import Derived.Lib.Hide
import Derived.LoopTactic
import Derived.IntWalk
import Derived.RegionTactic
import Derived.BigRegion
import Derived.Deep.QuietTactic
import Derived.BigQuiet
import Derived.OwnWalk
import Derived.Maps.AppendAt
import Derived.Deep.AppendLies
import Derived.Deep.RegionLaw
import Derived.Deep.RegionWith
import Derived.Lib.IfaceEq
import Derived.Deep.DeepCutAuto
/- The contract of the program's Find. -/
namespace Go.Proofs.YtioifkbkllnkgaaDoor
open Go.RowKit
set_option linter.unusedVariables false

theorem codeV_posX {m : Nat} (h : m ≠ 0) : codeV m = .iface 42 (.int .i64 (m : Nat)) := by
  unfold codeV
  rw [if_neg h]
/-- Digest's error, by its number. -/
theorem digest_told (x : Int) (p : Tr) (h : TH) (w : World) (ht : InTree w h p) (hT : TabLies w) (hx1 : -9223372036854775808 ≤ x) (hx2 : x ≤ 9223372036854775807) (hno : toldD x p ≠ 0) :
    Calls Tryd.prog 17 #[.int .i64 x, h.v] w (fun e w' => ∃ a c, e = .returned (.tuple #[.slice a 0 c, .iface 42 (.int .i64 (toldD x p : Nat))]) ∧ Below w.heap.size w w') := by
  have post : ∀ (m : Nat), m ≠ 0 → ∀ e w', ErrPost w m e w' → ∃ a c, e = .returned (.tuple #[.slice a 0 c, .iface 42 (.int .i64 (m : Nat))]) ∧ Below w.heap.size w w' := fun m hm e w' ⟨a, c, q1, q2⟩ => ⟨a, c, by rw [q1]; unfold codeV; rw [if_neg hm], q2⟩
  by_cases hx : 1 ≤ x ∧ x ≤ 32
  · obtain ⟨k, rfl⟩ : ∃ k : Nat, x = (k : Int) := ⟨x.toNat, by omega⟩
    by_cases hc : checkT p = 0
    · cases hd : digT k p with
      | none =>
        have e : toldD (k : Int) p = 3 := by
          unfold toldD
          rw [if_pos hx, if_neg (by rw [hc]; simp)]
          exact if_pos hd
        rw [e]
        exact (digest_none k (by omega) (by omega) p h w ht hT hc hd).mono fun e w' q => post 3 (by omega) e w' q
      | some zs => exact absurd (toldD_some (by omega) (by omega) hc hd) hno
    · have e : toldD (k : Int) p = checkT p := by
        unfold toldD
        rw [if_pos hx, if_pos hc]
      rw [e]
      exact (digest_err k (by omega) (by omega) p h w ht hc).mono fun e w' q => post _ hc e w' q
  · have e : toldD x p = 1 := by
      unfold toldD
      rw [if_neg hx]
    rw [e]
    exact (digest_arg x p h w ht hx1 hx2 hx).mono fun e w' q => post 1 (by omega) e w' q
/-- Find's boxes. -/
structure FX (w W : World) (h h2 : TH) : Prop where
  box : Box W 25 w.heap.size h
  box2 : Box W 25 (w.heap.size + 1) h2
  b : Below w.heap.size w W
section
variable {w W W' : World} {h h2 : TH}
theorem FX.below (d : FX w W h h2) (hb : Below W.heap.size W W') : FX w W' h h2 := ⟨d.box.below hb d.box.lt, d.box2.below hb d.box2.lt, d.b.trans (hb.mono d.b.size)⟩
theorem FX.enter (w : World) (h h2 : TH) : FX w ((w.alloc (.cells #[.int .i64 h.k, .slice h.ka h.kn h.kc, .slice h.va h.vn h.vc, .slice h.da h.dn h.dc, .slice h.ta h.tn h.tc] 25)).alloc (.cells #[.int .i64 h2.k, .slice h2.ka h2.kn h2.kc, .slice h2.va h2.vn h2.vc, .slice h2.da h2.dn h2.dc, .slice h2.ta h2.tn h2.tc] 25)) h h2 := by
  have q1 : Below w.heap.size w (w.alloc (.cells #[.int .i64 h.k, .slice h.ka h.kn h.kc, .slice h.va h.vn h.vc, .slice h.da h.dn h.dc, .slice h.ta h.tn h.tc] 25)) := (Below.refl _ _).alloc (Nat.le_refl _) _
  have s1 : (w.alloc (.cells #[.int .i64 h.k, .slice h.ka h.kn h.kc, .slice h.va h.vn h.vc, .slice h.da h.dn h.dc, .slice h.ta h.tn h.tc] 25)).heap.size = w.heap.size + 1 := by simp
  have x1 := Box.new w 25 h
  have b1 : Below (w.alloc (.cells #[.int .i64 h.k, .slice h.ka h.kn h.kc, .slice h.va h.vn h.vc, .slice h.da h.dn h.dc, .slice h.ta h.tn h.tc] 25)).heap.size (w.alloc (.cells #[.int .i64 h.k, .slice h.ka h.kn h.kc, .slice h.va h.vn h.vc, .slice h.da h.dn h.dc, .slice h.ta h.tn h.tc] 25)) ((w.alloc (.cells #[.int .i64 h.k, .slice h.ka h.kn h.kc, .slice h.va h.vn h.vc, .slice h.da h.dn h.dc, .slice h.ta h.tn h.tc] 25)).alloc (.cells #[.int .i64 h2.k, .slice h2.ka h2.kn h2.kc, .slice h2.va h2.vn h2.vc, .slice h2.da h2.dn h2.dc, .slice h2.ta h2.tn h2.tc] 25)) := (Below.refl _ _).alloc (Nat.le_refl _) _
  have x2 : Box ((w.alloc (.cells #[.int .i64 h.k, .slice h.ka h.kn h.kc, .slice h.va h.vn h.vc, .slice h.da h.dn h.dc, .slice h.ta h.tn h.tc] 25)).alloc (.cells #[.int .i64 h2.k, .slice h2.ka h2.kn h2.kc, .slice h2.va h2.vn h2.vc, .slice h2.da h2.dn h2.dc, .slice h2.ta h2.tn h2.tc] 25)) 25 (w.alloc (.cells #[.int .i64 h.k, .slice h.ka h.kn h.kc, .slice h.va h.vn h.vc, .slice h.da h.dn h.dc, .slice h.ta h.tn h.tc] 25)).heap.size h2 := Box.new _ 25 h2
  rw [s1] at x2
  exact ⟨x1.below b1 x1.lt, x2, q1.trans (b1.mono (by rw [s1]; omega))⟩
end
theorem FindTold.err {w w' : World} {m : Nat} (hm : m ≠ 0) (hb : Below w.heap.size w w') : FindTold w (m, [], []) (.returned (.tuple #[.slice none 0 0, .slice none 0 0, .iface 42 (.int .i64 (m : Nat))])) w' :=
  ⟨none, 0, 0, none, 0, 0, by rw [codeV_posX hm], FreshB.none _ _ _, FreshB.none _ _ _, hb⟩

set_option maxRecDepth 100000 in
set_option maxHeartbeats 4000000 in
theorem find_any (x : Int) (hx1 : -9223372036854775808 ≤ x) (hx2 : x ≤ 9223372036854775807) (p q : Tr) (h h2 : TH) (w : World) (ht : InTree w h p) (ht2 : InTree w h2 q) (hc : countT p ≤ 500) (hc2 : countT q ≤ 500) (hT : TabLies w) : Calls Tryd.prog 10 #[.int .i64 x, h.v, h2.v] w (FindTold w (findX x p q)) := by
  unfold TH.v
  have HTP := Lib.hid ht
  have HTQ := Lib.hid ht2
  have HTT := Lib.hid hT
  have HD := Lib.hid (FX.enter w h h2)
  clear ht ht2 hT hc hc2
  by_cases t1 : toldD x p = 0
  case neg =>
    have HN := Lib.hid t1
    have HR : Hid (findX x p q = (toldD x p, [], [])) := Lib.hid (by unfold findX; rw [if_pos t1])
    rw [HR.out]
    clear t1
    go_enter Tryd.func10, Tryd.ntmps10
    go_upto_region 1 with fail
    generalize ((w.alloc (.cells #[.int .i64 h.k, .slice h.ka h.kn h.kc, .slice h.va h.vn h.vc, .slice h.da h.dn h.dc, .slice h.ta h.tn h.tc] 25)).alloc (.cells #[.int .i64 h2.k, .slice h2.ka h2.kn h2.kc, .slice h2.va h2.vn h2.vc, .slice h2.da h2.dn h2.dc, .slice h2.ta h2.tn h2.tc] 25)) = w0 at *
    obtain ⟨x0, x1, x2, x3, x4⟩ := HD.out.box.cells
    go_wp2_with (first
      | (go_at_call 17
         refine (digest_told x p h _ (HTP.out.lower HD.out.b) (HTT.out.below HD.out.b (Nat.le_refl _)) hx1 hx2 HN.out).mono ?_
         rintro _ w1 ⟨a1, c1, rfl, hb1⟩
         have HD1 := Lib.hid (HD.out.below hb1)
         clear hb1 x0 x1 x2 x3 x4))
    go_ret3
    exact FindTold.err HN.out HD1.out.b
  obtain ⟨k, zs, hxk, hk1, hk2, hck, hzs⟩ := toldD_zero t1
  have HXK := Lib.hid hxk
  have HT1 := Lib.hid t1
  have HZP := Lib.hid (And.intro hck hzs)
  have HDP : Hid (∀ W, Below w.heap.size w W → Calls Tryd.prog 17 #[.int .i64 x, .agg #[.int .i64 h.k, .slice h.ka h.kn h.kc, .slice h.va h.vn h.vc, .slice h.da h.dn h.dc, .slice h.ta h.tn h.tc]] W (fun e w' => ∃ a c, e = .returned (.tuple #[.slice a k c, .nilIface]) ∧ InBytes w' a k c zs ∧ Below W.heap.size W w')) := Lib.hid (fun W hb => digest_is x p h W (HTP.out.lower hb) (HTT.out.below hb (Nat.le_refl _)) (k := k) (zs := zs) ⟨hxk, hk1, hk2, hck, hzs⟩)
  clear t1 hck hzs hxk
  by_cases t2 : toldD x q = 0
  case neg =>
    have HN := Lib.hid t2
    have HDN : Hid (∀ W, Below w.heap.size w W → Calls Tryd.prog 17 #[.int .i64 x, .agg #[.int .i64 h2.k, .slice h2.ka h2.kn h2.kc, .slice h2.va h2.vn h2.vc, .slice h2.da h2.dn h2.dc, .slice h2.ta h2.tn h2.tc]] W (fun e w' => ∃ a c, e = .returned (.tuple #[.slice a 0 c, .iface 42 (.int .i64 (toldD x q : Nat))]) ∧ Below W.heap.size W w')) := Lib.hid (fun W hb => digest_told x q h2 W (HTQ.out.lower hb) (HTT.out.below hb (Nat.le_refl _)) hx1 hx2 t2)
    have HR : Hid (findX x p q = (toldD x q, [], [])) := Lib.hid (by unfold findX; rw [if_neg (by rw [HT1.out]; simp), if_pos t2])
    rw [HR.out]
    clear t2
    go_enter Tryd.func10, Tryd.ntmps10
    go_upto_region 1 with fail
    generalize ((w.alloc (.cells #[.int .i64 h.k, .slice h.ka h.kn h.kc, .slice h.va h.vn h.vc, .slice h.da h.dn h.dc, .slice h.ta h.tn h.tc] 25)).alloc (.cells #[.int .i64 h2.k, .slice h2.ka h2.kn h2.kc, .slice h2.va h2.vn h2.vc, .slice h2.da h2.dn h2.dc, .slice h2.ta h2.tn h2.tc] 25)) = w0 at *
    obtain ⟨x0, x1, x2, x3, x4⟩ := HD.out.box.cells
    go_upto_region 4 with (first
      | (go_at_call 17
         refine (HDP.out _ HD.out.b).mono ?_
         rintro _ w1 ⟨a1, c1, rfl, hi1, hb1⟩
         have HD1 := Lib.hid (HD.out.below hb1)
         have HI1 := Lib.hid hi1
         clear hi1 hb1 x0 x1 x2 x3 x4))
    obtain ⟨x0, x1, x2, x3, x4⟩ := HD1.out.box2.cells
    go_wp2_with (first
      | (go_at_call 17
         refine (HDN.out _ HD1.out.b).mono ?_
         rintro _ w2 ⟨a2, c2, rfl, hb2⟩
         have HD2 := Lib.hid (HD1.out.below hb2)
         clear hb2 x0 x1 x2 x3 x4))
    go_ret3
    exact FindTold.err HN.out HD2.out.b
  obtain ⟨k', zs2, hxk', hk1', hk2', hck2, hzs2⟩ := toldD_zero t2
  have HZQ : Hid (checkT q = 0 ∧ digT k q = some zs2) := Lib.hid (by
    have e : k' = k := by have := HXK.out; omega
    subst e
    exact ⟨hck2, hzs2⟩)
  have HDQ : Hid (∀ W, Below w.heap.size w W → Calls Tryd.prog 17 #[.int .i64 x, .agg #[.int .i64 h2.k, .slice h2.ka h2.kn h2.kc, .slice h2.va h2.vn h2.vc, .slice h2.da h2.dn h2.dc, .slice h2.ta h2.tn h2.tc]] W (fun e w' => ∃ a c, e = .returned (.tuple #[.slice a k c, .nilIface]) ∧ InBytes w' a k c zs2 ∧ Below W.heap.size W w')) := Lib.hid (fun W hb => digest_is x q h2 W (HTQ.out.lower hb) (HTT.out.below hb (Nat.le_refl _)) (k := k) (zs := zs2) ⟨HXK.out, hk1, hk2, HZQ.out.1, HZQ.out.2⟩)
  have HT2 := Lib.hid t2
  clear t2 hck2 hzs2 hxk' hk1' hk2'
  cases hd : zs == zs2 with
  | false =>
    have HE := Lib.hid hd
    have HR : Hid (findX x p q = (6, [], [])) := Lib.hid (by
      have e := HXK.out
      subst e
      refine findX_six HT1.out HT2.out ?_
      rw [HZP.out.2, HZQ.out.2]
      intro q
      injection q with q
      rw [q] at hd
      simp at hd)
    rw [HR.out]
    clear hd
    go_enter Tryd.func10, Tryd.ntmps10
    go_upto_region 1 with fail
    generalize ((w.alloc (.cells #[.int .i64 h.k, .slice h.ka h.kn h.kc, .slice h.va h.vn h.vc, .slice h.da h.dn h.dc, .slice h.ta h.tn h.tc] 25)).alloc (.cells #[.int .i64 h2.k, .slice h2.ka h2.kn h2.kc, .slice h2.va h2.vn h2.vc, .slice h2.da h2.dn h2.dc, .slice h2.ta h2.tn h2.tc] 25)) = w0 at *
    obtain ⟨x0, x1, x2, x3, x4⟩ := HD.out.box.cells
    go_upto_region 4 with (first
      | (go_at_call 17
         refine (HDP.out _ HD.out.b).mono ?_
         rintro _ w1 ⟨a1, c1, rfl, hi1, hb1⟩
         have HD1 := Lib.hid (HD.out.below hb1)
         have HI1 := Lib.hid hi1
         clear hi1 hb1 x0 x1 x2 x3 x4))
    obtain ⟨x0, x1, x2, x3, x4⟩ := HD1.out.box2.cells
    go_wp2_with (first
      | (go_at_call 17
         refine (HDQ.out _ HD1.out.b).mono ?_
         rintro _ w2 ⟨a2, c2, rfl, hi2, hb2⟩
         have HD2 := Lib.hid (HD1.out.below hb2)
         have HI2 := Lib.hid hi2
         have HI1b := Lib.hid (HI1.out.below hb2)
         clear hi2 hb2 x0 x1 x2 x3 x4)
      | (go_at_call 25
         (with_reducible refine (equal_any zs zs2 _ _ _ _ _ _ _ HI1b.out HI2.out).mono ?_)
         rintro _ w3 ⟨rfl, hw3⟩
         rw [hw3]
         clear hw3
         rw [HE.out]))
    go_ret3
    exact FindTold.err (m := 6) (by decide) HD2.out.b
  | true =>
    have HE := Lib.hid hd
    clear hd
    obtain ⟨P, rfl⟩ := PT.of p (check_zeroR HZP.out.1).1
    obtain ⟨Q, rfl⟩ := PT.of q (check_zeroR HZQ.out.1).1
    have HOP := Lib.hid (PT.ok_of hk2 P zs HZP.out.2)
    have HOQ := Lib.hid (PT.ok_of hk2 Q zs2 HZQ.out.2)
    have HFP := Lib.hid (check_zeroR HZP.out.1).1
    have HFQ := Lib.hid (check_zeroR HZQ.out.1).1
    have HR : Hid (findX x P.tr Q.tr = tellF (searchP k P Q)) := Lib.hid (by
      have e := HXK.out
      subst e
      refine findX_found HT1.out HT2.out ?_
      have e2 : zs = zs2 := by simpa using HE.out
      rw [HZP.out.2, HZQ.out.2, e2])
    rw [HR.out]
    go_enter Tryd.func10, Tryd.ntmps10
    go_upto_region 1 with fail
    generalize ((w.alloc (.cells #[.int .i64 h.k, .slice h.ka h.kn h.kc, .slice h.va h.vn h.vc, .slice h.da h.dn h.dc, .slice h.ta h.tn h.tc] 25)).alloc (.cells #[.int .i64 h2.k, .slice h2.ka h2.kn h2.kc, .slice h2.va h2.vn h2.vc, .slice h2.da h2.dn h2.dc, .slice h2.ta h2.tn h2.tc] 25)) = w0 at *
    obtain ⟨x0, x1, x2, x3, x4⟩ := HD.out.box.cells
    go_upto_region 4 with (first
      | (go_at_call 17
         refine (HDP.out _ HD.out.b).mono ?_
         rintro _ w1 ⟨a1, c1, rfl, hi1, hb1⟩
         have HD1 := Lib.hid (HD.out.below hb1)
         have HI1 := Lib.hid hi1
         clear hi1 hb1 x0 x1 x2 x3 x4))
    obtain ⟨x0, x1, x2, x3, x4⟩ := HD1.out.box2.cells
    go_upto_region 9 with (first
      | (go_at_call 17
         refine (HDQ.out _ HD1.out.b).mono ?_
         rintro _ w2 ⟨a2, c2, rfl, hi2, hb2⟩
         have HD2 := Lib.hid (HD1.out.below hb2)
         have HI2 := Lib.hid hi2
         have HI1b := Lib.hid (HI1.out.below hb2)
         clear hi2 hb2 x0 x1 x2 x3 x4)
      | (go_at_call 25
         (with_reducible refine (equal_any zs zs2 _ _ _ _ _ _ _ HI1b.out HI2.out).mono ?_)
         rintro _ w3 ⟨rfl, hw3⟩
         rw [hw3]
         clear hw3
         rw [HE.out]))
    have hxe := HXK.out
    subst hxe
    obtain ⟨x0, x1, x2, x3, x4⟩ := HD2.out.box.cells
    go_upto_region 12 with (first
      | (go_at_call 26
         refine (imageOf_any k hk1 hk2 w HTT.out P h _ HTP.out HD2.out.b HOP.out HFP.out).mono ?_
         rintro _ w4 ⟨h4, rfl, f4, hb4⟩
         unfold IMH.v
         have HD4 := Lib.hid (HD2.out.below hb4)
         have HF4 : Hid (FrA k w.heap.size w.heap.size w4.heap.size w4 h4 (P.dgP k) (P.preP k) P.kidsP) := Lib.hid (f4.wide (Nat.le_refl _) HD2.out.b.size (Nat.le_refl _))
         clear f4 hb4 x0 x1 x2 x3 x4)
      | (refine wpList_store_rec rfl 66 (.tmp 12) (.tmp 44) rfl recIm w4.heap.size imZ h4 rfl rfl 66 (heap_alloc_new w4 _) infoIm ?_
         intro w5 hx hg
         have HL5 : Hid (Below w4.heap.size w4 w5) := Lib.hid (below_only ((Below.refl _ _).alloc (Nat.le_refl _) _) hg (by simp) (Nat.le_refl _))
         have HX5 := Lib.hid hx
         clear hx hg))
    have HD5 := Lib.hid (HD4.out.below HL5.out)
    have HA5 : Hid (KI k w.heap.size w.heap.size w5 w4.heap.size h4 (P.dgP k) (P.preP k) P.kidsP) := Lib.hid ⟨HX5.out, HF4.out.step HL5.out⟩
    clear HX5 HF4 HL5
    obtain ⟨x0, x1, x2, x3, x4⟩ := HD5.out.box2.cells
    go_upto_region 15 with (first
      | (go_at_call 26
         refine (imageOf_any k hk1 hk2 w HTT.out Q h2 _ HTQ.out HD5.out.b HOQ.out HFQ.out).mono ?_
         rintro _ w6 ⟨h6, rfl, f6, hb6⟩
         unfold IMH.v
         have HD6 := Lib.hid (HD5.out.below hb6)
         have HA6 := Lib.hid (HA5.out.below hb6)
         have HF6 : Hid (FrA k w.heap.size w.heap.size w6.heap.size w6 h6 (Q.dgP k) (Q.preP k) Q.kidsP) := Lib.hid (f6.wide (Nat.le_refl _) HD5.out.b.size (Nat.le_refl _))
         clear f6 hb6 x0 x1 x2 x3 x4)
      | (refine wpList_store_rec rfl 66 (.tmp 13) (.tmp 53) rfl recIm w6.heap.size imZ h6 rfl rfl 66 (heap_alloc_new w6 _) infoIm ?_
         intro w7 hx hg
         have HL7 : Hid (Below w6.heap.size w6 w7) := Lib.hid (below_only ((Below.refl _ _).alloc (Nat.le_refl _) _) hg (by simp) (Nat.le_refl _))
         have HX7 := Lib.hid hx
         clear hx hg))
    have HD7 := Lib.hid (HD6.out.below HL7.out)
    have HA7 := Lib.hid (HA6.out.below HL7.out)
    have HB7 : Hid (KI k w.heap.size w.heap.size w7 w6.heap.size h6 (Q.dgP k) (Q.preP k) Q.kidsP) := Lib.hid ⟨HX7.out, HF6.out.step HL7.out⟩
    clear HX7 HF6 HL7
    obtain ⟨y0, y1, y2⟩ := HA7.out.cells
    obtain ⟨z0, z1, z2⟩ := HB7.out.cells
    cases hr : searchP k P Q with
    | none =>
      have HS := Lib.hid hr
      clear hr
      go_wp2_with (first
        | (go_at_call 27
           have hcall := search_any k w.heap.size w7.heap.size P Q h4 h6 w7 (HA7.out.f.img.self (Nat.le_refl _)) (HB7.out.f.img.self (Nat.le_refl _)) (Nat.le_refl _)
           rw [HS.out] at hcall
           refine hcall.mono ?_
           rintro _ w8 ⟨a8, n8, c8, b8, m8, d8, rfl, fx8, fy8, hb8⟩
           have HD8 := Lib.hid (HD7.out.below hb8)
           clear hcall fx8 fy8 hb8 y0 y1 y2 z0 z1 z2
           go_simp))
      go_ret3
      rw [HS.out]
      exact FindTold.err (m := 9) (by decide) HD8.out.b
    | some s =>
      have HS := Lib.hid hr
      clear hr
      go_wp2_with (first
        | (go_at_call 27
           have hcall := search_any k w.heap.size w7.heap.size P Q h4 h6 w7 (HA7.out.f.img.self (Nat.le_refl _)) (HB7.out.f.img.self (Nat.le_refl _)) (Nat.le_refl _)
           rw [HS.out] at hcall
           refine hcall.mono ?_
           rintro _ w8 ⟨a8, n8, c8, b8, m8, d8, rfl, fx8, fy8, hb8⟩
           have HD8 := Lib.hid (HD7.out.below hb8)
           have HFX8 := Lib.hid (fx8.wide (Nat.le_refl _) hb8.size)
           have HFY8 := Lib.hid (fy8.wide (Nat.le_refl _) hb8.size)
           clear hcall fx8 fy8 hb8 y0 y1 y2 z0 z1 z2
           go_simp))
      go_ret3
      rw [HS.out]
      exact ⟨_, _, _, _, _, _, rfl, HFX8.out, HFY8.out, HD8.out.b⟩
end Go.Proofs.YtioifkbkllnkgaaDoor

/- The contracts of the document's Number and Bytes. -/
namespace Go.Proofs.YtioifkbkllnkgaaDoor
open Go.RowKit
set_option linter.unusedVariables false

set_option maxRecDepth 100000 in
set_option maxHeartbeats 2000000 in
theorem refNumber_any (v : Nat) (w : World) (hv : v < 18446744073709551616) :
    Calls Tryd.prog 76 #[.int .u64 v] w (OwnPost w (numL v)) := by
  obtain ⟨i0, hi0, hz0, hz1, hz2⟩ := info_parts infoU8
  go_enter Tryd.func76, Tryd.ntmps76
  by_cases h : v < 248
  · have hb : (v : Int) < 248 := by omega
    go_wp2_with fail
    go_ret
    have e : numL v = [(v : Int)] := by unfold numL; rw [if_pos h]
    rw [e]
    exact ⟨w.heap.size, 1, rfl, own_new w 5 .u8 [(v : Int)] w.heap.size (Nat.le_refl _) (by simp [maxLen]), (Below.refl _ _).alloc (Nat.le_refl _) _⟩
  · have hb : ¬ (v : Int) < 248 := by omega
    go_wp2_with fail
    go_loopw [0, 3] (fun s0 s3 wx => ∃ (k : Nat) (a : Option Addr) (cap : Nat), s0 = .int .u64 ((v / 256 ^ k : Nat) : Int) ∧ s3 = .slice a k cap ∧ (k = 0 ∨ v / 256 ^ (k - 1) ≠ 0) ∧ InBytes wx a k cap (be k v) ∧ Below w.heap.size w wx) (fun s0 _ _ => (intOf s0).toNat)
    case atStart => exact ⟨0, none, 0, by simp, rfl, .inl rfl, ⟨rfl, (fun z hz => by cases hz), Nat.le_refl _, by simp [maxLen], fun _ => rfl, (fun h => by omega)⟩, Below.refl _ _⟩
    case round =>
      obtain ⟨k, a, cap, rfl, rfl, hk, hin, hbel⟩ := hrel
      have hk8 : k ≤ nd v := by
        rcases hk with rfl | hk
        · omega
        · rcases Nat.lt_or_ge (nd v) k with h6 | h6
          · exfalso
            apply hk
            apply Nat.div_eq_of_lt
            exact Nat.lt_of_lt_of_le (nd_lt v) (Nat.pow_le_pow_right (by omega) (by omega))
          · exact h6
      have hn8 := nd_64 hv
      have hle := Nat.div_le_self v (256 ^ k)
      have hds := div_step v k
      obtain ⟨q, hq⟩ : ∃ q, q = v / 256 ^ k := ⟨_, rfl⟩
      rw [← hq] at hle hds ⊢
      have HQ := Lib.hid hq
      have HIN := Lib.hid hin
      have HB := Lib.hid hbel
      have HDS := Lib.hid hds
      have HK := Lib.hid hk
      clear hin hbel hds hk hq
      by_cases hz : q = 0
      · have hkn : k = nd v := nd_unique (by rw [← HQ.out]; exact hz) HK.out
        subst hkn
        have hfin : numL v = ((247 + nd v : Nat) : Int) :: be (nd v) v := by unfold numL; rw [if_neg h]
        subst hz
        have HFIN := Lib.hid hfin
        clear hfin hle
        go_wp2_with (first
          | (at_builtin
             refine wpList_append_bytes' _ rfl (.tmp 23) (.tmp 24) 22 rfl w.heap.size 5 i0 _ 1 Tryd.underlying22 hi0 hz0 hz1 hz2 rfl wr.heap.size 1 1 [.int .u8 (247 + (nd v : Int))] rfl (own_new wr 5 .u8 [247 + (nd v : Int)] w.heap.size HB.out.size (by simp [maxLen])) a (nd v) cap (be (nd v) v) rfl (HIN.out.below ((Below.refl _ _).alloc (Nat.le_refl _) _)) (by simp only [maxLen]; omega) (by omega) (by have := HB.out.size; simp; omega) ?_
             intro g1 c1 w1 hown1 hg1
             have HO1 := Lib.hid hown1
             have HB1 : Hid (Below w.heap.size w w1) := Lib.hid (below_only (HB.out.alloc HB.out.size _) hg1 (by have := HB.out.size; simp; omega) HB.out.size)
             clear hown1 hg1))
        go_ret
        have hfin := HFIN.out
        have hc : ((247 + nd v : Nat) : Int) = 247 + (nd v : Int) := by omega
        rw [hc] at hfin
        have hl : (numL v).length = 1 + nd v := by rw [hfin, List.length_cons, be_length]; omega
        have ho := HO1.out
        refine ⟨g1, c1, by rw [hl]; rfl, ?_, HB1.out⟩
        rw [hl, hfin]
        exact ho
      · have hz2' : (0 : Int) < (q : Int) := by omega
        go_wp2_with (first
          | (at_builtin
             refine wpList_append_bytes' _ rfl (.tmp 14) (.tmp 15) 22 rfl w.heap.size 5 i0 _ 1 Tryd.underlying22 hi0 hz0 hz1 hz2 rfl wr.heap.size 1 1 [.int .u8 ((q : Int) % 256)] rfl (own_new wr 5 .u8 [(q : Int) % 256] w.heap.size HB.out.size (by simp [maxLen])) a k cap (be k v) rfl (HIN.out.below ((Below.refl _ _).alloc (Nat.le_refl _) _)) (by simp only [maxLen]; omega) (by omega) (by have := HB.out.size; simp; omega) ?_
             intro g1 c1 w1 hown1 hg1
             have HO1 := Lib.hid hown1
             have HB1 : Hid (Below w.heap.size w w1) := Lib.hid (below_only (HB.out.alloc HB.out.size _) hg1 (by have := HB.out.size; simp; omega) HB.out.size)
             clear hown1 hg1))
        have hq := HQ.out
        have hb8 : [(q : Int) % 256] ++ be k v = be (k + 1) v := by simp [be, hq]
        have ho := HO1.out
        rw [show [Value.int IntKind.u8 ((q : Int) % 256)] = [(q : Int) % 256].map (Value.int .u8) from rfl, ← List.map_append, hb8, Nat.add_comm 1 k] at ho
        rw [Nat.add_comm 1 k]
        refine ⟨⟨k + 1, some ⟨g1, 0, none⟩, c1, ?_, rfl, .inr ?_, InBytes.of_own ho (be_bytes _ _), HB1.out⟩, ?_⟩
        · congr 1
          rw [← HDS.out]
          omega
        · rw [Nat.add_sub_cancel, ← hq]; omega
        · simp only [intOf]; omega

set_option maxRecDepth 100000 in
set_option maxHeartbeats 2000000 in
theorem refBytes_any (a : Option Addr) (n cap : Nat) (bs : List Int) (w : World) (hin : InBytes w a n cap bs) (hn : n ≤ 140737488351232) :
    Calls Tryd.prog 56 #[.slice a n cap] w (OwnPost w (bytL bs)) := by
  obtain ⟨i0, hi0, hz0, hz1, hz2⟩ := info_parts infoU8
  have hbl := hin.len
  have h9 := numL_le (v := n) (by omega)
  have hle := hin.le
  have HIN := Lib.hid hin
  clear hin
  go_enter Tryd.func56, Tryd.ntmps56
  go_wp2_with (first
    | (go_at_call 76
       (with_reducible refine (refNumber_any n _ (by omega)).mono ?_)
       rintro _ w1 ⟨g1, c1, rfl, hown1, hb1⟩
       have HO1 := Lib.hid hown1
       have HB1 := Lib.hid hb1
       clear hown1 hb1)
    | (at_builtin
       refine wpList_append_bytes' _ rfl (.tmp 6) (.tmp 7) 22 rfl w.heap.size 5 i0 _ 1 Tryd.underlying22 hi0 hz0 hz1 hz2 rfl g1 (numL n).length c1 _ rfl HO1.out a n cap bs rfl (HIN.out.below HB1.out) (by simp only [maxLen]; omega) (by omega) HB1.out.size ?_
       intro g2 c2 w2 hown2 hg2
       have HO2 := Lib.hid hown2
       have HB2 : Hid (Below w.heap.size w w2) := Lib.hid (below_only HB1.out hg2 HB1.out.size (HO1.out.lt g1 rfl).1)
       clear hown2 hg2))
  go_ret
  have ho := HO2.out
  rw [← List.map_append] at ho
  have e : bytL bs = numL n ++ bs := by unfold bytL; rw [hbl]
  have hl : (bytL bs).length = (numL n).length + n := by rw [e, List.length_append, hbl]
  refine ⟨g2, c2, by rw [hl]; rfl, ?_, HB2.out⟩
  rw [hl, e]
  exact ho
end Go.Proofs.YtioifkbkllnkgaaDoor

/- The contracts of the document's preimages. -/
namespace Go.Proofs.YtioifkbkllnkgaaDoor
open Go.RowKit
set_option linter.unusedVariables false

set_option maxRecDepth 100000 in
set_option maxHeartbeats 2000000 in
theorem refValue_any (a : Option Addr) (n cap : Nat) (bs : List Int) (w : World) (hin : InBytes w a n cap bs) (hn : n ≤ 140737488351232) :
    Calls Tryd.prog 30 #[.slice a n cap] w (OwnPost w (valL bs)) := by
  obtain ⟨i0, hi0, hz0, hz1, hz2⟩ := info_parts infoU8
  have hbl := hin.len
  have HIN := Lib.hid hin
  clear hin
  go_enter Tryd.func30, Tryd.ntmps30
  go_wp2_with (first
    | (at_builtin
       refine wpList_append_bytes' _ rfl (.tmp 3) (.tmp 4) 22 rfl w.heap.size 5 i0 _ 1 Tryd.underlying22 hi0 hz0 hz1 hz2 rfl w.heap.size 1 1 [.int .u8 0] rfl (own_new w 5 .u8 [0] w.heap.size (Nat.le_refl _) (by simp [maxLen])) a n cap bs rfl (HIN.out.below ((Below.refl _ _).alloc (Nat.le_refl _) _)) (by simp only [maxLen]; omega) (by omega) (by simp) ?_
       intro g1 c1 w1 hown1 hg1
       have HO1 := Lib.hid (own_app (xs := [0]) (ys := bs) hown1 rfl hbl.symm)
       have HB1 : Hid (Below w.heap.size w w1) := Lib.hid (below_only ((Below.refl _ _).alloc (Nat.le_refl _) _) hg1 (by simp) (Nat.le_refl _))
       clear hown1 hg1))
  go_ret
  have e : (valL bs).length = 1 + n := by simp [valL, hbl]; omega
  exact ⟨g1, c1, by rw [e]; rfl, HO1.out, HB1.out⟩

set_option maxRecDepth 100000 in
set_option maxHeartbeats 2000000 in
theorem refPair_any (a : Option Addr) (n cap : Nat) (bs : List Int) (a2 : Option Addr) (n2 cap2 : Nat) (ds : List Int) (w : World) (hin : InBytes w a n cap bs) (hn : n ≤ 140737488351232) (hin2 : InBytes w a2 n2 cap2 ds) (hn2 : n2 ≤ 32) :
    Calls Tryd.prog 31 #[.slice a n cap, .slice a2 n2 cap2] w (OwnPost w (pairL bs ds)) := by
  obtain ⟨i0, hi0, hz0, hz1, hz2⟩ := info_parts infoU8
  have hbl := hin.len
  have hbl2 := hin2.len
  have h8 := bytL_bytes hin.bytes (by omega)
  have h9 := numL_le (v := n) (by omega)
  have hlen : (bytL bs).length = (numL n).length + n := by unfold bytL; rw [List.length_append, hbl]
  have HIN := Lib.hid hin
  have HIN2 := Lib.hid hin2
  have H8 := Lib.hid h8
  obtain ⟨bl, hble⟩ : ∃ bl, bl = (bytL bs).length := ⟨_, rfl⟩
  have HBL := Lib.hid hble
  have hbl3 : bl ≤ n + 9 := by omega
  clear hin hin2 h8 hble hlen h9
  go_enter Tryd.func31, Tryd.ntmps31
  go_wp2_with (first
    | (go_at_call 56
       (with_reducible refine (refBytes_any a n cap bs _ ?_ hn).mono ?_)
       · exact HIN.out.below ((Below.refl _ _).alloc (Nat.le_refl _) _)
       rintro _ w1 ⟨g1, c1, rfl, ho1, hb1⟩
       rw [← HBL.out] at ho1 ⊢
       have HI1 := Lib.hid (InBytes.of_own ho1 H8.out)
       have HO0 := Lib.hid (own_below (own_new w 5 .u8 [1] w.heap.size (Nat.le_refl _) (by simp [maxLen])) hb1 (by simp))
       have HB1 : Hid (Below w.heap.size w w1) := Lib.hid ((((Below.refl w.heap.size w).alloc (Nat.le_refl _) _)).trans (hb1.mono (by simp)))
       clear ho1 hb1)
    | (at_builtin
       refine wpList_append_bytes' _ rfl (.tmp 6) (.tmp 8) 22 rfl w.heap.size 5 i0 _ 1 Tryd.underlying22 hi0 hz0 hz1 hz2 rfl w.heap.size 1 1 [.int .u8 1] rfl HO0.out (some ⟨g1, 0, none⟩) bl c1 (bytL bs) rfl HI1.out (by simp only [maxLen]; omega) (by omega) HB1.out.size ?_
       intro g2 c2 w2 hown2 hg2
       have hown2' := own_app (xs := [1]) (ys := bytL bs) hown2 rfl HBL.out
       have e2 : ([1] ++ bytL bs).length = 1 + bl := by rw [List.length_append, ← HBL.out]; rfl
       rw [e2] at hown2'
       have HO2 := Lib.hid hown2'
       have HB2 : Hid (Below w.heap.size w w2) := Lib.hid (below_only HB1.out hg2 HB1.out.size (Nat.le_refl _))
       clear hown2 hg2 hown2' e2)
    | (at_builtin
       refine wpList_append_bytes' _ rfl (.tmp 10) (.tmp 11) 22 rfl w.heap.size 5 i0 _ 1 Tryd.underlying22 hi0 hz0 hz1 hz2 rfl g2 (1 + bl) c2 (([1] ++ bytL bs).map (Value.int .u8)) rfl HO2.out a2 n2 cap2 ds rfl (HIN2.out.below HB2.out) (by simp only [maxLen]; omega) (by omega) HB2.out.size ?_
       intro g3 c3 w3 hown3 hg3
       have HO3 := Lib.hid (own_app (xs := [1] ++ bytL bs) (ys := ds) hown3 (by rw [List.length_append, ← HBL.out]; rfl) hbl2.symm)
       have HB3 : Hid (Below w.heap.size w w3) := Lib.hid (below_only HB2.out hg3 HB2.out.size (HO2.out.lt g2 rfl).1)
       clear hown3 hg3))
  go_ret
  have e : pairL bs ds = [1] ++ bytL bs ++ ds := by unfold pairL; simp
  have e2 : (pairL bs ds).length = 1 + bl + n2 := by rw [e, List.length_append, List.length_append, ← HBL.out, hbl2]; rfl
  refine ⟨g3, c3, by rw [e2]; rfl, ?_, HB3.out⟩
  rw [e]
  exact HO3.out

set_option maxRecDepth 100000 in
set_option maxHeartbeats 2000000 in
theorem refNodeB_any (a : Option Addr) (n cap : Nat) (ls : List Int) (a2 : Option Addr) (n2 cap2 : Nat) (ps : List Int) (a3 : Option Addr) (n3 cap3 : Nat) (rs : List Int) (w : World)
    (hin : InBytes w a n cap ls) (hn : n ≤ 32) (hin2 : InBytes w a2 n2 cap2 ps) (hn2 : n2 ≤ 32) (hin3 : InBytes w a3 n3 cap3 rs) (hn3 : n3 ≤ 32) :
    Calls Tryd.prog 32 #[.slice a n cap, .slice a2 n2 cap2, .slice a3 n3 cap3] w (OwnPost w (nodeL ls ps rs)) := by
  obtain ⟨i0, hi0, hz0, hz1, hz2⟩ := info_parts infoU8
  have hl1 := hin.len
  have hl2 := hin2.len
  have hl3 := hin3.len
  have HIN := Lib.hid hin
  have HIN2 := Lib.hid hin2
  have HIN3 := Lib.hid hin3
  clear hin hin2 hin3
  go_enter Tryd.func32, Tryd.ntmps32
  go_wp2_with (first
    | (at_builtin
       refine wpList_append_bytes' _ rfl (.tmp 8) (.tmp 9) 22 rfl w.heap.size 5 i0 _ 1 Tryd.underlying22 hi0 hz0 hz1 hz2 rfl w.heap.size 1 1 [.int .u8 2] rfl (own_new w 5 .u8 [2] w.heap.size (Nat.le_refl _) (by simp [maxLen])) a n cap ls rfl (HIN.out.below ((Below.refl _ _).alloc (Nat.le_refl _) _)) (by simp only [maxLen]; omega) (by omega) (by simp) ?_
       intro g1 c1 w1 hown1 hg1
       have hown1' := own_app (xs := [2]) (ys := ls) hown1 rfl hl1.symm
       have e1 : ([2] ++ ls).length = 1 + n := by rw [List.length_append, hl1]; rfl
       rw [e1] at hown1'
       have HO1 := Lib.hid hown1'
       have HB1 : Hid (Below w.heap.size w w1) := Lib.hid (below_only ((Below.refl _ _).alloc (Nat.le_refl _) _) hg1 (by simp) (Nat.le_refl _))
       clear hown1 hg1 hown1' e1)
    | (at_builtin
       refine wpList_append_bytes' _ rfl (.tmp 11) (.tmp 12) 22 rfl w.heap.size 5 i0 _ 1 Tryd.underlying22 hi0 hz0 hz1 hz2 rfl g1 (1 + n) c1 (([2] ++ ls).map (Value.int .u8)) rfl HO1.out a2 n2 cap2 ps rfl (HIN2.out.below HB1.out) (by simp only [maxLen]; omega) (by omega) HB1.out.size ?_
       intro g2 c2 w2 hown2 hg2
       have hown2' := own_app (xs := [2] ++ ls) (ys := ps) hown2 (by rw [List.length_append, hl1]; rfl) hl2.symm
       have e2 : ([2] ++ ls ++ ps).length = 1 + n + n2 := by rw [List.length_append, List.length_append, hl1, hl2]; rfl
       rw [e2] at hown2'
       have HO2 := Lib.hid hown2'
       have HB2 : Hid (Below w.heap.size w w2) := Lib.hid (below_only HB1.out hg2 HB1.out.size (HO1.out.lt g1 rfl).1)
       clear hown2 hg2 hown2' e2)
    | (at_builtin
       refine wpList_append_bytes' _ rfl (.tmp 14) (.tmp 15) 22 rfl w.heap.size 5 i0 _ 1 Tryd.underlying22 hi0 hz0 hz1 hz2 rfl g2 (1 + n + n2) c2 (([2] ++ ls ++ ps).map (Value.int .u8)) rfl HO2.out a3 n3 cap3 rs rfl (HIN3.out.below HB2.out) (by simp only [maxLen]; omega) (by omega) HB2.out.size ?_
       intro g3 c3 w3 hown3 hg3
       have HO3 := Lib.hid (own_app (xs := [2] ++ ls ++ ps) (ys := rs) hown3 (by rw [List.length_append, List.length_append, hl1, hl2]; rfl) hl3.symm)
       have HB3 : Hid (Below w.heap.size w w3) := Lib.hid (below_only HB2.out hg3 HB2.out.size (HO2.out.lt g2 rfl).1)
       clear hown3 hg3))
  go_ret
  have e : nodeL ls ps rs = [2] ++ ls ++ ps ++ rs := by unfold nodeL; simp
  have e2 : (nodeL ls ps rs).length = 1 + n + n2 + n3 := by rw [e, List.length_append, List.length_append, List.length_append, hl1, hl2, hl3]; rfl
  refine ⟨g3, c3, by rw [e2]; rfl, ?_, HB3.out⟩
  rw [e]
  exact HO3.out
end Go.Proofs.YtioifkbkllnkgaaDoor

/- The first 64 primes, as the document seeks them. No program is named here. The roots of the primes 0 to 15, reckoned: they are the constants. No program is named here. The roots of the primes 16 to 31, reckoned: they are the constants. No program is named here. The roots of the primes 32 to 47, reckoned: they are the constants. No program is named here. The roots of the primes 48 to 63, reckoned: they are the constants. No program is named here. All the roots. No program is named here. The contract of the document's times. The contract of the document's below. The contract of the document's root. The contract of the document's Made: the tables. -/
/- The first 64 primes, as the document seeks them. No program is named here. -/
namespace Go.Proofs.YtioifkbkllnkgaaDoor
set_option linter.unusedVariables false
set_option maxRecDepth 100000

def allNe (k : Int) (l : List Int) : Nat → Bool
  | 0 => true
  | i + 1 => allNe k l i && (k % l.getD i 0 != 0)
/-- What was found when the numbers up to n + 1 were tried. -/
def sieve : Nat → List Int
  | 0 => []
  | n + 1 => match sieve n with
    | l => if allNe (n + 2 : Nat) l l.length then l ++ [((n + 2 : Nat) : Int)] else l
def primes : List Int := [2, 3, 5, 7, 11, 13, 17, 19, 23, 29, 31, 37, 41, 43, 47, 53, 59, 61, 67, 71, 73, 79, 83, 89, 97, 101, 103, 107, 109, 113, 127, 131, 137, 139, 149, 151, 157, 163, 167, 173, 179, 181, 191, 193, 197, 199, 211, 223, 227, 229, 233, 239, 241, 251, 257, 263, 269, 271, 277, 281, 283, 293, 307, 311]
theorem sieve_all : sieve 310 = primes := by decide +kernel
theorem sieve_short : ∀ n, n < 310 → (sieve n).length < 64 := by
  have h : (List.range 310).all (fun n => decide ((sieve n).length < 64)) = true := by decide +kernel
  intro n hn
  have := List.all_eq_true.1 h n (List.mem_range.2 hn)
  exact of_decide_eq_true this
theorem sieve_ok : ∀ n, n ≤ 310 → ∀ z ∈ sieve n, 2 ≤ z ∧ z ≤ 1000 := by
  have h : (List.range 311).all (fun n => (sieve n).all (fun z => decide (2 ≤ z ∧ z ≤ 1000))) = true := by decide +kernel
  intro n hn z hz
  have h1 := List.all_eq_true.1 h n (List.mem_range.2 (by omega))
  have h2 := List.all_eq_true.1 h1 z hz
  exact of_decide_eq_true h2
theorem sieve_next (n : Nat) : sieve (n + 1) = if allNe (n + 2 : Nat) (sieve n) (sieve n).length then sieve n ++ [((n + 2 : Nat) : Int)] else sieve n := rfl
end Go.Proofs.YtioifkbkllnkgaaDoor

/- The roots of the primes 0 to 15, reckoned: they are the constants. No program is named here. -/
namespace Go.Proofs.YtioifkbkllnkgaaDoor
set_option maxRecDepth 100000
theorem kroot0 : rootL 2 true = kTab.getD 0 0 := by decide +kernel
theorem kroot1 : rootL 3 true = kTab.getD 1 0 := by decide +kernel
theorem kroot2 : rootL 5 true = kTab.getD 2 0 := by decide +kernel
theorem kroot3 : rootL 7 true = kTab.getD 3 0 := by decide +kernel
theorem kroot4 : rootL 11 true = kTab.getD 4 0 := by decide +kernel
theorem kroot5 : rootL 13 true = kTab.getD 5 0 := by decide +kernel
theorem kroot6 : rootL 17 true = kTab.getD 6 0 := by decide +kernel
theorem kroot7 : rootL 19 true = kTab.getD 7 0 := by decide +kernel
theorem kroot8 : rootL 23 true = kTab.getD 8 0 := by decide +kernel
theorem kroot9 : rootL 29 true = kTab.getD 9 0 := by decide +kernel
theorem kroot10 : rootL 31 true = kTab.getD 10 0 := by decide +kernel
theorem kroot11 : rootL 37 true = kTab.getD 11 0 := by decide +kernel
theorem kroot12 : rootL 41 true = kTab.getD 12 0 := by decide +kernel
theorem kroot13 : rootL 43 true = kTab.getD 13 0 := by decide +kernel
theorem kroot14 : rootL 47 true = kTab.getD 14 0 := by decide +kernel
theorem kroot15 : rootL 53 true = kTab.getD 15 0 := by decide +kernel
theorem hroot0 : rootL 2 false = hTab.getD 0 0 := by decide +kernel
theorem hroot1 : rootL 3 false = hTab.getD 1 0 := by decide +kernel
theorem hroot2 : rootL 5 false = hTab.getD 2 0 := by decide +kernel
theorem hroot3 : rootL 7 false = hTab.getD 3 0 := by decide +kernel
theorem hroot4 : rootL 11 false = hTab.getD 4 0 := by decide +kernel
theorem hroot5 : rootL 13 false = hTab.getD 5 0 := by decide +kernel
theorem hroot6 : rootL 17 false = hTab.getD 6 0 := by decide +kernel
theorem hroot7 : rootL 19 false = hTab.getD 7 0 := by decide +kernel
end Go.Proofs.YtioifkbkllnkgaaDoor

/- The roots of the primes 16 to 31, reckoned: they are the constants. No program is named here. -/
namespace Go.Proofs.YtioifkbkllnkgaaDoor
set_option maxRecDepth 100000
theorem kroot16 : rootL 59 true = kTab.getD 16 0 := by decide +kernel
theorem kroot17 : rootL 61 true = kTab.getD 17 0 := by decide +kernel
theorem kroot18 : rootL 67 true = kTab.getD 18 0 := by decide +kernel
theorem kroot19 : rootL 71 true = kTab.getD 19 0 := by decide +kernel
theorem kroot20 : rootL 73 true = kTab.getD 20 0 := by decide +kernel
theorem kroot21 : rootL 79 true = kTab.getD 21 0 := by decide +kernel
theorem kroot22 : rootL 83 true = kTab.getD 22 0 := by decide +kernel
theorem kroot23 : rootL 89 true = kTab.getD 23 0 := by decide +kernel
theorem kroot24 : rootL 97 true = kTab.getD 24 0 := by decide +kernel
theorem kroot25 : rootL 101 true = kTab.getD 25 0 := by decide +kernel
theorem kroot26 : rootL 103 true = kTab.getD 26 0 := by decide +kernel
theorem kroot27 : rootL 107 true = kTab.getD 27 0 := by decide +kernel
theorem kroot28 : rootL 109 true = kTab.getD 28 0 := by decide +kernel
theorem kroot29 : rootL 113 true = kTab.getD 29 0 := by decide +kernel
theorem kroot30 : rootL 127 true = kTab.getD 30 0 := by decide +kernel
theorem kroot31 : rootL 131 true = kTab.getD 31 0 := by decide +kernel
end Go.Proofs.YtioifkbkllnkgaaDoor

/- The roots of the primes 32 to 47, reckoned: they are the constants. No program is named here. -/
namespace Go.Proofs.YtioifkbkllnkgaaDoor
set_option maxRecDepth 100000
theorem kroot32 : rootL 137 true = kTab.getD 32 0 := by decide +kernel
theorem kroot33 : rootL 139 true = kTab.getD 33 0 := by decide +kernel
theorem kroot34 : rootL 149 true = kTab.getD 34 0 := by decide +kernel
theorem kroot35 : rootL 151 true = kTab.getD 35 0 := by decide +kernel
theorem kroot36 : rootL 157 true = kTab.getD 36 0 := by decide +kernel
theorem kroot37 : rootL 163 true = kTab.getD 37 0 := by decide +kernel
theorem kroot38 : rootL 167 true = kTab.getD 38 0 := by decide +kernel
theorem kroot39 : rootL 173 true = kTab.getD 39 0 := by decide +kernel
theorem kroot40 : rootL 179 true = kTab.getD 40 0 := by decide +kernel
theorem kroot41 : rootL 181 true = kTab.getD 41 0 := by decide +kernel
theorem kroot42 : rootL 191 true = kTab.getD 42 0 := by decide +kernel
theorem kroot43 : rootL 193 true = kTab.getD 43 0 := by decide +kernel
theorem kroot44 : rootL 197 true = kTab.getD 44 0 := by decide +kernel
theorem kroot45 : rootL 199 true = kTab.getD 45 0 := by decide +kernel
theorem kroot46 : rootL 211 true = kTab.getD 46 0 := by decide +kernel
theorem kroot47 : rootL 223 true = kTab.getD 47 0 := by decide +kernel
end Go.Proofs.YtioifkbkllnkgaaDoor

/- The roots of the primes 48 to 63, reckoned: they are the constants. No program is named here. -/
namespace Go.Proofs.YtioifkbkllnkgaaDoor
set_option maxRecDepth 100000
theorem kroot48 : rootL 227 true = kTab.getD 48 0 := by decide +kernel
theorem kroot49 : rootL 229 true = kTab.getD 49 0 := by decide +kernel
theorem kroot50 : rootL 233 true = kTab.getD 50 0 := by decide +kernel
theorem kroot51 : rootL 239 true = kTab.getD 51 0 := by decide +kernel
theorem kroot52 : rootL 241 true = kTab.getD 52 0 := by decide +kernel
theorem kroot53 : rootL 251 true = kTab.getD 53 0 := by decide +kernel
theorem kroot54 : rootL 257 true = kTab.getD 54 0 := by decide +kernel
theorem kroot55 : rootL 263 true = kTab.getD 55 0 := by decide +kernel
theorem kroot56 : rootL 269 true = kTab.getD 56 0 := by decide +kernel
theorem kroot57 : rootL 271 true = kTab.getD 57 0 := by decide +kernel
theorem kroot58 : rootL 277 true = kTab.getD 58 0 := by decide +kernel
theorem kroot59 : rootL 281 true = kTab.getD 59 0 := by decide +kernel
theorem kroot60 : rootL 283 true = kTab.getD 60 0 := by decide +kernel
theorem kroot61 : rootL 293 true = kTab.getD 61 0 := by decide +kernel
theorem kroot62 : rootL 307 true = kTab.getD 62 0 := by decide +kernel
theorem kroot63 : rootL 311 true = kTab.getD 63 0 := by decide +kernel
end Go.Proofs.YtioifkbkllnkgaaDoor

/- All the roots. No program is named here. -/
namespace Go.Proofs.YtioifkbkllnkgaaDoor
set_option maxRecDepth 100000
theorem kroots (i : Nat) (h : i < 64) : rootL (primes.getD i 0) true = kTab.getD i 0 := by
  match i, h with
  | 0, _ => exact kroot0
  | 1, _ => exact kroot1
  | 2, _ => exact kroot2
  | 3, _ => exact kroot3
  | 4, _ => exact kroot4
  | 5, _ => exact kroot5
  | 6, _ => exact kroot6
  | 7, _ => exact kroot7
  | 8, _ => exact kroot8
  | 9, _ => exact kroot9
  | 10, _ => exact kroot10
  | 11, _ => exact kroot11
  | 12, _ => exact kroot12
  | 13, _ => exact kroot13
  | 14, _ => exact kroot14
  | 15, _ => exact kroot15
  | 16, _ => exact kroot16
  | 17, _ => exact kroot17
  | 18, _ => exact kroot18
  | 19, _ => exact kroot19
  | 20, _ => exact kroot20
  | 21, _ => exact kroot21
  | 22, _ => exact kroot22
  | 23, _ => exact kroot23
  | 24, _ => exact kroot24
  | 25, _ => exact kroot25
  | 26, _ => exact kroot26
  | 27, _ => exact kroot27
  | 28, _ => exact kroot28
  | 29, _ => exact kroot29
  | 30, _ => exact kroot30
  | 31, _ => exact kroot31
  | 32, _ => exact kroot32
  | 33, _ => exact kroot33
  | 34, _ => exact kroot34
  | 35, _ => exact kroot35
  | 36, _ => exact kroot36
  | 37, _ => exact kroot37
  | 38, _ => exact kroot38
  | 39, _ => exact kroot39
  | 40, _ => exact kroot40
  | 41, _ => exact kroot41
  | 42, _ => exact kroot42
  | 43, _ => exact kroot43
  | 44, _ => exact kroot44
  | 45, _ => exact kroot45
  | 46, _ => exact kroot46
  | 47, _ => exact kroot47
  | 48, _ => exact kroot48
  | 49, _ => exact kroot49
  | 50, _ => exact kroot50
  | 51, _ => exact kroot51
  | 52, _ => exact kroot52
  | 53, _ => exact kroot53
  | 54, _ => exact kroot54
  | 55, _ => exact kroot55
  | 56, _ => exact kroot56
  | 57, _ => exact kroot57
  | 58, _ => exact kroot58
  | 59, _ => exact kroot59
  | 60, _ => exact kroot60
  | 61, _ => exact kroot61
  | 62, _ => exact kroot62
  | 63, _ => exact kroot63
  | n + 64, h => omega
theorem hroots (i : Nat) (h : i < 8) : rootL (primes.getD i 0) false = hTab.getD i 0 := by
  match i, h with
  | 0, _ => exact hroot0
  | 1, _ => exact hroot1
  | 2, _ => exact hroot2
  | 3, _ => exact hroot3
  | 4, _ => exact hroot4
  | 5, _ => exact hroot5
  | 6, _ => exact hroot6
  | 7, _ => exact hroot7
  | n + 8, h => omega
end Go.Proofs.YtioifkbkllnkgaaDoor

/- The contract of the document's times. -/
namespace Go.Proofs.YtioifkbkllnkgaaDoor
open Go.RowKit
set_option linter.unusedVariables false

def U64s (l : List Int) : Prop := ∀ z ∈ l, 0 ≤ z ∧ z ≤ 18446744073709551615
theorem u64_at {l : List Int} (h : U64s l) (i : Nat) : 0 ≤ l.getD i 0 ∧ l.getD i 0 ≤ 18446744073709551615 := by
  by_cases hi : i < l.length
  · have := h l[i] (List.getElem_mem hi)
    simpa [List.getD, hi] using this
  · simp [List.getD, List.getElem?_eq_none (by omega : l.length ≤ i)]
theorem u64_set {l : List Int} (h : U64s l) (i : Nat) (z : Int) (h0 : 0 ≤ z) (h1 : z ≤ 18446744073709551615) : U64s (l.set i z) := by
  intro y hy
  rcases List.mem_or_eq_of_mem_set hy with hm | rfl
  · exact h y hm
  · exact ⟨h0, h1⟩
theorem u64_rep (n : Nat) : U64s (List.replicate n 0) := by
  intro z hz
  rw [List.mem_replicate] at hz
  omega
theorem mulCol_length (out : List Int) (x : Int) (b : List Int) (i : Nat) : ∀ k, (mulCol out x b i k).length = out.length
  | 0 => rfl
  | k + 1 => by simp [mulCol, mulCol_length out x b i k]
theorem mulRow_length (a b : List Int) : ∀ i, (mulRow a b i).length = a.length + b.length + 1
  | 0 => by simp [mulRow]
  | i + 1 => by rw [mulRow, mulCol_length, mulRow_length a b i]
theorem carry_length (o : List Int) : ∀ i, (carry o i).length = o.length
  | 0 => rfl
  | i + 1 => by simp [carry, carry_length o i]
theorem mulCol_u {out : List Int} (h : U64s out) (x : Int) (b : List Int) (i : Nat) : ∀ k, U64s (mulCol out x b i k)
  | 0 => h
  | k + 1 => u64_set (mulCol_u h x b i k) _ _ (by omega) (by omega)
theorem mulRow_u (a b : List Int) : ∀ i, U64s (mulRow a b i)
  | 0 => u64_rep _
  | i + 1 => mulCol_u (mulRow_u a b i) _ _ _ _
theorem carry_u {o : List Int} (h : U64s o) : ∀ i, U64s (carry o i)
  | 0 => h
  | i + 1 => u64_set (u64_set (carry_u h i) _ _ (by omega) (by omega)) _ _ (by omega) (by omega)
theorem timesL_length (a b : List Int) : (timesL a b).length = a.length + b.length + 1 := by rw [timesL, carry_length, mulRow_length]
theorem timesL_u (a b : List Int) : U64s (timesL a b) := carry_u (mulRow_u a b _) _

theorem wrap_mul_add (x t : Int) : IntKind.u64.wrap (x + IntKind.u64.wrap t) = (x + t) % 18446744073709551616 := by
  simp only [IntKind.wrap_u64]
  omega
theorem wrap_add64 (x : Int) : IntKind.u64.wrap x = x % 18446744073709551616 := IntKind.wrap_u64 x
theorem infoU64 : (Tryd.prog.info? 71).map (fun i => (i.zero, i.size, i.bytes)) = some (some (.int .u64 0), 1, 8) := by kernel_rfl

def TimesPost (w : World) (a b : List Int) (e : Ending) (w' : World) : Prop :=
  e = .returned (.slice (some ⟨w.heap.size, 0, none⟩) (a.length + b.length + 1) (a.length + b.length + 1)) ∧ Row .u64 w' 71 w.heap.size (timesL a b) ∧ Below w.heap.size w w' ∧ w'.heap.size = w.heap.size + 1

set_option maxRecDepth 100000 in
set_option maxHeartbeats 4000000 in
theorem times_any (ga gb na nb ca cb : Nat) (a b : List Int) (w : World) (hna : a.length = na) (hnb : b.length = nb) (ha1 : na ≤ 100) (hb1 : nb ≤ 100) (hua : U64s a) (hub : U64s b) (hsa : Seg .u64 w ga 0 a) (hsb : Seg .u64 w gb 0 b) (hga : ga < w.heap.size) (hgb : gb < w.heap.size) :
    Calls Tryd.prog 73 #[.slice (some ⟨ga, 0, none⟩) na ca, .slice (some ⟨gb, 0, none⟩) nb cb] w (TimesPost w a b) := by
  obtain ⟨i0, hi0, hz0, hz1, hz2⟩ := info_parts infoU64
  have HNA := Lib.hid hna
  have HNB := Lib.hid hnb
  have HUA := Lib.hid hua
  have HUB := Lib.hid hub
  have HSA := Lib.hid hsa
  have HSB := Lib.hid hsb
  clear hna hnb hua hub hsa hsb
  go_enter Tryd.func73, Tryd.ntmps73
  go_wp2_with (first
    | (at_make
       refine wpList_make_ints _ rfl (.tmp 14) (.tmp 14) 70 rfl 71 i0 .u64 Tryd.underlying70 hi0 hz0 hz1 .i64 .i64 _ _ (na + nb + 1) rfl rfl (by push_cast; omega) (by push_cast; omega) (by rw [hz2]; omega) (by simp only [maxLen]; omega) ?_
       intro w1 hr1 hb1 hs1
       have HR1 := Lib.hid hr1
       have HB1 := Lib.hid hb1
       have HS1 := Lib.hid hs1
       clear hr1 hb1 hs1))
  go_loopw [6] (fun i wx => ∃ k : Nat, k ≤ na ∧ i = .int .i64 k ∧ Row .u64 wx 71 w.heap.size (mulRow a b k) ∧ Below w.heap.size w wx ∧ wx.heap.size = w.heap.size + 1) (fun i _ => na - (intOf i).toNat)
  case atStart => exact ⟨0, by omega, rfl, by rw [mulRow, HNA.out, HNB.out]; exact HR1.out, HB1.out, HS1.out⟩
  case round =>
    obtain ⟨i, hi, rfl, hr, hb, hs⟩ := hrel
    have HR := Lib.hid hr
    have HB := Lib.hid hb
    have HS := Lib.hid hs
    clear hr hb hs HR1 HB1 HS1
    by_cases hlt : i < na
    · have hai : ((i : Nat) : Int) < (na : Int) := by omega
      go_wp2_with fail
      go_loopw [7] (fun k wx => ∃ q : Nat, q ≤ nb ∧ k = .int .i64 q ∧ Row .u64 wx 71 w.heap.size (mulCol (mulRow a b i) (a.getD i 0) b i q) ∧ Below w.heap.size w wx ∧ wx.heap.size = w.heap.size + 1) (fun k _ => nb - (intOf k).toNat)
      case atStart => exact ⟨0, by omega, rfl, HR.out, HB.out, HS.out⟩
      case round =>
        obtain ⟨q, hq, rfl, hr, hb, hs⟩ := hrel
        clear HR HB HS
        have HR := Lib.hid hr
        have HB := Lib.hid hb
        have HS := Lib.hid hs
        clear hr hb hs
        by_cases hlt2 : q < nb
        · have hml : (mulCol (mulRow a b i) (a.getD i 0) b i q).length = na + nb + 1 := by rw [mulCol_length, mulRow_length, HNA.out, HNB.out]
          have c1 := HR.out.cellD (i + q) (by rw [hml]; omega)
          have f1 := HR.out.frozen (i + q)
          have c2 := (HSA.out.below HB.out hga).cellD i (by rw [HNA.out]; exact hlt)
          have c3 := (HSB.out.below HB.out hgb).cellD q (by rw [HNB.out]; exact hlt2)
          rw [Nat.zero_add] at c2 c3
          have u1 := u64_at (mulCol_u (mulRow_u a b i) (a.getD i 0) b i q) (i + q)
          have u2 := u64_at HUA.out i
          have u3 := u64_at HUB.out q
          have hst : Row .u64 (wr.setCell ⟨w.heap.size, i + q, none⟩ (.int .u64 (((mulCol (mulRow a b i) (a.getD i 0) b i q).getD (i + q) 0 + a.getD i 0 * b.getD q 0) % 18446744073709551616))) 71 w.heap.size (mulCol (mulRow a b i) (a.getD i 0) b i (q + 1)) := HR.out.set (i + q) _
          generalize (mulCol (mulRow a b i) (a.getD i 0) b i q).getD (i + q) 0 = x at *
          generalize b.getD q 0 = z at *
          generalize hya : a.getD i 0 = y at *
          have HST := Lib.hid hst
          have k1 : IntKind.i64.wrap ((i : Int) + (q : Int)) = (i : Int) + (q : Int) := IntWalk.i64_in _ (by omega)
          have k2 : (0 : Int) ≤ (i : Int) + (q : Int) := by omega
          have k3 : (i : Int) + (q : Int) < ((na + nb + 1 : Nat) : Int) := by omega
          have k4 : ((i : Int) + (q : Int)).toNat = i + q := by omega
          have k5 : (q : Int) < (nb : Int) := by omega
          have k6 : (i : Int) + (q : Int) < (na : Int) + (nb : Int) + 1 := by omega
          have HYA := Lib.hid hya
          clear hst hml hya
          go_wp2_with fail
          go_region
          clear k1 k2 k3 k4 k6 c1 c2 c3 f1
          go_wp2_with fail
          go_roundw
          case rel =>
            refine ⟨q + 1, by omega, by go_num, ?_, (HB.out.setCell (Nat.le_refl _) _).drew, by simpa [World.setCell] using HS.out⟩
            have h := HST.out.drew
            rw [wrap_mul_add]
            exact h
          case measure => simp [intOf]; omega
        · obtain rfl : q = nb := by omega
          have k5 : ¬ (q : Int) < (q : Int) := by omega
          have hnx : mulCol (mulRow a b i) (a.getD i 0) b i q = mulRow a b (i + 1) := by rw [mulRow, HNB.out]
          have hr := HR.out
          rw [hnx] at hr
          have HR' := Lib.hid hr
          clear hr hnx
          go_wp2_with fail
          go_roundw
          case rel => exact ⟨i + 1, by omega, by go_num, HR'.out, HB.out, HS.out⟩
          case measure => simp [intOf]; omega
    · obtain rfl : i = na := by omega
      have hr := HR.out
      have HR' : Hid (Row .u64 wr 71 w.heap.size (carry (mulRow a b i) 0)) := Lib.hid hr
      clear hr
      go_wp2_with fail
      go_loopw [8] (fun k wx => ∃ q : Nat, q ≤ i + nb ∧ k = .int .i64 q ∧ Row .u64 wx 71 w.heap.size (carry (mulRow a b i) q) ∧ Below w.heap.size w wx ∧ wx.heap.size = w.heap.size + 1) (fun k _ => i + nb - (intOf k).toNat)
      case atStart => exact ⟨0, by omega, rfl, HR'.out, HB.out, HS.out⟩
      case round =>
        obtain ⟨q, hq, rfl, hr, hb, hs⟩ := hrel
        clear HR HB HS HR'
        have HR := Lib.hid hr
        have HB := Lib.hid hb
        have HS := Lib.hid hs
        clear hr hb hs
        by_cases hlt2 : q < i + nb
        · have hml : (carry (mulRow a b i) q).length = i + nb + 1 := by rw [carry_length, mulRow_length, HNA.out, HNB.out]
          have c1 := HR.out.cellD (q + 1) (by rw [hml]; omega)
          have c2 := HR.out.cellD q (by rw [hml]; omega)
          have f1 := HR.out.frozen (q + 1)
          have f2 := HR.out.frozen q
          have u1 := u64_at (carry_u (mulRow_u a b i) q) (q + 1)
          have u2 := u64_at (carry_u (mulRow_u a b i) q) q
          have hst : Row .u64 ((wr.setCell ⟨w.heap.size, q + 1, none⟩ (.int .u64 (((carry (mulRow a b i) q).getD (q + 1) 0 + (carry (mulRow a b i) q).getD q 0 / 65536) % 18446744073709551616))).setCell ⟨w.heap.size, q, none⟩ (.int .u64 ((carry (mulRow a b i) q).getD q 0 % 65536))) 71 w.heap.size (carry (mulRow a b i) (q + 1)) := (HR.out.set (q + 1) _).set q _
          generalize (carry (mulRow a b i) q).getD (q + 1) 0 = x at *
          generalize (carry (mulRow a b i) q).getD q 0 = y at *
          have HST := Lib.hid hst
          have k1 : IntKind.i64.wrap ((q : Int) + 1) = (q : Int) + 1 := IntWalk.i64_in _ (by omega)
          have k2 : (0 : Int) ≤ (q : Int) + 1 := by omega
          have k3 : (q : Int) + 1 < ((i + nb + 1 : Nat) : Int) := by omega
          have k4 : ((q : Int) + 1).toNat = q + 1 := by omega
          have k5 : (q : Int) + 1 < (i : Int) + (nb : Int) + 1 := by omega
          have k6 : (q : Int) < (i : Int) + (nb : Int) + 1 := by omega
          have k7 : (q : Int) < (i : Int) + (nb : Int) := by omega
          clear hst hml
          go_wp2_with fail
          go_region
          clear k1 k2 k3 k4 k5 c1 f1
          go_wp2_with fail
          go_roundw
          case rel =>
            refine ⟨q + 1, by omega, by go_num, ?_, ?_, ?_⟩
            · have h := HST.out
              rw [wrap_add64]
              exact h
            · exact ((HB.out.setCell (Nat.le_refl _) _).drew).setCell (Nat.le_refl _) _
            · simpa [World.setCell] using HS.out
          case measure => simp [intOf]; omega
        · obtain rfl : q = i + nb := by omega
          have k7 : ¬ ((i + nb : Nat) : Int) + 1 < (i : Int) + (nb : Int) + 1 := by omega
          have hfin : carry (mulRow a b i) (i + nb) = timesL a b := by rw [timesL, HNA.out, HNB.out]
          have hr := HR.out
          rw [hfin] at hr
          have HR2 := Lib.hid hr
          clear hr hfin
          go_wp2_with fail
          go_ret
          exact ⟨by rw [HNA.out, HNB.out]; rfl, HR2.out, HB.out, HS.out⟩
end Go.Proofs.YtioifkbkllnkgaaDoor

/- The contract of the document's below. -/
namespace Go.Proofs.YtioifkbkllnkgaaDoor
open Go.RowKit
set_option linter.unusedVariables false

theorem digs_u (y : Int) (h0 : 0 ≤ y) (h1 : y ≤ 68719476735) : U64s (digs y) := by
  intro z hz
  simp only [digs, List.mem_cons, List.not_mem_nil, or_false] at hz
  omega
theorem digs_row (w : World) (y : Int) : Row .u64 (w.alloc (.cells #[.int .u64 (y % 65536), .int .u64 (y / 65536 % 65536), .int .u64 (y / 4294967296)] 71)) 71 w.heap.size (digs y) := heap_alloc_new w _

/-- What stands behind the comparison's loop: the same for squares and cubes. -/
theorem cmp_next (z l : List Int) (m : Nat) (h : z.getD m 0 = l.getD m 0) : cmpL z l (m + 1) = cmpL z l m := by
  have : (z.getD m 0 != l.getD m 0) = false := by rw [h]; simp
  simp only [cmpL, this, Bool.false_eq_true, if_false]
theorem cmp_stop (z l : List Int) (m : Nat) (h : z.getD m 0 ≠ l.getD m 0) : cmpL z l (m + 1) = decide (z.getD m 0 < l.getD m 0) := by
  have : (z.getD m 0 != l.getD m 0) = true := by rw [bne_iff_ne]; exact h
  simp only [cmpL, this, if_true]

def BelowPost (w : World) (v : Bool) (e : Ending) (w' : World) : Prop := e = .returned (.bool v) ∧ Below w.heap.size w w'

set_option maxRecDepth 100000 in
set_option maxHeartbeats 2000000 in
theorem below_sq (y p : Int) (w : World) (h0 : 0 ≤ y) (h1 : y ≤ 68719476735) (hp : 0 ≤ p) (hp1 : p ≤ 1000) :
    Calls Tryd.prog 54 #[.int .u64 y, .int .u64 p, .bool false] w (BelowPost w (belowL y p false)) := by
  obtain ⟨i0, hi0, hz0, hz1, hz2⟩ := info_parts infoU64
  have ht : ∀ W, Row .u64 W 71 w.heap.size (digs y) → Calls Tryd.prog 73 #[.slice (some ⟨w.heap.size, 0, none⟩) 3 3, .slice (some ⟨w.heap.size, 0, none⟩) 3 3] W
      (fun e w' => e = .returned (.slice (some ⟨W.heap.size, 0, none⟩) 7 7) ∧ Row .u64 w' 71 W.heap.size (timesL (digs y) (digs y)) ∧ Below W.heap.size W w' ∧ w'.heap.size = W.heap.size + 1) := fun W hW =>
    times_any w.heap.size w.heap.size 3 3 3 3 (digs y) (digs y) W rfl rfl (by omega) (by omega) (digs_u y h0 h1) (digs_u y h0 h1) hW.seg hW.seg hW.lt hW.lt
  have hres : belowL y p false = cmpL (timesL (digs y) (digs y)) ((List.replicate 7 0).set 4 p) 7 := rfl
  have HD := Lib.hid (digs_row w y)
  have hl : (timesL (digs y) (digs y)).length = 7 := by exact timesL_length _ _
  have hu := timesL_u (digs y) (digs y)
  have hll : ((List.replicate 7 (0 : Int)).set 4 p).length = 7 := by simp
  have hlu : U64s ((List.replicate 7 (0 : Int)).set 4 p) := u64_set (u64_rep 7) 4 p hp (by omega)
  have HT := Lib.hid ht
  have HRES := Lib.hid hres
  have HL := Lib.hid hl
  have HU := Lib.hid hu
  have HLL := Lib.hid hll
  have HLU := Lib.hid hlu
  clear ht hres hl hu hll hlu
  go_enter Tryd.func54, Tryd.ntmps54
  go_wp2_with fail
  refine (HT.out _ HD.out).mono ?_
  rintro _ w1 ⟨rfl, hr1, hb1, hs1⟩
  have HD1 : Hid (Row .u64 w1 71 w.heap.size (digs y)) := Lib.hid (HD.out.below hb1 HD.out.lt)
  simp only [World.size_alloc] at hr1
  have HR1 := Lib.hid hr1
  have HB1 : Hid (Below w.heap.size w w1) := Lib.hid (((Below.refl _ _).alloc (Nat.le_refl _) _).trans (hb1.mono (by simp)))
  clear hr1 hb1 hs1
  have hsz : (w.heap.size + 1) < w1.heap.size := HR1.out.lt
  go_wp2_with (first
    | (at_make
       refine wpList_make_ints _ rfl (.tmp 28) (.tmp 28) 70 rfl 71 i0 .u64 Tryd.underlying70 hi0 hz0 hz1 .i64 .i64 7 7 7 rfl rfl rfl rfl (by rw [hz2]; omega) (by simp only [maxLen]; omega) ?_
       intro w3 hr3 hb3 hs3
       obtain ⟨z0, hc3⟩ := hr3.has 4 (by simp)
       have hf3 := hr3.frozen 4
       have HR3 := Lib.hid hr3
       have HB3 := Lib.hid hb3
       clear hr3 hb3 hs3))
  have hz4 : Row .u64 (w3.setCell ⟨w1.heap.size, 4, none⟩ (.int .u64 p)) 71 (w.heap.size + 1) (timesL (digs y) (digs y)) := by
    have h := HR1.out
    
    exact (h.below HB3.out h.lt).far (by have := h.lt; simp; omega) _
  have hl4 : Row .u64 (w3.setCell ⟨w1.heap.size, 4, none⟩ (.int .u64 p)) 71 w1.heap.size ((List.replicate 7 (0 : Int)).set 4 p) := HR3.out.set 4 p
  have hb4 : Below w.heap.size w (w3.setCell ⟨w1.heap.size, 4, none⟩ (.int .u64 p)) := (HB1.out.trans (HB3.out.mono HB1.out.size)).setCell HB1.out.size _
  obtain ⟨w4, hw4⟩ : ∃ w4, w4 = w3.setCell ⟨w1.heap.size, 4, none⟩ (.int .u64 p) := ⟨_, rfl⟩
  rw [← hw4] at hz4 hl4 hb4 ⊢
  have HZ4 := Lib.hid hz4
  have HL4 := Lib.hid hl4
  have HB4 := Lib.hid hb4
  clear hz4 hl4 hb4 hw4 hc3 hf3
  generalize hzz : timesL (digs y) (digs y) = z at *
  generalize hlim : ((List.replicate 7 (0 : Int)).set 4 p) = lim at *
  clear hzz hlim
  go_loopw [11] (fun i wx => ∃ m q : Nat, m ≤ 7 ∧ i = .int .i64 ((m : Int) - 1) ∧ cmpL z lim 7 = cmpL z lim m ∧ wx = w4.drewN q) (fun i _ => (intOf i + 1).toNat)
  case atStart => exact ⟨7, 0, by omega, rfl, rfl, rfl⟩
  case round =>
    obtain ⟨m, q, hm, rfl, hcmp, rfl⟩ := hrel
    have HCMP := Lib.hid hcmp
    clear hcmp
    by_cases hm0 : m = 0
    · subst hm0
      go_wp2_with fail
      go_ret
      refine ⟨?_, below_drewN HB4.out q⟩
      rw [HRES.out, HCMP.out]
      rfl
    · obtain ⟨k, rfl⟩ : ∃ k, m = k + 1 := ⟨m - 1, by omega⟩
      have c1 := HZ4.out.cellD k (by rw [HL.out]; omega)
      have c2 := HL4.out.cellD k (by rw [HLL.out]; omega)
      have u1 := u64_at HU.out k
      have u2 := u64_at HLU.out k
      have hn := cmp_next z lim k
      have hs := cmp_stop z lim k
      rw [show ((k + 1 : Nat) : Int) - 1 = (k : Int) by omega]
      generalize z.getD k 0 = x at *
      generalize lim.getD k 0 = v at *
      have HN := Lib.hid hn
      have HS := Lib.hid hs
      have kb : (k : Int) < 7 := by omega
      clear hn hs
      by_cases hxv : x = v
      · subst hxv
        go_wp2_with fail
        go_quiet (fail)
        go_wp2_with fail
        refine ⟨⟨k, q + nq, by omega, rfl, ?_, rfl⟩, by simp [intOf]⟩
        rw [HCMP.out, HN.out (by trivial)]
      · have hne : (x != v) = true := by rw [bne_iff_ne]; exact hxv
        have HXV := Lib.hid hxv
        clear hxv
        go_wp2_with fail
        go_quiet (fail)
        go_wp2_with fail
        go_quiet (fail)
        go_wp2_with fail
        go_ret
        refine ⟨?_, below_drewN (below_drewN (below_drewN HB4.out _) _) _⟩
        rw [HRES.out, HCMP.out, HS.out HXV.out]
        rfl

set_option maxRecDepth 100000 in
set_option maxHeartbeats 2000000 in
theorem below_cube (y p : Int) (w : World) (h0 : 0 ≤ y) (h1 : y ≤ 68719476735) (hp : 0 ≤ p) (hp1 : p ≤ 1000) :
    Calls Tryd.prog 54 #[.int .u64 y, .int .u64 p, .bool true] w (BelowPost w (belowL y p true)) := by
  obtain ⟨i0, hi0, hz0, hz1, hz2⟩ := info_parts infoU64
  have ht : ∀ W, Row .u64 W 71 w.heap.size (digs y) → Calls Tryd.prog 73 #[.slice (some ⟨w.heap.size, 0, none⟩) 3 3, .slice (some ⟨w.heap.size, 0, none⟩) 3 3] W
      (fun e w' => e = .returned (.slice (some ⟨W.heap.size, 0, none⟩) 7 7) ∧ Row .u64 w' 71 W.heap.size (timesL (digs y) (digs y)) ∧ Below W.heap.size W w' ∧ w'.heap.size = W.heap.size + 1) := fun W hW =>
    times_any w.heap.size w.heap.size 3 3 3 3 (digs y) (digs y) W rfl rfl (by omega) (by omega) (digs_u y h0 h1) (digs_u y h0 h1) hW.seg hW.seg hW.lt hW.lt
  have ht2 : ∀ W g, Row .u64 W 71 w.heap.size (digs y) → Row .u64 W 71 g (timesL (digs y) (digs y)) → Calls Tryd.prog 73 #[.slice (some ⟨g, 0, none⟩) 7 7, .slice (some ⟨w.heap.size, 0, none⟩) 3 3] W
      (fun e w' => e = .returned (.slice (some ⟨W.heap.size, 0, none⟩) 11 11) ∧ Row .u64 w' 71 W.heap.size (timesL (timesL (digs y) (digs y)) (digs y)) ∧ Below W.heap.size W w' ∧ w'.heap.size = W.heap.size + 1) := fun W g hW hg => by
    have h := times_any g w.heap.size 7 3 7 3 (timesL (digs y) (digs y)) (digs y) W (timesL_length _ _) rfl (by omega) (by omega) (timesL_u _ _) (digs_u y h0 h1) hg.seg hW.seg hg.lt hW.lt
    unfold TimesPost at h
    rw [timesL_length] at h
    exact h
  have HT2 := Lib.hid ht2
  have hres : belowL y p true = cmpL (timesL (timesL (digs y) (digs y)) (digs y)) ((List.replicate 11 0).set 6 p) 11 := rfl
  have HD := Lib.hid (digs_row w y)
  have hl : (timesL (timesL (digs y) (digs y)) (digs y)).length = 11 := by rw [timesL_length, timesL_length]; rfl
  have hu := timesL_u (timesL (digs y) (digs y)) (digs y)
  have hll : ((List.replicate 11 (0 : Int)).set 6 p).length = 11 := by simp
  have hlu : U64s ((List.replicate 11 (0 : Int)).set 6 p) := u64_set (u64_rep 11) 6 p hp (by omega)
  have HT := Lib.hid ht
  have HRES := Lib.hid hres
  have HL := Lib.hid hl
  have HU := Lib.hid hu
  have HLL := Lib.hid hll
  have HLU := Lib.hid hlu
  clear ht ht2 hres hl hu hll hlu
  go_enter Tryd.func54, Tryd.ntmps54
  go_wp2_with fail
  refine (HT.out _ HD.out).mono ?_
  rintro _ w1 ⟨rfl, hr1, hb1, hs1⟩
  have HD1 : Hid (Row .u64 w1 71 w.heap.size (digs y)) := Lib.hid (HD.out.below hb1 HD.out.lt)
  simp only [World.size_alloc] at hr1
  have HR1 := Lib.hid hr1
  have HB1 : Hid (Below w.heap.size w w1) := Lib.hid (((Below.refl _ _).alloc (Nat.le_refl _) _).trans (hb1.mono (by simp)))
  clear hr1 hb1 hs1
  go_wp2_with fail
  refine (HT2.out _ _ HD1.out HR1.out).mono ?_
  rintro _ w2 ⟨rfl, hr2, hb2, hs2⟩
  have HR2 := Lib.hid hr2
  have HB2 : Hid (Below w.heap.size w w2) := Lib.hid (HB1.out.trans (hb2.mono HB1.out.size))
  have hsz : w1.heap.size < w2.heap.size := by omega
  clear hr2 hb2 hs2
  go_wp2_with (first
    | (at_make
       refine wpList_make_ints _ rfl (.tmp 28) (.tmp 28) 70 rfl 71 i0 .u64 Tryd.underlying70 hi0 hz0 hz1 .i64 .i64 11 11 11 rfl rfl rfl rfl (by rw [hz2]; omega) (by simp only [maxLen]; omega) ?_
       intro w3 hr3 hb3 hs3
       obtain ⟨z0, hc3⟩ := hr3.has 6 (by simp)
       have hf3 := hr3.frozen 6
       have HR3 := Lib.hid hr3
       have HB3 := Lib.hid hb3
       clear hr3 hb3 hs3))
  have hz4 : Row .u64 (w3.setCell ⟨w2.heap.size, 6, none⟩ (.int .u64 p)) 71 w1.heap.size (timesL (timesL (digs y) (digs y)) (digs y)) := by
    have h := HR2.out
    
    exact (h.below HB3.out h.lt).far (by have := h.lt; simp; omega) _
  have hl4 : Row .u64 (w3.setCell ⟨w2.heap.size, 6, none⟩ (.int .u64 p)) 71 w2.heap.size ((List.replicate 11 (0 : Int)).set 6 p) := HR3.out.set 6 p
  have hb4 : Below w.heap.size w (w3.setCell ⟨w2.heap.size, 6, none⟩ (.int .u64 p)) := (HB2.out.trans (HB3.out.mono HB2.out.size)).setCell HB2.out.size _
  obtain ⟨w4, hw4⟩ : ∃ w4, w4 = w3.setCell ⟨w2.heap.size, 6, none⟩ (.int .u64 p) := ⟨_, rfl⟩
  rw [← hw4] at hz4 hl4 hb4 ⊢
  have HZ4 := Lib.hid hz4
  have HL4 := Lib.hid hl4
  have HB4 := Lib.hid hb4
  clear hz4 hl4 hb4 hw4 hc3 hf3
  generalize hzz : timesL (timesL (digs y) (digs y)) (digs y) = z at *
  generalize hlim : ((List.replicate 11 (0 : Int)).set 6 p) = lim at *
  clear hzz hlim
  go_loopw [11] (fun i wx => ∃ m q : Nat, m ≤ 11 ∧ i = .int .i64 ((m : Int) - 1) ∧ cmpL z lim 11 = cmpL z lim m ∧ wx = w4.drewN q) (fun i _ => (intOf i + 1).toNat)
  case atStart => exact ⟨11, 0, by omega, rfl, rfl, rfl⟩
  case round =>
    obtain ⟨m, q, hm, rfl, hcmp, rfl⟩ := hrel
    have HCMP := Lib.hid hcmp
    clear hcmp
    by_cases hm0 : m = 0
    · subst hm0
      go_wp2_with fail
      go_ret
      refine ⟨?_, below_drewN HB4.out q⟩
      rw [HRES.out, HCMP.out]
      rfl
    · obtain ⟨k, rfl⟩ : ∃ k, m = k + 1 := ⟨m - 1, by omega⟩
      have c1 := HZ4.out.cellD k (by rw [HL.out]; omega)
      have c2 := HL4.out.cellD k (by rw [HLL.out]; omega)
      have u1 := u64_at HU.out k
      have u2 := u64_at HLU.out k
      have hn := cmp_next z lim k
      have hs := cmp_stop z lim k
      rw [show ((k + 1 : Nat) : Int) - 1 = (k : Int) by omega]
      generalize z.getD k 0 = x at *
      generalize lim.getD k 0 = v at *
      have HN := Lib.hid hn
      have HS := Lib.hid hs
      have kb : (k : Int) < 11 := by omega
      clear hn hs
      by_cases hxv : x = v
      · subst hxv
        go_wp2_with fail
        go_quiet (fail)
        go_wp2_with fail
        refine ⟨⟨k, q + nq, by omega, rfl, ?_, rfl⟩, by simp [intOf]⟩
        rw [HCMP.out, HN.out (by trivial)]
      · have hne : (x != v) = true := by rw [bne_iff_ne]; exact hxv
        have HXV := Lib.hid hxv
        clear hxv
        go_wp2_with fail
        go_quiet (fail)
        go_wp2_with fail
        go_quiet (fail)
        go_wp2_with fail
        go_ret
        refine ⟨?_, below_drewN (below_drewN (below_drewN HB4.out _) _) _⟩
        rw [HRES.out, HCMP.out, HS.out HXV.out]
        rfl
end Go.Proofs.YtioifkbkllnkgaaDoor

/- The contract of the document's root. -/
namespace Go.Proofs.YtioifkbkllnkgaaDoor
open Go.RowKit
set_option linter.unusedVariables false

theorem below_any (y p : Int) (cube : Bool) (w : World) (h0 : 0 ≤ y) (h1 : y ≤ 68719476735) (hp : 0 ≤ p) (hp1 : p ≤ 1000) :
    Calls Tryd.prog 54 #[.int .u64 y, .int .u64 p, .bool cube] w (BelowPost w (belowL y p cube)) := by
  cases cube
  · exact below_sq y p w h0 h1 hp hp1
  · exact below_cube y p w h0 h1 hp hp1

/-- The bit of the n-th round; nought behind the last. -/
def bitAt (n : Nat) : Int := if n < 36 then 2 ^ (35 - n) else 0
theorem bitAt_half (n : Nat) (h : n < 36) : bitAt n / 2 = bitAt (n + 1) := by
  unfold bitAt
  rw [if_pos h]
  by_cases h2 : n + 1 < 36
  · rw [if_pos h2, show 35 - n = (35 - (n + 1)) + 1 by omega, Int.pow_succ]
    omega
  · have : n = 35 := by omega
    subst this
    rfl
theorem bitAt_bd (n : Nat) : 0 ≤ bitAt n ∧ bitAt n ≤ 34359738368 := by
  unfold bitAt
  split
  · have h : n = 0 ∨ n = 1 ∨ n = 2 ∨ n = 3 ∨ n = 4 ∨ n = 5 ∨ n = 6 ∨ n = 7 ∨ n = 8 ∨ n = 9 ∨ n = 10 ∨ n = 11 ∨ n = 12 ∨ n = 13 ∨ n = 14 ∨ n = 15 ∨ n = 16 ∨ n = 17 ∨ n = 18 ∨ n = 19 ∨ n = 20 ∨ n = 21 ∨ n = 22 ∨ n = 23 ∨ n = 24 ∨ n = 25 ∨ n = 26 ∨ n = 27 ∨ n = 28 ∨ n = 29 ∨ n = 30 ∨ n = 31 ∨ n = 32 ∨ n = 33 ∨ n = 34 ∨ n = 35 := by omega
    rcases h with rfl | rfl | rfl | rfl | rfl | rfl | rfl | rfl | rfl | rfl | rfl | rfl | rfl | rfl | rfl | rfl | rfl | rfl | rfl | rfl | rfl | rfl | rfl | rfl | rfl | rfl | rfl | rfl | rfl | rfl | rfl | rfl | rfl | rfl | rfl | rfl <;> decide
  · omega
theorem bitAt_pos (n : Nat) (h : n < 36) : 0 < bitAt n := by
  unfold bitAt
  rw [if_pos h]
  exact Int.pow_pos (by omega)
theorem rootAt_bd (p : Int) (cube : Bool) : ∀ n, n ≤ 36 → 0 ≤ rootAt p cube n ∧ rootAt p cube n + 2 ^ (36 - n) ≤ 68719476736
  | 0, _ => by simp [rootAt]
  | n + 1, h => by
    have ih := rootAt_bd p cube n (by omega)
    have hp : (2 : Int) ^ (36 - n) = 2 * 2 ^ (35 - n) := by rw [show 36 - n = (35 - n) + 1 by omega, Int.pow_succ]; omega
    have h0 : (0 : Int) < 2 ^ (35 - n) := Int.pow_pos (by omega)
    rw [hp] at ih
    rw [show 36 - (n + 1) = 35 - n by omega]
    simp only [rootAt]
    split <;> omega
theorem rootAt_next (p : Int) (cube : Bool) (n : Nat) (h : n < 36) : rootAt p cube (n + 1) = if belowL (rootAt p cube n + bitAt n) p cube then rootAt p cube n + bitAt n else rootAt p cube n := by
  have : bitAt n = 2 ^ (35 - n) := by unfold bitAt; rw [if_pos h]
  rw [this]
  rfl
theorem rootAt_y (p : Int) (cube : Bool) (n : Nat) (h : n < 36) : 0 ≤ rootAt p cube n + bitAt n ∧ rootAt p cube n + bitAt n ≤ 68719476735 := by
  have h1 := rootAt_bd p cube n (by omega)
  have hp : (2 : Int) ^ (36 - n) = 2 * 2 ^ (35 - n) := by rw [show 36 - n = (35 - n) + 1 by omega, Int.pow_succ]; omega
  have h0 : (0 : Int) < 2 ^ (35 - n) := Int.pow_pos (by omega)
  have : bitAt n = 2 ^ (35 - n) := by unfold bitAt; rw [if_pos h]
  omega

def RootPost (w : World) (v : Int) (e : Ending) (w' : World) : Prop := e = .returned (.int .u32 v) ∧ Below w.heap.size w w'
set_option maxRecDepth 100000 in
set_option maxHeartbeats 2000000 in
theorem root_any (p : Int) (cube : Bool) (w : World) (hp : 0 ≤ p) (hp1 : p ≤ 1000) :
    Calls Tryd.prog 28 #[.int .u64 p, .bool cube] w (RootPost w (rootL p cube)) := by
  go_enter Tryd.func28, Tryd.ntmps28
  go_wp2_with fail
  go_loopw [5, 6] (fun x b wx => ∃ n : Nat, n ≤ 36 ∧ x = .int .u64 (rootAt p cube n) ∧ b = .int .u64 (bitAt n) ∧ Below w.heap.size w wx) (fun _ b _ => (intOf b).toNat)
  case atStart => exact ⟨0, by omega, rfl, rfl, Below.refl _ _⟩
  case round =>
    obtain ⟨n, hn, rfl, rfl, hb⟩ := hrel
    have HB := Lib.hid hb
    clear hb
    have r1 := rootAt_bd p cube n hn
    have r1' : rootAt p cube n ≤ 68719476736 := by
      have : (0 : Int) < 2 ^ (36 - n) := Int.pow_pos (by omega)
      omega
    have r0 := r1.1
    clear r1
    by_cases hlt : n < 36
    · have ry := rootAt_y p cube n hlt
      have hpos := bitAt_pos n hlt
      have hhalf := bitAt_half n hlt
      have hnext := rootAt_next p cube n hlt
      have bb := bitAt_bd n
      have bb2 := bitAt_bd (n + 1)
      have hc : ∀ W, Calls Tryd.prog 54 #[.int .u64 (rootAt p cube n + bitAt n), .int .u64 p, .bool cube] W (BelowPost W (belowL (rootAt p cube n + bitAt n) p cube)) := fun W => below_any _ p cube W ry.1 ry.2 hp hp1
      generalize belowL (rootAt p cube n + bitAt n) p cube = v at *
      generalize hbn : bitAt n = bt at *
      generalize hrn : rootAt p cube n = rt at *
      have HC := Lib.hid hc
      have HH := Lib.hid hhalf
      have HN := Lib.hid hnext
      clear hc hhalf hnext hbn hrn
      cases v
      · go_wp2_with (first
          | (go_at_call 54
             (with_reducible refine (HC.out _).mono ?_)
             rintro _ w1 ⟨rfl, hb1⟩
             have HB1 := Lib.hid hb1
             clear hb1))
        go_roundw
        case rel => exact ⟨n + 1, by omega, by rw [HN.out]; rfl, by rw [HH.out], HB.out.trans (HB1.out.mono HB.out.size)⟩
        case measure => simp [intOf]; omega
      · go_wp2_with (first
          | (go_at_call 54
             (with_reducible refine (HC.out _).mono ?_)
             rintro _ w1 ⟨rfl, hb1⟩
             have HB1 := Lib.hid hb1
             clear hb1))
        go_roundw
        case rel => exact ⟨n + 1, by omega, by rw [HN.out]; rfl, by rw [HH.out], HB.out.trans (HB1.out.mono HB.out.size)⟩
        case measure => simp [intOf]; omega
    · obtain rfl : n = 36 := by omega
      have hz : bitAt 36 = 0 := rfl
      rw [hz]
      have hfin : rootL p cube = rootAt p cube 36 % 4294967296 := rfl
      generalize rootAt p cube 36 = rt at *
      have HFIN := Lib.hid hfin
      clear hz hfin
      go_wp2_with fail
      go_ret
      exact ⟨by rw [HFIN.out]; rfl, HB.out⟩
end Go.Proofs.YtioifkbkllnkgaaDoor

/- The contract of the document's Made: the tables. -/
namespace Go.Proofs.YtioifkbkllnkgaaDoor
open Go.RowKit
set_option linter.unusedVariables false

/-- Block g holds a Tables: the slice v, the words hs. -/
def TB (w : World) (g : Nat) (v : Value) (hs : List Int) : Prop := w.heap[g]? = some (.cells (v :: hs.map (Value.int .u32)).toArray 36 (0, 0))
section
variable {w w' : World} {g : Nat} {v : Value} {hs : List Int}
theorem TB.lt (h : TB w g v hs) : g < w.heap.size := by
  rcases Nat.lt_or_ge g w.heap.size with hlt | hge
  · exact hlt
  · unfold TB at h; rw [Array.getElem?_eq_none hge] at h; cases h
theorem TB.cell0 (h : TB w g v hs) : w.cell? ⟨g, 0, none⟩ = some v := by
  rw [cell_of_row w g 0 _ _ (0, 0) h]; simp
theorem TB.cellH (h : TB w g v hs) (i : Nat) (hi : i < hs.length) : w.cell? ⟨g, 1 + i, none⟩ = some (.int .u32 (hs.getD i 0)) := by
  rw [cell_of_row w g (1 + i) _ _ (0, 0) h, Nat.add_comm]
  simp [hi, List.getD]
theorem TB.frozen (h : TB w g v hs) (i : Nat) : w.frozen? ⟨g, i, none⟩ = false := by
  unfold TB at h
  simp [World.frozen?, h]
theorem TB.set0 (h : TB w g v hs) (u : Value) : TB (w.setCell ⟨g, 0, none⟩ u) g u hs := by
  unfold TB at h ⊢
  simp [World.setCell, Array.getElem?_modify, h]
theorem TB.setH (h : TB w g v hs) (i : Nat) (z : Int) : TB (w.setCell ⟨g, 1 + i, none⟩ (.int .u32 z)) g v (hs.set i z) := by
  unfold TB at h ⊢
  rw [Nat.add_comm]
  simp [World.setCell, Array.getElem?_modify, h, List.map_set]
theorem TB.far (h : TB w g v hs) {p : Addr} (hp : g ≠ p.block) (u : Value) : TB (w.setCell p u) g v hs := (Below.heap_setCell w p u g hp).trans h
theorem TB.alloc (h : TB w g v hs) (o : Obj) : TB (w.alloc o) g v hs := (Below.heap_alloc w o g h.lt).trans h
theorem TB.below {B : Nat} (h : TB w g v hs) (hb : Below B w w') (hg : g < B) : TB w' g v hs := (hb.block g hg).trans h
theorem TB.grown {row : Option Nat} (h : TB w g v hs) (hb : w.grownBy w' row) (hg : some g ≠ row) : TB w' g v hs := (hb.block g h.lt hg).trans h
end
/-- The tables as a value: the slice of the constants, and the words at first. -/
def tabV (g c : Nat) : Value := .agg (Value.slice (some ⟨g, 0, none⟩) 64 c :: hTab.map (Value.int .u32)).toArray
theorem sizeTab : (Tryd.prog.info? 36).map (·.size) = some 9 := by kernel_rfl
def MadePost (w : World) (e : Ending) (w' : World) : Prop :=
  ∃ g c, e = .returned (tabV g c) ∧ w'.ownsRow (w.heap.size + 2) 33 1 (.slice (some ⟨g, 0, none⟩) 64 c) 64 (kTab.map (Value.int .u32)) ∧ Below w.heap.size w w'
theorem infoU32m : (Tryd.prog.info? 33).map (fun i => (i.zero, i.size, i.bytes)) = some (some (.int .u32 0), 1, 4) := by kernel_rfl

set_option maxRecDepth 100000 in
set_option maxHeartbeats 4000000 in
theorem made_any (w : World) : Calls Tryd.prog 11 #[] w (MadePost w) := by
  obtain ⟨i0, hi0, hz0, hz1, hz2⟩ := info_parts infoU64
  obtain ⟨j0, hj0, hy0, hy1, hy2⟩ := info_parts infoU32m
  go_enter Tryd.func11, Tryd.ntmps11
  go_wp2_with fail
  go_loopw [2, 3] (fun l k wx => ∃ (n : Nat) (a : Option Addr) (c : Nat), n ≤ 310 ∧ k = .int .u64 ((n + 2 : Nat) : Int) ∧ l = .slice a (sieve n).length c ∧ wx.ownsRow (w.heap.size + 2) 71 1 (.slice a (sieve n).length c) (sieve n).length ((sieve n).map (Value.int .u64)) ∧ TB wx w.heap.size (.slice none 0 0) [0, 0, 0, 0, 0, 0, 0, 0] ∧ TB wx (w.heap.size + 1) (.slice none 0 0) [0, 0, 0, 0, 0, 0, 0, 0] ∧ Below w.heap.size w wx) (fun _ k _ => 312 - (intOf k).toNat)
  case atStart =>
    refine ⟨0, none, 0, by omega, rfl, rfl, World.ownsRow_nil _ _ _ _, ?_, ?_, ((Below.refl _ _).alloc (Nat.le_refl _) _).alloc (by simp) _⟩
    · exact heap_alloc2_old w _ _
    · exact heap_alloc2_new w _ _
  case round =>
    obtain ⟨n, a, c, hn, rfl, rfl, ho, ht0, ht1, hb⟩ := hrel
    have HO := Lib.hid ho
    have HT0 := Lib.hid ht0
    have HT1 := Lib.hid ht1
    have HB := Lib.hid hb
    clear ho ht0 ht1 hb
    by_cases hlt : n < 310
    · have hsh := sieve_short n hlt
      have hnx := sieve_next n
      have hok := sieve_ok n (by omega)
      generalize sieve n = ps at *
      have HNX := Lib.hid hnx
      have HOK := Lib.hid hok
      clear hnx hok
      have hlen2 : ((ps.length : Nat) : Int) < 64 := by omega
      have hkk : (2 : Int) ≤ ((n + 2 : Nat) : Int) ∧ ((n + 2 : Nat) : Int) ≤ 312 := by omega
      generalize hkn : ((n + 2 : Nat) : Int) = k at *
      have HKN := Lib.hid hkn
      clear hkn
      go_wp2_with fail
      go_loop [4, 5] (fun ok i => ∃ j : Nat, j ≤ ps.length ∧ i = .int .i64 j ∧ ok = .bool (allNe k ps j)) (fun _ i => ps.length - (intOf i).toNat)
      case atStart => exact ⟨0, by omega, rfl, rfl⟩
      case round =>
        obtain ⟨j, hj, rfl, rfl⟩ := hrel
        by_cases hlt2 : j < ps.length
        · have hjl : (j : Int) < (ps.length : Int) := by omega
          have hq := HOK.out (ps.getD j 0) (by simp [List.getD, hlt2])
          have hform : ∃ g, a = some ⟨g, 0, none⟩ := by
            obtain ⟨g, cap, hv, _, _⟩ := HO.out.form (by omega)
            injection hv with h1
            exact ⟨g, h1⟩
          obtain ⟨g, rfl⟩ := hform
          have hc : wr.cell? ⟨g, j, none⟩ = some (.int .u64 (ps.getD j 0)) := by
            have h := HO.out.cells (g := g) rfl j (.int .u64 (ps.getD j 0)) (by simp [List.getD, hlt2])
            have hp : (⟨g, 0, none⟩ : Addr).add j = ⟨g, j, none⟩ := by unfold Addr.add; split <;> simp_all
            rw [hp] at h
            exact h
          have hst : allNe k ps (j + 1) = (allNe k ps j && (k % ps.getD j 0 != 0)) := rfl
          generalize ps.getD j 0 = q at *
          have HST := Lib.hid hst
          clear hst
          have hq0 : (q == 0) = false := by rw [beq_eq_false_iff_ne]; omega
          cases hb2 : allNe k ps j
          · rw [hb2] at HST
            have HST2 := Lib.hid HST.out
            clear HST
            go_wp2_with fail
            go_round
            case rel => exact ⟨j + 1, by omega, by go_num, by rw [HST2.out]; rfl⟩
            case measure => simp [intOf]; omega
          · rw [hb2] at HST
            have HST2 := Lib.hid HST.out
            clear HST
            go_wp2_with fail
            exact ⟨⟨j + 1, by omega, by go_num, by rw [HST2.out]; rfl⟩, by simp [intOf]; omega⟩
        · obtain rfl : j = ps.length := by omega
          have hkk2 : k + 1 = ((n + 1 + 2 : Nat) : Int) := by rw [← HKN.out]; omega
          have HKK2 := Lib.hid hkk2
          clear hkk2
          cases hb2 : allNe k ps ps.length
          · have hps : sieve (n + 1) = ps := by rw [HNX.out, hb2]; rfl
            have HPS := Lib.hid hps
            clear hps hb2
            go_wp2_with fail
            go_roundw
            case rel =>
              refine ⟨n + 1, a, c, by omega, by rw [← HKK2.out], ?_, ?_, HT0.out, HT1.out, HB.out⟩
              · rw [HPS.out]
              · rw [HPS.out]; exact HO.out
            case measure =>
              have := HKN.out
              simp [intOf]; omega
          · have hps : sieve (n + 1) = ps ++ [k] := by rw [HNX.out, hb2]; rfl
            have HPS := Lib.hid hps
            clear hps hb2
            go_wp2_with (first
              | (at_builtin
                 refine wpList_append_lies _ rfl (.tmp 30) (.tmp 32) 70 rfl (w.heap.size + 2) 71 i0 _ 1 8 Tryd.underlying70 hi0 hz0 hz1 hz2 rfl (by omega) (.slice a ps.length c) ps.length (ps.map (Value.int .u64)) rfl (HO.out.alloc _) ⟨wr.heap.size, 0, none⟩ 1 1 [.int .u64 k] rfl rfl (cell_one_new _ _ _) (by simp [Value.oneCell']) (by omega) (by simp only [maxLen]; omega) (by omega) (by have := HT1.out.lt; simp; omega) (wr.heap.size + 1) (by simp) ?_
                 intro g1 c1 w1 hown1 hg1 hat1 hlt1
                 have HO1 := Lib.hid hown1
                 have HG1 := Lib.hid hg1
                 clear hown1 hg1 hat1 hlt1))
            go_roundw
            case rel =>
              refine ⟨n + 1, some ⟨g1, 0, none⟩, c1, by omega, by rw [← HKK2.out], ?_, ?_, ?_, ?_, ?_⟩
              · rw [HPS.out]; simp
              · rw [HPS.out]
                have h := HO1.out
                rw [show (ps ++ [k]).length = ps.length + 1 by simp, List.map_append]
                exact h
              · exact (HT0.out.alloc _).grown HG1.out (fun e => by have := (HO.out.lt _ e.symm).1; omega)
              · exact (HT1.out.alloc _).grown HG1.out (fun e => by have := (HO.out.lt _ e.symm).1; omega)
              · exact (HB.out.alloc HB.out.size _).grown HG1.out (by have := HB.out.size; simp; omega) (fun q hq => by have := (HO.out.lt q hq).1; omega)
            case measure =>
              have := HKN.out
              simp [intOf]; omega
    · obtain rfl : n = 310 := by omega
      have ho := HO.out
      rw [sieve_all] at ho
      rw [sieve_all, show ((310 + 2 : Nat) : Int) = 312 from rfl]
      have hpl : primes.length = 64 := rfl
      rw [hpl] at ho ⊢
      obtain ⟨gl, cl, hv, hgl, hgl2⟩ := ho.form (by omega)
      rw [hv] at ho ⊢
      clear HO
      have HO := Lib.hid ho
      clear ho hv hpl
      go_wp2_with fail
      go_loopw [6] (fun i wx => ∃ (j : Nat) (v : Value), j ≤ 64 ∧ i = .int .i64 j ∧ TB wx (w.heap.size + 1) v [0, 0, 0, 0, 0, 0, 0, 0] ∧ wx.ownsRow (w.heap.size + 2) 33 1 v j ((kTab.take j).map (Value.int .u32)) ∧ wx.ownsRow (w.heap.size + 2) 71 1 (.slice (some ⟨gl, 0, none⟩) 64 cl) 64 (primes.map (Value.int .u64)) ∧ TB wx w.heap.size (.slice none 0 0) [0, 0, 0, 0, 0, 0, 0, 0] ∧ Below w.heap.size w wx) (fun i _ => 64 - (intOf i).toNat)
      case atStart => exact ⟨0, .slice none 0 0, by omega, rfl, HT1.out, World.ownsRow_nil _ _ _ _, HO.out, HT0.out, HB.out⟩
      case round =>
        obtain ⟨j, v, hj, rfl, ht1, hov, hol, ht0, hb⟩ := hrel
        clear HO HT0 HT1 HB
        have HT1 := Lib.hid ht1
        have HOV := Lib.hid hov
        have HOL := Lib.hid hol
        have HT0 := Lib.hid ht0
        have HB := Lib.hid hb
        clear ht1 hov hol ht0 hb
        by_cases hlt2 : j < 64
        · have c0 := HT1.out.cell0
          have cj : wr.cell? ⟨gl, j, none⟩ = some (.int .u64 (primes.getD j 0)) := by
            have h := HOL.out.cells (g := gl) rfl j (.int .u64 (primes.getD j 0)) (by simp [List.getD, show j < primes.length from hlt2])
            have hp : (⟨gl, 0, none⟩ : Addr).add j = ⟨gl, j, none⟩ := by unfold Addr.add; split <;> simp_all
            rw [hp] at h
            exact h
          have hpr : 0 ≤ primes.getD j 0 ∧ primes.getD j 0 ≤ 1000 := by
            have h := sieve_ok 310 (by omega) (primes.getD j 0) (by rw [sieve_all]; simp [List.getD, show j < primes.length from hlt2])
            omega
          have hroot : ∀ W, Calls Tryd.prog 28 #[.int .u64 (primes.getD j 0), .bool true] W (RootPost W (kTab.getD j 0)) := fun W => by
            rw [← kroots j hlt2]
            exact root_any _ true W hpr.1 hpr.2
          have htk : kTab.take (j + 1) = kTab.take j ++ [kTab.getD j 0] := by
            rw [List.take_succ_eq_append_getElem (show j < kTab.length from hlt2)]
            simp [List.getD, show j < kTab.length from hlt2]
          generalize primes.getD j 0 = pj at *
          generalize kTab.getD j 0 = kj at *
          have HROOT := Lib.hid hroot
          have HTK := Lib.hid htk
          have kT : w.heap.size + 1 < wr.heap.size := HT1.out.lt
          have kL : gl < wr.heap.size := (HOL.out.lt gl rfl).2
          have jb : (j : Int) < 64 := by omega
          clear hroot htk hpr
          go_wp2_with fail
          go_region_law (first
            | (refine step_append_lies _ (by rfl) (.tmp 39) (.tmp 45) 32 (by rfl) (w.heap.size + 2) 33 j0 _ 1 4 Tryd.underlying32 hj0 hy0 hy1 hy2 rfl (by omega) v j ((kTab.take j).map (Value.int .u32)) (by rfl) (HV2.out.alloc _) ⟨w2.heap.size, 0, none⟩ 1 1 [.int .u32 kj] (by rfl) (by rfl) (cell_one_new w2 _ _) (by simp [Value.oneCell']) (by omega) (by simp only [maxLen]; omega) (by omega) (by have := HT2.out.lt; simp; omega) (w2.heap.size + 1) (by simp) ?_; intro g5 cap5 w5 hown5 hg5 hat5 hlt5; have HO5 := Lib.hid hown5; have HT5 := Lib.hid ((HT2.out.alloc (.cells #[.int .u32 kj] 33)).grown hg5 (fun e => by have := (HV2.out.lt _ e.symm).1; omega)); have HZ5 := Lib.hid ((HZ2.out.alloc (.cells #[.int .u32 kj] 33)).grown hg5 (fun e => by have := (HV2.out.lt _ e.symm).1; omega)); have HL5 := Lib.hid ((HL2.out.alloc (.cells #[.int .u32 kj] 33)).kept hg5 (.inr (by have := own_ne HL2.out HV2.out (by decide); exact fun e => this (by rw [← e]; rfl)))); have HB5 := Lib.hid ((HB2.out.alloc HB2.out.size (.cells #[.int .u32 kj] 33)).grown hg5 (by have := HB2.out.size; simp; omega) (fun q hq => by have := (HV2.out.lt q hq).1; omega)); have d0 := HT5.out.cell0; have df := HT5.out.frozen 0; clear hown5 hg5 hat5 hlt5)
            | (go_simp; go_at_call 28; (with_reducible refine (HROOT.out _).mono ?_); rintro _ w2 ⟨rfl, hb2⟩; have HT2 : Hid (TB w2 (w.heap.size + 1) v [0, 0, 0, 0, 0, 0, 0, 0]) := Lib.hid (TB.below (w := wr.drew) HT1.out hb2 HT1.out.lt); have HZ2 : Hid (TB w2 w.heap.size (.slice none 0 0) [0, 0, 0, 0, 0, 0, 0, 0]) := Lib.hid (TB.below (w := wr.drew) HT0.out hb2 HT0.out.lt); have HV2 : Hid (w2.ownsRow (w.heap.size + 2) 33 1 v j ((kTab.take j).map (Value.int .u32))) := Lib.hid (World.ownsRow.kept (w := wr.drew) HOV.out (only_below hb2 none) (by cases v.ownBlock <;> simp)); have HL2 : Hid (w2.ownsRow (w.heap.size + 2) 71 1 (.slice (some ⟨gl, 0, none⟩) 64 cl) 64 (primes.map (Value.int .u64))) := Lib.hid (World.ownsRow.kept (w := wr.drew) HOL.out (only_below hb2 none) (.inr (by simp [Value.ownBlock]))); have HB2 : Hid (Below w.heap.size w w2) := Lib.hid (HB.out.drew.trans (hb2.mono HB.out.size)); have e0 := HT2.out.cell0; have kT2 : w.heap.size + 1 < w2.heap.size := HT2.out.lt; have kT3 : ¬ w.heap.size + 1 = w2.heap.size := (by omega); clear hb2))
          all_goals
            go_wp2_with fail
            go_roundw
            case rel =>
              refine ⟨j + 1, .slice (some ⟨g5, 0, none⟩) (j + 1) cap5, by omega, by go_num, HT5.out.set0 _, ?_, ?_, HZ5.out.far (p := ⟨w.heap.size + 1, 0, none⟩) (by simp) _, HB5.out.setCell (p := ⟨w.heap.size + 1, 0, none⟩) (Nat.le_succ _) _⟩
              · rw [HTK.out, List.map_append]
                exact HO5.out.kept (only_set (only_refl w5 (some (w.heap.size + 1))) 0 _) (.inr (fun e => by have := (HO5.out.lt _ e).1; omega))
              · exact HL5.out.kept (only_set (only_refl w5 (some (w.heap.size + 1))) 0 _) (.inr (fun e => by have := (HL5.out.lt _ e).1; omega))
            case measure => simp [intOf]; omega
        · obtain rfl : j = 64 := by omega
          have hov := HOV.out
          rw [show kTab.take 64 = kTab from rfl] at hov
          obtain ⟨gk, ck, hv, hgk, hgk2⟩ := hov.form (by omega)
          rw [hv] at hov
          have ht1 := HT1.out
          rw [hv] at ht1
          clear HOV HT1
          have HOV := Lib.hid hov
          have HT1 := Lib.hid ht1
          clear hov ht1 hv
          rw [show ((64 : Nat) : Int) = 64 from rfl]
          go_wp2_with fail
          go_loopw [7] (fun i wx => ∃ j : Nat, j ≤ 8 ∧ i = .int .i64 j ∧ TB wx (w.heap.size + 1) (.slice (some ⟨gk, 0, none⟩) 64 ck) (hTab.take j ++ List.replicate (8 - j) 0) ∧ wx.ownsRow (w.heap.size + 2) 33 1 (.slice (some ⟨gk, 0, none⟩) 64 ck) 64 (kTab.map (Value.int .u32)) ∧ wx.ownsRow (w.heap.size + 2) 71 1 (.slice (some ⟨gl, 0, none⟩) 64 cl) 64 (primes.map (Value.int .u64)) ∧ TB wx w.heap.size (.slice none 0 0) [0, 0, 0, 0, 0, 0, 0, 0] ∧ Below w.heap.size w wx) (fun i _ => 8 - (intOf i).toNat)
          case atStart => exact ⟨0, by omega, rfl, HT1.out, HOV.out, HOL.out, HT0.out, HB.out⟩
          case round =>
            obtain ⟨j, hj, rfl, ht1, hov, hol, ht0, hb⟩ := hrel
            clear HOV HOL HT0 HT1 HB
            have HT1 := Lib.hid ht1
            have HOV := Lib.hid hov
            have HOL := Lib.hid hol
            have HT0 := Lib.hid ht0
            have HB := Lib.hid hb
            clear ht1 hov hol ht0 hb
            by_cases hlt2 : j < 8
            · have hjp : j < primes.length := show j < 64 by omega
              have cj : wr.cell? ⟨gl, j, none⟩ = some (.int .u64 (primes.getD j 0)) := by
                have h := HOL.out.cells (g := gl) rfl j (.int .u64 (primes.getD j 0)) (by simp [List.getD, hjp])
                have hp : (⟨gl, 0, none⟩ : Addr).add j = ⟨gl, j, none⟩ := by unfold Addr.add; split <;> simp_all
                rw [hp] at h
                exact h
              have hpr : 0 ≤ primes.getD j 0 ∧ primes.getD j 0 ≤ 1000 := by
                have h := sieve_ok 310 (by omega) (primes.getD j 0) (by rw [sieve_all]; simp [List.getD, hjp])
                omega
              have hroot : ∀ W, Calls Tryd.prog 28 #[.int .u64 (primes.getD j 0), .bool false] W (RootPost W (hTab.getD j 0)) := fun W => by
                rw [← hroots j hlt2]
                exact root_any _ false W hpr.1 hpr.2
              have hjh : j < hTab.length := hlt2
              have hset : (hTab.take j ++ List.replicate (8 - j) 0).set j (hTab.getD j 0) = hTab.take (j + 1) ++ List.replicate (8 - (j + 1)) 0 := by
                have e := set_at (hTab.take j) (7 - j) (hTab.getD j 0)
                have hl : (hTab.take j).length = j := by rw [List.length_take]; exact Nat.min_eq_left (Nat.le_of_lt hjh)
                rw [hl, show 7 - j + 1 = 8 - j by omega] at e
                rw [e, List.take_succ_eq_append_getElem hjh, show 7 - j = 8 - (j + 1) by omega]
                simp [List.getD, hjh]
              have hlen : (hTab.take j ++ List.replicate (8 - j) (0 : Int)).length = 8 := by
                rw [List.length_append, List.length_take, List.length_replicate, show hTab.length = 8 from rfl]
                omega
              generalize primes.getD j 0 = pj at *
              generalize hTab.getD j 0 = kj at *
              have HROOT := Lib.hid hroot
              have HSET := Lib.hid hset
              have HLEN := Lib.hid hlen
              have jb : (j : Int) < 8 := by omega
              have jb2 : (j : Int) < 64 := by omega
              clear hroot hset hpr hlen
              go_wp2_with (first
                | (go_at_call 28
                   (with_reducible refine (HROOT.out _).mono ?_)
                   rintro _ w2 ⟨rfl, hb2⟩
                   have HT2 := Lib.hid (HT1.out.below hb2 HT1.out.lt)
                   have HZ2 := Lib.hid (HT0.out.below hb2 HT0.out.lt)
                   have HV2 := Lib.hid (HOV.out.kept (only_below hb2 none) (.inr (by simp [Value.ownBlock])))
                   have HL2 := Lib.hid (HOL.out.kept (only_below hb2 none) (.inr (by simp [Value.ownBlock])))
                   have HB2 := Lib.hid (HB.out.trans (hb2.mono HB.out.size))
                   have d0 := HT2.out.cellH j (by rw [HLEN.out]; exact hlt2)
                   have df := HT2.out.frozen (1 + j)
                   clear hb2))
              refine ⟨⟨j + 1, by omega, by go_num, ?_, ?_, ?_, ?_, ?_⟩, by simp [intOf]; omega⟩
              · rw [← HSET.out]
                exact HT2.out.setH j kj
              · exact HV2.out.kept (only_set (only_refl w2 (some (w.heap.size + 1))) _ _) (.inr (fun e => by have := (HV2.out.lt _ e).1; omega))
              · exact HL2.out.kept (only_set (only_refl w2 (some (w.heap.size + 1))) _ _) (.inr (fun e => by have := (HL2.out.lt _ e).1; omega))
              · exact HZ2.out.far (p := ⟨w.heap.size + 1, 1 + j, none⟩) (by simp) _
              · exact HB2.out.setCell (p := ⟨w.heap.size + 1, 1 + j, none⟩) (Nat.le_succ _) _
            · obtain rfl : j = 8 := by omega
              have ht1 := HT1.out
              rw [show hTab.take 8 ++ List.replicate (8 - 8) 0 = hTab from rfl] at ht1
              clear HT1
              have HT1 := Lib.hid ht1
              clear ht1
              go_wp2_with (first
                | (refine wpList_load_row rfl 36 (.tmp 1) rfl (w.heap.size + 1) rfl 36 _ (0, 0) _ HT1.out Tryd.underlying36 rfl sizeTab ?_)
                | (refine wpList_store_row rfl 36 (.tmp 0) (.tmp 60) rfl w.heap.size (Value.slice (some ⟨gk, 0, none⟩) 64 ck :: hTab.map (Value.int .u32)).toArray rfl rfl 36 _ HT0.out sizeTab rfl (by simp [Value.oneCell']) ?_))
              have hg9 : wr.grownBy (wr.setRow w.heap.size (Value.slice (some ⟨gk, 0, none⟩) 64 ck :: hTab.map (Value.int .u32)).toArray) (some w.heap.size) := ⟨rfl, rfl, rfl, by simp, fun q hq hne => setRow_other wr w.heap.size q _ (fun e => hne (by rw [e]))⟩
              refine bodyPost_ret (v := tabV gk ck) (results_cell_row Tryd.results11 _ _ w.heap.size 36 _ _ _ rfl (setRow_heap wr w.heap.size _ _ _ _ HT0.out) Tryd.underlying36 rfl sizeTab) rfl ⟨gk, ck, rfl, ?_, ?_⟩
              · exact HOV.out.kept hg9 (.inr (fun e => by have := (HOV.out.lt _ e).1; omega))
              · exact below_only HB.out hg9 HB.out.size (Nat.le_refl _)
end Go.Proofs.YtioifkbkllnkgaaDoor

/- The contract of the document's Tail. The contract of the document's Words. The contract of the document's step of a block. Facts on states and tables that the laws ask. The contract of the document's digest. -/
/- The contract of the document's Tail. -/
namespace Go.Proofs.YtioifkbkllnkgaaDoor
open Go.RowKit
set_option linter.unusedVariables false

def RefTailPost (w : World) (n : Nat) (e : Ending) (w' : World) : Prop :=
  ∃ v, e = .returned v ∧ w'.ownsRow w.heap.size 5 1 v (nils n + 9) ((tailL n).map (Value.int .u8)) ∧ Below w.heap.size w w'

set_option maxHeartbeats 1000000 in
theorem refTail_any (n : Nat) (w : World) (hn : (n : Int) ≤ 1125899906842624) :
    Calls Tryd.prog 74 #[.int .i64 n] w (RefTailPost w n) := by
  obtain ⟨i0, hi0, hz0, hz1, hz2⟩ := info_parts infoU8
  have hnl := nils_lt n
  go_enter Tryd.func74, Tryd.ntmps74
  go_wp2_with fail
  go_loopw [3] (fun v wx => ∃ j g cap : Nat, j ≤ nils n ∧ v = .slice (some ⟨g, 0, none⟩) (1 + j) cap ∧ wx.ownsRow w.heap.size 5 1 (.slice (some ⟨g, 0, none⟩) (1 + j) cap) (1 + j) ((128 :: List.replicate j 0).map (Value.int .u8)) ∧ Below w.heap.size w wx) (fun v _ => nils n + 1 - lenV v)
  case atStart =>
    refine ⟨0, w.heap.size, 1, Nat.zero_le _, rfl, ⟨by simp, .inr ⟨w.heap.size, 1, #[.int .u8 128], rfl, Nat.le_refl _, heap_alloc_new w _, by omega, by simp [maxLen], by simp, by simp⟩⟩, (Below.refl _ _).alloc (Nat.le_refl _) _⟩
  case round =>
    obtain ⟨j, g, cap, hj, rfl, hown, hb⟩ := hrel
    have HO := Lib.hid hown
    clear hown
    by_cases hlt : j < nils n
    · have ht : (((n : Int) + (1 + (j : Int))) % 64 != 56) = true := by
        rw [bne_iff_ne]
        unfold nils at hlt
        omega
      go_wp2_with (first
        | (at_builtin
           refine wpList_append_own _ rfl (.tmp 14) (.tmp 15) 22 rfl w.heap.size 5 i0 _ 1 1 Tryd.underlying22 hi0 hz0 hz1 hz2 rfl (by omega) (.slice (some ⟨g, 0, none⟩) (1 + j) cap) (1 + j) ((128 :: List.replicate j 0).map (Value.int .u8)) rfl (HO.out.alloc _)
             ⟨wr.heap.size, 0, none⟩ 1 1 [.int .u8 0] rfl rfl (cell_one_new _ _ _) (by simp [Value.oneCell']) (by simp only [maxLen]; omega) (by omega) (by have := hb.size; simp; omega) ?_
           intro v1 w1 hown1 hg1 hat1
           obtain ⟨g1, cap1, hv1, hgg1, hlt1⟩ := hown1.form (by omega)
           rw [hv1]
           rw [hv1] at hown1
           have HO1 := Lib.hid hown1
           clear hown1 hat1 hv1))
      go_roundw
      case rel =>
        refine ⟨j + 1, g1, cap1, by omega, rfl, ?_, ?_⟩
        · have h := HO1.out
          rw [rep_snoc] at h
          exact h
        · exact (hb.alloc hb.size _).grown hg1 (by have := hb.size; simp; omega) (fun k hk => (HO.out.lt k hk).1)
      case measure => simp [lenV]; omega
    · obtain rfl : j = nils n := by omega
      have ht : (((n : Int) + (1 + (nils n : Int))) % 64 != 56) = false := by
        have : ((n : Int) + (1 + (nils n : Int))) % 64 = 56 := by
          unfold nils
          omega
        rw [this]; rfl
      go_wp2_with (first
        | (at_make
           refine wpList_make_ints _ rfl (.const (.int .i64 8)) (.const (.int .i64 8)) 22 rfl 5 i0 .u8 Tryd.underlying22 hi0 hz0 hz1 .i64 .i64 _ _ 8 rfl rfl (by omega) (by omega) (by rw [hz2]; omega) (by simp only [maxLen]; omega) ?_
           intro w1 hr1 hb1 hs1
           have HR1 := Lib.hid hr1
           have HS1 := Lib.hid hs1
           clear hr1 hs1))
      obtain ⟨w0, hw0⟩ : ∃ w0, w0 = wr := ⟨wr, rfl⟩
      subst hw0
      go_loopw [5, 6] (fun x i wx => ∃ m : Nat, m ≤ 8 ∧ i = .int .i64 ((m : Int) - 1) ∧ x = .int .u64 ((8 * (n : Int)) / 256 ^ (8 - m)) ∧ Row .u8 wx 5 w0.heap.size (bitsAt (8 * (n : Int)) m) ∧ wx.heap.size = w1.heap.size ∧ w1.grownBy wx (some w0.heap.size)) (fun _ i _ => (intOf i + 1).toNat)
      case atStart => exact ⟨8, by omega, rfl, by simp, HR1.out, rfl, only_refl _ _⟩
      case round =>
        obtain ⟨m, hm, rfl, rfl, hr, hs, hg⟩ := hrel
        have HS := Lib.hid hs
        have HG := Lib.hid hg
        clear hs hg
        by_cases hm0 : m = 0
        · subst hm0
          have hnews := hr.seg
          have HR := Lib.hid hr
          clear hr
          have hgl := HO.out.lt g rfl
          have own2 := (HO.out.kept (only_below hb1 none) (.inr (by simp [Value.ownBlock]))).kept HG.out (.inr (by simp [Value.ownBlock]; omega))
          have HO2 := Lib.hid own2
          have HN := Lib.hid hnews
          have hb3 : Below w.heap.size w wr := (hb.trans (hb1.mono hb.size)).grown HG.out (by have := hb.size; rw [HS1.out]; omega) (fun k hk => by have := hb.size; injection hk; omega)
          clear own2 hnews
          go_wp2_with (first
            | (at_builtin
               refine wpList_append_own _ rfl (.tmp 33) (.tmp 34) 22 rfl w.heap.size 5 i0 _ 1 1 Tryd.underlying22 hi0 hz0 hz1 hz2 rfl (by omega) (.slice (some ⟨g, 0, none⟩) (1 + nils n) cap) (1 + nils n) ((128 :: List.replicate (nils n) 0).map (Value.int .u8)) rfl HO2.out ⟨w0.heap.size, 0, none⟩ 8 8 ((be8 (8 * (n : Int))).map (Value.int .u8)) rfl rfl (by have h := HN.out.news; exact h) (by simp [be8, Value.oneCell']) (by simp only [maxLen]; omega) (by omega) hb3.size ?_
               intro v1 w2 hown1 hg1 hat1
               have HO1 := Lib.hid hown1
               have HG1 := Lib.hid hg1
               clear hown1 hat1 hg1))
          go_ret
          refine ⟨v1, rfl, ?_, hb3.grown HG1.out hb3.size (fun k hk => (HO2.out.lt k hk).1)⟩
          have h := HO1.out
          rw [← List.map_append, show 1 + nils n + 8 = nils n + 9 by omega] at h
          exact h
        · obtain ⟨q, rfl⟩ : ∃ q, m = q + 1 := ⟨m - 1, by omega⟩
          have hlen := bitsAt_length (8 * (n : Int)) (q + 1) hm
          obtain ⟨z0, hc⟩ := hr.has q (by omega)
          have hf := hr.frozen q
          have HR := Lib.hid hr
          clear hr hlen
          generalize hy : (8 * (n : Int)) / 256 ^ (8 - (q + 1)) = y
          have hy0 : 0 ≤ y := by rw [← hy]; exact Int.ediv_nonneg (by omega) (Int.pow_nonneg (by omega))
          have hy1 : y ≤ 9007199254740992 := by
            rw [← hy]
            exact Int.le_trans (Int.ediv_le_self _ (by omega)) (by omega)
          have HY := Lib.hid hy
          clear hy
          rw [show ((q + 1 : Nat) : Int) - 1 = (q : Int) by omega]
          go_wp2_with fail
          go_roundw
          case rel =>
            refine ⟨q, by omega, rfl, ?_, ?_, by simpa [World.setCell] using HS.out, only_set HG.out _ _⟩
            · rw [← HY.out, show 8 - (q + 1) = 7 - q by omega, pow_step _ _ (by omega)]
            · have h := HR.out.set q (y % 256)
              rw [← HY.out, show 8 - (q + 1) = 7 - q by omega, bitsAt_step _ _ (by omega)] at h
              rw [← HY.out, show 8 - (q + 1) = 7 - q by omega]
              exact h
          case measure => simp [intOf]
end Go.Proofs.YtioifkbkllnkgaaDoor

/- The contract of the document's Words. -/
namespace Go.Proofs.YtioifkbkllnkgaaDoor
open Go.RowKit
set_option linter.unusedVariables false

theorem infoU32' : (Tryd.prog.info? 33).map (fun i => (i.zero, i.size, i.bytes)) = some (some (.int .u32 0), 1, 4) := by kernel_rfl
def RefWordsPost (w : World) (bs : List Int) (e : Ending) (w' : World) : Prop :=
  ∃ g cap, e = .returned (.slice (some ⟨g, 0, none⟩) 64 cap) ∧ w'.ownsRow w.heap.size 33 1 (.slice (some ⟨g, 0, none⟩) 64 cap) 64 ((sched bs).map (Value.int .u32)) ∧ Below w.heap.size w w'
theorem own_drewN {w : World} {base : Nat} {e : TypeId} {size : Nat} {v : Value} {n : Nat} {xs : List Value} (h : w.ownsRow base e size v n xs) (k : Nat) : (w.drewN k).ownsRow base e size v n xs := h
def pre4 (bs : List Int) (i : Nat) : Nat → Int
  | 0 => 0
  | k + 1 => 256 * pre4 bs i k + bs.getD (4 * i + k) 0
theorem pre4_all (bs : List Int) (i : Nat) : pre4 bs i 4 = wordAt bs i := by
  simp [pre4, wordAt, wordOf]; omega
theorem pre4_bd {bs : List Int} (h : Bytes8 bs) (i : Nat) : ∀ k, k ≤ 3 → 0 ≤ pre4 bs i k ∧ pre4 bs i k ≤ 16777215
  | 0, _ => by simp [pre4]
  | 1, _ => by have := byte_at h (4 * i); simp [pre4]; simp at this; omega
  | 2, _ => by have h0 := byte_at h (4 * i); have h1 := byte_at h (4 * i + 1); simp [pre4]; simp at h0 h1; omega
  | 3, _ => by have h0 := byte_at h (4 * i); have h1 := byte_at h (4 * i + 1); have h2 := byte_at h (4 * i + 2); simp [pre4]; simp at h0 h1 h2; omega

set_option maxRecDepth 100000 in
set_option maxHeartbeats 2000000 in
theorem refWords_any (g off cap : Nat) (bs : List Int) (w : World) (hl : bs.length = 64) (hb8 : Bytes8 bs) (hseg : Seg .u8 w g off bs) (hg : g < w.heap.size) :
    Calls Tryd.prog 85 #[.slice (some ⟨g, off, none⟩) 64 cap] w (RefWordsPost w bs) := by
  obtain ⟨i0, hi0, hz0, hz1, hz2⟩ := info_parts infoU32'
  have HL := Lib.hid hl
  have HB8 := Lib.hid hb8
  have HSEG := Lib.hid hseg
  clear hl hb8 hseg
  go_enter Tryd.func85, Tryd.ntmps85
  go_wp2_with fail
  go_loopw [3, 4] (fun v i wx => ∃ k : Nat, k ≤ 16 ∧ i = .int .i64 k ∧ wx.ownsRow w.heap.size 33 1 v k ((first16 bs k).map (Value.int .u32)) ∧ Below w.heap.size w wx) (fun _ i _ => 16 - (intOf i).toNat)
  case atStart => exact ⟨0, by omega, rfl, World.ownsRow_nil _ _ _ _, Below.refl _ _⟩
  case round =>
    obtain ⟨k, hk, rfl, hown, hb⟩ := hrel
    have HO := Lib.hid hown
    have HB := Lib.hid hb
    clear hown hb
    by_cases hlt : k < 16
    · have hsg : Seg .u8 wr g off bs := HSEG.out.below HB.out hg
      have hl := HL.out
      have hcell : ∀ q, q < 4 → wr.cell? ⟨g, off + (4 * k + q), none⟩ = some (.int .u8 (bs.getD (4 * k + q) 0)) := fun q hq => hsg.cellD (4 * k + q) (by omega)
      have HC := Lib.hid hcell
      clear hsg hl hcell
      go_wp2_with fail
      go_loop [5, 6] (fun x i => ∃ q : Nat, q ≤ 4 ∧ i = .int .i64 q ∧ x = .int .u32 (pre4 bs k q)) (fun _ i => 4 - (intOf i).toNat)
      case atStart => exact ⟨0, by omega, rfl, rfl⟩
      case round =>
        obtain ⟨q, hq, rfl, rfl⟩ := hrel
        by_cases hlt2 : q < 4
        · have hp := pre4_bd HB8.out k q (by omega)
          have hy := byte_at HB8.out (4 * k + q)
          have hc := HC.out q hlt2
          have hpn : pre4 bs k (q + 1) = 256 * pre4 bs k q + bs.getD (4 * k + q) 0 := rfl
          have HPN := Lib.hid hpn
          clear hpn
          generalize pre4 bs k q = x at *
          generalize bs.getD (4 * k + q) 0 = y at *
          go_wp2_with fail
          go_round
          case rel => exact ⟨q + 1, by omega, by go_num, by rw [HPN.out]⟩
          case measure => simp [intOf]; omega
        · obtain rfl : q = 4 := by omega
          rw [pre4_all]
          generalize hx : wordAt bs k = x
          have HX := Lib.hid hx
          clear hx
          go_wp2_with (first
            | (at_builtin
               refine wpList_append_own _ rfl (.tmp 29) (.tmp 31) 32 rfl w.heap.size 33 i0 _ 1 4 Tryd.underlying32 hi0 hz0 hz1 hz2 rfl (by omega) u3 k ((first16 bs k).map (Value.int .u32)) rfl (HO.out.alloc _) ⟨wr.heap.size, 0, none⟩ 1 1 [.int .u32 x] rfl rfl (cell_one_new _ _ _) (by simp [Value.oneCell']) (by simp only [maxLen]; omega) (by omega) (by have := HB.out.size; simp; omega) ?_
               intro v1 w1 hown1 hg1 hat1
               have HO1 := Lib.hid hown1
               have HG1 := Lib.hid hg1
               clear hown1 hat1 hg1))
          go_roundw
          case rel =>
            refine ⟨k + 1, by omega, by go_num, ?_, ?_⟩
            · have h := HO1.out
              rw [first16_succ, List.map_append, HX.out]
              exact h
            · exact (HB.out.alloc HB.out.size _).grown HG1.out (by have := HB.out.size; simp; omega) (fun j hj => (HO.out.lt j hj).1)
          case measure => simp [intOf]; omega
    · obtain rfl : k = 16 := by omega
      rw [show ((16 : Nat) : Int) = 16 from rfl]
      go_wp2_with fail
      go_loopw [3, 7] (fun v i wx => ∃ n gg cp : Nat, 16 ≤ n ∧ n ≤ 64 ∧ i = .int .i64 n ∧ v = .slice (some ⟨gg, 0, none⟩) n cp ∧ wx.ownsRow w.heap.size 33 1 (.slice (some ⟨gg, 0, none⟩) n cp) n ((extW (first16 bs 16) (n - 16)).map (Value.int .u32)) ∧ Below w.heap.size w wx) (fun _ i _ => 64 - (intOf i).toNat)
      case atStart =>
        have ho := HO.out
        obtain ⟨gg, cp, hv, _, _⟩ := ho.form (by omega)
        rw [hv] at ho
        exact ⟨16, gg, cp, by omega, by omega, rfl, hv, ho, HB.out⟩
      case round =>
        obtain ⟨n, gg, cp, hn, hn2, rfl, rfl, hown, hb⟩ := hrel
        clear HO HB
        have HO := Lib.hid hown
        have HB := Lib.hid hb
        clear hown hb
        by_cases hlt : n < 64
        · have hlm : (extW (first16 bs 16) (n - 16)).length = n := by rw [extW_length, first16_length]; omega
          have hbd := extW_bd (first16_bd HB8.out 16) (n - 16)
          have cell : ∀ j, 2 ≤ j → j ≤ 16 → wr.cell? ⟨gg, n - j, none⟩ = some (.int .u32 ((extW (first16 bs 16) (n - 16)).getD (n - j) 0)) := fun j h1 h2 => by
            have h := HO.out.cells (g := gg) rfl (n - j) (.int .u32 ((extW (first16 bs 16) (n - 16)).getD (n - j) 0)) (by simp [List.getD, show n - j < (extW (first16 bs 16) (n - 16)).length by omega])
            have hp : (⟨gg, 0, none⟩ : Addr).add (n - j) = ⟨gg, n - j, none⟩ := by unfold Addr.add; split <;> simp_all
            rw [hp] at h
            exact h
          have c16 := cell 16 (by omega) (by omega)
          have c15 := cell 15 (by omega) (by omega)
          have c7 := cell 7 (by omega) (by omega)
          have c2 := cell 2 (by omega) (by omega)
          have b16 := word_at hbd (n - 16)
          have b15 := word_at hbd (n - 15)
          have b7 := word_at hbd (n - 7)
          have b2 := word_at hbd (n - 2)
          have hnext : nextW (extW (first16 bs 16) (n - 16)) = ((extW (first16 bs 16) (n - 16)).getD (n - 16) 0 + sp3 ((extW (first16 bs 16) (n - 16)).getD (n - 15) 0) 7 18 3 + (extW (first16 bs 16) (n - 16)).getD (n - 7) 0 + sp3 ((extW (first16 bs 16) (n - 16)).getD (n - 2) 0) 17 19 10) % 4294967296 := by
            unfold nextW; rw [hlm]
          generalize (extW (first16 bs 16) (n - 16)).getD (n - 16) 0 = x16 at *
          generalize (extW (first16 bs 16) (n - 16)).getD (n - 15) 0 = x15 at *
          generalize (extW (first16 bs 16) (n - 16)).getD (n - 7) 0 = x7 at *
          generalize (extW (first16 bs 16) (n - 16)).getD (n - 2) 0 = x2 at *
          have HN := Lib.hid hnext
          have HLM := Lib.hid hlm
          have s15 := sp3_bd x15 7 18 3
          have s2 := sp3_bd x2 17 19 10
          clear hlm hbd cell hnext
          go_wp2_with fail
          have wr16 : IntKind.i64.wrap ((n : Int) - 16) = (n : Int) - 16 := IntWalk.i64_in _ (by omega)
          have nn16 : (0 : Int) ≤ (n : Int) - 16 := by omega
          have ni16 : (16 : Int) ≤ (n : Int) := by omega
          have ub16 : (n : Int) - 16 < (n : Int) := by omega
          have tn16 : ((n : Int) - 16).toNat = n - 16 := by omega
          have wr15 : IntKind.i64.wrap ((n : Int) - 15) = (n : Int) - 15 := IntWalk.i64_in _ (by omega)
          have nn15 : (0 : Int) ≤ (n : Int) - 15 := by omega
          have ni15 : (15 : Int) ≤ (n : Int) := by omega
          have ub15 : (n : Int) - 15 < (n : Int) := by omega
          have tn15 : ((n : Int) - 15).toNat = n - 15 := by omega
          have wr7 : IntKind.i64.wrap ((n : Int) - 7) = (n : Int) - 7 := IntWalk.i64_in _ (by omega)
          have nn7 : (0 : Int) ≤ (n : Int) - 7 := by omega
          have ni7 : (7 : Int) ≤ (n : Int) := by omega
          have ub7 : (n : Int) - 7 < (n : Int) := by omega
          have tn7 : ((n : Int) - 7).toNat = n - 7 := by omega
          have wr2 : IntKind.i64.wrap ((n : Int) - 2) = (n : Int) - 2 := IntWalk.i64_in _ (by omega)
          have nn2 : (0 : Int) ≤ (n : Int) - 2 := by omega
          have ni2 : (2 : Int) ≤ (n : Int) := by omega
          have ub2 : (n : Int) - 2 < (n : Int) := by omega
          have tn2 : ((n : Int) - 2).toNat = n - 2 := by omega
          go_quiet ((go_at_call 91; exact Calls.quiet_of (turn_any _ _ _ b15.1 b15.2 (by omega) (by omega))))
          go_wp2_with fail
          go_quiet ((go_at_call 91; exact quiet_add (turn_any _ _ _ b2.1 b2.2 (by omega) (by omega))))
          go_wp2_with fail
          have e15 : bits .xor .u32 (bits .xor .u32 (rotr x15 7) (rotr x15 18)) (x15 / 8) = sp3 x15 7 18 3 := by unfold sp3; rfl
          have e2 : bits .xor .u32 (bits .xor .u32 (rotr x2 17) (rotr x2 19)) (x2 / 1024) = sp3 x2 17 19 10 := by unfold sp3; rfl
          rw [e15, e2]
          clear e15 e2
          generalize hS1 : sp3 x15 7 18 3 = y15 at *
          generalize hS2 : sp3 x2 17 19 10 = y2 at *
          have HS1 := Lib.hid hS1
          have HS2 := Lib.hid hS2
          clear hS1 hS2
          go_region_law (first
            | (refine step_append_lies _ (by rfl) (.tmp 77) (.tmp 93) 32 (by rfl) w.heap.size 33 i0 _ 1 4 Tryd.underlying32 hi0 hz0 hz1 hz2 rfl (by omega) (.slice (some ⟨gg, 0, none⟩) n cp) n ((extW (first16 bs 16) (n - 16)).map (Value.int .u32)) (by rfl) ((own_drewN HO.out _).alloc _) ⟨wr.heap.size, 0, none⟩ 1 1 [.int .u32 (IntKind.u32.wrap (IntKind.u32.wrap (IntKind.u32.wrap (x16 + y15) + x7) + y2))] (by rfl) (by rfl) (cell_one_new (wr.drewN _) _ _) (by simp [Value.oneCell']) (by omega) (by simp only [maxLen]; omega) (by omega) (by have := HB.out.size; simp; omega) (wr.heap.size + 1) (by simp) ?_; intro g5 cap5 w5 hown5 hg5 hat5 hlt5; have HO5 := Lib.hid hown5; have HG5 := Lib.hid hg5; clear hown5 hg5 hat5 hlt5))
          all_goals
            clear wr16 nn16 ni16 ub16 tn16 wr15 nn15 ni15 ub15 tn15 wr7 nn7 ni7 ub7 tn7 wr2 nn2 ni2 ub2 tn2 c16 c15 c7 c2 b16 b15 b7 b2 s15 s2
            go_wp2_with fail
            go_roundw
            case rel =>
              refine ⟨n + 1, g5, cap5, by omega, by omega, by go_num, rfl, ?_, ?_⟩
              · have h := HO5.out
                rw [wrap_sum, ← HN.out] at h
                rw [show n + 1 - 16 = (n - 16) + 1 by omega, extW, List.map_append]
                exact h
              · exact ((below_drewN HB.out _).alloc HB.out.size _).grown HG5.out (by have := HB.out.size; simp; omega) (fun j hj => (HO.out.lt j hj).1)
            case measure => simp [intOf]; omega
        · obtain rfl : n = 64 := by omega
          go_wp2_with fail
          go_ret
          exact ⟨gg, cp, rfl, HO.out, HB.out⟩
end Go.Proofs.YtioifkbkllnkgaaDoor

/- The contract of the document's step of a block. -/
namespace Go.Proofs.YtioifkbkllnkgaaDoor
open Go.RowKit
set_option linter.unusedVariables false

theorem refRound_list (s : List Int) (k v : Int) (w : World) (hs : s.length = 8) (hsb : Words32 s) (hk : 0 ≤ k) (hk2 : k ≤ 4294967295) (hv : 0 ≤ v) (hv2 : v ≤ 4294967295) :
    Calls Tryd.prog 86 #[stV s, .int .u32 k, .int .u32 v] w fun e w' => e = .returned (stV (rnd s k v)) ∧ Below w.heap.size w w' := by
  obtain ⟨a, b, c, d, e, f, g, z, rfl⟩ := list_8 s hs
  have ba := hsb a (by simp)
  have bd := hsb d (by simp)
  have be := hsb e (by simp)
  have bz := hsb z (by simp)
  exact refRound_any a b c d e f g z k v w ba.1 ba.2 bd.1 bd.2 be.1 be.2 bz.1 bz.2 hk hk2 hv hv2
theorem tab_row (w : World) (gk ck : Nat) (o1 o2 : Obj) : TB (((w.alloc (.cells (Value.slice (some ⟨gk, 0, none⟩) 64 ck :: hTab.map (Value.int .u32)).toArray 36)).alloc o1).alloc o2) w.heap.size (.slice (some ⟨gk, 0, none⟩) 64 ck) hTab := by
  have h : TB (w.alloc (.cells (Value.slice (some ⟨gk, 0, none⟩) 64 ck :: hTab.map (Value.int .u32)).toArray 36)) w.heap.size (.slice (some ⟨gk, 0, none⟩) 64 ck) hTab := heap_alloc_new w _
  exact (h.alloc _).alloc _


set_option maxRecDepth 100000 in
set_option maxHeartbeats 4000000 in
theorem refStep_any (g off cap gk ck : Nat) (s bs : List Int) (w : World) (hs : s.length = 8) (hsb : Words32 s) (hl : bs.length = 64) (hb8 : Bytes8 bs) (hseg : Seg .u8 w g off bs) (hg : g < w.heap.size) (hks : Seg .u32 w gk 0 kTab) (hgk : gk < w.heap.size) :
    Calls Tryd.prog 75 #[tabV gk ck, stV s, .slice (some ⟨g, off, none⟩) 64 cap] w (StepPost w s bs) := by
  have hlen := sched_length bs
  have hwb := sched_bd hb8
  have hi8 : (Tryd.prog.info? 34).map (·.size) = some s.length := by rw [hs]; exact sizeA8
  have b3 : ∀ o1 o2 o3, Below w.heap.size w (((w.alloc o1).alloc o2).alloc o3) := fun o1 o2 o3 => (((Below.refl _ _).alloc (Nat.le_refl _) _).alloc (by simp) _).alloc (by simp; omega) _
  have r1 : ∀ o1 o3, Row .u32 (((w.alloc o1).alloc (.cells (s.map (Value.int .u32)).toArray 34)).alloc o3) 34 (w.heap.size + 1) s := fun o1 o3 => by
    have h := (Row.new (k := .u32) (w.alloc o1) 34 s).alloc o3
    have e : (w.alloc o1).heap.size = w.heap.size + 1 := by simp
    rw [e] at h
    exact h
  have r2 : ∀ o1 o2, Row .u32 (((w.alloc o1).alloc o2).alloc (.cells (([0, 0, 0, 0, 0, 0, 0, 0] : List Int).map (Value.int .u32)).toArray 34)) 34 (w.heap.size + 2) [0, 0, 0, 0, 0, 0, 0, 0] := fun o1 o2 => by
    have h := Row.new (k := .u32) ((w.alloc o1).alloc o2) 34 [0, 0, 0, 0, 0, 0, 0, 0]
    have e : ((w.alloc o1).alloc o2).heap.size = w.heap.size + 2 := by simp
    rw [e] at h
    exact h
  have HI8 := Lib.hid hi8
  have HL := Lib.hid hlen
  have HWB := Lib.hid hwb
  have HS := Lib.hid hs
  have HSB := Lib.hid hsb
  have HKS := Lib.hid hks
  have HBS := Lib.hid (And.intro hl (And.intro hb8 hseg))
  have B3 := Lib.hid b3
  have R1 := Lib.hid r1
  have R2 := Lib.hid r2
  have TR := Lib.hid (tab_row w gk ck)
  clear hlen hwb hi8 hs hsb hks hl hb8 hseg b3 r1 r2
  unfold stV tabV
  go_enter Tryd.func75, Tryd.ntmps75
  go_wp2_with fail
  refine (refWords_any g off cap bs _ HBS.out.1 HBS.out.2.1 (HBS.out.2.2.below (B3.out _ _ _) hg) (by simp; omega)).mono ?_
  rintro e w1 ⟨gw, cw, rfl, ho1, hb1⟩
  have hgw := ho1.lt gw rfl
  have HO1 := Lib.hid ho1
  have HT1 : Hid (TB w1 w.heap.size (.slice (some ⟨gk, 0, none⟩) 64 ck) hTab) := Lib.hid ((TR.out _ _).below hb1 (by first | (simp; done) | (simp; omega)))
  have HV1 : Hid (Row .u32 w1 34 (w.heap.size + 1) s) := Lib.hid ((R1.out _ _).below hb1 (by first | (simp; done) | (simp; omega)))
  have HZ1 : Hid (Row .u32 w1 34 (w.heap.size + 2) [0, 0, 0, 0, 0, 0, 0, 0]) := Lib.hid ((R2.out _ _).below hb1 (by simp))
  have HB1 : Hid (Below w.heap.size w w1) := Lib.hid ((B3.out _ _ _).trans (hb1.mono (by simp; omega)))
  have hgw2 : w.heap.size + 3 ≤ gw := by have := hgw.1; simp at this; omega
  have hgw3 : gw < w1.heap.size := hgw.2
  clear ho1 hb1 hgw
  go_wp2_with (first
    | (refine wpList_load_ints rfl 34 (.tmp 4) rfl (w.heap.size + 1) rfl 34 .u32 s HV1.out 8 33 Tryd.underlying34 HI8.out ?_)
    | (refine wpList_store_ints rfl 34 (.tmp 8) (.tmp 13) rfl w1.heap.size .u32 s rfl rfl 34 [0, 0, 0, 0, 0, 0, 0, 0] (Row.new w1 34 [0, 0, 0, 0, 0, 0, 0, 0]) HI8.out (by rw [HS.out]; rfl) ?_
       intro w2 hr2 hg2 hs2
       have HX2 := Lib.hid hr2
       have HO2 := Lib.hid ((HO1.out.alloc (.cells (([0, 0, 0, 0, 0, 0, 0, 0] : List Int).map (Value.int .u32)).toArray 34)).kept hg2 (.inr (by simp [Value.ownBlock]; omega)))
       have HT2 := Lib.hid ((HT1.out.alloc (.cells (([0, 0, 0, 0, 0, 0, 0, 0] : List Int).map (Value.int .u32)).toArray 34)).grown hg2 (by have := HT1.out.lt; simp; omega))
       have HV2 := Lib.hid ((HV1.out.alloc (.cells (([0, 0, 0, 0, 0, 0, 0, 0] : List Int).map (Value.int .u32)).toArray 34)).grown hg2 (by have := HV1.out.lt; simp; omega))
       have HZ2 := Lib.hid ((HZ1.out.alloc (.cells (([0, 0, 0, 0, 0, 0, 0, 0] : List Int).map (Value.int .u32)).toArray 34)).grown hg2 (by have := HZ1.out.lt; simp; omega))
       have HB2 : Hid (Below w.heap.size w w2) := Lib.hid (below_only (HB1.out.alloc HB1.out.size _) hg2 (by have := HB1.out.size; simp; omega) HB1.out.size)
       clear hr2 hg2 hs2))
  obtain ⟨gx, hgx⟩ : ∃ gx, gx = w1.heap.size := ⟨_, rfl⟩
  rw [← hgx]
  have hgx2 : gw < gx := by omega
  have HX2' : Hid (Row .u32 w2 34 gx s) := Lib.hid (by rw [hgx]; exact HX2.out)
  clear hgx HX2
  go_loopw [9] (fun i wx => ∃ n : Nat, n ≤ 64 ∧ i = .int .i64 n ∧ Row .u32 wx 34 gx (rnds (sched bs) s n) ∧ Row .u32 wx 34 (w.heap.size + 1) s ∧ Row .u32 wx 34 (w.heap.size + 2) [0, 0, 0, 0, 0, 0, 0, 0] ∧ TB wx w.heap.size (.slice (some ⟨gk, 0, none⟩) 64 ck) hTab ∧ Seg .u32 wx gw 0 (sched bs) ∧ Below w.heap.size w wx) (fun i _ => 64 - (intOf i).toNat)
  case atStart => exact ⟨0, by omega, rfl, HX2'.out, HV2.out, HZ2.out, HT2.out, own_seg HO2.out, HB2.out⟩
  case round =>
    obtain ⟨n, hn, rfl, hx, hv, hz, ht, hsw, hb⟩ := hrel
    have HX := Lib.hid hx
    have HV := Lib.hid hv
    have HZ := Lib.hid hz
    have HT := Lib.hid ht
    have HSW := Lib.hid hsw
    have HB := Lib.hid hb
    clear hx hv hz ht hsw hb
    by_cases hlt : n < 64
    · have hl8 : (rnds (sched bs) s n).length = 8 := rnds_length HS.out n
      have hck := (HKS.out.below HB.out hgk).cellD n (by rw [kTab_length]; exact hlt)
      have hcw := HSW.out.cellD n (by rw [HL.out]; exact hlt)
      rw [Nat.zero_add] at hck hcw
      have hct := HT.out.cell0
      have bw := word_at HWB.out n
      have bk := word_at kTab_bd n
      have hrr : ∀ W, Calls Tryd.prog 86 #[stV (rnds (sched bs) s n), .int .u32 (kTab.getD n 0), .int .u32 ((sched bs).getD n 0)] W (fun e w' => e = .returned (stV (rnds (sched bs) s (n + 1))) ∧ Below W.heap.size W w') := fun W => refRound_list _ _ _ W hl8 (rnds_bd HS.out HSB.out n) bk.1 bk.2 bw.1 bw.2
      obtain ⟨y0, y1, y2, y3, y4, y5, y6, y7, hy⟩ := list_8 (rnds (sched bs) s (n + 1)) (rnds_length HS.out (n + 1))
      obtain ⟨x0, x1, x2, x3, x4, x5, x6, x7, hx⟩ := list_8 (rnds (sched bs) s n) hl8
      have hr := HX.out
      rw [hx] at hr hrr
      rw [hy] at hrr
      generalize kTab.getD n 0 = kk at *
      generalize (sched bs).getD n 0 = ww at *
      have hc : ∀ W, Calls Tryd.prog 86 #[.agg #[.int .u32 x0, .int .u32 x1, .int .u32 x2, .int .u32 x3, .int .u32 x4, .int .u32 x5, .int .u32 x6, .int .u32 x7], .int .u32 kk, .int .u32 ww] W (fun e w' => e = .returned (.agg #[.int .u32 y0, .int .u32 y1, .int .u32 y2, .int .u32 y3, .int .u32 y4, .int .u32 y5, .int .u32 y6, .int .u32 y7]) ∧ Below W.heap.size W w') := hrr
      have HC := Lib.hid hc
      have HNX := Lib.hid hy
      have HR2 := Lib.hid hr
      have c0 := hr.cell 0 (by simp)
      have c1 := hr.cell 1 (by simp)
      have c2 := hr.cell 2 (by simp)
      have c3 := hr.cell 3 (by simp)
      have c4 := hr.cell 4 (by simp)
      have c5 := hr.cell 5 (by simp)
      have c6 := hr.cell 6 (by simp)
      have c7 := hr.cell 7 (by simp)
      simp only [List.getElem_cons_zero, List.getElem_cons_succ] at c0 c1 c2 c3 c4 c5 c6 c7
      have nb : (n : Int) < 64 := by omega
      clear hl8 hrr hy hx hr hc
      go_wp2_with fail
      go_region_with (first
        | (go_at_call 86
           (with_reducible refine (HC.out _).mono ?_)
           rintro _ w7 ⟨rfl, hb7⟩
           have HR3 : Hid (Row .u32 w7 34 gx [x0, x1, x2, x3, x4, x5, x6, x7]) := Lib.hid (HR2.out.drew.below hb7 HR2.out.lt)
           have HV3 : Hid (Row .u32 w7 34 (w.heap.size + 1) s) := Lib.hid (HV.out.drew.below hb7 HV.out.lt)
           have HZ3 : Hid (Row .u32 w7 34 (w.heap.size + 2) [0, 0, 0, 0, 0, 0, 0, 0]) := Lib.hid (HZ.out.drew.below hb7 HZ.out.lt)
           have HT3 : Hid (TB w7 w.heap.size (.slice (some ⟨gk, 0, none⟩) 64 ck) hTab) := Lib.hid (TB.below (w := wr.drew) HT.out hb7 HT.out.lt)
           have HSW3 : Hid (Seg .u32 w7 gw 0 (sched bs)) := Lib.hid (HSW.out.drew.below hb7 (Nat.lt_trans hgx2 HR2.out.lt))
           have HB3 : Hid (Below w.heap.size w w7) := Lib.hid (HB.out.drew.trans (hb7.mono HB.out.size))
           have t0 := HR3.out.cell 0 (by simp)
           have t1 := HR3.out.cell 1 (by simp)
           have t2 := HR3.out.cell 2 (by simp)
           have t3 := HR3.out.cell 3 (by simp)
           have t4 := HR3.out.cell 4 (by simp)
           have t5 := HR3.out.cell 5 (by simp)
           have t6 := HR3.out.cell 6 (by simp)
           have t7 := HR3.out.cell 7 (by simp)
           have tf := fun o => HR3.out.frozen o
           clear hb7))
      all_goals
        obtain ⟨w8, hw8⟩ : ∃ w8, w8 = ((((((((w7.setCell ⟨gx, 0, none⟩ (.int .u32 y0)).setCell ⟨gx, 1, none⟩ (.int .u32 y1)).setCell ⟨gx, 2, none⟩ (.int .u32 y2)).setCell ⟨gx, 3, none⟩ (.int .u32 y3)).setCell ⟨gx, 4, none⟩ (.int .u32 y4)).setCell ⟨gx, 5, none⟩ (.int .u32 y5)).setCell ⟨gx, 6, none⟩ (.int .u32 y6)).setCell ⟨gx, 7, none⟩ (.int .u32 y7)) := ⟨_, rfl⟩
        rw [← hw8]
        have HX8 : Hid (Row .u32 w8 34 gx [y0, y1, y2, y3, y4, y5, y6, y7]) := Lib.hid (by rw [hw8]; exact ((((((((HR3.out.set 0 y0).set 1 y1).set 2 y2).set 3 y3).set 4 y4).set 5 y5).set 6 y6).set 7 y7))
        have HV8 : Hid (Row .u32 w8 34 (w.heap.size + 1) s) := Lib.hid (by rw [hw8]; exact ((((((((HV3.out.far (p := ⟨gx, 0, none⟩) (by simp; omega) (.int .u32 y0)).far (p := ⟨gx, 1, none⟩) (by simp; omega) (.int .u32 y1)).far (p := ⟨gx, 2, none⟩) (by simp; omega) (.int .u32 y2)).far (p := ⟨gx, 3, none⟩) (by simp; omega) (.int .u32 y3)).far (p := ⟨gx, 4, none⟩) (by simp; omega) (.int .u32 y4)).far (p := ⟨gx, 5, none⟩) (by simp; omega) (.int .u32 y5)).far (p := ⟨gx, 6, none⟩) (by simp; omega) (.int .u32 y6)).far (p := ⟨gx, 7, none⟩) (by simp; omega) (.int .u32 y7)))
        have HZ8 : Hid (Row .u32 w8 34 (w.heap.size + 2) [0, 0, 0, 0, 0, 0, 0, 0]) := Lib.hid (by rw [hw8]; exact ((((((((HZ3.out.far (p := ⟨gx, 0, none⟩) (by simp; omega) (.int .u32 y0)).far (p := ⟨gx, 1, none⟩) (by simp; omega) (.int .u32 y1)).far (p := ⟨gx, 2, none⟩) (by simp; omega) (.int .u32 y2)).far (p := ⟨gx, 3, none⟩) (by simp; omega) (.int .u32 y3)).far (p := ⟨gx, 4, none⟩) (by simp; omega) (.int .u32 y4)).far (p := ⟨gx, 5, none⟩) (by simp; omega) (.int .u32 y5)).far (p := ⟨gx, 6, none⟩) (by simp; omega) (.int .u32 y6)).far (p := ⟨gx, 7, none⟩) (by simp; omega) (.int .u32 y7)))
        have HT8 : Hid (TB w8 w.heap.size (.slice (some ⟨gk, 0, none⟩) 64 ck) hTab) := Lib.hid (by rw [hw8]; exact ((((((((HT3.out.far (p := ⟨gx, 0, none⟩) (by simp; omega) (.int .u32 y0)).far (p := ⟨gx, 1, none⟩) (by simp; omega) (.int .u32 y1)).far (p := ⟨gx, 2, none⟩) (by simp; omega) (.int .u32 y2)).far (p := ⟨gx, 3, none⟩) (by simp; omega) (.int .u32 y3)).far (p := ⟨gx, 4, none⟩) (by simp; omega) (.int .u32 y4)).far (p := ⟨gx, 5, none⟩) (by simp; omega) (.int .u32 y5)).far (p := ⟨gx, 6, none⟩) (by simp; omega) (.int .u32 y6)).far (p := ⟨gx, 7, none⟩) (by simp; omega) (.int .u32 y7)))
        have hgrow : w7.grownBy w8 (some gx) := by rw [hw8]; exact (only_set (only_set (only_set (only_set (only_set (only_set (only_set (only_set (only_refl w7 (some gx)) 0 (.int .u32 y0)) 1 (.int .u32 y1)) 2 (.int .u32 y2)) 3 (.int .u32 y3)) 4 (.int .u32 y4)) 5 (.int .u32 y5)) 6 (.int .u32 y6)) 7 (.int .u32 y7))
        have HSW8 : Hid (Seg .u32 w8 gw 0 (sched bs)) := Lib.hid (HSW3.out.keep fun o => World.cell?_of_block (hgrow.block gw (Nat.lt_trans hgx2 HR3.out.lt) (by simp; omega)))
        have HB8 : Hid (Below w.heap.size w w8) := Lib.hid (below_only HB3.out hgrow HB3.out.size (by omega))
        clear hw8 hgrow t0 t1 t2 t3 t4 t5 t6 t7 tf c0 c1 c2 c3 c4 c5 c6 c7 hct hck hcw
        go_wp2_with fail
        go_roundw
        case rel => exact ⟨n + 1, by omega, by go_num, by rw [HNX.out]; exact HX8.out, HV8.out, HZ8.out, HT8.out, HSW8.out, HB8.out⟩
        case measure => simp [intOf]; omega
    · obtain rfl : n = 64 := by omega
      have hxl : (rnds (sched bs) s 64).length = 8 := rnds_length HS.out 64
      have hfin : stepL s bs = addN (rnds (sched bs) s 64) s 8 := (addN_all hxl HS.out).symm
      have hxb : Words32 (rnds (sched bs) s 64) := rnds_bd HS.out HSB.out 64
      generalize rnds (sched bs) s 64 = x at *
      have HXL := Lib.hid hxl
      have HFIN := Lib.hid hfin
      have HXB := Lib.hid hxb
      have hi8x : (Tryd.prog.info? 34).map (·.size) = some x.length := by rw [hxl]; exact sizeA8
      have HI8X := Lib.hid hi8x
      clear hxl hfin hxb hi8x
      rw [show ((64 : Nat) : Int) = 64 from rfl]
      go_wp2_with fail
      go_loopw [10] (fun i wx => ∃ n : Nat, n ≤ 8 ∧ i = .int .i64 n ∧ Row .u32 wx 34 gx (addN x s n) ∧ Row .u32 wx 34 (w.heap.size + 1) s ∧ Row .u32 wx 34 (w.heap.size + 2) [0, 0, 0, 0, 0, 0, 0, 0] ∧ Below w.heap.size w wx) (fun i _ => 8 - (intOf i).toNat)
      case atStart => exact ⟨0, by omega, rfl, HX.out, HV.out, HZ.out, HB.out⟩
      case round =>
        obtain ⟨n, hn, rfl, hx, hr, hz, hb⟩ := hrel
        clear HX HV HZ HB HT HSW
        have HX := Lib.hid hx
        have HR := Lib.hid hr
        have HZ := Lib.hid hz
        have HB := Lib.hid hb
        clear hx hr hz hb
        by_cases hlt : n < 8
        · have c1 := HX.out.cellD n (by rw [addN_length, HXL.out]; exact hlt)
          have c2 := HR.out.cellD n (by rw [HS.out]; exact hlt)
          have f1 := HX.out.frozen n
          rw [addN_get x s n n (Nat.le_refl _)] at c1
          have b1 := word_at HXB.out n
          have b2 := word_at HSB.out n
          have hst : Row .u32 (wr.setCell ⟨gx, n, none⟩ (.int .u32 ((x.getD n 0 + s.getD n 0) % 4294967296))) 34 gx (addN x s (n + 1)) := HX.out.set n _
          generalize x.getD n 0 = y at *
          generalize s.getD n 0 = v at *
          have HST := Lib.hid hst
          have nb : (n : Int) < 8 := by omega
          clear hst
          go_wp2_with fail
          go_region
          go_wp2_with fail
          go_roundw
          case rel =>
            refine ⟨n + 1, by omega, by go_num, ?_, ?_, ?_, ?_⟩
            · exact HST.out.drew
            · exact HR.out.drew.far (p := ⟨gx, n, none⟩) (by simp; omega) _
            · exact HZ.out.drew.far (p := ⟨gx, n, none⟩) (by simp; omega) _
            · exact HB.out.drew.setCell (p := ⟨gx, n, none⟩) (by simp; omega) _
          case measure => simp [intOf]; omega
        · obtain rfl : n = 8 := by omega
          have hi8y : (Tryd.prog.info? 34).map (·.size) = some (addN x s 8).length := by rw [addN_length]; exact HI8X.out
          have HI8Y := Lib.hid hi8y
          clear hi8y
          go_wp2_with (first
            | (refine wpList_load_ints rfl 34 (.tmp 8) rfl gx rfl 34 .u32 (addN x s 8) HX.out 8 33 Tryd.underlying34 HI8Y.out ?_)
            | (refine wpList_store_ints rfl 34 (.tmp 6) (.tmp 42) rfl (w.heap.size + 2) .u32 (addN x s 8) rfl rfl 34 [0, 0, 0, 0, 0, 0, 0, 0] HZ.out HI8Y.out (by rw [addN_length, HXL.out]; rfl) ?_
               intro w5 hr5 hg5 hs5
               have HR5 := Lib.hid hr5
               have HG5 := Lib.hid hg5
               clear hr5 hg5 hs5))
          refine bodyPost_ret (v := stV (addN x s 8)) (results_cell_row Tryd.results75 _ _ (w.heap.size + 2) 34 _ _ _ rfl HR5.out Tryd.underlying34 rfl (by rw [ints_size]; exact HI8Y.out)) rfl ⟨by rw [HFIN.out], ?_⟩
          exact below_only HB.out HG5.out HB.out.size (by omega)
end Go.Proofs.YtioifkbkllnkgaaDoor

/- Facts on states and tables that the laws ask. -/
namespace Go.Proofs.YtioifkbkllnkgaaDoor
open Go.RowKit
set_option linter.unusedVariables false

theorem tb_cells {w : World} {g : Nat} {v : Value} (h : TB w g v hTab) : w.cell? ⟨g, 1, none⟩ = some (.int .u32 1779033703) ∧ w.cell? ⟨g, 2, none⟩ = some (.int .u32 3144134277) ∧ w.cell? ⟨g, 3, none⟩ = some (.int .u32 1013904242) ∧ w.cell? ⟨g, 4, none⟩ = some (.int .u32 2773480762) ∧ w.cell? ⟨g, 5, none⟩ = some (.int .u32 1359893119) ∧ w.cell? ⟨g, 6, none⟩ = some (.int .u32 2600822924) ∧ w.cell? ⟨g, 7, none⟩ = some (.int .u32 528734635) ∧ w.cell? ⟨g, 8, none⟩ = some (.int .u32 1541459225) :=
  ⟨h.cellH 0 (by decide), h.cellH 1 (by decide), h.cellH 2 (by decide), h.cellH 3 (by decide), h.cellH 4 (by decide), h.cellH 5 (by decide), h.cellH 6 (by decide), h.cellH 7 (by decide)⟩
end Go.Proofs.YtioifkbkllnkgaaDoor

/- The contract of the document's digest. -/
namespace Go.Proofs.YtioifkbkllnkgaaDoor
open Go.RowKit
set_option linter.unusedVariables false

/-- The first j of a list, zeros behind them. -/
def outN (l : List Int) (j : Nat) : List Int := l.take j ++ List.replicate (l.length - j) 0
theorem outN_zero (l : List Int) : outN l 0 = List.replicate l.length 0 := by simp [outN]
theorem outN_all (l : List Int) (j : Nat) (h : l.length ≤ j) : outN l j = l := by simp [outN, List.take_of_length_le h, Nat.sub_eq_zero_of_le h]
theorem outN_length (l : List Int) (j : Nat) : (outN l j).length = l.length := by simp [outN]; omega
theorem outN_set (l : List Int) (j : Nat) (h : j < l.length) : (outN l j).set j (l.getD j 0) = outN l (j + 1) := by
  unfold outN
  rw [List.set_append_right _ _ (by simp; omega), show l.take (j + 1) = l.take j ++ [l[j]] from List.take_succ_eq_append_getElem h]
  have e : l.length - j = (l.length - (j + 1)) + 1 := by omega
  rw [e, List.replicate_succ]
  have hm : j - (l.take j).length = 0 := by rw [List.length_take]; omega
  rw [hm, List.set_cons_zero, List.append_assoc]
  simp [List.getD, h, -List.take_append_getElem]
theorem tab_row1 (w : World) (gk ck : Nat) (o1 : Obj) : TB ((w.alloc (.cells (Value.slice (some ⟨gk, 0, none⟩) 64 ck :: hTab.map (Value.int .u32)).toArray 36)).alloc o1) w.heap.size (.slice (some ⟨gk, 0, none⟩) 64 ck) hTab := by
  have h : TB (w.alloc (.cells (Value.slice (some ⟨gk, 0, none⟩) 64 ck :: hTab.map (Value.int .u32)).toArray 36)) w.heap.size (.slice (some ⟨gk, 0, none⟩) 64 ck) hTab := heap_alloc_new w _
  exact h.alloc _

set_option maxRecDepth 100000 in
set_option maxHeartbeats 4000000 in
theorem refSum_any (a : Option Addr) (n cap gk ck : Nat) (bs : List Int) (w : World) (hin : InBytes w a n cap bs) (hn : n ≤ 20000) (hks : Seg .u32 w gk 0 kTab) (hgk : gk < w.heap.size) :
    Calls Tryd.prog 55 #[tabV gk ck, .slice a n cap] w (SumPost w bs) := by
  obtain ⟨i0, hi0, hz0, hz1, hz2⟩ := info_parts infoU8
  have hle0 := hin.le
  have hmax := hin.max
  simp only [maxLen] at hmax
  have hnl := nils_lt n
  have hbl := hin.len
  obtain ⟨T, hT1⟩ : ∃ T, n + (nils n + 9) = 64 * T := by
    obtain ⟨q, _, _, h3, _⟩ := whole_blocks n (n / 64) (n % 64) (by omega) (by omega)
    exact ⟨n / 64 + q, by omega⟩
  have hall : (bs ++ tailL n).length = n + (nils n + 9) := by rw [List.length_append, tailL_length, hbl]
  have hab : Bytes8 (bs ++ tailL n) := app_bytes hin.bytes (tailL_bytes n)
  have hcode : (n : Int) ≤ 1125899906842624 := by omega
  have HIN := Lib.hid hin
  have HKS := Lib.hid hks
  have HT1 := Lib.hid hT1
  have HALL := Lib.hid hall
  have HAB := Lib.hid hab
  have HBL := Lib.hid hbl
  clear hin hks hT1 hall hab hbl
  unfold tabV
  go_enter Tryd.func55, Tryd.ntmps55
  have hown0 : ((w.alloc (.cells (Value.slice (some ⟨gk, 0, none⟩) 64 ck :: hTab.map (Value.int .u32)).toArray 36)).alloc (.cells #[] 5)).ownsRow (w.heap.size + 1) 5 1 (.slice (some ⟨w.heap.size + 1, 0, none⟩) 0 0) 0 [] := by
    refine ⟨by simp, .inr ⟨w.heap.size + 1, 0, #[], rfl, Nat.le_refl _, ?_, Nat.le_refl _, by simp [maxLen], by simp, by simp⟩⟩
    have h := heap_alloc_new (w.alloc (.cells (Value.slice (some ⟨gk, 0, none⟩) 64 ck :: hTab.map (Value.int .u32)).toArray 36)) (.cells #[] 5)
    have e : (w.alloc (.cells (Value.slice (some ⟨gk, 0, none⟩) 64 ck :: hTab.map (Value.int .u32)).toArray 36)).heap.size = w.heap.size + 1 := by simp
    rw [e] at h
    exact h
  have HO0 := Lib.hid hown0
  have b2 : ∀ o1 o2, Below w.heap.size w ((w.alloc o1).alloc o2) := fun o1 o2 => ((Below.refl _ _).alloc (Nat.le_refl _) _).alloc (by simp) _
  have HB0 := Lib.hid b2
  have HT0 := Lib.hid (tab_row1 w gk ck)
  clear hown0 b2
  go_wp2_with (first
    | (at_builtin
       refine wpList_append_bytes' _ rfl (.tmp 10) (.tmp 11) 22 rfl (w.heap.size + 1) 5 i0 _ 1 Tryd.underlying22 hi0 hz0 hz1 hz2 rfl (w.heap.size + 1) 0 0 [] rfl HO0.out a n cap bs rfl (HIN.out.below (HB0.out _ _)) (by simp only [maxLen]; omega) (by omega) (by simp) ?_
       intro g1 c1 w1 hown1 hg1
       rw [List.nil_append, Nat.zero_add] at hown1
       have HO1 := Lib.hid hown1
       have HT1a : Hid (TB w1 w.heap.size (.slice (some ⟨gk, 0, none⟩) 64 ck) hTab) := Lib.hid ((HT0.out _).grown hg1 (by simp))
       have HB1 : Hid (Below w.heap.size w w1) := Lib.hid (below_only (HB0.out _ _) hg1 (by simp; omega) (by omega))
       have hsz1 := HT1a.out.lt
       clear hown1 hg1)
    | (go_at_call 74
       (with_reducible refine (refTail_any n _ hcode).mono ?_)
       rintro _ w2 ⟨v2, rfl, hown2, hb2⟩
       obtain ⟨gt, ct, hv2, hgt1, hgt2⟩ := hown2.form (by omega)
       subst hv2
       have HA2 := Lib.hid hown2
       have HO2 : Hid (w2.ownsRow (w.heap.size + 1) 5 1 (.slice (some ⟨g1, 0, none⟩) n c1) n (bs.map (Value.int .u8))) := Lib.hid (HO1.out.kept (only_below hb2 none) (.inr (by simp [Value.ownBlock])))
       have HT2 : Hid (TB w2 w.heap.size (.slice (some ⟨gk, 0, none⟩) 64 ck) hTab) := Lib.hid (HT1a.out.below hb2 HT1a.out.lt)
       have HB2 : Hid (Below w.heap.size w w2) := Lib.hid (HB1.out.trans (hb2.mono HB1.out.size))
       have hsz2 := HT2.out.lt
       have hg1 := HO2.out.lt g1 rfl
       clear hown2 hb2)
    | (at_builtin
       refine wpList_append_own _ rfl (.tmp 13) (.tmp 16) 22 rfl (w.heap.size + 1) 5 i0 _ 1 1 Tryd.underlying22 hi0 hz0 hz1 hz2 rfl (by omega) (.slice (some ⟨g1, 0, none⟩) n c1) n (bs.map (Value.int .u8)) rfl HO2.out ⟨gt, 0, none⟩ (nils n + 9) ct ((tailL n).map (Value.int .u8)) rfl (by simp [tailL_length]) (by exact (own_seg HA2.out).news) (by simp [Value.oneCell']) (by simp only [maxLen]; omega) (by omega) (by omega) ?_
       intro v3 w3 hown3 hg3 hat3
       obtain ⟨ga, cpa, hv3, hgga, hlta⟩ := hown3.form (by omega)
       rw [hv3]
       rw [hv3] at hown3
       rw [← List.map_append] at hown3
       have HO3 := Lib.hid hown3
       have HT3 : Hid (TB w3 w.heap.size (.slice (some ⟨gk, 0, none⟩) 64 ck) hTab) := Lib.hid (HT2.out.grown hg3 (by simp [Value.ownBlock]; omega))
       have HB3 : Hid (Below w.heap.size w w3) := Lib.hid (HB2.out.grown hg3 HB2.out.size (fun j hj => by have := (HO2.out.lt j hj).1; omega))
       have hsz3 := HT3.out.lt
       obtain ⟨t1, t2, t3, t4, t5, t6, t7, t8⟩ := tb_cells HT3.out
       clear hown3 hg3 hat3 hv3)
    | (refine wpList_store_ints rfl 34 (.tmp 6) (.tmp 19) rfl w3.heap.size .u32 hTab rfl rfl 34 [0, 0, 0, 0, 0, 0, 0, 0] (Row.new w3 34 [0, 0, 0, 0, 0, 0, 0, 0]) sizeA8 rfl ?_
       intro w5 hr5 hg5 hs5
       have HR5 := Lib.hid hr5
       have hga := HO3.out.lt ga rfl
       have HO5 : Hid (w5.ownsRow (w.heap.size + 1) 5 1 (.slice (some ⟨ga, 0, none⟩) (n + (nils n + 9)) cpa) (n + (nils n + 9)) ((bs ++ tailL n).map (Value.int .u8))) := Lib.hid ((HO3.out.alloc _).kept hg5 (.inr (by simp [Value.ownBlock]; omega)))
       have HT5 : Hid (TB w5 w.heap.size (.slice (some ⟨gk, 0, none⟩) 64 ck) hTab) := Lib.hid ((HT3.out.alloc _).grown hg5 (by simp; omega))
       have HB5 : Hid (Below w.heap.size w w5) := Lib.hid (below_only (HB3.out.alloc HB3.out.size _) hg5 (by have := HB3.out.size; simp; omega) HB3.out.size)
       clear hr5 hg5 hs5 t1 t2 t3 t4 t5 t6 t7 t8))
  have hoT := HO5.out
  rw [HT1.out] at hoT
  have HOT := Lib.hid hoT
  clear hoT HO5 HO3 HO2
  rw [HT1.out]
  obtain ⟨gv, hgv⟩ : ∃ gv, gv = w3.heap.size := ⟨_, rfl⟩
  rw [← hgv]
  have hgv2 : w.heap.size + 1 ≤ gv := by omega
  have hgav : ga < gv := by rw [hgv]; exact hga.2
  have hga1 : w.heap.size + 1 ≤ ga := hga.1
  have HR5' : Hid (Row .u32 w5 34 gv hTab) := Lib.hid (by rw [hgv]; exact HR5.out)
  clear hgv HR5 hga HA2 HT2 HB2 HT3 HB3 HO0 HB0 HT0 HO1 HT1a HB1
  go_loopw [7] (fun i wx => ∃ k : Nat, k ≤ T ∧ i = .int .i64 (64 * (k : Int)) ∧ Row .u32 wx 34 gv (stepsL hTab (bs ++ tailL n) k) ∧ TB wx w.heap.size (.slice (some ⟨gk, 0, none⟩) 64 ck) hTab ∧ wx.ownsRow (w.heap.size + 1) 5 1 (.slice (some ⟨ga, 0, none⟩) (64 * T) cpa) (64 * T) ((bs ++ tailL n).map (Value.int .u8)) ∧ Below w.heap.size w wx) (fun i _ => 64 * T - (intOf i).toNat)
  case atStart => exact ⟨0, by omega, rfl, HR5'.out, HT5.out, HOT.out, HB5.out⟩
  case round =>
    obtain ⟨k, hk, rfl, hr, ht, ho, hb⟩ := hrel
    have HR := Lib.hid hr
    have HT := Lib.hid ht
    have HO := Lib.hid ho
    have HB := Lib.hid hb
    clear hr ht ho hb
    have hT2 := HT1.out
    by_cases hlt : k < T
    · have hl8 : (stepsL hTab (bs ++ tailL n) k).length = 8 := stepsL_length rfl _ k
      have hinA := InBytes.of_own HO.out HAB.out
      obtain ⟨g', off', e', hgA, hsegA⟩ := hinA.place (by omega)
      injection e' with e'
      injection e' with e1 e2
      subst e1
      subst e2
      have hcpa := hinA.le
      have hcpm := hinA.max
      simp only [maxLen] at hcpm
      obtain ⟨y0, y1, y2, y3, y4, y5, y6, y7, hy⟩ := list_8 (stepL (stepsL hTab (bs ++ tailL n) k) (((bs ++ tailL n).drop (64 * k)).take 64)) (stepL_length hl8 _)
      have hnx : stepsL hTab (bs ++ tailL n) (k + 1) = [y0, y1, y2, y3, y4, y5, y6, y7] := hy
      obtain ⟨x0, x1, x2, x3, x4, x5, x6, x7, hx⟩ := list_8 (stepsL hTab (bs ++ tailL n) k) hl8
      have hc : ∀ W, Below wr.heap.size wr W → Calls Tryd.prog 75 #[.agg #[.slice (some ⟨gk, 0, none⟩) 64 ck, .int .u32 1779033703, .int .u32 3144134277, .int .u32 1013904242, .int .u32 2773480762, .int .u32 1359893119, .int .u32 2600822924, .int .u32 528734635, .int .u32 1541459225], .agg #[.int .u32 x0, .int .u32 x1, .int .u32 x2, .int .u32 x3, .int .u32 x4, .int .u32 x5, .int .u32 x6, .int .u32 x7], .slice (some ⟨ga, 64 * k, none⟩) 64 (cpa - 64 * k)] W (fun e w' => e = .returned (.agg #[.int .u32 y0, .int .u32 y1, .int .u32 y2, .int .u32 y3, .int .u32 y4, .int .u32 y5, .int .u32 y6, .int .u32 y7]) ∧ Below W.heap.size W w') := fun W hW => by
        have hbW : Below w.heap.size w W := HB.out.trans (hW.mono HB.out.size)
        have h := refStep_any ga (0 + 64 * k) (cpa - 64 * k) gk ck _ (((bs ++ tailL n).drop (64 * k)).take 64) W hl8 (stepsL_bd hTab_bd _ k) (by have := HALL.out; simp only [List.length_take, List.length_drop]; omega) (fun z hz => HAB.out z (List.mem_of_mem_drop (List.mem_of_mem_take hz))) (((hsegA.below hW hgA).drop (64 * k)).take 64) (Nat.lt_of_lt_of_le hgA hW.size) (HKS.out.below hbW hgk) (Nat.lt_of_lt_of_le hgk hbW.size)
        unfold StepPost at h
        rw [hy, hx, Nat.zero_add] at h
        exact h
      have hr := HR.out
      rw [hx] at hr
      have HC := Lib.hid hc
      have HNX := Lib.hid hnx
      have HR2 := Lib.hid hr
      have c0 := hr.cell 0 (by simp)
      have c1 := hr.cell 1 (by simp)
      have c2 := hr.cell 2 (by simp)
      have c3 := hr.cell 3 (by simp)
      have c4 := hr.cell 4 (by simp)
      have c5 := hr.cell 5 (by simp)
      have c6 := hr.cell 6 (by simp)
      have c7 := hr.cell 7 (by simp)
      simp only [List.getElem_cons_zero, List.getElem_cons_succ] at c0 c1 c2 c3 c4 c5 c6 c7
      have t0 := HT.out.cell0
      obtain ⟨t1, t2, t3, t4, t5, t6, t7, t8⟩ := tb_cells HT.out
      have k1 : 64 * (k : Int) < 64 * (T : Int) := by omega
      have k2 : (64 * (k : Int) + 64).toNat = 64 * k + 64 := by omega
      have k3 : IntKind.i64.wrap (64 * (k : Int) + 64) = 64 * (k : Int) + 64 := IntWalk.i64_in _ (by omega)
      have k4 : (0 : Int) ≤ 64 * (k : Int) := by omega
      have k5 : 64 * (k : Int) + 64 ≤ (cpa : Int) := by omega
      have k6 : (64 * (k : Int)).toNat = 64 * k := by omega
      have k7 : 64 * (k : Int) ≤ 64 * (k : Int) + 64 := by omega
      have k8 : ¬ cpa = 64 * k := by omega
      have k9 : gv < wr.heap.size := HR2.out.lt
      clear hl8 hinA hsegA hy hnx hx hc hr hT2
      go_wp2_with fail
      go_region_with (first
        | (go_at_call 75
           (with_reducible refine (HC.out _ ?_).mono ?_)
           · exact (Below.refl _ _).drew
           rintro _ w7 ⟨rfl, hb7⟩
           have HR3 : Hid (Row .u32 w7 34 gv [x0, x1, x2, x3, x4, x5, x6, x7]) := Lib.hid (HR2.out.drew.below hb7 HR2.out.lt)
           have HT3 : Hid (TB w7 w.heap.size (.slice (some ⟨gk, 0, none⟩) 64 ck) hTab) := Lib.hid (TB.below (w := wr.drew) HT.out hb7 HT.out.lt)
           have HO3 : Hid (w7.ownsRow (w.heap.size + 1) 5 1 (.slice (some ⟨ga, 0, none⟩) (64 * T) cpa) (64 * T) ((bs ++ tailL n).map (Value.int .u8))) := Lib.hid ((own_drew' HO.out).kept (only_below hb7 none) (.inr (by simp [Value.ownBlock])))
           have HB3 : Hid (Below w.heap.size w w7) := Lib.hid (HB.out.drew.trans (hb7.mono HB.out.size))
           have q0 := HR3.out.cell 0 (by simp)
           have q1 := HR3.out.cell 1 (by simp)
           have q2 := HR3.out.cell 2 (by simp)
           have q3 := HR3.out.cell 3 (by simp)
           have q4 := HR3.out.cell 4 (by simp)
           have q5 := HR3.out.cell 5 (by simp)
           have q6 := HR3.out.cell 6 (by simp)
           have q7 := HR3.out.cell 7 (by simp)
           have qf := fun o => HR3.out.frozen o
           clear hb7))
      all_goals
        obtain ⟨w8, hw8⟩ : ∃ w8, w8 = ((((((((w7.setCell ⟨gv, 0, none⟩ (.int .u32 y0)).setCell ⟨gv, 1, none⟩ (.int .u32 y1)).setCell ⟨gv, 2, none⟩ (.int .u32 y2)).setCell ⟨gv, 3, none⟩ (.int .u32 y3)).setCell ⟨gv, 4, none⟩ (.int .u32 y4)).setCell ⟨gv, 5, none⟩ (.int .u32 y5)).setCell ⟨gv, 6, none⟩ (.int .u32 y6)).setCell ⟨gv, 7, none⟩ (.int .u32 y7)) := ⟨_, rfl⟩
        rw [← hw8]
        have HX8 : Hid (Row .u32 w8 34 gv [y0, y1, y2, y3, y4, y5, y6, y7]) := Lib.hid (by rw [hw8]; exact ((((((((HR3.out.set 0 y0).set 1 y1).set 2 y2).set 3 y3).set 4 y4).set 5 y5).set 6 y6).set 7 y7))
        have HT8 : Hid (TB w8 w.heap.size (.slice (some ⟨gk, 0, none⟩) 64 ck) hTab) := Lib.hid (by rw [hw8]; exact ((((((((HT3.out.far (p := ⟨gv, 0, none⟩) (by simp; omega) (.int .u32 y0)).far (p := ⟨gv, 1, none⟩) (by simp; omega) (.int .u32 y1)).far (p := ⟨gv, 2, none⟩) (by simp; omega) (.int .u32 y2)).far (p := ⟨gv, 3, none⟩) (by simp; omega) (.int .u32 y3)).far (p := ⟨gv, 4, none⟩) (by simp; omega) (.int .u32 y4)).far (p := ⟨gv, 5, none⟩) (by simp; omega) (.int .u32 y5)).far (p := ⟨gv, 6, none⟩) (by simp; omega) (.int .u32 y6)).far (p := ⟨gv, 7, none⟩) (by simp; omega) (.int .u32 y7)))
        have hgrow : w7.grownBy w8 (some gv) := by rw [hw8]; exact (only_set (only_set (only_set (only_set (only_set (only_set (only_set (only_set (only_refl w7 (some gv)) 0 (.int .u32 y0)) 1 (.int .u32 y1)) 2 (.int .u32 y2)) 3 (.int .u32 y3)) 4 (.int .u32 y4)) 5 (.int .u32 y5)) 6 (.int .u32 y6)) 7 (.int .u32 y7))
        have HO8 : Hid (w8.ownsRow (w.heap.size + 1) 5 1 (.slice (some ⟨ga, 0, none⟩) (64 * T) cpa) (64 * T) ((bs ++ tailL n).map (Value.int .u8))) := Lib.hid (HO3.out.kept hgrow (.inr (by simp [Value.ownBlock]; omega)))
        have HB8 : Hid (Below w.heap.size w w8) := Lib.hid (below_only HB3.out hgrow HB3.out.size (by omega))
        clear hw8 hgrow q0 q1 q2 q3 q4 q5 q6 q7 qf c0 c1 c2 c3 c4 c5 c6 c7 t0 t1 t2 t3 t4 t5 t6 t7 t8
        go_wp2_with fail
        go_roundw
        case rel => exact ⟨k + 1, by omega, by congr 1, by rw [HNX.out]; exact HX8.out, HT8.out, HO8.out, HB8.out⟩
        case measure => simp [intOf]; omega
    · obtain rfl : k = T := by omega
      have hrl8 : (stepsL hTab (bs ++ tailL n) k).length = 8 := stepsL_length rfl _ k
      have hsum : sumL bs = bytesL (stepsL hTab (bs ++ tailL n) k) := by
        unfold sumL
        rw [HBL.out, show (n + nils n + 9) / 64 = k by omega]
      have hsb := stepsL_bd hTab_bd (bs ++ tailL n) k
      generalize stepsL hTab (bs ++ tailL n) k = st at *
      have HSUM := Lib.hid hsum
      have HL8 := Lib.hid hrl8
      have HSB := Lib.hid hsb
      have k1 : ¬ 64 * (k : Int) < 64 * (k : Int) := by omega
      clear hrl8 hsum hsb hT2
      go_wp2_with (first
        | (at_make
           refine wpList_make_ints _ rfl (.const (.int .i64 32)) (.const (.int .i64 32)) 22 rfl 5 i0 .u8 Tryd.underlying22 hi0 hz0 hz1 .i64 .i64 _ _ 32 rfl rfl (by omega) (by omega) (by rw [hz2]; omega) (by simp only [maxLen]; omega) ?_
           intro w8 hr8 hb8 hs8
           have HR8 : Hid (Row .u8 w8 5 wr.heap.size (outN (bytesL st) 0)) := Lib.hid (by rw [outN_zero, bytesL_length, HL8.out]; exact hr8)
           have HV8 : Hid (Row .u32 w8 34 gv st) := Lib.hid (HR.out.below hb8 HR.out.lt)
           have HB8 : Hid (Below w.heap.size w w8) := Lib.hid (HB.out.trans (hb8.mono HB.out.size))
           have hgvr : gv < wr.heap.size := HR.out.lt
           have hbs := HB.out.size
           clear hr8 hb8 hs8))
      obtain ⟨go, hgo⟩ : ∃ go, go = wr.heap.size := ⟨_, rfl⟩
      rw [← hgo] at hgvr hbs ⊢
      have HR8' : Hid (Row .u8 w8 5 go (outN (bytesL st) 0)) := Lib.hid (by rw [hgo]; exact HR8.out)
      clear HR8 hgo
      go_loopw [9] (fun i wx => ∃ j : Nat, j ≤ 32 ∧ i = .int .i64 j ∧ Row .u8 wx 5 go (outN (bytesL st) j) ∧ Row .u32 wx 34 gv st ∧ Below w.heap.size w wx) (fun i _ => 32 - (intOf i).toNat)
      case atStart => exact ⟨0, by omega, rfl, HR8'.out, HV8.out, HB8.out⟩
      case round =>
        obtain ⟨j, hj, rfl, hr, hv, hb⟩ := hrel
        clear HR HB HV8 HR8' HB8
        have HR := Lib.hid hr
        have HV := Lib.hid hv
        have HB := Lib.hid hb
        clear hr hv hb
        by_cases hlt : j < 32
        · have e1 := HR.out.cellD j (by rw [outN_length, bytesL_length, HL8.out]; omega)
          have f1 := HR.out.frozen j
          have e2 := HV.out.cellD (j / 4) (by rw [HL8.out]; omega)
          have hst : Row .u8 (wr.setCell ⟨go, j, none⟩ (.int .u8 (st.getD (j / 4) 0 / 2 ^ (24 - 8 * (j % 4)) % 256))) 5 go (outN (bytesL st) (j + 1)) := by
            have h := HR.out.set j ((bytesL st).getD j 0)
            rw [outN_set _ j (by rw [bytesL_length, HL8.out]; omega), bytesL_at st j (by rw [HL8.out]; omega)] at h
            exact h
          have bx := word_at HSB.out (j / 4)
          generalize st.getD (j / 4) 0 = x at *
          generalize (outN (bytesL st) j).getD j 0 = ov at *
          have HST := Lib.hid hst
          have jb : (j : Int) < 32 := by omega
          clear hst
          go_wp2_with fail
          refine ⟨⟨j + 1, by omega, by go_num, HST.out, HV.out.far (p := ⟨go, j, none⟩) (by simp; omega) _, HB.out.setCell (p := ⟨go, j, none⟩) hbs _⟩, by simp [intOf]; omega⟩
        · obtain rfl : j = 32 := by omega
          go_wp2_with fail
          go_ret
          have hr := HR.out
          rw [outN_all _ 32 (by rw [bytesL_length, HL8.out]; omega), ← HSUM.out] at hr
          exact ⟨go, hbs, rfl, hr, HB.out⟩
end Go.Proofs.YtioifkbkllnkgaaDoor

/- The contract of the document's digest. -/
namespace Go.Proofs.YtioifkbkllnkgaaDoor
open Go.RowKit
set_option linter.unusedVariables false

/-- A slice of new memory: the first k bytes of a sum. -/
def OfPost (w : World) (k : Nat) (bs : List Int) (e : Ending) (w' : World) : Prop :=
  ∃ g, w.heap.size ≤ g ∧ e = .returned (.slice (some ⟨g, 0, none⟩) k 32) ∧ Row .u8 w' 5 g (sumL bs) ∧ Below w.heap.size w w'

set_option maxRecDepth 100000 in
set_option maxHeartbeats 4000000 in
theorem refOf_any (k : Nat) (hk1 : 1 ≤ k) (hk2 : k ≤ 32) (a : Option Addr) (n cap gk ck : Nat) (bs : List Int) (w : World) (hin : InBytes w a n cap bs) (hn : n ≤ 20000) (hks : Seg .u32 w gk 0 kTab) (hgk : gk < w.heap.size) :
    Calls Tryd.prog 29 #[tabV gk ck, .int .i64 k, .slice a n cap] w (OfPost w k bs) := by
  have hs : ∀ W, Below w.heap.size w W → Calls Tryd.prog 55 #[.agg (Value.slice (some ⟨gk, 0, none⟩) 64 ck :: hTab.map (Value.int .u32)).toArray, .slice a n cap] W (SumPost W bs) :=
    fun W hW => refSum_any a n cap gk ck bs W (hin.below hW) hn (hks.below hW hgk) (Nat.lt_of_lt_of_le hgk hW.size)
  have HS := Lib.hid hs
  have hk3 : (k : Int) ≤ 32 := by omega
  have hk4 : (0 : Int) ≤ (k : Int) := by omega
  clear hin hks hs
  unfold tabV
  go_enter Tryd.func29, Tryd.ntmps29
  go_wp2_with (first
    | (refine wpList_load_row rfl 36 (.tmp 3) rfl w.heap.size rfl 36 _ _ _ (heap_alloc_new w _) Tryd.underlying36 rfl (by kernel_rfl) ?_)
    | (go_at_call 55
       (with_reducible refine (HS.out _ ?_).mono ?_)
       · exact (Below.refl _ _).alloc (Nat.le_refl _) _
       rintro _ w1 ⟨g1, hg1, rfl, hr1, hb1⟩
       have H1 := Lib.hid (And.intro hg1 (And.intro hr1 hb1))
       clear hg1 hr1 hb1))
  go_ret
  obtain ⟨hg1, hr1, hb1⟩ := H1.out
  refine ⟨g1, ?_, rfl, hr1, ?_⟩
  · have h := hg1
    simp at h
    omega
  · exact ((Below.refl w.heap.size w).alloc (Nat.le_refl _) _).trans (hb1.mono (by simp))
end Go.Proofs.YtioifkbkllnkgaaDoor
