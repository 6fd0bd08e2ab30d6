/- The contracts of the program's trees: Digest. -/
import Derived.Test.YtcplfpnaepdddaaDoorPrTreeC
namespace Go.Proofs.YtcplfpnaepdddaaDoor
open Go.RowKit
set_option linter.unusedVariables false

theorem fits_dig {k : Nat} (hk : k ≤ 32) : ∀ t : Tr, formedT t = true → (allT (fitsK k) t = true ↔ ∃ zs, digT k t = some zs) := by
  intro t
  induction t using Tr.ind with
  | h t ih =>
  intro hf
  obtain ⟨hp, hkf⟩ := formed_kids hf
  rw [allT_eq, Bool.and_eq_true]
  rcases part_kids hp with ⟨h0, h | h⟩ | ⟨h2, h⟩
  · have e : t.kids = [] := List.length_eq_zero_iff.1 h0
    rw [digT_0 h, e]
    simp [fitsK, toldK, h]
  · have e : t.kids = [] := List.length_eq_zero_iff.1 h0
    rw [digT_3 h, e]
    simp [fitsK, toldK, h]
  · have n0 : t.k ≠ 0 := by omega
    have n3 : t.k ≠ 3 := by omega
    have i0 := ih _ (List.getElem_mem (by omega : 0 < t.kids.length)) (hkf 0 (by omega))
    have i1 := ih _ (List.getElem_mem (by omega : 1 < t.kids.length)) (hkf 1 (by omega))
    have ev : fitsK k t = true ↔ (valT k t).length = k := by
      unfold fitsK toldK valT
      rcases h with h | h
      · rw [if_pos h]
        simp [h, take_sum_len hk]
      · rw [if_neg (by omega)]
        simp [h]
    have ek : t.kids.all (allT (fitsK k)) = true ↔ allT (fitsK k) (t.kids[0]'(by omega)) = true ∧ allT (fitsK k) (t.kids[1]'(by omega)) = true := by
      rw [List.all_eq_true]
      constructor
      · exact fun hh => ⟨hh _ (List.getElem_mem _), hh _ (List.getElem_mem _)⟩
      · intro hh x hx
        obtain ⟨i, hi, rfl⟩ := List.getElem_of_mem hx
        rcases (by omega : i = 0 ∨ i = 1) with rfl | rfl
        · exact hh.1
        · exact hh.2
    rw [ev, ek, i0, i1]
    constructor
    · rintro ⟨hv, ⟨l, hl⟩, ⟨r, hr⟩⟩
      rw [digT_node n0 n3 hv h2, hl, hr]
      exact ⟨_, rfl⟩
    · rintro ⟨zs, hz⟩
      obtain ⟨hv, l, r, hl, hr, -⟩ := digT_split n0 n3 h2 hz
      exact ⟨hv, ⟨l, hl⟩, ⟨r, hr⟩⟩
theorem fits_none {k : Nat} (hk : k ≤ 32) {t : Tr} (hf : formedT t = true) (hd : digT k t = none) : allT (fitsK k) t = false := by
  rw [Bool.eq_false_iff]
  intro h
  obtain ⟨zs, hz⟩ := (fits_dig hk t hf).1 h
  rw [hd] at hz
  cases hz

set_option maxRecDepth 100000 in
set_option maxHeartbeats 4000000 in
theorem digest_arg (x : Int) (t : Tr) (h : TH) (w : World) (ht : InTree w h t) (hx1 : -9223372036854775808 ≤ x) (hxx : x ≤ 9223372036854775807) (hx : ¬ (1 ≤ x ∧ x ≤ 32)) :
    Calls Tryd.prog 17 #[.int .i64 x, h.v] w (ErrPost w 1) := by
  unfold TH.v
  have hb1 : Below w.heap.size w (w.alloc (.cells #[.int .i64 x] 3)) := (Below.refl _ _).alloc (Nat.le_refl _) _
  have hv1 := Var1.new w 3 (.int .i64 x)
  have hs1 : (w.alloc (.cells #[.int .i64 x] 3)).heap.size = w.heap.size + 1 := by simp
  have hb2 : Below w.heap.size w ((w.alloc (.cells #[.int .i64 x] 3)).alloc (.cells #[.int .i64 h.k, .slice h.ka h.kn h.kc, .slice h.va h.vn h.vc, .slice h.da h.dn h.dc, .slice h.ta h.tn h.tc] 25)) := hb1.alloc (by rw [hs1]; omega) _
  have hv2 := hv1.below ((Below.refl _ _).alloc (Nat.le_refl _) (.cells #[.int .i64 h.k, .slice h.ka h.kn h.kc, .slice h.va h.vn h.vc, .slice h.da h.dn h.dc, .slice h.ta h.tn h.tc] 25)) hv1.lt
  have hx2 := Box.new (w.alloc (.cells #[.int .i64 x] 3)) 25 h
  rw [hs1] at hx2
  clear hb1 hv1 hs1
  go_enter Tryd.func17, Tryd.ntmps17
  go_upto_region 1 with fail
  generalize ((w.alloc (.cells #[.int .i64 x] 3)).alloc (.cells #[.int .i64 h.k, .slice h.ka h.kn h.kc, .slice h.va h.vn h.vc, .slice h.da h.dn h.dc, .slice h.ta h.tn h.tc] 25)) = w2 at *
  have xv := hv2.cell
  obtain ⟨x0, x1, x2, x3, x4⟩ := hx2.cells
  have HB2 := Lib.hid hb2
  have HV2 := Lib.hid hv2
  have HX2 := Lib.hid hx2
  clear hb2 hv2 hx2
  by_cases hq : x < 1
  · go_wp2_with fail
    go_ret2
    exact ⟨none, 0, rfl, HB2.out⟩
  · have hq2 : 32 < x := by omega
    go_wp2_with fail
    go_ret2
    exact ⟨none, 0, rfl, HB2.out⟩

set_option maxRecDepth 100000 in
set_option maxHeartbeats 4000000 in
theorem digest_err (k : Nat) (hk1 : 1 ≤ k) (hk2 : k ≤ 32) (t : Tr) (h : TH) (w : World) (ht : InTree w h t) (hc : checkT t ≠ 0) :
    Calls Tryd.prog 17 #[.int .i64 k, h.v] w (ErrPost w (checkT t)) := by
  have HTT := Lib.hid ht
  have HCZ := Lib.hid hc
  clear ht hc
  unfold TH.v
  have hb1 : Below w.heap.size w (w.alloc (.cells #[.int .i64 k] 3)) := (Below.refl _ _).alloc (Nat.le_refl _) _
  have hv1 := Var1.new w 3 (.int .i64 k)
  have hs1 : (w.alloc (.cells #[.int .i64 k] 3)).heap.size = w.heap.size + 1 := by simp
  have hb2 : Below w.heap.size w ((w.alloc (.cells #[.int .i64 k] 3)).alloc (.cells #[.int .i64 h.k, .slice h.ka h.kn h.kc, .slice h.va h.vn h.vc, .slice h.da h.dn h.dc, .slice h.ta h.tn h.tc] 25)) := hb1.alloc (by rw [hs1]; omega) _
  have hv2 := hv1.below ((Below.refl _ _).alloc (Nat.le_refl _) (.cells #[.int .i64 h.k, .slice h.ka h.kn h.kc, .slice h.va h.vn h.vc, .slice h.da h.dn h.dc, .slice h.ta h.tn h.tc] 25)) hv1.lt
  have hx2 := Box.new (w.alloc (.cells #[.int .i64 k] 3)) 25 h
  rw [hs1] at hx2
  clear hb1 hv1 hs1
  go_enter Tryd.func17, Tryd.ntmps17
  go_upto_region 1 with fail
  generalize ((w.alloc (.cells #[.int .i64 k] 3)).alloc (.cells #[.int .i64 h.k, .slice h.ka h.kn h.kc, .slice h.va h.vn h.vc, .slice h.da h.dn h.dc, .slice h.ta h.tn h.tc] 25)) = w2 at *
  have xv := hv2.cell
  obtain ⟨x0, x1, x2, x3, x4⟩ := hx2.cells
  have HB2 := Lib.hid hb2
  have HV2 := Lib.hid hv2
  have HX2 := Lib.hid hx2
  clear hb2 hv2 hx2
  have q1 : ¬ (k : Int) < 1 := by omega
  have q2 : ¬ (32 : Int) < k := by omega
  go_wp2_with (first
    | (go_at_call 10
       refine (check_any t h _ (HTT.out.lower HB2.out)).mono ?_
       rintro _ w3 ⟨rfl, hb3⟩
       have HB3 : Hid (Below w.heap.size w w3) := Lib.hid (HB2.out.trans (hb3.mono HB2.out.size))
       have HV3 := Lib.hid (HV2.out.below hb3 HV2.out.lt)
       have HX3 := Lib.hid (HX2.out.below hb3 HX2.out.lt)
       rw [codeV_pos HCZ.out]
       clear xv x0 x1 x2 x3 x4 hb3))
  go_ret2
  exact ⟨none, 0, by rw [codeV_pos HCZ.out]; rfl, HB3.out⟩

set_option maxRecDepth 100000 in
set_option maxHeartbeats 4000000 in
theorem digest_none (k : Nat) (hk1 : 1 ≤ k) (hk2 : k ≤ 32) (t : Tr) (h : TH) (w : World) (ht : InTree w h t) (hT : TabLies w) (hc : checkT t = 0) (hd : digT k t = none) :
    Calls Tryd.prog 17 #[.int .i64 k, h.v] w (ErrPost w 3) := by
  have HTT := Lib.hid ht
  have HFI := Lib.hid (fits_none hk2 (check_zero hc).1 hd)
  have HCZ := Lib.hid hc
  clear ht hc hd hT
  unfold TH.v
  have hb1 : Below w.heap.size w (w.alloc (.cells #[.int .i64 k] 3)) := (Below.refl _ _).alloc (Nat.le_refl _) _
  have hv1 := Var1.new w 3 (.int .i64 k)
  have hs1 : (w.alloc (.cells #[.int .i64 k] 3)).heap.size = w.heap.size + 1 := by simp
  have hb2 : Below w.heap.size w ((w.alloc (.cells #[.int .i64 k] 3)).alloc (.cells #[.int .i64 h.k, .slice h.ka h.kn h.kc, .slice h.va h.vn h.vc, .slice h.da h.dn h.dc, .slice h.ta h.tn h.tc] 25)) := hb1.alloc (by rw [hs1]; omega) _
  have hv2 := hv1.below ((Below.refl _ _).alloc (Nat.le_refl _) (.cells #[.int .i64 h.k, .slice h.ka h.kn h.kc, .slice h.va h.vn h.vc, .slice h.da h.dn h.dc, .slice h.ta h.tn h.tc] 25)) hv1.lt
  have hx2 := Box.new (w.alloc (.cells #[.int .i64 k] 3)) 25 h
  rw [hs1] at hx2
  clear hb1 hv1 hs1
  go_enter Tryd.func17, Tryd.ntmps17
  go_upto_region 1 with fail
  generalize ((w.alloc (.cells #[.int .i64 k] 3)).alloc (.cells #[.int .i64 h.k, .slice h.ka h.kn h.kc, .slice h.va h.vn h.vc, .slice h.da h.dn h.dc, .slice h.ta h.tn h.tc] 25)) = w2 at *
  have xv := hv2.cell
  obtain ⟨x0, x1, x2, x3, x4⟩ := hx2.cells
  have HB2 := Lib.hid hb2
  have HV2 := Lib.hid hv2
  have HX2 := Lib.hid hx2
  clear hb2 hv2 hx2
  have q1 : ¬ (k : Int) < 1 := by omega
  have q2 : ¬ (32 : Int) < k := by omega
  have hmf : ∀ (fn : Fn) (first cap : Array Value) (w : World), (Instr.makeFunc fn first cap).run Tryd.prog w = .ok (.func fn first cap) w := fun _ _ _ _ => rfl
  go_upto_region 6 with (first
    | (go_at_call 10
       refine (check_any t h _ (HTT.out.lower HB2.out)).mono ?_
       rintro _ w3 ⟨rfl, hb3⟩
       have HB3 : Hid (Below w.heap.size w w3) := Lib.hid (HB2.out.trans (hb3.mono HB2.out.size))
       have HV3 := Lib.hid (HV2.out.below hb3 HV2.out.lt)
       have HX3 := Lib.hid (HX2.out.below hb3 HX2.out.lt)
       have hcv : codeV (checkT t) = .nilIface := by rw [HCZ.out]; rfl
       rw [hcv]
       clear hcv
       clear xv x0 x1 x2 x3 x4 hb3))
  obtain ⟨x0, x1, x2, x3, x4⟩ := HX3.out.cells
  go_upto_if 25 with (first
    | (go_at_call 27
       refine (everyFits k w.heap.size t h _ (HTT.out.lower HB3.out) HV3.out).mono ?_
       rintro _ w4 ⟨rfl, hb4⟩
       have HB4 : Hid (Below w.heap.size w w4) := Lib.hid (HB3.out.trans (hb4.mono HB3.out.size))
       have HV4 := Lib.hid (HV3.out.below hb4 HV3.out.lt)
       have HX4 := Lib.hid (HX3.out.below hb4 HX3.out.lt)
       rw [HFI.out]
       clear hb4))
  clear x0 x1 x2 x3 x4
  go_wp2_with fail
  go_ret2
  exact ⟨none, 0, rfl, HB4.out⟩

set_option maxRecDepth 100000 in
set_option maxHeartbeats 4000000 in
theorem digest_ok (k : Nat) (hk1 : 1 ≤ k) (hk2 : k ≤ 32) (t : Tr) (h : TH) (w : World) (ht : InTree w h t) (hT : TabLies w) (hc : checkT t = 0) {zs : List Int} (hd : digT k t = some zs) :
    Calls Tryd.prog 17 #[.int .i64 k, h.v] w (BytesPost w zs) := by
  have HTT := Lib.hid ht
  have HT := Lib.hid hT
  have HFI := Lib.hid ((fits_dig hk2 t (check_zero hc).1).2 ⟨zs, hd⟩)
  have HCZ := Lib.hid hc
  have HDG := Lib.hid hd
  clear ht hc hd hT
  unfold TH.v
  have hb1 : Below w.heap.size w (w.alloc (.cells #[.int .i64 k] 3)) := (Below.refl _ _).alloc (Nat.le_refl _) _
  have hv1 := Var1.new w 3 (.int .i64 k)
  have hs1 : (w.alloc (.cells #[.int .i64 k] 3)).heap.size = w.heap.size + 1 := by simp
  have hb2 : Below w.heap.size w ((w.alloc (.cells #[.int .i64 k] 3)).alloc (.cells #[.int .i64 h.k, .slice h.ka h.kn h.kc, .slice h.va h.vn h.vc, .slice h.da h.dn h.dc, .slice h.ta h.tn h.tc] 25)) := hb1.alloc (by rw [hs1]; omega) _
  have hv2 := hv1.below ((Below.refl _ _).alloc (Nat.le_refl _) (.cells #[.int .i64 h.k, .slice h.ka h.kn h.kc, .slice h.va h.vn h.vc, .slice h.da h.dn h.dc, .slice h.ta h.tn h.tc] 25)) hv1.lt
  have hx2 := Box.new (w.alloc (.cells #[.int .i64 k] 3)) 25 h
  rw [hs1] at hx2
  clear hb1 hv1 hs1
  go_enter Tryd.func17, Tryd.ntmps17
  go_upto_region 1 with fail
  generalize ((w.alloc (.cells #[.int .i64 k] 3)).alloc (.cells #[.int .i64 h.k, .slice h.ka h.kn h.kc, .slice h.va h.vn h.vc, .slice h.da h.dn h.dc, .slice h.ta h.tn h.tc] 25)) = w2 at *
  have xv := hv2.cell
  obtain ⟨x0, x1, x2, x3, x4⟩ := hx2.cells
  have HB2 := Lib.hid hb2
  have HV2 := Lib.hid hv2
  have HX2 := Lib.hid hx2
  clear hb2 hv2 hx2
  have q1 : ¬ (k : Int) < 1 := by omega
  have q2 : ¬ (32 : Int) < k := by omega
  have hmf : ∀ (fn : Fn) (first cap : Array Value) (w : World), (Instr.makeFunc fn first cap).run Tryd.prog w = .ok (.func fn first cap) w := fun _ _ _ _ => rfl
  go_upto_region 6 with (first
    | (go_at_call 10
       refine (check_any t h _ (HTT.out.lower HB2.out)).mono ?_
       rintro _ w3 ⟨rfl, hb3⟩
       have HB3 : Hid (Below w.heap.size w w3) := Lib.hid (HB2.out.trans (hb3.mono HB2.out.size))
       have HV3 := Lib.hid (HV2.out.below hb3 HV2.out.lt)
       have HX3 := Lib.hid (HX2.out.below hb3 HX2.out.lt)
       have hcv : codeV (checkT t) = .nilIface := by rw [HCZ.out]; rfl
       rw [hcv]
       clear hcv
       clear xv x0 x1 x2 x3 x4 hb3))
  obtain ⟨x0, x1, x2, x3, x4⟩ := HX3.out.cells
  go_upto_if 25 with (first
    | (go_at_call 27
       refine (everyFits k w.heap.size t h _ (HTT.out.lower HB3.out) HV3.out).mono ?_
       rintro _ w4 ⟨rfl, hb4⟩
       have HB4 : Hid (Below w.heap.size w w4) := Lib.hid (HB3.out.trans (hb4.mono HB3.out.size))
       have HV4 := Lib.hid (HV3.out.below hb4 HV3.out.lt)
       have HX4 := Lib.hid (HX3.out.below hb4 HX3.out.lt)
       rw [HFI.out]
       clear hb4))
  clear x0 x1 x2 x3 x4
  go_upto_region 10 with fail
  have hb5 : Below w4.heap.size w4 (w4.alloc (.cells #[.nilFunc] 54)) := (Below.refl _ _).alloc (Nat.le_refl _) _
  have hnf := Var1.new w4 54 .nilFunc
  have hbx := HX4.out.below hb5 HX4.out.lt
  have hvw := HV4.out.below hb5 HV4.out.lt
  have hsz := HB4.out.size
  generalize w4.alloc (.cells #[.nilFunc] 54) = w5 at *
  have c0 := hnf.cell
  have c1 := hnf.frozen 0
  have hne : w.heap.size + 1 ≠ w4.heap.size := Nat.ne_of_lt HX4.out.lt
  have hne2 : w.heap.size ≠ w4.heap.size := Nat.ne_of_lt HV4.out.lt
  have hn6 := hnf.set (.func (.func 35) #[] #[.pointer (some ⟨w.heap.size, 0, none⟩), .pointer (some ⟨w4.heap.size, 0, none⟩)])
  have hbx6 : Box (w5.setCell ⟨w4.heap.size, 0, none⟩ (.func (.func 35) #[] #[.pointer (some ⟨w.heap.size, 0, none⟩), .pointer (some ⟨w4.heap.size, 0, none⟩)])) 25 (w.heap.size + 1) h := (Below.heap_setCell w5 ⟨w4.heap.size, 0, none⟩ _ (w.heap.size + 1) hne).trans hbx
  have hvw6 := hvw.far (p := ⟨w4.heap.size, 0, none⟩) hne2 (.func (.func 35) #[] #[.pointer (some ⟨w.heap.size, 0, none⟩), .pointer (some ⟨w4.heap.size, 0, none⟩)])
  have hb6 : Below w4.heap.size w4 (w5.setCell ⟨w4.heap.size, 0, none⟩ (.func (.func 35) #[] #[.pointer (some ⟨w.heap.size, 0, none⟩), .pointer (some ⟨w4.heap.size, 0, none⟩)])) := hb5.setCell (Nat.le_refl _) _
  clear hnf hbx hb5 hne hne2 hvw
  generalize w4.heap.size = gc at *
  go_upto_region 11 with fail
  generalize (w5.setCell ⟨gc, 0, none⟩ (.func (.func 35) #[] #[.pointer (some ⟨w.heap.size, 0, none⟩), .pointer (some ⟨gc, 0, none⟩)])) = w6 at *
  obtain ⟨x0, x1, x2, x3, x4⟩ := hbx6.cells
  have c2 := hn6.cell
  have HN := Lib.hid hn6
  have HW6 := Lib.hid hvw6
  have HB6 : Hid (Below w.heap.size w w6) := Lib.hid (HB4.out.trans (hb6.mono hsz))
  clear c0 c1 hbx6 hb6 hn6 hsz hvw6
  go_wp2_with (first
    | (go_at_call 35
       refine (digC_any k hk1 hk2 t h _ w.heap.size gc (HTT.out.lower HB6.out) (HT.out.below HB6.out (Nat.le_refl _)) (check_zero HCZ.out).1 HW6.out HN.out zs HDG.out).mono ?_
       rintro _ w7 ⟨a7, c7, rfl, hn7, hb7⟩
       have HB7 : Hid (Below w.heap.size w w7) := Lib.hid (HB6.out.trans (hb7.mono HB6.out.size))
       have HN7 : Hid (NewB w w7 a7 zs.length c7 zs) := Lib.hid ⟨hn7.inb, fun ad hh => Nat.le_trans HB6.out.size (hn7.new ad hh), hn7.free⟩
       clear hb7 hn7))
  go_ret2
  exact ⟨a7, c7, rfl, HN7.out, HB7.out⟩
end Go.Proofs.YtcplfpnaepdddaaDoor
