/- The contract of the document's below. -/
import Derived.Test.YtdmfjnohkpiaiaaDoorMadeA
import Derived.Deep.QuietTactic
import Derived.BigQuiet
namespace Go.Proofs.YtdmfjnohkpiaiaaDoor
open Go.RowKit
set_option linter.unusedVariables false

theorem digs_u (y : Int) (h0 : 0 ≤ y) (h1 : y ≤ 68719476735) : U64s (digs y) := by
  intro z hz
  simp only [digs, List.mem_cons, List.not_mem_nil, or_false] at hz
  omega
theorem digs_row (w : World) (y : Int) : Row .u64 (w.alloc (.cells #[.int .u64 (y % 65536), .int .u64 (y / 65536 % 65536), .int .u64 (y / 4294967296)] 45)) 45 w.heap.size (digs y) := heap_alloc_new w _

/-- What stands behind the comparison's loop: the same for squares and cubes. -/
theorem cmp_next (z l : List Int) (m : Nat) (h : z.getD m 0 = l.getD m 0) : cmpL z l (m + 1) = cmpL z l m := by
  have : (z.getD m 0 != l.getD m 0) = false := by rw [h]; simp
  simp only [cmpL, this, Bool.false_eq_true, if_false]
theorem cmp_stop (z l : List Int) (m : Nat) (h : z.getD m 0 ≠ l.getD m 0) : cmpL z l (m + 1) = decide (z.getD m 0 < l.getD m 0) := by
  have : (z.getD m 0 != l.getD m 0) = true := by rw [bne_iff_ne]; exact h
  simp only [cmpL, this, if_true]

def BelowPost (w : World) (v : Bool) (e : Ending) (w' : World) : Prop := e = .returned (.bool v) ∧ Below w.heap.size w w'

set_option maxRecDepth 100000 in
set_option maxHeartbeats 2000000 in
theorem below_sq (y p : Int) (w : World) (h0 : 0 ≤ y) (h1 : y ≤ 68719476735) (hp : 0 ≤ p) (hp1 : p ≤ 1000) :
    Calls Tryd.prog 23 #[.int .u64 y, .int .u64 p, .bool false] w (BelowPost w (belowL y p false)) := by
  obtain ⟨i0, hi0, hz0, hz1, hz2⟩ := info_parts infoU64
  have ht : ∀ W, Row .u64 W 45 w.heap.size (digs y) → Calls Tryd.prog 30 #[.slice (some ⟨w.heap.size, 0, none⟩) 3 3, .slice (some ⟨w.heap.size, 0, none⟩) 3 3] W
      (fun e w' => e = .returned (.slice (some ⟨W.heap.size, 0, none⟩) 7 7) ∧ Row .u64 w' 45 W.heap.size (timesL (digs y) (digs y)) ∧ Below W.heap.size W w' ∧ w'.heap.size = W.heap.size + 1) := fun W hW =>
    times_any w.heap.size w.heap.size 3 3 3 3 (digs y) (digs y) W rfl rfl (by omega) (by omega) (digs_u y h0 h1) (digs_u y h0 h1) hW.seg hW.seg hW.lt hW.lt
  have hres : belowL y p false = cmpL (timesL (digs y) (digs y)) ((List.replicate 7 0).set 4 p) 7 := rfl
  have HD := Lib.hid (digs_row w y)
  have hl : (timesL (digs y) (digs y)).length = 7 := by exact timesL_length _ _
  have hu := timesL_u (digs y) (digs y)
  have hll : ((List.replicate 7 (0 : Int)).set 4 p).length = 7 := by simp
  have hlu : U64s ((List.replicate 7 (0 : Int)).set 4 p) := u64_set (u64_rep 7) 4 p hp (by omega)
  have HT := Lib.hid ht
  have HRES := Lib.hid hres
  have HL := Lib.hid hl
  have HU := Lib.hid hu
  have HLL := Lib.hid hll
  have HLU := Lib.hid hlu
  clear ht hres hl hu hll hlu
  go_enter Tryd.func23, Tryd.ntmps23
  go_wp2_with fail
  refine (HT.out _ HD.out).mono ?_
  rintro _ w1 ⟨rfl, hr1, hb1, hs1⟩
  have HD1 : Hid (Row .u64 w1 45 w.heap.size (digs y)) := Lib.hid (HD.out.below hb1 HD.out.lt)
  simp only [World.size_alloc] at hr1
  have HR1 := Lib.hid hr1
  have HB1 : Hid (Below w.heap.size w w1) := Lib.hid (((Below.refl _ _).alloc (Nat.le_refl _) _).trans (hb1.mono (by simp)))
  clear hr1 hb1 hs1
  have hsz : (w.heap.size + 1) < w1.heap.size := HR1.out.lt
  go_wp2_with (first
    | (at_make
       refine wpList_make_ints _ rfl (.tmp 28) (.tmp 28) 44 rfl 45 i0 .u64 Tryd.underlying44 hi0 hz0 hz1 .i64 .i64 7 7 7 rfl rfl rfl rfl (by rw [hz2]; omega) (by simp only [maxLen]; omega) ?_
       intro w3 hr3 hb3 hs3
       obtain ⟨z0, hc3⟩ := hr3.has 4 (by simp)
       have hf3 := hr3.frozen 4
       have HR3 := Lib.hid hr3
       have HB3 := Lib.hid hb3
       clear hr3 hb3 hs3))
  have hz4 : Row .u64 (w3.setCell ⟨w1.heap.size, 4, none⟩ (.int .u64 p)) 45 (w.heap.size + 1) (timesL (digs y) (digs y)) := by
    have h := HR1.out
    
    exact (h.below HB3.out h.lt).far (by have := h.lt; simp; omega) _
  have hl4 : Row .u64 (w3.setCell ⟨w1.heap.size, 4, none⟩ (.int .u64 p)) 45 w1.heap.size ((List.replicate 7 (0 : Int)).set 4 p) := HR3.out.set 4 p
  have hb4 : Below w.heap.size w (w3.setCell ⟨w1.heap.size, 4, none⟩ (.int .u64 p)) := (HB1.out.trans (HB3.out.mono HB1.out.size)).setCell HB1.out.size _
  obtain ⟨w4, hw4⟩ : ∃ w4, w4 = w3.setCell ⟨w1.heap.size, 4, none⟩ (.int .u64 p) := ⟨_, rfl⟩
  rw [← hw4] at hz4 hl4 hb4 ⊢
  have HZ4 := Lib.hid hz4
  have HL4 := Lib.hid hl4
  have HB4 := Lib.hid hb4
  clear hz4 hl4 hb4 hw4 hc3 hf3
  generalize hzz : timesL (digs y) (digs y) = z at *
  generalize hlim : ((List.replicate 7 (0 : Int)).set 4 p) = lim at *
  clear hzz hlim
  go_loopw [11] (fun i wx => ∃ m q : Nat, m ≤ 7 ∧ i = .int .i64 ((m : Int) - 1) ∧ cmpL z lim 7 = cmpL z lim m ∧ wx = w4.drewN q) (fun i _ => (intOf i + 1).toNat)
  case atStart => exact ⟨7, 0, by omega, rfl, rfl, rfl⟩
  case round =>
    obtain ⟨m, q, hm, rfl, hcmp, rfl⟩ := hrel
    have HCMP := Lib.hid hcmp
    clear hcmp
    by_cases hm0 : m = 0
    · subst hm0
      go_wp2_with fail
      go_ret
      refine ⟨?_, below_drewN HB4.out q⟩
      rw [HRES.out, HCMP.out]
      rfl
    · obtain ⟨k, rfl⟩ : ∃ k, m = k + 1 := ⟨m - 1, by omega⟩
      have c1 := HZ4.out.cellD k (by rw [HL.out]; omega)
      have c2 := HL4.out.cellD k (by rw [HLL.out]; omega)
      have u1 := u64_at HU.out k
      have u2 := u64_at HLU.out k
      have hn := cmp_next z lim k
      have hs := cmp_stop z lim k
      rw [show ((k + 1 : Nat) : Int) - 1 = (k : Int) by omega]
      generalize z.getD k 0 = x at *
      generalize lim.getD k 0 = v at *
      have HN := Lib.hid hn
      have HS := Lib.hid hs
      have kb : (k : Int) < 7 := by omega
      clear hn hs
      by_cases hxv : x = v
      · subst hxv
        go_wp2_with fail
        go_quiet (fail)
        go_wp2_with fail
        refine ⟨⟨k, q + nq, by omega, rfl, ?_, rfl⟩, by simp [intOf]⟩
        rw [HCMP.out, HN.out (by trivial)]
      · have hne : (x != v) = true := by rw [bne_iff_ne]; exact hxv
        have HXV := Lib.hid hxv
        clear hxv
        go_wp2_with fail
        go_quiet (fail)
        go_wp2_with fail
        go_quiet (fail)
        go_wp2_with fail
        go_ret
        refine ⟨?_, below_drewN (below_drewN (below_drewN HB4.out _) _) _⟩
        rw [HRES.out, HCMP.out, HS.out HXV.out]
        rfl

set_option maxRecDepth 100000 in
set_option maxHeartbeats 2000000 in
theorem below_cube (y p : Int) (w : World) (h0 : 0 ≤ y) (h1 : y ≤ 68719476735) (hp : 0 ≤ p) (hp1 : p ≤ 1000) :
    Calls Tryd.prog 23 #[.int .u64 y, .int .u64 p, .bool true] w (BelowPost w (belowL y p true)) := by
  obtain ⟨i0, hi0, hz0, hz1, hz2⟩ := info_parts infoU64
  have ht : ∀ W, Row .u64 W 45 w.heap.size (digs y) → Calls Tryd.prog 30 #[.slice (some ⟨w.heap.size, 0, none⟩) 3 3, .slice (some ⟨w.heap.size, 0, none⟩) 3 3] W
      (fun e w' => e = .returned (.slice (some ⟨W.heap.size, 0, none⟩) 7 7) ∧ Row .u64 w' 45 W.heap.size (timesL (digs y) (digs y)) ∧ Below W.heap.size W w' ∧ w'.heap.size = W.heap.size + 1) := fun W hW =>
    times_any w.heap.size w.heap.size 3 3 3 3 (digs y) (digs y) W rfl rfl (by omega) (by omega) (digs_u y h0 h1) (digs_u y h0 h1) hW.seg hW.seg hW.lt hW.lt
  have ht2 : ∀ W g, Row .u64 W 45 w.heap.size (digs y) → Row .u64 W 45 g (timesL (digs y) (digs y)) → Calls Tryd.prog 30 #[.slice (some ⟨g, 0, none⟩) 7 7, .slice (some ⟨w.heap.size, 0, none⟩) 3 3] W
      (fun e w' => e = .returned (.slice (some ⟨W.heap.size, 0, none⟩) 11 11) ∧ Row .u64 w' 45 W.heap.size (timesL (timesL (digs y) (digs y)) (digs y)) ∧ Below W.heap.size W w' ∧ w'.heap.size = W.heap.size + 1) := fun W g hW hg => by
    have h := times_any g w.heap.size 7 3 7 3 (timesL (digs y) (digs y)) (digs y) W (timesL_length _ _) rfl (by omega) (by omega) (timesL_u _ _) (digs_u y h0 h1) hg.seg hW.seg hg.lt hW.lt
    unfold TimesPost at h
    rw [timesL_length] at h
    exact h
  have HT2 := Lib.hid ht2
  have hres : belowL y p true = cmpL (timesL (timesL (digs y) (digs y)) (digs y)) ((List.replicate 11 0).set 6 p) 11 := rfl
  have HD := Lib.hid (digs_row w y)
  have hl : (timesL (timesL (digs y) (digs y)) (digs y)).length = 11 := by rw [timesL_length, timesL_length]; rfl
  have hu := timesL_u (timesL (digs y) (digs y)) (digs y)
  have hll : ((List.replicate 11 (0 : Int)).set 6 p).length = 11 := by simp
  have hlu : U64s ((List.replicate 11 (0 : Int)).set 6 p) := u64_set (u64_rep 11) 6 p hp (by omega)
  have HT := Lib.hid ht
  have HRES := Lib.hid hres
  have HL := Lib.hid hl
  have HU := Lib.hid hu
  have HLL := Lib.hid hll
  have HLU := Lib.hid hlu
  clear ht ht2 hres hl hu hll hlu
  go_enter Tryd.func23, Tryd.ntmps23
  go_wp2_with fail
  refine (HT.out _ HD.out).mono ?_
  rintro _ w1 ⟨rfl, hr1, hb1, hs1⟩
  have HD1 : Hid (Row .u64 w1 45 w.heap.size (digs y)) := Lib.hid (HD.out.below hb1 HD.out.lt)
  simp only [World.size_alloc] at hr1
  have HR1 := Lib.hid hr1
  have HB1 : Hid (Below w.heap.size w w1) := Lib.hid (((Below.refl _ _).alloc (Nat.le_refl _) _).trans (hb1.mono (by simp)))
  clear hr1 hb1 hs1
  go_wp2_with fail
  refine (HT2.out _ _ HD1.out HR1.out).mono ?_
  rintro _ w2 ⟨rfl, hr2, hb2, hs2⟩
  have HR2 := Lib.hid hr2
  have HB2 : Hid (Below w.heap.size w w2) := Lib.hid (HB1.out.trans (hb2.mono HB1.out.size))
  have hsz : w1.heap.size < w2.heap.size := by omega
  clear hr2 hb2 hs2
  go_wp2_with (first
    | (at_make
       refine wpList_make_ints _ rfl (.tmp 28) (.tmp 28) 44 rfl 45 i0 .u64 Tryd.underlying44 hi0 hz0 hz1 .i64 .i64 11 11 11 rfl rfl rfl rfl (by rw [hz2]; omega) (by simp only [maxLen]; omega) ?_
       intro w3 hr3 hb3 hs3
       obtain ⟨z0, hc3⟩ := hr3.has 6 (by simp)
       have hf3 := hr3.frozen 6
       have HR3 := Lib.hid hr3
       have HB3 := Lib.hid hb3
       clear hr3 hb3 hs3))
  have hz4 : Row .u64 (w3.setCell ⟨w2.heap.size, 6, none⟩ (.int .u64 p)) 45 w1.heap.size (timesL (timesL (digs y) (digs y)) (digs y)) := by
    have h := HR2.out
    
    exact (h.below HB3.out h.lt).far (by have := h.lt; simp; omega) _
  have hl4 : Row .u64 (w3.setCell ⟨w2.heap.size, 6, none⟩ (.int .u64 p)) 45 w2.heap.size ((List.replicate 11 (0 : Int)).set 6 p) := HR3.out.set 6 p
  have hb4 : Below w.heap.size w (w3.setCell ⟨w2.heap.size, 6, none⟩ (.int .u64 p)) := (HB2.out.trans (HB3.out.mono HB2.out.size)).setCell HB2.out.size _
  obtain ⟨w4, hw4⟩ : ∃ w4, w4 = w3.setCell ⟨w2.heap.size, 6, none⟩ (.int .u64 p) := ⟨_, rfl⟩
  rw [← hw4] at hz4 hl4 hb4 ⊢
  have HZ4 := Lib.hid hz4
  have HL4 := Lib.hid hl4
  have HB4 := Lib.hid hb4
  clear hz4 hl4 hb4 hw4 hc3 hf3
  generalize hzz : timesL (timesL (digs y) (digs y)) (digs y) = z at *
  generalize hlim : ((List.replicate 11 (0 : Int)).set 6 p) = lim at *
  clear hzz hlim
  go_loopw [11] (fun i wx => ∃ m q : Nat, m ≤ 11 ∧ i = .int .i64 ((m : Int) - 1) ∧ cmpL z lim 11 = cmpL z lim m ∧ wx = w4.drewN q) (fun i _ => (intOf i + 1).toNat)
  case atStart => exact ⟨11, 0, by omega, rfl, rfl, rfl⟩
  case round =>
    obtain ⟨m, q, hm, rfl, hcmp, rfl⟩ := hrel
    have HCMP := Lib.hid hcmp
    clear hcmp
    by_cases hm0 : m = 0
    · subst hm0
      go_wp2_with fail
      go_ret
      refine ⟨?_, below_drewN HB4.out q⟩
      rw [HRES.out, HCMP.out]
      rfl
    · obtain ⟨k, rfl⟩ : ∃ k, m = k + 1 := ⟨m - 1, by omega⟩
      have c1 := HZ4.out.cellD k (by rw [HL.out]; omega)
      have c2 := HL4.out.cellD k (by rw [HLL.out]; omega)
      have u1 := u64_at HU.out k
      have u2 := u64_at HLU.out k
      have hn := cmp_next z lim k
      have hs := cmp_stop z lim k
      rw [show ((k + 1 : Nat) : Int) - 1 = (k : Int) by omega]
      generalize z.getD k 0 = x at *
      generalize lim.getD k 0 = v at *
      have HN := Lib.hid hn
      have HS := Lib.hid hs
      have kb : (k : Int) < 11 := by omega
      clear hn hs
      by_cases hxv : x = v
      · subst hxv
        go_wp2_with fail
        go_quiet (fail)
        go_wp2_with fail
        refine ⟨⟨k, q + nq, by omega, rfl, ?_, rfl⟩, by simp [intOf]⟩
        rw [HCMP.out, HN.out (by trivial)]
      · have hne : (x != v) = true := by rw [bne_iff_ne]; exact hxv
        have HXV := Lib.hid hxv
        clear hxv
        go_wp2_with fail
        go_quiet (fail)
        go_wp2_with fail
        go_quiet (fail)
        go_wp2_with fail
        go_ret
        refine ⟨?_, below_drewN (below_drewN (below_drewN HB4.out _) _) _⟩
        rw [HRES.out, HCMP.out, HS.out HXV.out]
        rfl
end Go.Proofs.YtdmfjnohkpiaiaaDoor
