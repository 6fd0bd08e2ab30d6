/- The walk of the law CoderBack. -/
import Derived.Test.YtnjjihikjcfliaaCodReadsW
namespace Go.Proofs.Ytnjjihikjcfliaa
open Go.RowKit
set_option linter.unusedVariables false

/-- What f tells of 0, 1, .. k - 1, one behind the other; of i, i + 1, .. d of them. -/
def catTo (f : Nat → List Int) : Nat → List Int
  | 0 => []
  | k + 1 => catTo f k ++ f k
def catFrom (f : Nat → List Int) : Nat → Nat → List Int
  | _, 0 => []
  | i, d + 1 => f i ++ catFrom f (i + 1) d
theorem cat_join (f : Nat → List Int) : ∀ d i, catTo f i ++ catFrom f i d = catTo f (i + d)
  | 0, i => by simp [catFrom]
  | d + 1, i => by
    rw [catFrom, ← List.append_assoc, show catTo f i ++ f i = catTo f (i + 1) from rfl, cat_join f d (i + 1), show i + 1 + d = i + (d + 1) by omega]
theorem cat_all (f : Nat → List Int) (k : Nat) : catFrom f 0 k = catTo f k := by
  have h := cat_join f k 0
  rwa [Nat.zero_add, show catTo f 0 = [] from rfl, List.nil_append] at h
theorem cat_le (f : Nat → List Int) (m : Nat) : ∀ k, (∀ i, i < k → (f i).length ≤ m) → (catTo f k).length ≤ m * k
  | 0, _ => by simp [catTo]
  | k + 1, h => by
    have h1 := cat_le f m k (fun i hi => h i (by omega))
    have h2 := h k (by omega)
    rw [catTo, List.length_append, Nat.mul_succ]
    omega
theorem cat_bytes (f : Nat → List Int) : ∀ k, (∀ i, i < k → Bytes8 (f i)) → Bytes8 (catTo f k)
  | 0, _ => fun z hz => by cases hz
  | k + 1, h => fun z hz => (List.mem_append.1 hz).elim (cat_bytes f k (fun i hi => h i (by omega)) z) (h k (by omega) z)
theorem own_any {w : World} {base n : Nat} {t : TypeId} {v : Value} {zs : List Int} (h : w.ownsRow base t 1 v n (zs.map (Value.int .u8))) (hb : Bytes8 zs) : ∃ a c, v = .slice a n c ∧ InBytes w a n c zs := by
  have h0 := h
  rcases h.2 with ⟨rfl, rfl⟩ | ⟨g, c, cur, rfl, _⟩
  · have : zs = [] := by have := h.1; simpa using this
    subst this
    exact ⟨none, 0, rfl, none_in w⟩
  · exact ⟨some ⟨g, 0, none⟩, c, rfl, InBytes.of_own h0 hb⟩
theorem own_keep {w w' : World} {base n : Nat} {t : TypeId} {v : Value} {xs : List Value} (h : w.ownsRow base t 1 v n xs) (hb : Below w.heap.size w w') : w'.ownsRow base t 1 v n xs :=
  h.kept (only_below hb none) (by by_cases h : v.ownBlock = none; exact .inl h; exact .inr h)

set_option maxRecDepth 100000 in
set_option maxHeartbeats 20000000 in
theorem back_law (la : Option Addr) (ln lc : Nat) (z : Nat → Nat) (ma : Option Addr) (mn mc : Nat) (A : Nat → Option Addr) (L C : Nat → Nat) (B : Nat → List Int) (w : World)
    (hl : InSl w la ln lc 1 (fun i => .int .u64 (z i))) (hz : ∀ i, i < ln → z i < 18446744073709551616) (hm : InSl w ma mn mc 1 (fun i => .slice (A i) (L i) (C i))) (hB : ∀ i, i < mn → InBytes w (A i) (L i) (C i) (B i)) :
    Calls Try.prog 6 #[.slice la ln lc, .slice ma mn mc] w fun e w' => e = .returned (.bool true) ∧ Below w.heap.size w w' := by
  obtain ⟨i0, hi0, hz0, hz1, hz2⟩ := info_parts infoU8
  have hlle := hl.le
  have hlmax := hl.max
  have hmle := hm.le
  have hmmax := hm.max
  simp only [maxLen] at hlmax hmmax
  have HL := Lib.hid hl
  have HM := Lib.hid hm
  have HB := Lib.hid hB
  have HZ := Lib.hid hz
  have H248 := Lib.hid number248
  obtain ⟨nL, hnL⟩ : ∃ nL, nL = min ln 50 := ⟨_, rfl⟩
  obtain ⟨nM, hnM⟩ : ∃ nM, nM = min mn 50 := ⟨_, rfl⟩
  have hN9 : ∀ k, k ≤ nL → (catTo (fun i => numL (z i)) k).length ≤ 9 * k := fun k hk => cat_le _ 9 k (fun i hi => numL_le (hz i (by omega)))
  have hN8 : ∀ k, k ≤ nL → Bytes8 (catTo (fun i => numL (z i)) k) := fun k hk => cat_bytes _ k (fun i hi => numL_bytes (hz i (by omega)))
  have HN := Lib.hid (And.intro hN9 hN8)
  have hnl1 : nL ≤ ln := by omega
  have hnl2 : nL ≤ 50 := by omega
  have hnm1 : nM ≤ mn := by omega
  have hnm2 : nM ≤ 50 := by omega
  have HXL := Lib.hid hnL
  have HXM := Lib.hid hnM
  clear hl hm hB hz hN9 hN8 hnL hnM
  rcases Nat.lt_or_ge 50 ln with hcl | hcl <;> rcases Nat.lt_or_ge 50 mn with hcm | hcm
  all_goals
    go_enter Try.func6, Try.ntmps6
    go_wp2_with fail
    go_loopw [5, 6] (fun s5 s6 wx => ∃ i : Nat, i ≤ nL ∧ s6 = .int .i64 i ∧ wx.ownsRow w.heap.size 5 1 s5 (catTo (fun i => numL (z i)) i).length ((catTo (fun i => numL (z i)) i).map (Value.int .u8)) ∧ Below w.heap.size w wx) (fun _ s6 _ => nL - (intOf s6).toNat)
    case atStart => exact ⟨0, by omega, rfl, ⟨rfl, .inl ⟨rfl, rfl⟩⟩, Below.refl _ _⟩
    case round =>
      obtain ⟨i, hi, rfl, hown, hbw⟩ := hrel
      by_cases hlt : i < nL
      · have q1 : (i : Int) < (ln : Int) := by omega
        have q2 : (i : Int) < 50 := by omega
        obtain ⟨gl, off, rfl, hgl, hcl⟩ := HL.out.place (by omega)
        have hc0 := (hbw.cell (p := ⟨gl, off + i, none⟩) hgl).trans (hcl i (by omega))
        have hzi := HZ.out i (by omega)
        have h9 := HN.out.1 i hi
        have hnn := numL_le hzi
        have hnb := numL_bytes hzi
        have HO := Lib.hid hown
        have HW := Lib.hid hbw
        have hstep : catTo (fun i => numL (z i)) (i + 1) = catTo (fun i => numL (z i)) i ++ numL (z i) := rfl
        have HST := Lib.hid hstep
        have HNB := Lib.hid hnb
        have HNU := Lib.hid (fun W => number_any (z i) W hzi)
        generalize catTo (fun i => numL (z i)) i = xs at *
        clear hown hbw hcl hstep hnb hzi
        go_wp2_with (first
          | (go_at_call 9
             (with_reducible refine (HNU.out _).mono ?_)
             rintro _ w1 ⟨g1, c1, rfl, ho1, hb1⟩
             have HI1 := Lib.hid (InBytes.of_own ho1 HNB.out)
             have HO1 := Lib.hid (own_keep HO.out hb1)
             have HW1 : Hid (Below w.heap.size w w1) := Lib.hid (HW.out.trans (hb1.mono HW.out.size))
             clear ho1 hb1)
          | (at_builtin
             refine wpList_append_in rfl (.tmp 22) (.tmp 27) 23 rfl w.heap.size 5 i0 _ 1 Try.underlying23 hi0 hz0 hz1 hz2 rfl _ xs.length (xs.map (Value.int .u8)) rfl HO1.out (some ⟨g1, 0, none⟩) (numL (z i)).length c1 (numL (z i)) rfl HI1.out (by simp only [maxLen]; omega) (by omega) HW1.out.size ?_
             intro v2 w2 hown2 hg2 _
             have HO2 := Lib.hid hown2
             have HW2 : Hid (Below w.heap.size w w2) := Lib.hid (HW1.out.grown hg2 HW1.out.size (fun k hk => (HO1.out.lt k hk).1))
             clear hown2 hg2))
        refine ⟨⟨i + 1, by omega, by go_num, ?_, HW2.out⟩, by simp [intOf]; omega⟩
        rw [HST.out, List.length_append, List.map_append]
        exact HO2.out
      · obtain rfl : i = nL := by omega
        have HO := Lib.hid hown
        have HW := Lib.hid hbw
        have h9L := HN.out.1 i hi
        have h8L := HN.out.2 i hi
        have H8L := Lib.hid h8L
        have H9L := Lib.hid h9L
        clear hown hbw h8L h9L HN
        have hmin := HXL.out
        first
          | (have q1 : ¬ (i : Int) < (ln : Int) := by omega
             have q2 : decide ((i : Int) < (ln : Int)) = false := by simpa using q1
             clear hmin
             go_wp2_with fail)
          | (have q1 : (i : Int) < (ln : Int) := by omega
             have q2 : ¬ (i : Int) < 50 := by omega
             have q3 : decide ((i : Int) < 50) = false := by simpa using q2
             clear hmin
             go_wp2_with fail)
        go_loopw [5, 7] (fun s5 s7 wx => ∃ j : Nat, j ≤ nM ∧ s7 = .int .i64 j ∧ (∀ k, k < j → L k ≤ 1000) ∧ wx.ownsRow w.heap.size 5 1 s5 ((catTo (fun i => numL (z i)) i) ++ catTo (fun i => bytL (B i)) j).length (((catTo (fun i => numL (z i)) i) ++ catTo (fun i => bytL (B i)) j).map (Value.int .u8)) ∧ Below w.heap.size w wx) (fun _ s7 _ => nM - (intOf s7).toNat)
        case atStart => exact ⟨0, by omega, rfl, (fun k hk => by omega), by rw [show catTo (fun i => bytL (B i)) 0 = [] from rfl, List.append_nil]; exact HO.out, HW.out⟩
        case round =>
          obtain ⟨j, hj, rfl, hL, hown, hbw⟩ := hrel
          clear HO HW
          have hbl : ∀ k, k < mn → (B k).length = L k := fun k hk => (HB.out k hk).len
          have hb9 : ∀ k, k < mn → L k ≤ 1000 → (bytL (B k)).length ≤ 1009 := fun k hk h => by
            have h1 := hbl k hk
            have h2 := numL_le (v := (B k).length) (by omega)
            unfold bytL
            rw [List.length_append]
            omega
          have hM9 : (catTo (fun i => bytL (B i)) j).length ≤ 1009 * j := cat_le _ 1009 j (fun k hk => hb9 k (by omega) (hL k hk))
          by_cases hlt : j < nM
          · have q1 : (j : Int) < (mn : Int) := by omega
            have q2 : (j : Int) < 50 := by omega
            obtain ⟨gm, off, rfl, hgm, hcm⟩ := HM.out.place (by omega)
            have hc0 := (hbw.cell (p := ⟨gm, off + j, none⟩) hgm).trans (hcm j (by omega))
            have hin := HB.out j (by omega)
            have hbj := hb9 j (by omega)
            have hlj := hbl j (by omega)
            have hle := hin.le
            have hmx := hin.max
            simp only [maxLen] at hmx
            have hstep : catTo (fun i => bytL (B i)) (j + 1) = catTo (fun i => bytL (B i)) j ++ bytL (B j) := rfl
            have HST := Lib.hid hstep
            have HIN := Lib.hid hin
            have HO := Lib.hid hown
            have HW := Lib.hid hbw
            have HLJ := Lib.hid hL
            have h9L := H9L.out
            have hb8 := bytL_bytes hin.bytes (by omega)
            have HB8 := Lib.hid hb8
            by_cases hbig : 1000 < L j
            · have q3 : (1000 : Int) < (L j : Int) := by omega
              clear hown hbw hcm hstep hin hb8 hL hb9 hbl hM9
              go_wp2_with fail
              go_ret
              exact ⟨rfl, HW.out⟩
            · have q3 : ¬ (1000 : Int) < (L j : Int) := by omega
              have hbj2 := hbj (by omega)
              have HBY := Lib.hid (fun W hW => bytes_any (A j) (L j) (C j) (B j) W (HIN.out.below hW) (by omega))
              generalize catTo (fun i => bytL (B i)) j = ys at *
              generalize catTo (fun i => numL (z i)) i = xs at *
              clear hown hbw hcm hstep hin hb8 hL hb9 hbl hbj
              go_wp2_with (first
                | (go_at_call 11
                   (with_reducible refine (HBY.out _ HW.out).mono ?_)
                   rintro _ w1 ⟨g1, c1, rfl, ho1, hb1⟩
                   have HI1 := Lib.hid (InBytes.of_own ho1 HB8.out)
                   have HO1 := Lib.hid (own_keep HO.out hb1)
                   have HW1 : Hid (Below w.heap.size w w1) := Lib.hid (HW.out.trans (hb1.mono HW.out.size))
                   clear ho1 hb1)
                | (at_builtin
                   refine wpList_append_in rfl (.tmp 45) (.tmp 50) 23 rfl w.heap.size 5 i0 _ 1 Try.underlying23 hi0 hz0 hz1 hz2 rfl _ (xs ++ ys).length ((xs ++ ys).map (Value.int .u8)) rfl HO1.out (some ⟨g1, 0, none⟩) (bytL (B j)).length c1 (bytL (B j)) rfl HI1.out (by rw [List.length_append]; simp only [maxLen]; omega) (by rw [List.length_append]; omega) HW1.out.size ?_
                   intro v2 w2 hown2 hg2 _
                   have HO2 := Lib.hid hown2
                   have HW2 : Hid (Below w.heap.size w w2) := Lib.hid (HW1.out.grown hg2 HW1.out.size (fun k hk => (HO1.out.lt k hk).1))
                   clear hown2 hg2))
              refine ⟨⟨j + 1, by omega, by go_num, fun k hk => ?_, ?_, HW2.out⟩, by simp [intOf]; omega⟩
              · by_cases hkj : k < j
                · exact HLJ.out k hkj
                · obtain rfl : k = j := by omega
                  omega
              · have h := HO2.out
                rw [← List.length_append, ← List.map_append] at h
                rw [HST.out, ← List.append_assoc]
                exact h
          · obtain rfl : j = nM := by omega
            have h9L := H9L.out
            have hM8 : Bytes8 (catTo (fun i => bytL (B i)) j) := cat_bytes _ j (fun k hk => bytL_bytes (HB.out k (by omega)).bytes (by have := hbl k (by omega); have := hL k hk; omega))
            obtain ⟨a5, c5, rfl, hin5⟩ := own_any hown (fun x hx => (List.mem_append.1 hx).elim (H8L.out x) (hM8 x))
            have hall : catTo (fun i => numL (z i)) i ++ catTo (fun i => bytL (B i)) j = catFrom (fun i => numL (z i)) 0 i ++ catFrom (fun i => bytL (B i)) 0 j := by rw [cat_all, cat_all]
            have hlen5 : (catTo (fun i => numL (z i)) i ++ catTo (fun i => bytL (B i)) j).length ≤ 100000 := by rw [List.length_append]; omega
            generalize (catTo (fun i => numL (z i)) i ++ catTo (fun i => bytL (B i)) j).length = n5 at *
            have hnw := newReader_any _ _ _ _ _ hin5 (by omega)
            rw [hall] at hnw
            have HNW := Lib.hid hnw
            have HW := Lib.hid hbw
            have HLL := Lib.hid hL
            clear hown hin5 hbw hall hnw hL hb9 hM9 hM8 h9L H9L H8L hlen5
            have hmin := HXM.out
            first
              | (have q1 : ¬ (j : Int) < (mn : Int) := by omega
                 have q2 : decide ((j : Int) < (mn : Int)) = false := by simpa using q1
                 clear hmin
                 go_wp2_with (first
                   | (go_at_call 13
                      (with_reducible refine HNW.out.mono ?_)
                      rintro _ w3 ⟨g3, gb3, rfl, hg3, hgb3, hpr3, hb3⟩
                      have HP3 := Lib.hid hpr3
                      have HW3 : Hid (Below w.heap.size w w3) := Lib.hid (HW.out.trans (hb3.mono HW.out.size))
                      have hge3 := Nat.le_trans HW.out.size hg3
                      clear hpr3 hb3 hgb3 hg3)
                   | (go_at_call 9
                      (with_reducible refine (H248.out _).mono ?_)
                      rintro _ w4 ⟨g4, c4, rfl, hc4, hb4⟩
                      have HP4 := Lib.hid (HP3.out.grown (only_below hb4 none) (by simp) (by simp))
                      have HW4 : Hid (Below w.heap.size w w4) := Lib.hid (HW3.out.trans (hb4.mono HW3.out.size))
                      clear hb4)))
              | (have q1 : (j : Int) < (mn : Int) := by omega
                 have q2 : ¬ (j : Int) < 50 := by omega
                 have q3 : decide ((j : Int) < 50) = false := by simpa using q2
                 clear hmin
                 go_wp2_with (first
                   | (go_at_call 13
                      (with_reducible refine HNW.out.mono ?_)
                      rintro _ w3 ⟨g3, gb3, rfl, hg3, hgb3, hpr3, hb3⟩
                      have HP3 := Lib.hid hpr3
                      have HW3 : Hid (Below w.heap.size w w3) := Lib.hid (HW.out.trans (hb3.mono HW.out.size))
                      have hge3 := Nat.le_trans HW.out.size hg3
                      clear hpr3 hb3 hgb3 hg3)
                   | (go_at_call 9
                      (with_reducible refine (H248.out _).mono ?_)
                      rintro _ w4 ⟨g4, c4, rfl, hc4, hb4⟩
                      have HP4 := Lib.hid (HP3.out.grown (only_below hb4 none) (by simp) (by simp))
                      have HW4 : Hid (Below w.heap.size w w4) := Lib.hid (HW3.out.trans (hb4.mono HW3.out.size))
                      clear hb4)))
            have hconv : ∀ (W : World) (a : Option Addr) (n c : Nat) (bs : List Int), InBytes W a n c bs → (convert 23 9 (.slice a n c)).run Try.prog W = .ok (.string (strOfNums bs)) W := fun W a n c bs h => conv_in (P := Try.prog) h 23 5 9 Try.underlying23 Try.underlying5 Try.underlying9
            have HCONV := Lib.hid hconv
            clear hconv HP3 HW3 HW HNW hc4
            go_loopw [9] (fun s9 wx => ∃ k : Nat, k ≤ i ∧ s9 = .int .i64 k ∧ PR wx g3 gb3 (some (catFrom (fun i => numL (z i)) k (i - k) ++ catFrom (fun i => bytL (B i)) 0 j)) ∧ Below w.heap.size w wx) (fun s9 _ => i - (intOf s9).toNat)
            case atStart => exact ⟨0, by omega, rfl, by rw [Nat.sub_zero]; exact HP4.out, HW4.out⟩
            case round =>
              obtain ⟨k, hk, rfl, hpr, hbw⟩ := hrel
              clear HP4 HW4
              by_cases hlt3 : k < i
              · have p1 : (k : Int) < (ln : Int) := by omega
                have p2 : (k : Int) < 50 := by omega
                obtain ⟨gl, off, rfl, hgl, hcl0⟩ := HL.out.place (by omega)
                have HC : Hid (∀ W, Below w.heap.size w W → W.cell? ⟨gl, off + k, none⟩ = some (.int .u64 (z k))) := Lib.hid fun W hW => (hW.cell (p := ⟨gl, off + k, none⟩) hgl).trans (hcl0 k (by omega))
                have hzk := HZ.out k (by omega)
                have hst : catFrom (fun i => numL (z i)) k (i - k) ++ catFrom (fun i => bytL (B i)) 0 j = numL (z k) ++ (catFrom (fun i => numL (z i)) (k + 1) (i - (k + 1)) ++ catFrom (fun i => bytL (B i)) 0 j) := by
                  rw [show i - k = (i - (k + 1)) + 1 by omega, catFrom, List.append_assoc]
                rw [hst] at hpr
                have hrd := rdNum_numL hzk (catFrom (fun i => numL (z i)) (k + 1) (i - (k + 1)) ++ catFrom (fun i => bytL (B i)) 0 j)
                have HRD := Lib.hid hrd
                have HP := Lib.hid hpr
                have HBW := Lib.hid hbw
                have hcd := HC.out wr.drew hbw.drew
                clear hst hrd hpr hbw hcl0
                go_wp2_with fail
                go_region_with (first
                  | (go_at_call 15
                     (with_reducible refine (rdNumber_any _ _ _ _ HP.out.drew).mono ?_)
                     rintro _ wa ⟨rfl, hpa, hga⟩
                     have hrd := HRD.out
                     rw [hrd] at hpa ⊢
                     have HPA := Lib.hid hpa
                     have hga' : wr.grownBy wa (some g3) := ⟨hga.os, hga.tape, hga.output, hga.size, hga.block⟩
                     have HWA : Hid (Below w.heap.size w wa) := Lib.hid (below_only HBW.out hga' HBW.out.size hge3)
                     have hca := HC.out wa HWA.out
                     clear hpa hga hga' hrd))
                all_goals
                  go_wp2_with fail
                  exact ⟨⟨k + 1, by omega, by go_num, HPA.out, HWA.out⟩, by simp [intOf]; omega⟩
              · obtain rfl : k = i := by omega
                rw [Nat.sub_self, show catFrom (fun i => numL (z i)) k 0 = [] from rfl, List.nil_append] at hpr
                have HP5 := Lib.hid hpr
                have HW5 := Lib.hid hbw
                clear hpr hbw
                have hmin := HXL.out
                first
                  | (have p1 : ¬ (k : Int) < (ln : Int) := by omega
                     have p2 : decide ((k : Int) < (ln : Int)) = false := by simpa using p1
                     clear hmin
                     go_wp2_with fail)
                  | (have p1 : (k : Int) < (ln : Int) := by omega
                     have p2 : ¬ (k : Int) < 50 := by omega
                     have p3 : decide ((k : Int) < 50) = false := by simpa using p2
                     clear hmin
                     go_wp2_with fail)
                go_loopw [10] (fun s10 wx => ∃ k : Nat, k ≤ j ∧ s10 = .int .i64 k ∧ PR wx g3 gb3 (some (catFrom (fun i => bytL (B i)) k (j - k))) ∧ Below w.heap.size w wx) (fun s10 _ => j - (intOf s10).toNat)
                case atStart => exact ⟨0, by omega, rfl, by rw [Nat.sub_zero]; exact HP5.out, HW5.out⟩
                case round =>
                  obtain ⟨q, hq, rfl, hpr, hbw⟩ := hrel
                  clear HP5 HW5
                  by_cases hlt4 : q < j
                  · have p4 : (q : Int) < (mn : Int) := by omega
                    have p5 : (q : Int) < 50 := by omega
                    obtain ⟨gm, off, rfl, hgm, hcm0⟩ := HM.out.place (by omega)
                    have HC : Hid (∀ W, Below w.heap.size w W → W.cell? ⟨gm, off + q, none⟩ = some (.slice (A q) (L q) (C q))) := Lib.hid fun W hW => (hW.cell (p := ⟨gm, off + q, none⟩) hgm).trans (hcm0 q (by omega))
                    have hinq := HB.out q (by omega)
                    have hlq := hinq.len
                    have hl1000 := HLL.out q hlt4
                    have hst : catFrom (fun i => bytL (B i)) q (j - q) = bytL (B q) ++ catFrom (fun i => bytL (B i)) (q + 1) (j - (q + 1)) := by
                      rw [show j - q = (j - (q + 1)) + 1 by omega, catFrom]
                    rw [hst] at hpr
                    have hrd := rdBytes_bytL (bs := B q) (by omega) (catFrom (fun i => bytL (B i)) (q + 1) (j - (q + 1))) 1000 (by omega)
                    have HRD := Lib.hid hrd
                    have HP := Lib.hid hpr
                    have HBW := Lib.hid hbw
                    have HIQ := Lib.hid hinq
                    have hcd := HC.out wr.drew hbw.drew
                    have hvd := HCONV.out wr.drew _ _ _ _ (hinq.below hbw.drew)
                    clear hst hrd hpr hbw hcm0 hinq
                    go_wp2_with fail
                    go_region_with (first
                      | (go_at_call 19
                         (with_reducible refine (rdBytes_any _ _ _ _ _ HP.out.drew ?_ ?_).mono ?_)
                         · omega
                         · omega
                         rintro _ wa ⟨aa, ca, rfl, hina, hpa, hga, hfa⟩
                         have hrd := HRD.out
                         rw [hrd] at hina hpa ⊢
                         replace hina : InBytes wa aa (B q).length ca (B q) := hina
                         rw [hlq] at hina
                         have hva := HCONV.out wa _ _ _ _ hina
                         have HPA := Lib.hid hpa
                         have hga' : wr.grownBy wa (some g3) := ⟨hga.os, hga.tape, hga.output, hga.size, hga.block⟩
                         have HWA : Hid (Below w.heap.size w wa) := Lib.hid (below_only HBW.out hga' HBW.out.size hge3)
                         have hca := HC.out wa HWA.out
                         have hvq := HCONV.out wa _ _ _ _ (HIQ.out.below HWA.out)
                         clear hpa hga hga' hrd hina hfa))
                    all_goals
                      go_wp2_with fail
                      exact ⟨⟨q + 1, by omega, by go_num, HPA.out, HWA.out⟩, by simp [intOf]; omega⟩
                  · obtain rfl : q = j := by omega
                    rw [Nat.sub_self, show catFrom (fun i => bytL (B i)) q 0 = [] from rfl] at hpr
                    have HP6 := Lib.hid hpr
                    have HW6 := Lib.hid hbw
                    have hcv : codeV 0 = .nilIface := rfl
                    clear hpr hbw
                    have hmin := HXM.out
                    first
                      | (have p1 : ¬ (q : Int) < (mn : Int) := by omega
                         have p2 : decide ((q : Int) < (mn : Int)) = false := by simpa using p1
                         clear hmin
                         go_wp2_with (first
                           | (go_at_call 21
                              (with_reducible refine (rdEnd_E (E := 0) _ HP6.out rfl).mono ?_)
                              rintro _ _ ⟨rfl, m1, rfl⟩
                              rw [hcv])))
                      | (have p1 : (q : Int) < (mn : Int) := by omega
                         have p2 : ¬ (q : Int) < 50 := by omega
                         have p3 : decide ((q : Int) < 50) = false := by simpa using p2
                         clear hmin
                         go_wp2_with (first
                           | (go_at_call 21
                              (with_reducible refine (rdEnd_E (E := 0) _ HP6.out rfl).mono ?_)
                              rintro _ _ ⟨rfl, m1, rfl⟩
                              rw [hcv])))
                    all_goals
                      go_ret
                      exact ⟨rfl, below_drawn HW6.out _⟩
end Go.Proofs.Ytnjjihikjcfliaa
