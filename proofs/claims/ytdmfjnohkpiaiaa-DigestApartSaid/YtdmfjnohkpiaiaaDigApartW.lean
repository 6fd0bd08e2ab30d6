/- The walk of the law DigestApart. -/
import Derived.Test.YtdmfjnohkpiaiaaDigPreW
namespace Go.Proofs.Ytdmfjnohkpiaiaa
open Go.RowKit
set_option linter.unusedVariables false

theorem bytes_set {l : List Int} {i : Nat} {z : Int} (h : Bytes8 l) (h0 : 0 ≤ z) (h1 : z ≤ 255) : Bytes8 (l.set i z) := fun x hx => by
  rcases List.mem_or_eq_of_mem_set hx with hx | rfl
  · exact h x hx
  · exact ⟨h0, h1⟩
theorem bytes_zero (k : Nat) : Bytes8 (List.replicate k (0 : Int)) := fun x hx => by
  rw [List.eq_of_mem_replicate hx]
  omega

set_option maxRecDepth 100000 in
set_option maxHeartbeats 8000000 in
theorem apartD_law (x : Int) (a : Option Addr) (na ca : Nat) (la : List Int) (b : Option Addr) (nb cb : Nat) (lb : List Int) (c : Option Addr) (nc cc : Nat) (lc : List Int) (d : Option Addr) (nd' cd : Nat) (ld : List Int) (w : World) (hx1 : -9223372036854775808 ≤ x) (hx2 : x ≤ 9223372036854775807)
    (hina : InBytes w a na ca la) (hna : na ≤ 140737488351232) (hinb : InBytes w b nb cb lb) (hnb : nb ≤ 140737488351232) (hinc : InBytes w c nc cc lc) (hind : InBytes w d nd' cd ld) :
    Calls Try.prog 4 #[.int .i64 x, .slice a na ca, .slice b nb cb, .slice c nc cc, .slice d nd' cd] w fun e w' => e = .returned (.bool true) ∧ Below w.heap.size w w' := by
  obtain ⟨i0, hi0, hz0, hz1, hz2⟩ := info_parts infoU8
  have hla := hina.len
  have hlb := hinb.len
  have hlc := hinc.len
  have hld := hind.len
  have hmc := hinc.max
  have hmd := hind.max
  have hec := hinc.le
  have hed := hind.le
  simp only [maxLen] at hmc hmd
  have HU := Lib.hid (upD_any w)
  have HI := Lib.hid (And.intro hina (And.intro hinb (And.intro hinc hind)))
  clear hina hinb hinc hind
  go_enter Try.func4, Try.ntmps4
  by_cases hw : 1 ≤ x ∧ x ≤ 32
  rotate_left
  · have hmay : decide (1 ≤ x ∧ x ≤ 32) = false := by simp; omega
    go_wp2_with (first
      | (go_at_call 5
         (with_reducible refine HU.out.mono ?_)
         rintro _ w1 ⟨rfl, hb1⟩
         have HB1 := Lib.hid hb1
         clear hb1)
      | (go_at_call 10
         (with_reducible refine (may_any _ _).mono ?_)
         rintro _ w9 ⟨rfl, hw9⟩
         rw [hmay, hw9]
         clear hw9))
    go_ret
    exact ⟨rfl, HB1.out⟩
  obtain ⟨k, rfl⟩ : ∃ k : Nat, x = (k : Int) := ⟨x.toNat, by omega⟩
  have hk1 : 1 ≤ k := by omega
  have hk2 : k ≤ 32 := by omega
  have hmay : decide (1 ≤ (k : Int) ∧ (k : Int) ≤ 32) = true := by simp; omega
  clear hw
  go_wp2_with (first
    | (go_at_call 5
       (with_reducible refine HU.out.mono ?_)
       rintro _ w1 ⟨rfl, hb1⟩
       have HB1 := Lib.hid hb1
       clear hb1)
    | (go_at_call 10
       (with_reducible refine (may_any _ _).mono ?_)
       rintro _ w9 ⟨rfl, hw9⟩
       rw [hmay, hw9]
       clear hw9)
    | (at_make
       refine wpList_make_ints _ rfl (.tmp 34) (.tmp 34) 22 rfl 5 i0 .u8 Try.underlying22 hi0 hz0 hz1 .i64 .i64 _ _ k rfl rfl rfl rfl (by rw [hz2]; omega) (by simp only [maxLen]; omega) ?_
       intro w2 hr2 hb2 hs2
       have HR2 := Lib.hid hr2
       have HB2 : Hid (Below w.heap.size w w2) := Lib.hid (HB1.out.trans (hb2.mono HB1.out.size))
       clear hr2 hb2 hs2)
    | (at_make
       refine wpList_make_ints _ rfl (.tmp 36) (.tmp 36) 22 rfl 5 i0 .u8 Try.underlying22 hi0 hz0 hz1 .i64 .i64 _ _ k rfl rfl rfl rfl (by rw [hz2]; omega) (by simp only [maxLen]; omega) ?_
       intro w3 hr3 hb3 hs3
       have HR3 := Lib.hid hr3
       have HR2b := Lib.hid (HR2.out.below hb3 HR2.out.lt)
       have HB3 : Hid (Below w.heap.size w w3) := Lib.hid (HB2.out.trans (hb3.mono HB2.out.size))
       have hgx : w.heap.size ≤ w1.heap.size := HB1.out.size
       have hgxy : w1.heap.size < w2.heap.size := HR2.out.lt
       clear hr3 hb3 hs3 HR2))
  generalize w2.heap.size = gy at *
  generalize w1.heap.size = gx at *
  go_loopw [15] (fun s15 wx => ∃ (i : Nat) (xs ys : List Int), i ≤ k ∧ s15 = .int .i64 i ∧ xs.length = k ∧ ys.length = k ∧ Bytes8 xs ∧ Bytes8 ys ∧ Row .u8 wx 5 gx xs ∧ Row .u8 wx 5 gy ys ∧ Below w.heap.size w wx) (fun s15 _ => k - (intOf s15).toNat)
  case atStart => exact ⟨0, _, _, by omega, rfl, by simp, by simp, bytes_zero k, bytes_zero k, HR2b.out, HR3.out, HB3.out⟩
  case round =>
    obtain ⟨i, xs, ys, hi, rfl, hxl, hyl, hx8, hy8, hrx, hry, hbw⟩ := hrel
    clear HR2b HR3 HB3
    by_cases hlt : i < k
    · have q1 : (i : Int) < (k : Int) := by omega
      obtain ⟨zx, hcx⟩ := hrx.has i (by omega)
      have hfx := hrx.frozen i
      obtain ⟨zy, hcy⟩ := hry.has i (by omega)
      have hfy := hry.frozen i
      have HRX := Lib.hid hrx
      have HRY := Lib.hid hry
      have HBW := Lib.hid hbw
      have H8 := Lib.hid (And.intro hx8 hy8)
      clear hrx hry hbw hx8 hy8
      have hgne : ¬ gx = gy := by omega
      have hgne2 : ¬ gy = gx := by omega
      have hgw : w.heap.size ≤ gy := by omega
      by_cases hc : i < nc
      · have q2 : (i : Int) < (nc : Int) := by omega
        obtain ⟨gc, oc, rfl, hgc, hsc⟩ := HI.out.2.2.1.place (by omega)
        have cc0 := (HBW.out.cell (p := ⟨gc, oc + i, none⟩) hgc).trans (hsc.cellD i (by omega))
        have hzc := byte_at HI.out.2.2.1.bytes i
        generalize lc.getD i 0 = zc at *
        by_cases hd : i < nd'
        · have q3 : (i : Int) < (nd' : Int) := by omega
          obtain ⟨gd, od, rfl, hgd, hsd⟩ := HI.out.2.2.2.place (by omega)
          have hbw2 : Below w.heap.size w (wr.setCell ⟨gx, i, none⟩ (.int .u8 zc)) := HBW.out.setCell hgx _
          have cd0 := (hbw2.cell (p := ⟨gd, od + i, none⟩) hgd).trans (hsd.cellD i (by omega))
          have hzd := byte_at HI.out.2.2.2.bytes i
          generalize ld.getD i 0 = zd at *
          obtain ⟨zy2, hcy2⟩ := (HRY.out.far hgne2 (p := ⟨gx, i, none⟩) (.int .u8 zc)).has i (by omega)
          have hfy2 := (HRY.out.far hgne2 (p := ⟨gx, i, none⟩) (.int .u8 zc)).frozen i
          clear hsc hsd hbw2
          go_wp2_with fail
          exact ⟨⟨i + 1, xs.set i zc, ys.set i zd, by omega, by go_num, by simpa using hxl, by simpa using hyl, bytes_set H8.out.1 hzc.1 hzc.2, bytes_set H8.out.2 hzd.1 hzd.2, (HRX.out.set i zc).far hgne _, (HRY.out.far hgne2 _).set i zd, (HBW.out.setCell hgx _).setCell hgw _⟩, by simp [intOf]; omega⟩
        · have q3 : ¬ (i : Int) < (nd' : Int) := by omega
          clear hsc
          go_wp2_with fail
          exact ⟨⟨i + 1, xs.set i zc, ys, by omega, by go_num, by simpa using hxl, hyl, bytes_set H8.out.1 hzc.1 hzc.2, H8.out.2, HRX.out.set i zc, HRY.out.far hgne2 _, HBW.out.setCell hgx _⟩, by simp [intOf]; omega⟩
      · have q2 : ¬ (i : Int) < (nc : Int) := by omega
        by_cases hd : i < nd'
        · have q3 : (i : Int) < (nd' : Int) := by omega
          obtain ⟨gd, od, rfl, hgd, hsd⟩ := HI.out.2.2.2.place (by omega)
          have cd0 := (HBW.out.cell (p := ⟨gd, od + i, none⟩) hgd).trans (hsd.cellD i (by omega))
          have hzd := byte_at HI.out.2.2.2.bytes i
          generalize ld.getD i 0 = zd at *
          clear hsd
          go_wp2_with fail
          exact ⟨⟨i + 1, xs, ys.set i zd, by omega, by go_num, hxl, by simpa using hyl, H8.out.1, bytes_set H8.out.2 hzd.1 hzd.2, HRX.out.far hgne _, HRY.out.set i zd, HBW.out.setCell hgw _⟩, by simp [intOf]; omega⟩
        · have q3 : ¬ (i : Int) < (nd' : Int) := by omega
          go_wp2_with fail
          exact ⟨⟨i + 1, xs, ys, by omega, by go_num, hxl, hyl, H8.out.1, H8.out.2, HRX.out, HRY.out, HBW.out⟩, by simp [intOf]; omega⟩
    · obtain rfl : i = k := by omega
      have q1 : ¬ (i : Int) < (i : Int) := by omega
      have HX0 : Hid (InBytes wr (some ⟨gx, 0, none⟩) i i xs ∧ InBytes wr (some ⟨gy, 0, none⟩) i i ys) := Lib.hid (by
        have h1 := InBytes.of_row hrx hx8 (by omega)
        have h2 := InBytes.of_row hry hy8 (by omega)
        rw [hxl] at h1
        rw [hyl] at h2
        exact ⟨h1, h2⟩)
      have HB0 := Lib.hid hbw
      have H8 := Lib.hid (And.intro hx8 hy8)
      have H8P := Lib.hid (pairL_bytes HI.out.1.bytes (by omega) hx8)
      have H8N := Lib.hid (nodeL_bytes hx8 hy8 hx8)
      clear hrx hry hbw hx8 hy8
      go_upto_region 20 with (first
        | (go_at_call 8
           (with_reducible refine (pair_ok _ a na ca la _ _ _ xs _ ?_ hna ?_ ?_ ?_ ?_).mono ?_)
           · exact HI.out.1.below HB0.out
           · exact HX0.out.1
           · omega
           · omega
           · omega
           rintro _ w4 ⟨g4, c4, rfl, ho4, hb4⟩
           have HO4 := Lib.hid ho4
           have HX4 : Hid (InBytes w4 (some ⟨gx, 0, none⟩) i i xs ∧ InBytes w4 (some ⟨gy, 0, none⟩) i i ys) := Lib.hid ⟨HX0.out.1.below hb4, HX0.out.2.below hb4⟩
           have HB4 : Hid (Below w.heap.size w w4) := Lib.hid (HB0.out.trans (hb4.mono HB0.out.size))
           clear ho4 hb4)
        | (go_at_call 8
           (with_reducible refine (pair_ok _ b nb cb lb _ _ _ ys _ ?_ hnb ?_ ?_ ?_ ?_).mono ?_)
           · exact HI.out.2.1.below HB4.out
           · exact HX4.out.2
           · omega
           · omega
           · omega
           rintro _ w5 ⟨g5, c5, rfl, ho5, hb5⟩
           have HO5 := Lib.hid ho5
           have HO4a := Lib.hid (own_below HO4.out hb5 (HO4.out.lt g4 rfl).2)
           have HX5 : Hid (InBytes w5 (some ⟨gx, 0, none⟩) i i xs ∧ InBytes w5 (some ⟨gy, 0, none⟩) i i ys) := Lib.hid ⟨HX4.out.1.below hb5, HX4.out.2.below hb5⟩
           have HB5 : Hid (Below w.heap.size w w5) := Lib.hid (HB4.out.trans (hb5.mono HB4.out.size))
           clear ho5 hb5)
        | (go_at_call 9
           (with_reducible refine (node_ok _ _ _ _ xs _ _ _ ys _ _ _ xs _ ?_ ?_ ?_ ?_ ?_ ?_ ?_ ?_).mono ?_)
           · exact HX5.out.1
           · exact HX5.out.2
           · exact HX5.out.1
           · omega
           · omega
           · omega
           · omega
           · omega
           rintro _ w6 ⟨g6, c6, rfl, ho6, hb6⟩
           have HO6 := Lib.hid ho6
           have HO4aa := Lib.hid (own_below HO4a.out hb6 (HO4a.out.lt g4 rfl).2)
           have HO5a := Lib.hid (own_below HO5.out hb6 (HO5.out.lt g5 rfl).2)
           have HX6 : Hid (InBytes w6 (some ⟨gx, 0, none⟩) i i xs ∧ InBytes w6 (some ⟨gy, 0, none⟩) i i ys) := Lib.hid ⟨HX5.out.1.below hb6, HX5.out.2.below hb6⟩
           have HB6 : Hid (Below w.heap.size w w6) := Lib.hid (HB5.out.trans (hb6.mono HB5.out.size))
           clear ho6 hb6)
        | (go_at_call 9
           (with_reducible refine (node_ok _ _ _ _ ys _ _ _ xs _ _ _ xs _ ?_ ?_ ?_ ?_ ?_ ?_ ?_ ?_).mono ?_)
           · exact HX6.out.2
           · exact HX6.out.1
           · exact HX6.out.1
           · omega
           · omega
           · omega
           · omega
           · omega
           rintro _ w7 ⟨g7, c7, rfl, ho7, hb7⟩
           have HO7 := Lib.hid ho7
           have HO4aaa := Lib.hid (own_below HO4aa.out hb7 (HO4aa.out.lt g4 rfl).2)
           have HO5aa := Lib.hid (own_below HO5a.out hb7 (HO5a.out.lt g5 rfl).2)
           have HO6a := Lib.hid (own_below HO6.out hb7 (HO6.out.lt g6 rfl).2)
           have HX7 : Hid (InBytes w7 (some ⟨gx, 0, none⟩) i i xs ∧ InBytes w7 (some ⟨gy, 0, none⟩) i i ys) := Lib.hid ⟨HX6.out.1.below hb7, HX6.out.2.below hb7⟩
           have HB7 : Hid (Below w.heap.size w w7) := Lib.hid (HB6.out.trans (hb7.mono HB6.out.size))
           clear ho7 hb7))
      have hpn : ((strOfNums (pairL la xs)).toList == (strOfNums (nodeL xs ys xs)).toList) = false := str_ne H8P.out H8N.out (by simp [pairL, nodeL])
      have hpv : ((strOfNums (pairL la xs)).toList == (strOfNums (valL la)).toList) = false := str_ne H8P.out (valL_bytes HI.out.1.bytes) (by simp [pairL, valL])
      have hnv : ((strOfNums (nodeL xs ys xs)).toList == (strOfNums (valL lb)).toList) = false := str_ne H8N.out (valL_bytes HI.out.2.1.bytes) (by simp [nodeL, valL])
      have h3p : ((strOfNums [3]).toList == (strOfNums (pairL la xs)).toList) = false := str_ne (fun z hz => by simp at hz; omega) H8P.out (by simp [pairL])
      have h3n : ((strOfNums [3]).toList == (strOfNums (nodeL xs ys xs)).toList) = false := str_ne (fun z hz => by simp at hz; omega) H8N.out (by simp [nodeL])
      have hcp := conv_own HO4aaa.out H8P.out
      have hcq := conv_own HO5aa.out (pairL_bytes HI.out.2.1.bytes (by omega) H8.out.2)
      have hcn := conv_own HO6a.out H8N.out
      have hcm := conv_own HO7.out (nodeL_bytes H8.out.2 H8.out.1 H8.out.1)
      have hca := conv_any (HI.out.1.below HB7.out)
      have hcb := conv_any (HI.out.2.1.below HB7.out)
      have hcx := conv_any HX7.out.1
      have hcy := conv_any HX7.out.2
      have HAB : ∃ eab : Bool, ((strOfNums la).toList == (strOfNums lb).toList) = eab ∧ ∃ exy : Bool, ((strOfNums xs).toList == (strOfNums ys).toList) = exy ∧ ((strOfNums (pairL la xs)).toList == (strOfNums (pairL lb ys)).toList) = (eab && exy) ∧ ((strOfNums (nodeL xs ys xs)).toList == (strOfNums (nodeL ys xs xs)).toList) = exy ∧ ((strOfNums (valL la)).toList == (strOfNums (valL lb)).toList) = eab := by
        have h8q : Bytes8 (pairL lb ys) := pairL_bytes HI.out.2.1.bytes (by omega) H8.out.2
        have h8m : Bytes8 (nodeL ys xs xs) := nodeL_bytes H8.out.2 H8.out.1 H8.out.1
        by_cases hab : la = lb
        · by_cases hxy : xs = ys
          · exact ⟨true, by rw [hab]; simp, true, by rw [hxy]; simp, by rw [hab, hxy]; simp, by rw [hxy]; simp, by rw [hab]; simp⟩
          · exact ⟨true, by rw [hab]; simp, false, str_ne H8.out.1 H8.out.2 hxy, str_ne H8P.out h8q (fun h => hxy (pairL_inj (by omega) (by omega) h).2), str_ne H8N.out h8m (fun h => hxy (nodeL_inj (by omega) h)), by rw [hab]; simp⟩
        · by_cases hxy : xs = ys
          · exact ⟨false, str_ne HI.out.1.bytes HI.out.2.1.bytes hab, true, by rw [hxy]; simp, str_ne H8P.out h8q (fun h => hab (pairL_inj (by omega) (by omega) h).1), by rw [hxy]; simp, str_ne (valL_bytes HI.out.1.bytes) (valL_bytes HI.out.2.1.bytes) (fun h => hab (by injection h))⟩
          · exact ⟨false, str_ne HI.out.1.bytes HI.out.2.1.bytes hab, false, str_ne H8.out.1 H8.out.2 hxy, str_ne H8P.out h8q (fun h => hab (pairL_inj (by omega) (by omega) h).1), str_ne H8N.out h8m (fun h => hxy (nodeL_inj (by omega) h)), str_ne (valL_bytes HI.out.1.bytes) (valL_bytes HI.out.2.1.bytes) (fun h => hab (by injection h))⟩
      obtain ⟨eab, hab, exy, hxy, hpq, hnm, hvv⟩ := HAB
      go_cut [24] (fun s24 wx => s24 = .bool true ∧ wx = w7)
      case first =>
        cases eab <;> cases exy
        all_goals
          simp only [Bool.and_true, Bool.and_false] at hpq
          go_wp2_with fail
          go_meet
          exact ⟨rfl, rfl⟩
      case rest =>
      obtain ⟨rfl, hwc⟩ := hcut
      rw [hwc]
      clear hwc
      go_upto_region 21 with fail
      go_cut [25] (fun s25 wx => s25 = .bool true ∧ wx = w7)
      case first =>
        cases exy
        all_goals
          go_wp2_with fail
          go_meet
          exact ⟨rfl, rfl⟩
      case rest =>
      obtain ⟨rfl, hwc⟩ := hcut
      rw [hwc]
      clear hwc hcp hcq hcn hcm hcx hcy hpq hnm hxy
      have hca7 := conv_any (HI.out.1.below HB7.out.drew)
      have hcb7 := conv_any (HI.out.2.1.below HB7.out.drew)
      go_upto_region 22 with fail
      go_cut [26] (fun s26 wx => s26 = .bool true ∧ Below w7.heap.size w7 wx)
      case first =>
        refine wp_region_held_drew (S := (fun W => (convert 22 9 (.slice a na ca)).run Try.prog W = .ok (.string (strOfNums la)) W ∧ (convert 22 9 (.slice b nb cb)).run Try.prog W = .ok (.string (strOfNums lb)) W)) (by kernel_rfl) ⟨hca7, hcb7⟩ (fun hHeld => ?_)
        refine take_w (i := 0) (oi := ?oZ1) (v := ?vZ1) ?hiZ1 (by kernel_rfl) (by kernel_rfl) (by kernel_rfl) ?hQZ1 ?hwZ1 ?hyZ1 (by assumption) ?restZ1
        case hiZ1 => (simp only [List.getElem?_toArray, List.getElem?_cons_zero] <;> rfl)
        case hQZ1 => exact (fun _ _ _ h => h)
        case hwZ1 => rfl
        case hyZ1 => (intro w hSw; (try dsimp only at hSw); go_simp; try with_reducible rfl)
        (try simp only [Act.put, List.setIfInBounds_toArray, List.set_cons_zero, List.set_cons_succ])
        refine take_w (i := 3) (oi := ?oZ2) (v := ?vZ2) ?hiZ2 (by kernel_rfl) (by kernel_rfl) (by kernel_rfl) ?hQZ2 ?hwZ2 ?hyZ2 (by assumption) ?restZ2
        case hiZ2 => (simp only [List.getElem?_toArray, List.getElem?_cons_succ, List.getElem?_cons_zero] <;> rfl)
        case hQZ2 => exact (fun _ _ _ h => h)
        case hwZ2 => rfl
        case hyZ2 => (intro w hSw; (try dsimp only at hSw); go_simp; try with_reducible rfl)
        (try simp only [Act.put, List.setIfInBounds_toArray, List.set_cons_zero, List.set_cons_succ])
        refine take_w (i := 7) (oi := ?oZ3) (v := ?vZ3) ?hiZ3 (by kernel_rfl) (by kernel_rfl) (by kernel_rfl) ?hQZ3 ?hwZ3 ?hyZ3 (by assumption) ?restZ3
        case hiZ3 => (simp only [List.getElem?_toArray, List.getElem?_cons_succ, List.getElem?_cons_zero] <;> rfl)
        case hQZ3 => exact (fun _ _ _ h => h)
        case hwZ3 => rfl
        case hyZ3 => (intro w hSw; (try dsimp only at hSw); go_simp; try with_reducible rfl)
        (try simp only [Act.put, List.setIfInBounds_toArray, List.set_cons_zero, List.set_cons_succ])
        refine take_w (i := 8) (oi := ?oZ4) (v := ?vZ4) ?hiZ4 (by kernel_rfl) (by kernel_rfl) (by kernel_rfl) ?hQZ4 ?hwZ4 ?hyZ4 (by assumption) ?restZ4
        case hiZ4 => (simp only [List.getElem?_toArray, List.getElem?_cons_succ, List.getElem?_cons_zero] <;> rfl)
        case hQZ4 => exact (fun _ _ _ h => h)
        case hwZ4 => rfl
        case hyZ4 => (intro w hSw; (try dsimp only at hSw); go_simp; try with_reducible rfl)
        (try simp only [Act.put, List.setIfInBounds_toArray, List.set_cons_zero, List.set_cons_succ])
        refine take_w (i := 9) (oi := ?oZ5) (v := ?vZ5) ?hiZ5 (by kernel_rfl) (by kernel_rfl) (by kernel_rfl) ?hQZ5 ?hwZ5 ?hyZ5 (by assumption) ?restZ5
        case hiZ5 => (simp only [List.getElem?_toArray, List.getElem?_cons_succ, List.getElem?_cons_zero] <;> rfl)
        case hQZ5 => exact (fun _ _ _ h => h)
        case hwZ5 => rfl
        case hyZ5 => (intro w hSw; (try dsimp only at hSw); go_simp; try with_reducible rfl)
        (try simp only [Act.put, List.setIfInBounds_toArray, List.set_cons_zero, List.set_cons_succ])
        refine take_w (i := 10) (oi := ?oZ6) (v := ?vZ6) ?hiZ6 (by kernel_rfl) (by kernel_rfl) (by kernel_rfl) ?hQZ6 ?hwZ6 ?hyZ6 (by assumption) ?restZ6
        case hiZ6 => (simp only [List.getElem?_toArray, List.getElem?_cons_succ, List.getElem?_cons_zero] <;> rfl)
        case hQZ6 => exact (fun _ _ _ h => h)
        case hwZ6 => rfl
        case hyZ6 => (intro w hSw; (try dsimp only at hSw); go_simp; try with_reducible rfl)
        (try simp only [Act.put, List.setIfInBounds_toArray, List.set_cons_zero, List.set_cons_succ])
        refine take_w (i := 11) (oi := ?oZ7) (v := ?vZ7) ?hiZ7 (by kernel_rfl) (by kernel_rfl) (by kernel_rfl) ?hQZ7 ?hwZ7 ?hyZ7 (by assumption) ?restZ7
        case hiZ7 => (simp only [List.getElem?_toArray, List.getElem?_cons_succ, List.getElem?_cons_zero] <;> rfl)
        case hQZ7 => exact (fun _ _ _ h => h)
        case hwZ7 => rfl
        case hyZ7 => (intro w hSw; (try dsimp only at hSw); go_simp; try with_reducible rfl)
        (try simp only [Act.put, List.setIfInBounds_toArray, List.set_cons_zero, List.set_cons_succ])
        refine wpAnyH_ready (rs := [1]) (by kernel_rfl) (by simp) ?_
        refine AllReadyH.cons (o := ?oZ8) ?hiZ8 (fun K hK => ?stZ8) AllReadyH.nil
        case hiZ8 => (simp only [List.getElem?_toArray, List.getElem?_cons_succ, List.getElem?_cons_zero] <;> rfl)
        go_simp
        go_at_call 6
        (with_reducible refine (value_any a na ca la _ ?_ hna).mono ?_)
        · exact HI.out.1.below HB7.out.drew
        rintro _ w8 ⟨g8, c8, rfl, ho8, hb8⟩
        have hc8 := conv_own ho8 (valL_bytes HI.out.1.bytes)
        have HO8 := Lib.hid ho8
        have HB78 : Hid (Below w7.heap.size w7 w8) := Lib.hid ((Below.refl w7.heap.size w7).drew.trans hb8)
        have HB8 : Hid (Below w.heap.size w w8) := Lib.hid (HB7.out.trans (HB78.out.mono HB7.out.size))
        have hca8 := conv_any (HI.out.1.below HB8.out)
        have hcb8 := conv_any (HI.out.2.1.below HB8.out)
        clear ho8 hb8
        go_simp
        refine hK.out _ _ ?_ (fun hHeld => ?_)
        · (first | exact ⟨hca10, hcb10⟩ | exact ⟨hca8, hcb8⟩ | exact ⟨hca7, hcb7⟩)
        clear hK K
        (try simp only [Act.put, List.setIfInBounds_toArray, List.set_cons_zero, List.set_cons_succ])
        refine wpAnyH_ready (rs := [2, 4]) (by kernel_rfl) (by simp) ?_
        refine AllReadyH.cons (o := ?oZ9) ?hiZ9 (fun K hK => ?stZ9) (AllReadyH.cons (o := ?oZ10) ?hiZ10 (fun K hK => ?stZ10) AllReadyH.nil)
        case hiZ9 => (simp only [List.getElem?_toArray, List.getElem?_cons_succ, List.getElem?_cons_zero] <;> rfl)
        case hiZ10 => (simp only [List.getElem?_toArray, List.getElem?_cons_succ, List.getElem?_cons_zero] <;> rfl)
        case stZ9 =>
          go_simp
          refine hK.out _ _ ?_ (fun hHeld => ?_)
          · (first | exact ⟨hca10, hcb10⟩ | exact ⟨hca8, hcb8⟩ | exact ⟨hca7, hcb7⟩)
          clear hK K
          (try simp only [Act.put, List.setIfInBounds_toArray, List.set_cons_zero, List.set_cons_succ])
          refine wpAnyH_ready (rs := [4]) (by kernel_rfl) (by simp) ?_
          refine AllReadyH.cons (o := ?oZ11) ?hiZ11 (fun K hK => ?stZ11) AllReadyH.nil
          case hiZ11 => (simp only [List.getElem?_toArray, List.getElem?_cons_succ, List.getElem?_cons_zero] <;> rfl)
          go_simp
          go_at_call 6
          (with_reducible refine (value_any b nb cb lb _ ?_ hnb).mono ?_)
          · exact HI.out.2.1.below HB8.out
          rintro _ w10 ⟨g10, c10, rfl, ho10, hb10⟩
          have hc10 := conv_own ho10 (valL_bytes HI.out.2.1.bytes)
          have hc810 := conv_own (own_below HO8.out hb10 (HO8.out.lt g8 rfl).2) (valL_bytes HI.out.1.bytes)
          have HB710 : Hid (Below w7.heap.size w7 w10) := Lib.hid (HB78.out.trans (hb10.mono HB78.out.size))
          have HB10 : Hid (Below w.heap.size w w10) := Lib.hid (HB7.out.trans (HB710.out.mono HB7.out.size))
          have hca10 := conv_any (HI.out.1.below HB10.out)
          have hcb10 := conv_any (HI.out.2.1.below HB10.out)
          clear ho10 hb10
          go_simp
          refine hK.out _ _ ?_ (fun hHeld => ?_)
          · (first | exact ⟨hca10, hcb10⟩ | exact ⟨hca8, hcb8⟩ | exact ⟨hca7, hcb7⟩)
          clear hK K
          (try simp only [Act.put, List.setIfInBounds_toArray, List.set_cons_zero, List.set_cons_succ])
          refine wpAnyH_ready (rs := [5]) (by kernel_rfl) (by simp) ?_
          refine AllReadyH.cons (o := ?oZ12) ?hiZ12 (fun K hK => ?stZ12) AllReadyH.nil
          case hiZ12 => (simp only [List.getElem?_toArray, List.getElem?_cons_succ, List.getElem?_cons_zero] <;> rfl)
          go_simp
          refine hK.out _ _ ?_ (fun hHeld => ?_)
          · (first | exact ⟨hca10, hcb10⟩ | exact ⟨hca8, hcb8⟩ | exact ⟨hca7, hcb7⟩)
          clear hK K
          (try simp only [Act.put, List.setIfInBounds_toArray, List.set_cons_zero, List.set_cons_succ])
          refine take_w (i := 6) (oi := ?oZ13) (v := ?vZ13) ?hiZ13 (by kernel_rfl) (by kernel_rfl) (by kernel_rfl) ?hQZ13 ?hwZ13 ?hyZ13 (by assumption) ?restZ13
          case hiZ13 => (simp only [List.getElem?_toArray, List.getElem?_cons_succ, List.getElem?_cons_zero] <;> rfl)
          case hQZ13 => exact (fun _ _ _ h => h)
          case hwZ13 => rfl
          case hyZ13 => (intro w hSw; (try dsimp only at hSw); go_simp; try with_reducible rfl)
          (try simp only [Act.put, List.setIfInBounds_toArray, List.set_cons_zero, List.set_cons_succ])
          refine take_w (i := 12) (oi := ?oZ14) (v := ?vZ14) ?hiZ14 (by kernel_rfl) (by kernel_rfl) (by kernel_rfl) ?hQZ14 ?hwZ14 ?hyZ14 (by assumption) ?restZ14
          case hiZ14 => (simp only [List.getElem?_toArray, List.getElem?_cons_succ, List.getElem?_cons_zero] <;> rfl)
          case hQZ14 => exact (fun _ _ _ h => h)
          case hwZ14 => rfl
          case hyZ14 => (intro w hSw; (try dsimp only at hSw); go_simp; try with_reducible rfl)
          (try simp only [Act.put, List.setIfInBounds_toArray, List.set_cons_zero, List.set_cons_succ])
          refine take_w (i := 13) (oi := ?oZ15) (v := ?vZ15) ?hiZ15 (by kernel_rfl) (by kernel_rfl) (by kernel_rfl) ?hQZ15 ?hwZ15 ?hyZ15 (by assumption) ?restZ15
          case hiZ15 => (simp only [List.getElem?_toArray, List.getElem?_cons_succ, List.getElem?_cons_zero] <;> rfl)
          case hQZ15 => exact (fun _ _ _ h => h)
          case hwZ15 => rfl
          case hyZ15 => (intro w hSw; (try dsimp only at hSw); go_simp; try with_reducible rfl)
          (try simp only [Act.put, List.setIfInBounds_toArray, List.set_cons_zero, List.set_cons_succ])
          refine wpAnyH_done (by kernel_rfl) ?_ _
          go_wp2_with fail
          go_meet
          exact ⟨by simp, HB710.out⟩
        case stZ10 =>
          go_simp
          go_at_call 6
          (with_reducible refine (value_any b nb cb lb _ ?_ hnb).mono ?_)
          · exact HI.out.2.1.below HB8.out
          rintro _ w10 ⟨g10, c10, rfl, ho10, hb10⟩
          have hc10 := conv_own ho10 (valL_bytes HI.out.2.1.bytes)
          have hc810 := conv_own (own_below HO8.out hb10 (HO8.out.lt g8 rfl).2) (valL_bytes HI.out.1.bytes)
          have HB710 : Hid (Below w7.heap.size w7 w10) := Lib.hid (HB78.out.trans (hb10.mono HB78.out.size))
          have HB10 : Hid (Below w.heap.size w w10) := Lib.hid (HB7.out.trans (HB710.out.mono HB7.out.size))
          have hca10 := conv_any (HI.out.1.below HB10.out)
          have hcb10 := conv_any (HI.out.2.1.below HB10.out)
          clear ho10 hb10
          go_simp
          refine hK.out _ _ ?_ (fun hHeld => ?_)
          · (first | exact ⟨hca10, hcb10⟩ | exact ⟨hca8, hcb8⟩ | exact ⟨hca7, hcb7⟩)
          clear hK K
          (try simp only [Act.put, List.setIfInBounds_toArray, List.set_cons_zero, List.set_cons_succ])
          refine wpAnyH_ready (rs := [2, 5]) (by kernel_rfl) (by simp) ?_
          refine AllReadyH.cons (o := ?oZ16) ?hiZ16 (fun K hK => ?stZ16) (AllReadyH.cons (o := ?oZ17) ?hiZ17 (fun K hK => ?stZ17) AllReadyH.nil)
          case hiZ16 => (simp only [List.getElem?_toArray, List.getElem?_cons_succ, List.getElem?_cons_zero] <;> rfl)
          case hiZ17 => (simp only [List.getElem?_toArray, List.getElem?_cons_succ, List.getElem?_cons_zero] <;> rfl)
          case stZ16 =>
            go_simp
            refine hK.out _ _ ?_ (fun hHeld => ?_)
            · (first | exact ⟨hca10, hcb10⟩ | exact ⟨hca8, hcb8⟩ | exact ⟨hca7, hcb7⟩)
            clear hK K
            (try simp only [Act.put, List.setIfInBounds_toArray, List.set_cons_zero, List.set_cons_succ])
            refine wpAnyH_ready (rs := [5]) (by kernel_rfl) (by simp) ?_
            refine AllReadyH.cons (o := ?oZ18) ?hiZ18 (fun K hK => ?stZ18) AllReadyH.nil
            case hiZ18 => (simp only [List.getElem?_toArray, List.getElem?_cons_succ, List.getElem?_cons_zero] <;> rfl)
            go_simp
            refine hK.out _ _ ?_ (fun hHeld => ?_)
            · (first | exact ⟨hca10, hcb10⟩ | exact ⟨hca8, hcb8⟩ | exact ⟨hca7, hcb7⟩)
            clear hK K
            (try simp only [Act.put, List.setIfInBounds_toArray, List.set_cons_zero, List.set_cons_succ])
            refine take_w (i := 6) (oi := ?oZ19) (v := ?vZ19) ?hiZ19 (by kernel_rfl) (by kernel_rfl) (by kernel_rfl) ?hQZ19 ?hwZ19 ?hyZ19 (by assumption) ?restZ19
            case hiZ19 => (simp only [List.getElem?_toArray, List.getElem?_cons_succ, List.getElem?_cons_zero] <;> rfl)
            case hQZ19 => exact (fun _ _ _ h => h)
            case hwZ19 => rfl
            case hyZ19 => (intro w hSw; (try dsimp only at hSw); go_simp; try with_reducible rfl)
            (try simp only [Act.put, List.setIfInBounds_toArray, List.set_cons_zero, List.set_cons_succ])
            refine take_w (i := 12) (oi := ?oZ20) (v := ?vZ20) ?hiZ20 (by kernel_rfl) (by kernel_rfl) (by kernel_rfl) ?hQZ20 ?hwZ20 ?hyZ20 (by assumption) ?restZ20
            case hiZ20 => (simp only [List.getElem?_toArray, List.getElem?_cons_succ, List.getElem?_cons_zero] <;> rfl)
            case hQZ20 => exact (fun _ _ _ h => h)
            case hwZ20 => rfl
            case hyZ20 => (intro w hSw; (try dsimp only at hSw); go_simp; try with_reducible rfl)
            (try simp only [Act.put, List.setIfInBounds_toArray, List.set_cons_zero, List.set_cons_succ])
            refine take_w (i := 13) (oi := ?oZ21) (v := ?vZ21) ?hiZ21 (by kernel_rfl) (by kernel_rfl) (by kernel_rfl) ?hQZ21 ?hwZ21 ?hyZ21 (by assumption) ?restZ21
            case hiZ21 => (simp only [List.getElem?_toArray, List.getElem?_cons_succ, List.getElem?_cons_zero] <;> rfl)
            case hQZ21 => exact (fun _ _ _ h => h)
            case hwZ21 => rfl
            case hyZ21 => (intro w hSw; (try dsimp only at hSw); go_simp; try with_reducible rfl)
            (try simp only [Act.put, List.setIfInBounds_toArray, List.set_cons_zero, List.set_cons_succ])
            refine wpAnyH_done (by kernel_rfl) ?_ _
            go_wp2_with fail
            go_meet
            exact ⟨by simp, HB710.out⟩
          case stZ17 =>
            go_simp
            refine hK.out _ _ ?_ (fun hHeld => ?_)
            · (first | exact ⟨hca10, hcb10⟩ | exact ⟨hca8, hcb8⟩ | exact ⟨hca7, hcb7⟩)
            clear hK K
            (try simp only [Act.put, List.setIfInBounds_toArray, List.set_cons_zero, List.set_cons_succ])
            refine wpAnyH_ready (rs := [2]) (by kernel_rfl) (by simp) ?_
            refine AllReadyH.cons (o := ?oZ22) ?hiZ22 (fun K hK => ?stZ22) AllReadyH.nil
            case hiZ22 => (simp only [List.getElem?_toArray, List.getElem?_cons_succ, List.getElem?_cons_zero] <;> rfl)
            go_simp
            refine hK.out _ _ ?_ (fun hHeld => ?_)
            · (first | exact ⟨hca10, hcb10⟩ | exact ⟨hca8, hcb8⟩ | exact ⟨hca7, hcb7⟩)
            clear hK K
            (try simp only [Act.put, List.setIfInBounds_toArray, List.set_cons_zero, List.set_cons_succ])
            refine take_w (i := 6) (oi := ?oZ23) (v := ?vZ23) ?hiZ23 (by kernel_rfl) (by kernel_rfl) (by kernel_rfl) ?hQZ23 ?hwZ23 ?hyZ23 (by assumption) ?restZ23
            case hiZ23 => (simp only [List.getElem?_toArray, List.getElem?_cons_succ, List.getElem?_cons_zero] <;> rfl)
            case hQZ23 => exact (fun _ _ _ h => h)
            case hwZ23 => rfl
            case hyZ23 => (intro w hSw; (try dsimp only at hSw); go_simp; try with_reducible rfl)
            (try simp only [Act.put, List.setIfInBounds_toArray, List.set_cons_zero, List.set_cons_succ])
            refine take_w (i := 12) (oi := ?oZ24) (v := ?vZ24) ?hiZ24 (by kernel_rfl) (by kernel_rfl) (by kernel_rfl) ?hQZ24 ?hwZ24 ?hyZ24 (by assumption) ?restZ24
            case hiZ24 => (simp only [List.getElem?_toArray, List.getElem?_cons_succ, List.getElem?_cons_zero] <;> rfl)
            case hQZ24 => exact (fun _ _ _ h => h)
            case hwZ24 => rfl
            case hyZ24 => (intro w hSw; (try dsimp only at hSw); go_simp; try with_reducible rfl)
            (try simp only [Act.put, List.setIfInBounds_toArray, List.set_cons_zero, List.set_cons_succ])
            refine take_w (i := 13) (oi := ?oZ25) (v := ?vZ25) ?hiZ25 (by kernel_rfl) (by kernel_rfl) (by kernel_rfl) ?hQZ25 ?hwZ25 ?hyZ25 (by assumption) ?restZ25
            case hiZ25 => (simp only [List.getElem?_toArray, List.getElem?_cons_succ, List.getElem?_cons_zero] <;> rfl)
            case hQZ25 => exact (fun _ _ _ h => h)
            case hwZ25 => rfl
            case hyZ25 => (intro w hSw; (try dsimp only at hSw); go_simp; try with_reducible rfl)
            (try simp only [Act.put, List.setIfInBounds_toArray, List.set_cons_zero, List.set_cons_succ])
            refine wpAnyH_done (by kernel_rfl) ?_ _
            go_wp2_with fail
            go_meet
            exact ⟨by simp, HB710.out⟩
      case rest =>
      obtain ⟨rfl, hb79⟩ := hcut
      generalize wc = w9 at *
      have HBC : Hid (Below w.heap.size w w9) := Lib.hid (HB7.out.trans (hb79.mono HB7.out.size))
      have HOPC := Lib.hid (own_below HO4aaa.out hb79 (HO4aaa.out.lt g4 rfl).2)
      have HONC := Lib.hid (own_below HO6a.out hb79 (HO6a.out.lt g6 rfl).2)
      have hspc := conv_own (w := w9.drew) HOPC.out H8P.out
      have hsnc := conv_own (w := w9.drew) HONC.out H8N.out
      clear hb79 hab hvv hca hcb hca7 hcb7
      go_upto_region 23 with fail
      refine wp_region_held_drew (S := fun W => (convert 22 9 (.slice (some ⟨g4, 0, none⟩) (pairL la xs).length c4)).run Try.prog W = .ok (.string (strOfNums (pairL la xs))) W ∧ (convert 22 9 (.slice (some ⟨g6, 0, none⟩) (nodeL xs ys xs).length c6)).run Try.prog W = .ok (.string (strOfNums (nodeL xs ys xs))) W) (by kernel_rfl) ⟨hspc, hsnc⟩ (fun hHeld => ?_)
      refine take_w (i := 0) (oi := ?o0) (v := ?v0) ?hi0 (by kernel_rfl) (by kernel_rfl) (by kernel_rfl) ?hQ0 ?hw0 ?hy0 (by assumption) ?rest0
      case hi0 => (simp only [List.getElem?_toArray, List.getElem?_cons_zero] <;> rfl)
      case hQ0 => exact (fun _ _ _ h => h)
      case hw0 => rfl
      case hy0 => (intro w hSw; (try dsimp only at hSw); go_simp; try with_reducible rfl)
      (try simp only [Act.put, List.setIfInBounds_toArray, List.set_cons_zero, List.set_cons_succ])
      refine take_w (i := 1) (oi := ?o1) (v := ?v1) ?hi1 (by kernel_rfl) (by kernel_rfl) (by kernel_rfl) ?hQ1 ?hw1 ?hy1 (by assumption) ?rest1
      case hi1 => (simp only [List.getElem?_toArray, List.getElem?_cons_succ, List.getElem?_cons_zero] <;> rfl)
      case hQ1 => exact (fun _ _ _ h => h)
      case hw1 => rfl
      case hy1 => (intro w hSw; (try dsimp only at hSw); go_simp; try with_reducible rfl)
      (try simp only [Act.put, List.setIfInBounds_toArray, List.set_cons_zero, List.set_cons_succ])
      refine take_w (i := 2) (oi := ?o2) (v := ?v2) ?hi2 (by kernel_rfl) (by kernel_rfl) (by kernel_rfl) ?hQ2 ?hw2 ?hy2 (by assumption) ?rest2
      case hi2 => (simp only [List.getElem?_toArray, List.getElem?_cons_succ, List.getElem?_cons_zero] <;> rfl)
      case hQ2 => exact (fun _ _ _ h => h)
      case hw2 => rfl
      case hy2 => (intro w hSw; (try dsimp only at hSw); go_simp; try with_reducible rfl)
      (try simp only [Act.put, List.setIfInBounds_toArray, List.set_cons_zero, List.set_cons_succ])
      refine take_w (i := 3) (oi := ?o3) (v := ?v3) ?hi3 (by kernel_rfl) (by kernel_rfl) (by kernel_rfl) ?hQ3 ?hw3 ?hy3 (by assumption) ?rest3
      case hi3 => (simp only [List.getElem?_toArray, List.getElem?_cons_succ, List.getElem?_cons_zero] <;> rfl)
      case hQ3 => exact (fun _ _ _ h => h)
      case hw3 => rfl
      case hy3 => (intro w hSw; (try dsimp only at hSw); go_simp; try with_reducible rfl)
      (try simp only [Act.put, List.setIfInBounds_toArray, List.set_cons_zero, List.set_cons_succ])
      refine take_w (i := 4) (oi := ?o4) (v := ?v4) ?hi4 (by kernel_rfl) (by kernel_rfl) (by kernel_rfl) ?hQ4 ?hw4 ?hy4 (by assumption) ?rest4
      case hi4 => (simp only [List.getElem?_toArray, List.getElem?_cons_succ, List.getElem?_cons_zero] <;> rfl)
      case hQ4 => exact (fun _ _ _ h => h)
      case hw4 => rfl
      case hy4 => (intro w hSw; (try dsimp only at hSw); go_simp; try with_reducible rfl)
      (try simp only [Act.put, List.setIfInBounds_toArray, List.set_cons_zero, List.set_cons_succ])
      refine take_w (i := 5) (oi := ?o5) (v := ?v5) ?hi5 (by kernel_rfl) (by kernel_rfl) (by kernel_rfl) ?hQ5 ?hw5 ?hy5 (by assumption) ?rest5
      case hi5 => (simp only [List.getElem?_toArray, List.getElem?_cons_succ, List.getElem?_cons_zero] <;> rfl)
      case hQ5 => exact (fun _ _ _ h => h)
      case hw5 => rfl
      case hy5 => (intro w hSw; (try dsimp only at hSw); go_simp; try with_reducible rfl)
      (try simp only [Act.put, List.setIfInBounds_toArray, List.set_cons_zero, List.set_cons_succ])
      refine take_w (i := 6) (oi := ?o6) (v := ?v6) ?hi6 (by kernel_rfl) (by kernel_rfl) (by kernel_rfl) ?hQ6 ?hw6 ?hy6 (by assumption) ?rest6
      case hi6 => (simp only [List.getElem?_toArray, List.getElem?_cons_succ, List.getElem?_cons_zero] <;> rfl)
      case hQ6 => exact (fun _ _ _ h => h)
      case hw6 => rfl
      case hy6 => (intro w hSw; (try dsimp only at hSw); go_simp; try with_reducible rfl)
      (try simp only [Act.put, List.setIfInBounds_toArray, List.set_cons_zero, List.set_cons_succ])
      refine take_w (i := 7) (oi := ?o7) (v := ?v7) ?hi7 (by kernel_rfl) (by kernel_rfl) (by kernel_rfl) ?hQ7 ?hw7 ?hy7 (by assumption) ?rest7
      case hi7 => (simp only [List.getElem?_toArray, List.getElem?_cons_succ, List.getElem?_cons_zero] <;> rfl)
      case hQ7 => exact (fun _ _ _ h => h)
      case hw7 => rfl
      case hy7 => (intro w hSw; (try dsimp only at hSw); go_simp; try with_reducible rfl)
      (try simp only [Act.put, List.setIfInBounds_toArray, List.set_cons_zero, List.set_cons_succ])
      refine take_w (i := 8) (oi := ?o8) (v := ?v8) ?hi8 (by kernel_rfl) (by kernel_rfl) (by kernel_rfl) ?hQ8 ?hw8 ?hy8 (by assumption) ?rest8
      case hi8 => (simp only [List.getElem?_toArray, List.getElem?_cons_succ, List.getElem?_cons_zero] <;> rfl)
      case hQ8 => exact (fun _ _ _ h => h)
      case hw8 => rfl
      case hy8 => (intro w hSw; (try dsimp only at hSw); go_simp; try with_reducible rfl)
      (try simp only [Act.put, List.setIfInBounds_toArray, List.set_cons_zero, List.set_cons_succ])
      refine wpAnyH_ready (rs := [9]) (by kernel_rfl) (by simp) ?_
      refine AllReadyH.cons (o := ?o9) ?hi9 (fun K hK => ?st9) AllReadyH.nil
      case hi9 => (simp only [List.getElem?_toArray, List.getElem?_cons_succ, List.getElem?_cons_zero] <;> rfl)
      go_simp
      go_at_call 6
      (with_reducible refine (value_any a na ca la _ ?_ hna).mono ?_)
      · exact HI.out.1.below HBC.out.drew
      rintro _ w10 ⟨g10, c10, rfl, ho10, hb10⟩
      have hv10 := conv_own ho10 (valL_bytes HI.out.1.bytes)
      have HOP10 := Lib.hid (own_below (w := w9.drew) HOPC.out hb10 (HOPC.out.lt g4 rfl).2)
      have HON10 := Lib.hid (own_below (w := w9.drew) HONC.out hb10 (HONC.out.lt g6 rfl).2)
      have hsp10 := conv_own HOP10.out H8P.out
      have hsn10 := conv_own HON10.out H8N.out
      have HB10 : Hid (Below w.heap.size w w10) := Lib.hid (HBC.out.drew.trans (hb10.mono HBC.out.size))
      clear ho10 hb10
      go_simp
      refine hK.out _ _ ?_ (fun hHeld => ?_)
      · (first | exact ⟨hsp13, hsn13⟩ | exact ⟨hsp12, hsn12⟩ | exact ⟨hsp11, hsn11⟩ | exact ⟨hsp10, hsn10⟩ | exact ⟨hspc, hsnc⟩)
      clear hK K
      (try simp only [Act.put, List.setIfInBounds_toArray, List.set_cons_zero, List.set_cons_succ])
      refine wpAnyH_ready (rs := [10]) (by kernel_rfl) (by simp) ?_
      refine AllReadyH.cons (o := ?o10) ?hi10 (fun K hK => ?st10) AllReadyH.nil
      case hi10 => (simp only [List.getElem?_toArray, List.getElem?_cons_succ, List.getElem?_cons_zero] <;> rfl)
      go_simp
      refine hK.out _ _ ?_ (fun hHeld => ?_)
      · (first | exact ⟨hsp13, hsn13⟩ | exact ⟨hsp12, hsn12⟩ | exact ⟨hsp11, hsn11⟩ | exact ⟨hsp10, hsn10⟩ | exact ⟨hspc, hsnc⟩)
      clear hK K
      (try simp only [Act.put, List.setIfInBounds_toArray, List.set_cons_zero, List.set_cons_succ])
      refine take_w (i := 11) (oi := ?o11) (v := ?v11) ?hi11 (by kernel_rfl) (by kernel_rfl) (by kernel_rfl) ?hQ11 ?hw11 ?hy11 (by assumption) ?rest11
      case hi11 => (simp only [List.getElem?_toArray, List.getElem?_cons_succ, List.getElem?_cons_zero] <;> rfl)
      case hQ11 => exact (fun _ _ _ h => h)
      case hw11 => rfl
      case hy11 => (intro w hSw; (try dsimp only at hSw); go_simp; try with_reducible rfl)
      (try simp only [Act.put, List.setIfInBounds_toArray, List.set_cons_zero, List.set_cons_succ])
      refine take_w (i := 12) (oi := ?o12) (v := ?v12) ?hi12 (by kernel_rfl) (by kernel_rfl) (by kernel_rfl) ?hQ12 ?hw12 ?hy12 (by assumption) ?rest12
      case hi12 => (simp only [List.getElem?_toArray, List.getElem?_cons_succ, List.getElem?_cons_zero] <;> rfl)
      case hQ12 => exact (fun _ _ _ h => h)
      case hw12 => rfl
      case hy12 => (intro w hSw; (try dsimp only at hSw); go_simp; try with_reducible rfl)
      (try simp only [Act.put, List.setIfInBounds_toArray, List.set_cons_zero, List.set_cons_succ])
      refine take_w (i := 13) (oi := ?o13) (v := ?v13) ?hi13 (by kernel_rfl) (by kernel_rfl) (by kernel_rfl) ?hQ13 ?hw13 ?hy13 (by assumption) ?rest13
      case hi13 => (simp only [List.getElem?_toArray, List.getElem?_cons_succ, List.getElem?_cons_zero] <;> rfl)
      case hQ13 => exact (fun _ _ _ h => h)
      case hw13 => rfl
      case hy13 => (intro w hSw; (try dsimp only at hSw); go_simp; try with_reducible rfl)
      (try simp only [Act.put, List.setIfInBounds_toArray, List.set_cons_zero, List.set_cons_succ])
      refine take_w (i := 14) (oi := ?o14) (v := ?v14) ?hi14 (by kernel_rfl) (by kernel_rfl) (by kernel_rfl) ?hQ14 ?hw14 ?hy14 (by assumption) ?rest14
      case hi14 => (simp only [List.getElem?_toArray, List.getElem?_cons_succ, List.getElem?_cons_zero] <;> rfl)
      case hQ14 => exact (fun _ _ _ h => h)
      case hw14 => rfl
      case hy14 => (intro w hSw; (try dsimp only at hSw); go_simp; try with_reducible rfl)
      (try simp only [Act.put, List.setIfInBounds_toArray, List.set_cons_zero, List.set_cons_succ])
      refine take_w (i := 15) (oi := ?o15) (v := ?v15) ?hi15 (by kernel_rfl) (by kernel_rfl) (by kernel_rfl) ?hQ15 ?hw15 ?hy15 (by assumption) ?rest15
      case hi15 => (simp only [List.getElem?_toArray, List.getElem?_cons_succ, List.getElem?_cons_zero] <;> rfl)
      case hQ15 => exact (fun _ _ _ h => h)
      case hw15 => rfl
      case hy15 => (intro w hSw; (try dsimp only at hSw); go_simp; try with_reducible rfl)
      (try simp only [Act.put, List.setIfInBounds_toArray, List.set_cons_zero, List.set_cons_succ])
      refine take_w (i := 16) (oi := ?o16) (v := ?v16) ?hi16 (by kernel_rfl) (by kernel_rfl) (by kernel_rfl) ?hQ16 ?hw16 ?hy16 (by assumption) ?rest16
      case hi16 => (simp only [List.getElem?_toArray, List.getElem?_cons_succ, List.getElem?_cons_zero] <;> rfl)
      case hQ16 => exact (fun _ _ _ h => h)
      case hw16 => rfl
      case hy16 => (intro w hSw; (try dsimp only at hSw); go_simp; try with_reducible rfl)
      (try simp only [Act.put, List.setIfInBounds_toArray, List.set_cons_zero, List.set_cons_succ])
      refine wpAnyH_ready (rs := [17]) (by kernel_rfl) (by simp) ?_
      refine AllReadyH.cons (o := ?o17) ?hi17 (fun K hK => ?st17) AllReadyH.nil
      case hi17 => (simp only [List.getElem?_toArray, List.getElem?_cons_succ, List.getElem?_cons_zero] <;> rfl)
      go_simp
      go_at_call 6
      (with_reducible refine (value_any b nb cb lb _ ?_ hnb).mono ?_)
      · exact HI.out.2.1.below HB10.out
      rintro _ w11 ⟨g11, c11, rfl, ho11, hb11⟩
      have hv11 := conv_own ho11 (valL_bytes HI.out.2.1.bytes)
      have HOP11 := Lib.hid (own_below HOP10.out hb11 (HOP10.out.lt g4 rfl).2)
      have HON11 := Lib.hid (own_below HON10.out hb11 (HON10.out.lt g6 rfl).2)
      have hsp11 := conv_own HOP11.out H8P.out
      have hsn11 := conv_own HON11.out H8N.out
      have HB11 : Hid (Below w.heap.size w w11) := Lib.hid (HB10.out.trans (hb11.mono HB10.out.size))
      clear ho11 hb11
      go_simp
      refine hK.out _ _ ?_ (fun hHeld => ?_)
      · (first | exact ⟨hsp13, hsn13⟩ | exact ⟨hsp12, hsn12⟩ | exact ⟨hsp11, hsn11⟩ | exact ⟨hsp10, hsn10⟩ | exact ⟨hspc, hsnc⟩)
      clear hK K
      (try simp only [Act.put, List.setIfInBounds_toArray, List.set_cons_zero, List.set_cons_succ])
      refine wpAnyH_ready (rs := [18]) (by kernel_rfl) (by simp) ?_
      refine AllReadyH.cons (o := ?o18) ?hi18 (fun K hK => ?st18) AllReadyH.nil
      case hi18 => (simp only [List.getElem?_toArray, List.getElem?_cons_succ, List.getElem?_cons_zero] <;> rfl)
      go_simp
      refine hK.out _ _ ?_ (fun hHeld => ?_)
      · (first | exact ⟨hsp13, hsn13⟩ | exact ⟨hsp12, hsn12⟩ | exact ⟨hsp11, hsn11⟩ | exact ⟨hsp10, hsn10⟩ | exact ⟨hspc, hsnc⟩)
      clear hK K
      (try simp only [Act.put, List.setIfInBounds_toArray, List.set_cons_zero, List.set_cons_succ])
      refine take_w (i := 19) (oi := ?o19) (v := ?v19) ?hi19 (by kernel_rfl) (by kernel_rfl) (by kernel_rfl) ?hQ19 ?hw19 ?hy19 (by assumption) ?rest19
      case hi19 => (simp only [List.getElem?_toArray, List.getElem?_cons_succ, List.getElem?_cons_zero] <;> rfl)
      case hQ19 => exact (fun _ _ _ h => h)
      case hw19 => rfl
      case hy19 => (intro w hSw; (try dsimp only at hSw); go_simp; try with_reducible rfl)
      (try simp only [Act.put, List.setIfInBounds_toArray, List.set_cons_zero, List.set_cons_succ])
      refine take_w (i := 20) (oi := ?o20) (v := ?v20) ?hi20 (by kernel_rfl) (by kernel_rfl) (by kernel_rfl) ?hQ20 ?hw20 ?hy20 (by assumption) ?rest20
      case hi20 => (simp only [List.getElem?_toArray, List.getElem?_cons_succ, List.getElem?_cons_zero] <;> rfl)
      case hQ20 => exact (fun _ _ _ h => h)
      case hw20 => rfl
      case hy20 => (intro w hSw; (try dsimp only at hSw); go_simp; try with_reducible rfl)
      (try simp only [Act.put, List.setIfInBounds_toArray, List.set_cons_zero, List.set_cons_succ])
      refine take_w (i := 21) (oi := ?o21) (v := ?v21) ?hi21 (by kernel_rfl) (by kernel_rfl) (by kernel_rfl) ?hQ21 ?hw21 ?hy21 (by assumption) ?rest21
      case hi21 => (simp only [List.getElem?_toArray, List.getElem?_cons_succ, List.getElem?_cons_zero] <;> rfl)
      case hQ21 => exact (fun _ _ _ h => h)
      case hw21 => rfl
      case hy21 => (intro w hSw; (try dsimp only at hSw); go_simp; try with_reducible rfl)
      (try simp only [Act.put, List.setIfInBounds_toArray, List.set_cons_zero, List.set_cons_succ])
      refine take_w (i := 24) (oi := ?o24) (v := ?v24) ?hi24 (by kernel_rfl) (by kernel_rfl) (by kernel_rfl) ?hQ24 ?hw24 ?hy24 (by assumption) ?rest24
      case hi24 => (simp only [List.getElem?_toArray, List.getElem?_cons_succ, List.getElem?_cons_zero] <;> rfl)
      case hQ24 => exact (fun _ _ _ h => h)
      case hw24 => rfl
      case hy24 => (intro w hSw; (try dsimp only at hSw); go_simp; try with_reducible rfl)
      (try simp only [Act.put, List.setIfInBounds_toArray, List.set_cons_zero, List.set_cons_succ])
      refine take_w (i := 25) (oi := ?o25) (v := ?v25) ?hi25 (by kernel_rfl) (by kernel_rfl) (by kernel_rfl) ?hQ25 ?hw25 ?hy25 (by assumption) ?rest25
      case hi25 => (simp only [List.getElem?_toArray, List.getElem?_cons_succ, List.getElem?_cons_zero] <;> rfl)
      case hQ25 => exact (fun _ _ _ h => h)
      case hw25 => rfl
      case hy25 => (intro w hSw; (try dsimp only at hSw); go_simp; try with_reducible rfl)
      (try simp only [Act.put, List.setIfInBounds_toArray, List.set_cons_zero, List.set_cons_succ])
      refine wpAnyH_ready (rs := [22]) (by kernel_rfl) (by simp) ?_
      refine AllReadyH.cons (o := ?o22) ?hi22 (fun K hK => ?st22) AllReadyH.nil
      case hi22 => (simp only [List.getElem?_toArray, List.getElem?_cons_succ, List.getElem?_cons_zero] <;> rfl)
      go_simp
      go_at_call 13
      (with_reducible refine (none_any _).mono ?_)
      rintro _ w12 ⟨g12, c12, rfl, ho12, hb12⟩
      have hv12 : (convert 22 9 (.slice (some ⟨g12, 0, none⟩) 1 c12)).run Try.prog w12 = .ok (.string (strOfNums [3])) w12 := conv_own ho12 (fun z hz => by simp at hz; omega)
      have HOP12 := Lib.hid (own_below HOP11.out hb12 (HOP11.out.lt g4 rfl).2)
      have HON12 := Lib.hid (own_below HON11.out hb12 (HON11.out.lt g6 rfl).2)
      have hsp12 := conv_own HOP12.out H8P.out
      have hsn12 := conv_own HON12.out H8N.out
      have HB12 : Hid (Below w.heap.size w w12) := Lib.hid (HB11.out.trans (hb12.mono HB11.out.size))
      clear ho12 hb12
      go_simp
      refine hK.out _ _ ?_ (fun hHeld => ?_)
      · (first | exact ⟨hsp13, hsn13⟩ | exact ⟨hsp12, hsn12⟩ | exact ⟨hsp11, hsn11⟩ | exact ⟨hsp10, hsn10⟩ | exact ⟨hspc, hsnc⟩)
      clear hK K
      (try simp only [Act.put, List.setIfInBounds_toArray, List.set_cons_zero, List.set_cons_succ])
      refine wpAnyH_ready (rs := [23]) (by kernel_rfl) (by simp) ?_
      refine AllReadyH.cons (o := ?o23) ?hi23 (fun K hK => ?st23) AllReadyH.nil
      case hi23 => (simp only [List.getElem?_toArray, List.getElem?_cons_succ, List.getElem?_cons_zero] <;> rfl)
      go_simp
      refine hK.out _ _ ?_ (fun hHeld => ?_)
      · (first | exact ⟨hsp13, hsn13⟩ | exact ⟨hsp12, hsn12⟩ | exact ⟨hsp11, hsn11⟩ | exact ⟨hsp10, hsn10⟩ | exact ⟨hspc, hsnc⟩)
      clear hK K
      (try simp only [Act.put, List.setIfInBounds_toArray, List.set_cons_zero, List.set_cons_succ])
      refine take_w (i := 26) (oi := ?o26) (v := ?v26) ?hi26 (by kernel_rfl) (by kernel_rfl) (by kernel_rfl) ?hQ26 ?hw26 ?hy26 (by assumption) ?rest26
      case hi26 => (simp only [List.getElem?_toArray, List.getElem?_cons_succ, List.getElem?_cons_zero] <;> rfl)
      case hQ26 => exact (fun _ _ _ h => h)
      case hw26 => rfl
      case hy26 => (intro w hSw; (try dsimp only at hSw); go_simp; try with_reducible rfl)
      (try simp only [Act.put, List.setIfInBounds_toArray, List.set_cons_zero, List.set_cons_succ])
      refine take_w (i := 27) (oi := ?o27) (v := ?v27) ?hi27 (by kernel_rfl) (by kernel_rfl) (by kernel_rfl) ?hQ27 ?hw27 ?hy27 (by assumption) ?rest27
      case hi27 => (simp only [List.getElem?_toArray, List.getElem?_cons_succ, List.getElem?_cons_zero] <;> rfl)
      case hQ27 => exact (fun _ _ _ h => h)
      case hw27 => rfl
      case hy27 => (intro w hSw; (try dsimp only at hSw); go_simp; try with_reducible rfl)
      (try simp only [Act.put, List.setIfInBounds_toArray, List.set_cons_zero, List.set_cons_succ])
      refine take_w (i := 28) (oi := ?o28) (v := ?v28) ?hi28 (by kernel_rfl) (by kernel_rfl) (by kernel_rfl) ?hQ28 ?hw28 ?hy28 (by assumption) ?rest28
      case hi28 => (simp only [List.getElem?_toArray, List.getElem?_cons_succ, List.getElem?_cons_zero] <;> rfl)
      case hQ28 => exact (fun _ _ _ h => h)
      case hw28 => rfl
      case hy28 => (intro w hSw; (try dsimp only at hSw); go_simp; try with_reducible rfl)
      (try simp only [Act.put, List.setIfInBounds_toArray, List.set_cons_zero, List.set_cons_succ])
      refine take_w (i := 31) (oi := ?o31) (v := ?v31) ?hi31 (by kernel_rfl) (by kernel_rfl) (by kernel_rfl) ?hQ31 ?hw31 ?hy31 (by assumption) ?rest31
      case hi31 => (simp only [List.getElem?_toArray, List.getElem?_cons_succ, List.getElem?_cons_zero] <;> rfl)
      case hQ31 => exact (fun _ _ _ h => h)
      case hw31 => rfl
      case hy31 => (intro w hSw; (try dsimp only at hSw); go_simp; try with_reducible rfl)
      (try simp only [Act.put, List.setIfInBounds_toArray, List.set_cons_zero, List.set_cons_succ])
      refine take_w (i := 32) (oi := ?o32) (v := ?v32) ?hi32 (by kernel_rfl) (by kernel_rfl) (by kernel_rfl) ?hQ32 ?hw32 ?hy32 (by assumption) ?rest32
      case hi32 => (simp only [List.getElem?_toArray, List.getElem?_cons_succ, List.getElem?_cons_zero] <;> rfl)
      case hQ32 => exact (fun _ _ _ h => h)
      case hw32 => rfl
      case hy32 => (intro w hSw; (try dsimp only at hSw); go_simp; try with_reducible rfl)
      (try simp only [Act.put, List.setIfInBounds_toArray, List.set_cons_zero, List.set_cons_succ])
      refine wpAnyH_ready (rs := [29]) (by kernel_rfl) (by simp) ?_
      refine AllReadyH.cons (o := ?o29) ?hi29 (fun K hK => ?st29) AllReadyH.nil
      case hi29 => (simp only [List.getElem?_toArray, List.getElem?_cons_succ, List.getElem?_cons_zero] <;> rfl)
      go_simp
      go_at_call 13
      (with_reducible refine (none_any _).mono ?_)
      rintro _ w13 ⟨g13, c13, rfl, ho13, hb13⟩
      have hv13 : (convert 22 9 (.slice (some ⟨g13, 0, none⟩) 1 c13)).run Try.prog w13 = .ok (.string (strOfNums [3])) w13 := conv_own ho13 (fun z hz => by simp at hz; omega)
      have HOP13 := Lib.hid (own_below HOP12.out hb13 (HOP12.out.lt g4 rfl).2)
      have HON13 := Lib.hid (own_below HON12.out hb13 (HON12.out.lt g6 rfl).2)
      have hsp13 := conv_own HOP13.out H8P.out
      have hsn13 := conv_own HON13.out H8N.out
      have HB13 : Hid (Below w.heap.size w w13) := Lib.hid (HB12.out.trans (hb13.mono HB12.out.size))
      clear ho13 hb13
      go_simp
      refine hK.out _ _ ?_ (fun hHeld => ?_)
      · (first | exact ⟨hsp13, hsn13⟩ | exact ⟨hsp12, hsn12⟩ | exact ⟨hsp11, hsn11⟩ | exact ⟨hsp10, hsn10⟩ | exact ⟨hspc, hsnc⟩)
      clear hK K
      (try simp only [Act.put, List.setIfInBounds_toArray, List.set_cons_zero, List.set_cons_succ])
      refine wpAnyH_ready (rs := [30]) (by kernel_rfl) (by simp) ?_
      refine AllReadyH.cons (o := ?o30) ?hi30 (fun K hK => ?st30) AllReadyH.nil
      case hi30 => (simp only [List.getElem?_toArray, List.getElem?_cons_succ, List.getElem?_cons_zero] <;> rfl)
      go_simp
      refine hK.out _ _ ?_ (fun hHeld => ?_)
      · (first | exact ⟨hsp13, hsn13⟩ | exact ⟨hsp12, hsn12⟩ | exact ⟨hsp11, hsn11⟩ | exact ⟨hsp10, hsn10⟩ | exact ⟨hspc, hsnc⟩)
      clear hK K
      (try simp only [Act.put, List.setIfInBounds_toArray, List.set_cons_zero, List.set_cons_succ])
      refine take_w (i := 33) (oi := ?o33) (v := ?v33) ?hi33 (by kernel_rfl) (by kernel_rfl) (by kernel_rfl) ?hQ33 ?hw33 ?hy33 (by assumption) ?rest33
      case hi33 => (simp only [List.getElem?_toArray, List.getElem?_cons_succ, List.getElem?_cons_zero] <;> rfl)
      case hQ33 => exact (fun _ _ _ h => h)
      case hw33 => rfl
      case hy33 => (intro w hSw; (try dsimp only at hSw); go_simp; try with_reducible rfl)
      (try simp only [Act.put, List.setIfInBounds_toArray, List.set_cons_zero, List.set_cons_succ])
      refine take_w (i := 34) (oi := ?o34) (v := ?v34) ?hi34 (by kernel_rfl) (by kernel_rfl) (by kernel_rfl) ?hQ34 ?hw34 ?hy34 (by assumption) ?rest34
      case hi34 => (simp only [List.getElem?_toArray, List.getElem?_cons_succ, List.getElem?_cons_zero] <;> rfl)
      case hQ34 => exact (fun _ _ _ h => h)
      case hw34 => rfl
      case hy34 => (intro w hSw; (try dsimp only at hSw); go_simp; try with_reducible rfl)
      (try simp only [Act.put, List.setIfInBounds_toArray, List.set_cons_zero, List.set_cons_succ])
      refine take_w (i := 35) (oi := ?o35) (v := ?v35) ?hi35 (by kernel_rfl) (by kernel_rfl) (by kernel_rfl) ?hQ35 ?hw35 ?hy35 (by assumption) ?rest35
      case hi35 => (simp only [List.getElem?_toArray, List.getElem?_cons_succ, List.getElem?_cons_zero] <;> rfl)
      case hQ35 => exact (fun _ _ _ h => h)
      case hw35 => rfl
      case hy35 => (intro w hSw; (try dsimp only at hSw); go_simp; try with_reducible rfl)
      (try simp only [Act.put, List.setIfInBounds_toArray, List.set_cons_zero, List.set_cons_succ])
      refine wpAnyH_done (by kernel_rfl) ?_ _
      go_wp2_with fail
      go_ret
      exact ⟨rfl, HB13.out⟩
end Go.Proofs.Ytdmfjnohkpiaiaa
