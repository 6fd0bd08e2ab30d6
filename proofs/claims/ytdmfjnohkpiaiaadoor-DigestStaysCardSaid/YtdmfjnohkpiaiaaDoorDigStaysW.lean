/- The walk of the law DigestStays. -/
import Derived.Test.YtdmfjnohkpiaiaaDoorPrOf
import Derived.Test.YtdmfjnohkpiaiaaDoorDigUp
namespace Go.Proofs.YtdmfjnohkpiaiaaDoor
open Go.RowKit
set_option linter.unusedVariables false

/-- What was answered at first, in world W; w is the world at the beginning. -/
structure KD (w W : World) (g2 c2 gd g6 c6 g7 c7 : Nat) (bs : List Int) (x0 x1 x2 x3 : Int) : Prop where
  v : InBytes W (some ⟨g2, 0, none⟩) (valL bs).length c2 (valL bs)
  d : InBytes W (some ⟨gd, 0, none⟩) 4 4 ((sumL bs).take 4)
  p : InBytes W (some ⟨g6, 0, none⟩) (pairL bs [x0, x1, x2, x3]).length c6 (pairL bs [x0, x1, x2, x3])
  n : InBytes W (some ⟨g7, 0, none⟩) (nodeL [x0, x1, x2, x3] [x0, x1, x2, x3] [x0, x1, x2, x3]).length c7 (nodeL [x0, x1, x2, x3] [x0, x1, x2, x3] [x0, x1, x2, x3])
  x : Row .u8 W 38 w.heap.size [x0, x1, x2, x3]
  b : Below w.heap.size w W
section
variable {w W W' : World} {g2 c2 gd g6 c6 g7 c7 g10 g11 c11 g12 c12 : Nat} {bs : List Int} {x0 x1 x2 x3 : Int}
theorem KD.below (h : KD w W g2 c2 gd g6 c6 g7 c7 bs x0 x1 x2 x3) (hb : Below W.heap.size W W') : KD w W' g2 c2 gd g6 c6 g7 c7 bs x0 x1 x2 x3 :=
  ⟨h.v.below hb, h.d.below hb, h.p.below hb, h.n.below hb, h.x.below hb h.x.lt, h.b.trans (hb.mono h.b.size)⟩
theorem KD.drew (h : KD w W g2 c2 gd g6 c6 g7 c7 bs x0 x1 x2 x3) : KD w W.drew g2 c2 gd g6 c6 g7 c7 bs x0 x1 x2 x3 := h.below (Below.refl _ _).drew
theorem KD.grown {g : Nat} (h : KD w W g2 c2 gd g6 c6 g7 c7 bs x0 x1 x2 x3) (hg : W.grownBy W' (some g)) (h2 : g2 ≠ g) (hd : gd ≠ g) (h6 : g6 ≠ g) (h7 : g7 ≠ g) (hw : w.heap.size < g) : KD w W' g2 c2 gd g6 c6 g7 c7 bs x0 x1 x2 x3 :=
  ⟨h.v.grown hg (fun ad e => by injection e with e; subst e; simpa using h2), h.d.grown hg (fun ad e => by injection e with e; subst e; simpa using hd), h.p.grown hg (fun ad e => by injection e with e; subst e; simpa using h6), h.n.grown hg (fun ad e => by injection e with e; subst e; simpa using h7), h.x.grown hg (by simp; omega), below_only h.b hg h.b.size (by omega)⟩
/-- And what was answered again. -/
structure QD (w W : World) (g2 c2 gd g6 c6 g7 c7 g10 g11 c11 g12 c12 : Nat) (bs : List Int) (x0 x1 x2 x3 : Int) : Prop where
  k : KD w W g2 c2 gd g6 c6 g7 c7 bs x0 x1 x2 x3
  d : InBytes W (some ⟨g10, 0, none⟩) 4 4 ((sumL bs).take 4)
  p : InBytes W (some ⟨g11, 0, none⟩) (pairL bs [x0, x1, x2, x3]).length c11 (pairL bs [x0, x1, x2, x3])
  n : InBytes W (some ⟨g12, 0, none⟩) (nodeL [x0, x1, x2, x3] [x0, x1, x2, x3] [x0, x1, x2, x3]).length c12 (nodeL [x0, x1, x2, x3] [x0, x1, x2, x3] [x0, x1, x2, x3])
theorem QD.below (h : QD w W g2 c2 gd g6 c6 g7 c7 g10 g11 c11 g12 c12 bs x0 x1 x2 x3) (hb : Below W.heap.size W W') : QD w W' g2 c2 gd g6 c6 g7 c7 g10 g11 c11 g12 c12 bs x0 x1 x2 x3 :=
  ⟨h.k.below hb, h.d.below hb, h.p.below hb, h.n.below hb⟩
theorem QD.below' (h : QD w W g2 c2 gd g6 c6 g7 c7 g10 g11 c11 g12 c12 bs x0 x1 x2 x3) (hb : Below W.drew.heap.size W.drew W') : QD w W' g2 c2 gd g6 c6 g7 c7 g10 g11 c11 g12 c12 bs x0 x1 x2 x3 :=
  (h.below (W' := W.drew) (Below.refl _ _).drew).below hb
theorem conv_of {w : World} {a : Option Addr} {n cap : Nat} {bs : List Int} (h : InBytes w a n cap bs) :
    (convert 22 9 (.slice a n cap)).run Tryd.prog w = .ok (.string (strOfNums bs)) w :=
  conv_in (P := Tryd.prog) h 22 5 9 Tryd.underlying22 Tryd.underlying5 Tryd.underlying9
theorem QD.convs (h : QD w W g2 c2 gd g6 c6 g7 c7 g10 g11 c11 g12 c12 bs x0 x1 x2 x3) : (convert 22 9 (.slice (some ⟨g2, 0, none⟩) (valL bs).length c2)).run Tryd.prog W = .ok (.string (strOfNums (valL bs))) W ∧ (convert 22 9 (.slice (some ⟨gd, 0, none⟩) 4 4)).run Tryd.prog W = .ok (.string (strOfNums ((sumL bs).take 4))) W ∧ (convert 22 9 (.slice (some ⟨g10, 0, none⟩) 4 4)).run Tryd.prog W = .ok (.string (strOfNums ((sumL bs).take 4))) W ∧ (convert 22 9 (.slice (some ⟨g6, 0, none⟩) (pairL bs [x0, x1, x2, x3]).length c6)).run Tryd.prog W = .ok (.string (strOfNums (pairL bs [x0, x1, x2, x3]))) W ∧ (convert 22 9 (.slice (some ⟨g11, 0, none⟩) (pairL bs [x0, x1, x2, x3]).length c11)).run Tryd.prog W = .ok (.string (strOfNums (pairL bs [x0, x1, x2, x3]))) W ∧ (convert 22 9 (.slice (some ⟨g7, 0, none⟩) (nodeL [x0, x1, x2, x3] [x0, x1, x2, x3] [x0, x1, x2, x3]).length c7)).run Tryd.prog W = .ok (.string (strOfNums (nodeL [x0, x1, x2, x3] [x0, x1, x2, x3] [x0, x1, x2, x3]))) W ∧ (convert 22 9 (.slice (some ⟨g12, 0, none⟩) (nodeL [x0, x1, x2, x3] [x0, x1, x2, x3] [x0, x1, x2, x3]).length c12)).run Tryd.prog W = .ok (.string (strOfNums (nodeL [x0, x1, x2, x3] [x0, x1, x2, x3] [x0, x1, x2, x3]))) W :=
  ⟨conv_of h.k.v, conv_of h.k.d, conv_of h.d, conv_of h.k.p, conv_of h.p, conv_of h.k.n, conv_of h.n⟩
theorem in_row4 {t : TypeId} {g : Nat} (h : Row .u8 W t g [x0, x1, x2, x3]) (h8 : Bytes8 [x0, x1, x2, x3]) : InBytes W (some ⟨g, 0, none⟩) 4 4 [x0, x1, x2, x3] := InBytes.of_row h h8 (by simp)
end
theorem of_ok4 (a : Option Addr) (n cap : Nat) (bs : List Int) (w : World) (hin : InBytes w a n cap bs) (hn : (n : Int) ≤ 1125899906842624) (hT : TabLies w) :
    Calls Tryd.prog 6 #[.int .i64 4, .slice a n cap] w (OfPost2 w 4 bs) := of_ok 4 a n cap bs w hin hn hT (by omega) (by omega)

set_option maxRecDepth 100000 in
set_option maxHeartbeats 8000000 in
theorem digStays_law (a : Option Addr) (n0 cap : Nat) (bs0 : List Int) (x0 x1 x2 x3 : Int) (w : World) (hin0 : InBytes w a n0 cap bs0) (h8x : Bytes8 [x0, x1, x2, x3]) (hT : TabLies w) :
    Calls Tryd.prog 4 #[.slice a n0 cap, .agg #[.int .u8 x0, .int .u8 x1, .int .u8 x2, .int .u8 x3]] w fun e w' => e = .returned (.bool true) ∧ Below w.heap.size w w' := by
  obtain ⟨i0, hi0, hz0, hz1, hz2⟩ := info_parts infoU8
  have hle0 := hin0.le
  have hmax := hin0.max
  simp only [maxLen] at hmax
  have HIN0 := Lib.hid hin0
  have HT := Lib.hid hT
  have H8X := Lib.hid h8x
  have hx0 := h8x x0 (by simp)
  have hx3 := h8x x3 (by simp)
  clear hin0 hT h8x
  go_enter Tryd.func4, Tryd.ntmps4
  go_upto_if 27 with (first
    | (go_at_call 5
       (with_reducible refine (upD_any _).mono ?_)
       rintro _ w0 ⟨rfl, hb0⟩
       have HX0 : Hid (Row .u8 w0 38 w.heap.size [x0, x1, x2, x3]) := Lib.hid (Row.below (Row.new w 38 [x0, x1, x2, x3]) hb0 (by simp))
       have HB0 : Hid (Below w.heap.size w w0) := Lib.hid (((Below.refl w.heap.size w).alloc (Nat.le_refl _) _).trans (hb0.mono (by simp)))
       clear hb0))
  go_cut [0] (fun s0 wx => ∃ (n : Nat) (bs : List Int), s0 = .slice a n cap ∧ n ≤ 5000 ∧ InBytes w a n cap bs ∧ wx = w0)
  case first =>
    by_cases hb : n0 ≤ 5000
    · have hb2 : ¬ (5000 : Int) < (n0 : Int) := by omega
      go_wp2_with fail
      go_meet
      exact ⟨n0, bs0, rfl, hb, HIN0.out, rfl⟩
    · have hb2 : (5000 : Int) < (n0 : Int) := by omega
      have hb3 : (5000 : Int) ≤ (cap : Int) := by omega
      go_wp2_with fail
      go_meet
      exact ⟨5000, bs0.take 5000, rfl, by omega, HIN0.out.upto 5000 (by omega), rfl⟩
  case rest =>
    obtain ⟨n, bs, rfl, hn, hin, hwc⟩ := hcut
    rw [hwc]
    have hbl := hin.len
    have HIN := Lib.hid hin
    clear hin HIN0 hwc hle0 hmax
    go_upto_region 10 with (first
      | (at_builtin
         refine wpList_append_bytes' _ rfl (.tmp 30) (.tmp 31) 22 rfl w0.heap.size 5 i0 _ 1 Tryd.underlying22 hi0 hz0 hz1 hz2 rfl w0.heap.size 0 0 [] rfl (own_new w0 5 .u8 [] w0.heap.size (Nat.le_refl _) (by simp [maxLen])) a n cap bs rfl ((HIN.out.below HB0.out).below ((Below.refl _ _).alloc (Nat.le_refl _) _)) (by simp only [maxLen]; omega) (by omega) (by simp) ?_
         intro g1 c1 w2 hown1 hg1
         rw [List.nil_append, Nat.zero_add] at hown1
         have hgg1 := hown1.lt g1 rfl
         have HO1 := Lib.hid hown1
         have hb2 : Below w0.heap.size w0 w2 := below_only ((Below.refl _ _).alloc (Nat.le_refl _) _) hg1 (by simp) (Nat.le_refl _)
         have HX2 := Lib.hid (HX0.out.below hb2 HX0.out.lt)
         have hwlt : w.heap.size < w0.heap.size := HX0.out.lt
         have HB2 : Hid (Below w.heap.size w w2) := Lib.hid (HB0.out.trans (hb2.mono HB0.out.size))
         clear hown1 hg1 hb2)
      | (go_at_call 10
         (with_reducible refine (value_any _ _ _ _ _ (InBytes.of_own HO1.out HIN.out.bytes) (by omega)).mono ?_)
         rintro _ w3 ⟨g2, c2, rfl, ho2, hb2⟩
         have HV3 := Lib.hid (InBytes.of_own ho2 (valL_bytes HIN.out.bytes))
         have hgg2 := ho2.lt g2 rfl
         have HO3 := Lib.hid (own_below HO1.out hb2 (HO1.out.lt g1 rfl).2)
         have HX3 := Lib.hid (HX2.out.below hb2 HX2.out.lt)
         have HB3 : Hid (Below w.heap.size w w3) := Lib.hid (HB2.out.trans (hb2.mono HB2.out.size))
         clear ho2 hb2)
      | (go_at_call 6
         (with_reducible refine (of_ok4 _ _ _ _ _ (InBytes.of_own HO3.out HIN.out.bytes) (by omega) (HT.out.below HB3.out (Nat.le_refl _))).mono ?_)
         rintro _ w4 ⟨gd, hgd, rfl, hr4, hb4⟩
         have HD4 := Lib.hid (of_in (k := 4) hr4 (by omega))
         have hgd2 := hr4.lt
         have HV4 := Lib.hid (HV3.out.below hb4)
         have HO4 := Lib.hid (own_below HO3.out hb4 (HO3.out.lt g1 rfl).2)
         have hx4 := HX3.out.below hb4 HX3.out.lt
         have HX4 := Lib.hid hx4
         have e0 := hx4.cellD 0 (by simp)
         have e1 := hx4.cellD 1 (by simp)
         have e2 := hx4.cellD 2 (by simp)
         have e3 := hx4.cellD 3 (by simp)
         have HB4 : Hid (Below w.heap.size w w4) := Lib.hid (HB3.out.trans (hb4.mono HB3.out.size))
         clear hr4 hb4 hx4)
      | (go_at_call 11
         (with_reducible refine (pair_ok _ _ _ _ bs _ _ _ [x0, x1, x2, x3] _ ?_ ?_ ?_ ?_ ?_ ?_).mono ?_)
         · exact (InBytes.of_own HO4.out HIN.out.bytes).below ((Below.refl _ _).alloc (Nat.le_refl _) _)
         · omega
         · exact in_row4 (Row.new w4 5 [x0, x1, x2, x3]) H8X.out
         · omega
         · omega
         · rfl
         rintro _ w6 ⟨g6, c6, rfl, ho6, hb6⟩
         have hb46 : Below w4.heap.size w4 w6 := ((Below.refl w4.heap.size w4).alloc (Nat.le_refl _) _).trans (hb6.mono (by simp))
         have HW6 := Lib.hid (Row.below (Row.new w4 5 [x0, x1, x2, x3]) hb6 (by simp))
         have HP6 := Lib.hid (InBytes.of_own ho6 (pairL_bytes HIN.out.bytes (by omega) H8X.out))
         have hgg6 := ho6.lt g6 rfl
         have HV6 := Lib.hid (HV4.out.below hb46)
         have HD6 := Lib.hid (HD4.out.below hb46)
         have HO6 := Lib.hid (own_below HO4.out hb46 (HO4.out.lt g1 rfl).2)
         have HX6 := Lib.hid (HX4.out.below hb46 HX4.out.lt)
         have HB6 : Hid (Below w.heap.size w w6) := Lib.hid (HB4.out.trans (hb46.mono HB4.out.size))
         clear ho6 hb6 hb46 e0 e1 e2 e3)
      | (go_at_call 12
         (with_reducible refine (node_ok _ _ _ _ [x0, x1, x2, x3] _ _ _ [x0, x1, x2, x3] _ _ _ [x0, x1, x2, x3] _ ?_ ?_ ?_ ?_ ?_ ?_ ?_ ?_).mono ?_)
         · exact in_row4 HW6.out H8X.out
         · exact in_row4 HW6.out H8X.out
         · exact in_row4 HW6.out H8X.out
         · omega
         · omega
         · rfl
         · rfl
         · rfl
         rintro _ w7 ⟨g7, c7, rfl, ho7, hb7⟩
         have HK7 : Hid (KD w w7 g2 c2 gd g6 c6 g7 c7 bs x0 x1 x2 x3) := Lib.hid ⟨HV6.out.below hb7, HD6.out.below hb7, HP6.out.below hb7, InBytes.of_own ho7 (nodeL_bytes H8X.out H8X.out H8X.out), HX6.out.below hb7 HX6.out.lt, HB6.out.trans (hb7.mono HB6.out.size)⟩
         have hgg7 := ho7.lt g7 rfl
         have HO7 := Lib.hid (own_below HO6.out hb7 (HO6.out.lt g1 rfl).2)
         have HW7 := Lib.hid (HW6.out.below hb7 HW6.out.lt)
         clear ho7 hb7 HV3 HV4 HV6 HD4 HD6 HP6 HX0 HX2 HX3 HX4 HX6 HB2 HB3 HB4 HB6 HO1 HO3 HO4 HO6 HW6))
    have hcv1 := conv_of (InBytes.of_own (w := w7.drew) HO7.out HIN.out.bytes)
    have hcv2 := conv_of (HIN.out.below HK7.out.drew.b)
    have e0 := HW7.out.drew.cellD 0 (by simp)
    have e1 := HK7.out.x.drew.cellD 0 (by simp)
    have e2 := HW7.out.drew.cellD 3 (by simp)
    have e3 := HK7.out.x.drew.cellD 3 (by simp)
    refine wp_region_held_drew (S := (fun W => (convert 22 9 (.slice (some ⟨g1, 0, none⟩) n c1)).run Tryd.prog W = .ok (.string (strOfNums (bs))) W ∧ (convert 22 9 (.slice a n cap)).run Tryd.prog W = .ok (.string (strOfNums (bs))) W ∧ W.cell? ⟨w4.heap.size, 0, none⟩ = some (.int .u8 x0) ∧ W.cell? ⟨w.heap.size, 0, none⟩ = some (.int .u8 x0) ∧ W.cell? ⟨w4.heap.size, 3, none⟩ = some (.int .u8 x3) ∧ W.cell? ⟨w.heap.size, 3, none⟩ = some (.int .u8 x3))) (by kernel_rfl) ⟨hcv1, hcv2, e0, e1, e2, e3⟩ (fun hHeld => ?_)
    refine take_w (i := 0) (oi := ?oZ1) (v := ?vZ1) ?hiZ1 (by kernel_rfl) (by kernel_rfl) (by kernel_rfl) ?hQZ1 ?hwZ1 ?hyZ1 (by assumption) ?restZ1
    case hiZ1 => (simp only [List.getElem?_toArray, List.getElem?_cons_zero] <;> rfl)
    case hQZ1 => exact (fun _ _ _ h => h)
    case hwZ1 => rfl
    case hyZ1 => (intro w hSw; (try dsimp only at hSw); go_simp; try with_reducible rfl)
    (try simp only [Act.put, List.setIfInBounds_toArray, List.set_cons_zero, List.set_cons_succ])
    refine take_w (i := 1) (oi := ?oZ2) (v := ?vZ2) ?hiZ2 (by kernel_rfl) (by kernel_rfl) (by kernel_rfl) ?hQZ2 ?hwZ2 ?hyZ2 (by assumption) ?restZ2
    case hiZ2 => (simp only [List.getElem?_toArray, List.getElem?_cons_succ, List.getElem?_cons_zero] <;> rfl)
    case hQZ2 => exact (fun _ _ _ h => h)
    case hwZ2 => rfl
    case hyZ2 => (intro w hSw; (try dsimp only at hSw); go_simp; try with_reducible rfl)
    (try simp only [Act.put, List.setIfInBounds_toArray, List.set_cons_zero, List.set_cons_succ])
    refine take_w (i := 2) (oi := ?oZ3) (v := ?vZ3) ?hiZ3 (by kernel_rfl) (by kernel_rfl) (by kernel_rfl) ?hQZ3 ?hwZ3 ?hyZ3 (by assumption) ?restZ3
    case hiZ3 => (simp only [List.getElem?_toArray, List.getElem?_cons_succ, List.getElem?_cons_zero] <;> rfl)
    case hQZ3 => exact (fun _ _ _ h => h)
    case hwZ3 => rfl
    case hyZ3 => (intro w hSw; (try dsimp only at hSw); go_simp; try with_reducible rfl)
    (try simp only [Act.put, List.setIfInBounds_toArray, List.set_cons_zero, List.set_cons_succ])
    refine take_w (i := 3) (oi := ?oZ4) (v := ?vZ4) ?hiZ4 (by kernel_rfl) (by kernel_rfl) (by kernel_rfl) ?hQZ4 ?hwZ4 ?hyZ4 (by assumption) ?restZ4
    case hiZ4 => (simp only [List.getElem?_toArray, List.getElem?_cons_succ, List.getElem?_cons_zero] <;> rfl)
    case hQZ4 => exact (fun _ _ _ h => h)
    case hwZ4 => rfl
    case hyZ4 => (intro w hSw; (try dsimp only at hSw); go_simp; try with_reducible rfl)
    (try simp only [Act.put, List.setIfInBounds_toArray, List.set_cons_zero, List.set_cons_succ])
    refine take_w (i := 4) (oi := ?oZ5) (v := ?vZ5) ?hiZ5 (by kernel_rfl) (by kernel_rfl) (by kernel_rfl) ?hQZ5 ?hwZ5 ?hyZ5 (by assumption) ?restZ5
    case hiZ5 => (simp only [List.getElem?_toArray, List.getElem?_cons_succ, List.getElem?_cons_zero] <;> rfl)
    case hQZ5 => exact (fun _ _ _ h => h)
    case hwZ5 => rfl
    case hyZ5 => (intro w hSw; (try dsimp only at hSw); go_simp; try with_reducible rfl)
    (try simp only [Act.put, List.setIfInBounds_toArray, List.set_cons_zero, List.set_cons_succ])
    refine take_w (i := 5) (oi := ?oZ6) (v := ?vZ6) ?hiZ6 (by kernel_rfl) (by kernel_rfl) (by kernel_rfl) ?hQZ6 ?hwZ6 ?hyZ6 (by assumption) ?restZ6
    case hiZ6 => (simp only [List.getElem?_toArray, List.getElem?_cons_succ, List.getElem?_cons_zero] <;> rfl)
    case hQZ6 => exact (fun _ _ _ h => h)
    case hwZ6 => rfl
    case hyZ6 => (intro w hSw; (try dsimp only at hSw); go_simp; try with_reducible rfl)
    (try simp only [Act.put, List.setIfInBounds_toArray, List.set_cons_zero, List.set_cons_succ])
    refine take_w (i := 6) (oi := ?oZ7) (v := ?vZ7) ?hiZ7 (by kernel_rfl) (by kernel_rfl) (by kernel_rfl) ?hQZ7 ?hwZ7 ?hyZ7 (by assumption) ?restZ7
    case hiZ7 => (simp only [List.getElem?_toArray, List.getElem?_cons_succ, List.getElem?_cons_zero] <;> rfl)
    case hQZ7 => exact (fun _ _ _ h => h)
    case hwZ7 => rfl
    case hyZ7 => (intro w hSw; (try dsimp only at hSw); go_simp; try with_reducible rfl)
    (try simp only [Act.put, List.setIfInBounds_toArray, List.set_cons_zero, List.set_cons_succ])
    refine take_w (i := 7) (oi := ?oZ8) (v := ?vZ8) ?hiZ8 (by kernel_rfl) (by kernel_rfl) (by kernel_rfl) ?hQZ8 ?hwZ8 ?hyZ8 (by assumption) ?restZ8
    case hiZ8 => (simp only [List.getElem?_toArray, List.getElem?_cons_succ, List.getElem?_cons_zero] <;> rfl)
    case hQZ8 => exact (fun _ _ _ h => h)
    case hwZ8 => rfl
    case hyZ8 => (intro w hSw; (try dsimp only at hSw); go_simp; try with_reducible rfl)
    (try simp only [Act.put, List.setIfInBounds_toArray, List.set_cons_zero, List.set_cons_succ])
    refine take_w (i := 8) (oi := ?oZ9) (v := ?vZ9) ?hiZ9 (by kernel_rfl) (by kernel_rfl) (by kernel_rfl) ?hQZ9 ?hwZ9 ?hyZ9 (by assumption) ?restZ9
    case hiZ9 => (simp only [List.getElem?_toArray, List.getElem?_cons_succ, List.getElem?_cons_zero] <;> rfl)
    case hQZ9 => exact (fun _ _ _ h => h)
    case hwZ9 => rfl
    case hyZ9 => (intro w hSw; (try dsimp only at hSw); go_simp; try with_reducible rfl)
    (try simp only [Act.put, List.setIfInBounds_toArray, List.set_cons_zero, List.set_cons_succ])
    refine take_w (i := 9) (oi := ?oZ10) (v := ?vZ10) ?hiZ10 (by kernel_rfl) (by kernel_rfl) (by kernel_rfl) ?hQZ10 ?hwZ10 ?hyZ10 (by assumption) ?restZ10
    case hiZ10 => (simp only [List.getElem?_toArray, List.getElem?_cons_succ, List.getElem?_cons_zero] <;> rfl)
    case hQZ10 => exact (fun _ _ _ h => h)
    case hwZ10 => rfl
    case hyZ10 => (intro w hSw; (try dsimp only at hSw); go_simp; try with_reducible rfl)
    (try simp only [Act.put, List.setIfInBounds_toArray, List.set_cons_zero, List.set_cons_succ])
    refine take_w (i := 10) (oi := ?oZ11) (v := ?vZ11) ?hiZ11 (by kernel_rfl) (by kernel_rfl) (by kernel_rfl) ?hQZ11 ?hwZ11 ?hyZ11 (by assumption) ?restZ11
    case hiZ11 => (simp only [List.getElem?_toArray, List.getElem?_cons_succ, List.getElem?_cons_zero] <;> rfl)
    case hQZ11 => exact (fun _ _ _ h => h)
    case hwZ11 => rfl
    case hyZ11 => (intro w hSw; (try dsimp only at hSw); go_simp; try with_reducible rfl)
    (try simp only [Act.put, List.setIfInBounds_toArray, List.set_cons_zero, List.set_cons_succ])
    refine take_w (i := 11) (oi := ?oZ12) (v := ?vZ12) ?hiZ12 (by kernel_rfl) (by kernel_rfl) (by kernel_rfl) ?hQZ12 ?hwZ12 ?hyZ12 (by assumption) ?restZ12
    case hiZ12 => (simp only [List.getElem?_toArray, List.getElem?_cons_succ, List.getElem?_cons_zero] <;> rfl)
    case hQZ12 => exact (fun _ _ _ h => h)
    case hwZ12 => rfl
    case hyZ12 => (intro w hSw; (try dsimp only at hSw); go_simp; try with_reducible rfl)
    (try simp only [Act.put, List.setIfInBounds_toArray, List.set_cons_zero, List.set_cons_succ])
    refine take_w (i := 12) (oi := ?oZ13) (v := ?vZ13) ?hiZ13 (by kernel_rfl) (by kernel_rfl) (by kernel_rfl) ?hQZ13 ?hwZ13 ?hyZ13 (by assumption) ?restZ13
    case hiZ13 => (simp only [List.getElem?_toArray, List.getElem?_cons_succ, List.getElem?_cons_zero] <;> rfl)
    case hQZ13 => exact (fun _ _ _ h => h)
    case hwZ13 => rfl
    case hyZ13 => (intro w hSw; (try dsimp only at hSw); go_simp; try with_reducible rfl)
    (try simp only [Act.put, List.setIfInBounds_toArray, List.set_cons_zero, List.set_cons_succ])
    refine take_w (i := 13) (oi := ?oZ14) (v := ?vZ14) ?hiZ14 (by kernel_rfl) (by kernel_rfl) (by kernel_rfl) ?hQZ14 ?hwZ14 ?hyZ14 (by assumption) ?restZ14
    case hiZ14 => (simp only [List.getElem?_toArray, List.getElem?_cons_succ, List.getElem?_cons_zero] <;> rfl)
    case hQZ14 => exact (fun _ _ _ h => h)
    case hwZ14 => rfl
    case hyZ14 => (intro w hSw; (try dsimp only at hSw); go_simp; try with_reducible rfl)
    (try simp only [Act.put, List.setIfInBounds_toArray, List.set_cons_zero, List.set_cons_succ])
    refine take_w (i := 14) (oi := ?oZ15) (v := ?vZ15) ?hiZ15 (by kernel_rfl) (by kernel_rfl) (by kernel_rfl) ?hQZ15 ?hwZ15 ?hyZ15 (by assumption) ?restZ15
    case hiZ15 => (simp only [List.getElem?_toArray, List.getElem?_cons_succ, List.getElem?_cons_zero] <;> rfl)
    case hQZ15 => exact (fun _ _ _ h => h)
    case hwZ15 => rfl
    case hyZ15 => (intro w hSw; (try dsimp only at hSw); go_simp; try with_reducible rfl)
    (try simp only [Act.put, List.setIfInBounds_toArray, List.set_cons_zero, List.set_cons_succ])
    refine take_w (i := 15) (oi := ?oZ16) (v := ?vZ16) ?hiZ16 (by kernel_rfl) (by kernel_rfl) (by kernel_rfl) ?hQZ16 ?hwZ16 ?hyZ16 (by assumption) ?restZ16
    case hiZ16 => (simp only [List.getElem?_toArray, List.getElem?_cons_succ, List.getElem?_cons_zero] <;> rfl)
    case hQZ16 => exact (fun _ _ _ h => h)
    case hwZ16 => rfl
    case hyZ16 => (intro w hSw; (try dsimp only at hSw); go_simp; try with_reducible rfl)
    (try simp only [Act.put, List.setIfInBounds_toArray, List.set_cons_zero, List.set_cons_succ])
    refine take_w (i := 16) (oi := ?oZ17) (v := ?vZ17) ?hiZ17 (by kernel_rfl) (by kernel_rfl) (by kernel_rfl) ?hQZ17 ?hwZ17 ?hyZ17 (by assumption) ?restZ17
    case hiZ17 => (simp only [List.getElem?_toArray, List.getElem?_cons_succ, List.getElem?_cons_zero] <;> rfl)
    case hQZ17 => exact (fun _ _ _ h => h)
    case hwZ17 => rfl
    case hyZ17 => (intro w hSw; (try dsimp only at hSw); go_simp; try with_reducible rfl)
    (try simp only [Act.put, List.setIfInBounds_toArray, List.set_cons_zero, List.set_cons_succ])
    refine take_w (i := 17) (oi := ?oZ18) (v := ?vZ18) ?hiZ18 (by kernel_rfl) (by kernel_rfl) (by kernel_rfl) ?hQZ18 ?hwZ18 ?hyZ18 (by assumption) ?restZ18
    case hiZ18 => (simp only [List.getElem?_toArray, List.getElem?_cons_succ, List.getElem?_cons_zero] <;> rfl)
    case hQZ18 => exact (fun _ _ _ h => h)
    case hwZ18 => rfl
    case hyZ18 => (intro w hSw; (try dsimp only at hSw); go_simp; try with_reducible rfl)
    (try simp only [Act.put, List.setIfInBounds_toArray, List.set_cons_zero, List.set_cons_succ])
    refine take_w (i := 18) (oi := ?oZ19) (v := ?vZ19) ?hiZ19 (by kernel_rfl) (by kernel_rfl) (by kernel_rfl) ?hQZ19 ?hwZ19 ?hyZ19 (by assumption) ?restZ19
    case hiZ19 => (simp only [List.getElem?_toArray, List.getElem?_cons_succ, List.getElem?_cons_zero] <;> rfl)
    case hQZ19 => exact (fun _ _ _ h => h)
    case hwZ19 => rfl
    case hyZ19 => (intro w hSw; (try dsimp only at hSw); go_simp; try with_reducible rfl)
    (try simp only [Act.put, List.setIfInBounds_toArray, List.set_cons_zero, List.set_cons_succ])
    refine take_w (i := 19) (oi := ?oZ20) (v := ?vZ20) ?hiZ20 (by kernel_rfl) (by kernel_rfl) (by kernel_rfl) ?hQZ20 ?hwZ20 ?hyZ20 (by assumption) ?restZ20
    case hiZ20 => (simp only [List.getElem?_toArray, List.getElem?_cons_succ, List.getElem?_cons_zero] <;> rfl)
    case hQZ20 => exact (fun _ _ _ h => h)
    case hwZ20 => rfl
    case hyZ20 => (intro w hSw; (try dsimp only at hSw); go_simp; try with_reducible rfl)
    (try simp only [Act.put, List.setIfInBounds_toArray, List.set_cons_zero, List.set_cons_succ])
    refine take_w (i := 20) (oi := ?oZ21) (v := ?vZ21) ?hiZ21 (by kernel_rfl) (by kernel_rfl) (by kernel_rfl) ?hQZ21 ?hwZ21 ?hyZ21 (by assumption) ?restZ21
    case hiZ21 => (simp only [List.getElem?_toArray, List.getElem?_cons_succ, List.getElem?_cons_zero] <;> rfl)
    case hQZ21 => exact (fun _ _ _ h => h)
    case hwZ21 => rfl
    case hyZ21 => (intro w hSw; (try dsimp only at hSw); go_simp; try with_reducible rfl)
    (try simp only [Act.put, List.setIfInBounds_toArray, List.set_cons_zero, List.set_cons_succ])
    refine take_w (i := 21) (oi := ?oZ22) (v := ?vZ22) ?hiZ22 (by kernel_rfl) (by kernel_rfl) (by kernel_rfl) ?hQZ22 ?hwZ22 ?hyZ22 (by assumption) ?restZ22
    case hiZ22 => (simp only [List.getElem?_toArray, List.getElem?_cons_succ, List.getElem?_cons_zero] <;> rfl)
    case hQZ22 => exact (fun _ _ _ h => h)
    case hwZ22 => rfl
    case hyZ22 => (intro w hSw; (try dsimp only at hSw); go_simp; try with_reducible rfl)
    (try simp only [Act.put, List.setIfInBounds_toArray, List.set_cons_zero, List.set_cons_succ])
    refine wpAnyH_done (by kernel_rfl) ?_ _
    
    clear hHeld hcv1 hcv2 e0 e1 e2 e3
    have HK8 := Lib.hid HK7.out.drew
    have HO8 : Hid (w7.drew.ownsRow w0.heap.size 5 1 (.slice (some ⟨g1, 0, none⟩) n c1) n (bs.map (Value.int .u8))) := Lib.hid HO7.out
    have HW8 := Lib.hid HW7.out.drew
    clear HK7 HO7 HW7
    generalize w7.drew = w8 at *
    have n1 : w0.heap.size ≤ g1 := by have := hgg1.1; omega
    have n2 : g1 < w2.heap.size := hgg1.2
    have n3 : w2.heap.size ≤ g2 := hgg2.1
    have n4 : g2 < w3.heap.size := hgg2.2
    have n5 : gd < w4.heap.size := hgd2
    have n6 : w4.heap.size < g6 := by have := hgg6.1; simp at this; omega
    have n7 : w6.heap.size ≤ g7 := hgg7.1
    have n8 : g6 < w6.heap.size := hgg6.2
    clear hgg1 hgg2 hgd2 hgg6 hgg7
    go_wp2_with fail
    go_loopw [16] (fun s16 wx => ∃ (i : Nat) (zs : List Int), i ≤ n ∧ zs.length = n ∧ s16 = .int .i64 i ∧ wx.ownsRow w0.heap.size 5 1 (.slice (some ⟨g1, 0, none⟩) n c1) n (zs.map (Value.int .u8)) ∧ w8.grownBy wx (some g1)) (fun s16 _ => n - (intOf s16).toNat)
    case atStart => exact ⟨0, bs, by omega, hbl, rfl, HO8.out, only_refl _ _⟩
    case round =>
      obtain ⟨i, zs, hi, hzl, rfl, hown, hgr⟩ := hrel
      by_cases hlt : i < n
      · have q1 : (i : Int) < (n : Int) := by omega
        have hc := hown.cellAt i (by omega)
        rw [show (zs.map (Value.int .u8))[i]? = some (.int .u8 (zs.getD i 0)) by simp [List.getD, show i < zs.length by omega]] at hc
        have hf := hown.frozenAt i
        generalize zs.getD i 0 = z at hc
        have HO := Lib.hid hown
        have HG := Lib.hid hgr
        clear hown hgr
        go_wp2_with fail
        exact ⟨⟨i + 1, zs.set i _, by omega, by simpa using hzl, by go_num, own_bump HO.out _, only_set HG.out _ _⟩, by simp [intOf]; omega⟩
      · obtain rfl : i = n := by omega
        have q1 : ¬ (i : Int) < (i : Int) := by omega
        have hk9 := HK8.out.grown hgr (by omega) (by omega) (by omega) (by omega) (by omega)
        have HK9 := Lib.hid hk9
        have hw9 := HW8.out.grown hgr (by simp; omega)
        have HW9 := Lib.hid hw9
        have e0 := hw9.cellD 0 (by simp)
        have f0 := hw9.frozen 0
        have hne : ¬ w.heap.size = w4.heap.size := by omega
        have hne2 : ¬ w4.heap.size = w.heap.size := by omega
        have b0 := hk9.x.cellD 0 (by simp)
        have b1 := hk9.x.cellD 1 (by simp)
        have b2 := hk9.x.cellD 2 (by simp)
        have b3 := hk9.x.cellD 3 (by simp)
        clear hown hgr HK8 HW8 HO8 hk9 hw9
        have HKs : Hid (∀ z, KD w (wr.setCell ⟨w4.heap.size, 0, none⟩ z) g2 c2 gd g6 c6 g7 c7 bs x0 x1 x2 x3) := Lib.hid fun z => HK9.out.grown (only_set (only_refl wr _) 0 z) (by omega) (by omega) (by omega) (by omega) (by omega)
        clear HK9 HW9
        go_upto_region 20 with (first
          | (go_at_call 6
             (with_reducible refine (of_ok4 a i cap bs _ ?_ (by omega) ?_).mono ?_)
             · exact HIN.out.below ((HKs.out _).below ((Below.refl _ _).alloc (Nat.le_refl _) _)).b
             · exact HT.out.below ((HKs.out _).below ((Below.refl _ _).alloc (Nat.le_refl _) _)).b (Nat.le_refl _)
             rintro _ w10 ⟨g10, hg10, rfl, hr10, hb10⟩
             have HK10 := Lib.hid (((HKs.out _).below ((Below.refl _ _).alloc (Nat.le_refl _) _)).below hb10)
             have hkr := Row.below (Row.new _ 5 [x0, x1, x2, x3]) hb10 (by simp)
             have HR10 : Hid (Row .u8 w10 5 wr.heap.size [x0, x1, x2, x3]) := Lib.hid (by simpa [World.setCell] using hkr)
             have HD10 := Lib.hid (of_in (k := 4) hr10 (by omega))
             clear hr10 hb10 hkr hg10 b0 b1 b2 b3 HKs e0 f0)
          | (go_at_call 11
             (with_reducible refine (pair_ok _ a i cap bs _ _ _ [x0, x1, x2, x3] _ ?_ ?_ ?_ ?_ ?_ ?_).mono ?_)
             · exact HIN.out.below HK10.out.b
             · omega
             · exact in_row4 HR10.out H8X.out
             · omega
             · omega
             · rfl
             rintro _ w11 ⟨g11, c11, rfl, ho11, hb11⟩
             have HP11 := Lib.hid (InBytes.of_own ho11 (pairL_bytes HIN.out.bytes (by omega) H8X.out))
             have HK11 := Lib.hid (HK10.out.below hb11)
             have HD11 := Lib.hid (HD10.out.below hb11)
             have HR11 := Lib.hid (HR10.out.below hb11 HR10.out.lt)
             clear ho11 hb11)
          | (go_at_call 12
             (with_reducible refine (node_ok _ _ _ _ [x0, x1, x2, x3] _ _ _ [x0, x1, x2, x3] _ _ _ [x0, x1, x2, x3] _ ?_ ?_ ?_ ?_ ?_ ?_ ?_ ?_).mono ?_)
             · exact in_row4 HR11.out H8X.out
             · exact in_row4 HR11.out H8X.out
             · exact in_row4 HR11.out H8X.out
             · omega
             · omega
             · rfl
             · rfl
             · rfl
             rintro _ w12 ⟨g12, c12, rfl, ho12, hb12⟩
             have HQ : Hid (QD w w12 g2 c2 gd g6 c6 g7 c7 g10 g11 c11 g12 c12 bs x0 x1 x2 x3) := Lib.hid ⟨HK11.out.below hb12, HD11.out.below hb12, HP11.out.below hb12, InBytes.of_own ho12 (nodeL_bytes H8X.out H8X.out H8X.out)⟩
             clear ho12 hb12 HK10 HK11 HD10 HD11 HR10 HR11 HP11))
        have hs0 := (HQ.out.below (W' := w12.drew) (Below.refl _ _).drew).convs
        refine wp_region_held_drew (S := (fun W => (convert 22 9 (.slice (some ⟨g2, 0, none⟩) (valL bs).length c2)).run Tryd.prog W = .ok (.string (strOfNums (valL bs))) W ∧ (convert 22 9 (.slice (some ⟨gd, 0, none⟩) 4 4)).run Tryd.prog W = .ok (.string (strOfNums ((sumL bs).take 4))) W ∧ (convert 22 9 (.slice (some ⟨g10, 0, none⟩) 4 4)).run Tryd.prog W = .ok (.string (strOfNums ((sumL bs).take 4))) W ∧ (convert 22 9 (.slice (some ⟨g6, 0, none⟩) (pairL bs [x0, x1, x2, x3]).length c6)).run Tryd.prog W = .ok (.string (strOfNums (pairL bs [x0, x1, x2, x3]))) W ∧ (convert 22 9 (.slice (some ⟨g11, 0, none⟩) (pairL bs [x0, x1, x2, x3]).length c11)).run Tryd.prog W = .ok (.string (strOfNums (pairL bs [x0, x1, x2, x3]))) W ∧ (convert 22 9 (.slice (some ⟨g7, 0, none⟩) (nodeL [x0, x1, x2, x3] [x0, x1, x2, x3] [x0, x1, x2, x3]).length c7)).run Tryd.prog W = .ok (.string (strOfNums (nodeL [x0, x1, x2, x3] [x0, x1, x2, x3] [x0, x1, x2, x3]))) W ∧ (convert 22 9 (.slice (some ⟨g12, 0, none⟩) (nodeL [x0, x1, x2, x3] [x0, x1, x2, x3] [x0, x1, x2, x3]).length c12)).run Tryd.prog W = .ok (.string (strOfNums (nodeL [x0, x1, x2, x3] [x0, x1, x2, x3] [x0, x1, x2, x3]))) W)) (by kernel_rfl) hs0 (fun hHeld => ?_)
        refine take_w (i := 0) (oi := ?oZ23) (v := ?vZ23) ?hiZ23 (by kernel_rfl) (by kernel_rfl) (by kernel_rfl) ?hQZ23 ?hwZ23 ?hyZ23 (by assumption) ?restZ23
        case hiZ23 => (simp only [List.getElem?_toArray, List.getElem?_cons_zero] <;> rfl)
        case hQZ23 => exact (fun _ _ _ h => h)
        case hwZ23 => rfl
        case hyZ23 => (intro w hSw; (try dsimp only at hSw); go_simp; try with_reducible rfl)
        (try simp only [Act.put, List.setIfInBounds_toArray, List.set_cons_zero, List.set_cons_succ])
        refine take_w (i := 1) (oi := ?oZ24) (v := ?vZ24) ?hiZ24 (by kernel_rfl) (by kernel_rfl) (by kernel_rfl) ?hQZ24 ?hwZ24 ?hyZ24 (by assumption) ?restZ24
        case hiZ24 => (simp only [List.getElem?_toArray, List.getElem?_cons_succ, List.getElem?_cons_zero] <;> rfl)
        case hQZ24 => exact (fun _ _ _ h => h)
        case hwZ24 => rfl
        case hyZ24 => (intro w hSw; (try dsimp only at hSw); go_simp; try with_reducible rfl)
        (try simp only [Act.put, List.setIfInBounds_toArray, List.set_cons_zero, List.set_cons_succ])
        refine take_w (i := 2) (oi := ?oZ25) (v := ?vZ25) ?hiZ25 (by kernel_rfl) (by kernel_rfl) (by kernel_rfl) ?hQZ25 ?hwZ25 ?hyZ25 (by assumption) ?restZ25
        case hiZ25 => (simp only [List.getElem?_toArray, List.getElem?_cons_succ, List.getElem?_cons_zero] <;> rfl)
        case hQZ25 => exact (fun _ _ _ h => h)
        case hwZ25 => rfl
        case hyZ25 => (intro w hSw; (try dsimp only at hSw); go_simp; try with_reducible rfl)
        (try simp only [Act.put, List.setIfInBounds_toArray, List.set_cons_zero, List.set_cons_succ])
        refine take_w (i := 3) (oi := ?oZ26) (v := ?vZ26) ?hiZ26 (by kernel_rfl) (by kernel_rfl) (by kernel_rfl) ?hQZ26 ?hwZ26 ?hyZ26 (by assumption) ?restZ26
        case hiZ26 => (simp only [List.getElem?_toArray, List.getElem?_cons_succ, List.getElem?_cons_zero] <;> rfl)
        case hQZ26 => exact (fun _ _ _ h => h)
        case hwZ26 => rfl
        case hyZ26 => (intro w hSw; (try dsimp only at hSw); go_simp; try with_reducible rfl)
        (try simp only [Act.put, List.setIfInBounds_toArray, List.set_cons_zero, List.set_cons_succ])
        refine take_w (i := 4) (oi := ?oZ27) (v := ?vZ27) ?hiZ27 (by kernel_rfl) (by kernel_rfl) (by kernel_rfl) ?hQZ27 ?hwZ27 ?hyZ27 (by assumption) ?restZ27
        case hiZ27 => (simp only [List.getElem?_toArray, List.getElem?_cons_succ, List.getElem?_cons_zero] <;> rfl)
        case hQZ27 => exact (fun _ _ _ h => h)
        case hwZ27 => rfl
        case hyZ27 => (intro w hSw; (try dsimp only at hSw); go_simp; try with_reducible rfl)
        (try simp only [Act.put, List.setIfInBounds_toArray, List.set_cons_zero, List.set_cons_succ])
        refine take_w (i := 5) (oi := ?oZ28) (v := ?vZ28) ?hiZ28 (by kernel_rfl) (by kernel_rfl) (by kernel_rfl) ?hQZ28 ?hwZ28 ?hyZ28 (by assumption) ?restZ28
        case hiZ28 => (simp only [List.getElem?_toArray, List.getElem?_cons_succ, List.getElem?_cons_zero] <;> rfl)
        case hQZ28 => exact (fun _ _ _ h => h)
        case hwZ28 => rfl
        case hyZ28 => (intro w hSw; (try dsimp only at hSw); go_simp; try with_reducible rfl)
        (try simp only [Act.put, List.setIfInBounds_toArray, List.set_cons_zero, List.set_cons_succ])
        refine take_w (i := 6) (oi := ?oZ29) (v := ?vZ29) ?hiZ29 (by kernel_rfl) (by kernel_rfl) (by kernel_rfl) ?hQZ29 ?hwZ29 ?hyZ29 (by assumption) ?restZ29
        case hiZ29 => (simp only [List.getElem?_toArray, List.getElem?_cons_succ, List.getElem?_cons_zero] <;> rfl)
        case hQZ29 => exact (fun _ _ _ h => h)
        case hwZ29 => rfl
        case hyZ29 => (intro w hSw; (try dsimp only at hSw); go_simp; try with_reducible rfl)
        (try simp only [Act.put, List.setIfInBounds_toArray, List.set_cons_zero, List.set_cons_succ])
        refine take_w (i := 7) (oi := ?oZ30) (v := ?vZ30) ?hiZ30 (by kernel_rfl) (by kernel_rfl) (by kernel_rfl) ?hQZ30 ?hwZ30 ?hyZ30 (by assumption) ?restZ30
        case hiZ30 => (simp only [List.getElem?_toArray, List.getElem?_cons_succ, List.getElem?_cons_zero] <;> rfl)
        case hQZ30 => exact (fun _ _ _ h => h)
        case hwZ30 => rfl
        case hyZ30 => (intro w hSw; (try dsimp only at hSw); go_simp; try with_reducible rfl)
        (try simp only [Act.put, List.setIfInBounds_toArray, List.set_cons_zero, List.set_cons_succ])
        refine take_w (i := 8) (oi := ?oZ31) (v := ?vZ31) ?hiZ31 (by kernel_rfl) (by kernel_rfl) (by kernel_rfl) ?hQZ31 ?hwZ31 ?hyZ31 (by assumption) ?restZ31
        case hiZ31 => (simp only [List.getElem?_toArray, List.getElem?_cons_succ, List.getElem?_cons_zero] <;> rfl)
        case hQZ31 => exact (fun _ _ _ h => h)
        case hwZ31 => rfl
        case hyZ31 => (intro w hSw; (try dsimp only at hSw); go_simp; try with_reducible rfl)
        (try simp only [Act.put, List.setIfInBounds_toArray, List.set_cons_zero, List.set_cons_succ])
        refine take_w (i := 9) (oi := ?oZ32) (v := ?vZ32) ?hiZ32 (by kernel_rfl) (by kernel_rfl) (by kernel_rfl) ?hQZ32 ?hwZ32 ?hyZ32 (by assumption) ?restZ32
        case hiZ32 => (simp only [List.getElem?_toArray, List.getElem?_cons_succ, List.getElem?_cons_zero] <;> rfl)
        case hQZ32 => exact (fun _ _ _ h => h)
        case hwZ32 => rfl
        case hyZ32 => (intro w hSw; (try dsimp only at hSw); go_simp; try with_reducible rfl)
        (try simp only [Act.put, List.setIfInBounds_toArray, List.set_cons_zero, List.set_cons_succ])
        refine take_w (i := 10) (oi := ?oZ33) (v := ?vZ33) ?hiZ33 (by kernel_rfl) (by kernel_rfl) (by kernel_rfl) ?hQZ33 ?hwZ33 ?hyZ33 (by assumption) ?restZ33
        case hiZ33 => (simp only [List.getElem?_toArray, List.getElem?_cons_succ, List.getElem?_cons_zero] <;> rfl)
        case hQZ33 => exact (fun _ _ _ h => h)
        case hwZ33 => rfl
        case hyZ33 => (intro w hSw; (try dsimp only at hSw); go_simp; try with_reducible rfl)
        (try simp only [Act.put, List.setIfInBounds_toArray, List.set_cons_zero, List.set_cons_succ])
        refine take_w (i := 11) (oi := ?oZ34) (v := ?vZ34) ?hiZ34 (by kernel_rfl) (by kernel_rfl) (by kernel_rfl) ?hQZ34 ?hwZ34 ?hyZ34 (by assumption) ?restZ34
        case hiZ34 => (simp only [List.getElem?_toArray, List.getElem?_cons_succ, List.getElem?_cons_zero] <;> rfl)
        case hQZ34 => exact (fun _ _ _ h => h)
        case hwZ34 => rfl
        case hyZ34 => (intro w hSw; (try dsimp only at hSw); go_simp; try with_reducible rfl)
        (try simp only [Act.put, List.setIfInBounds_toArray, List.set_cons_zero, List.set_cons_succ])
        refine take_w (i := 12) (oi := ?oZ35) (v := ?vZ35) ?hiZ35 (by kernel_rfl) (by kernel_rfl) (by kernel_rfl) ?hQZ35 ?hwZ35 ?hyZ35 (by assumption) ?restZ35
        case hiZ35 => (simp only [List.getElem?_toArray, List.getElem?_cons_succ, List.getElem?_cons_zero] <;> rfl)
        case hQZ35 => exact (fun _ _ _ h => h)
        case hwZ35 => rfl
        case hyZ35 => (intro w hSw; (try dsimp only at hSw); go_simp; try with_reducible rfl)
        (try simp only [Act.put, List.setIfInBounds_toArray, List.set_cons_zero, List.set_cons_succ])
        refine take_w (i := 13) (oi := ?oZ36) (v := ?vZ36) ?hiZ36 (by kernel_rfl) (by kernel_rfl) (by kernel_rfl) ?hQZ36 ?hwZ36 ?hyZ36 (by assumption) ?restZ36
        case hiZ36 => (simp only [List.getElem?_toArray, List.getElem?_cons_succ, List.getElem?_cons_zero] <;> rfl)
        case hQZ36 => exact (fun _ _ _ h => h)
        case hwZ36 => rfl
        case hyZ36 => (intro w hSw; (try dsimp only at hSw); go_simp; try with_reducible rfl)
        (try simp only [Act.put, List.setIfInBounds_toArray, List.set_cons_zero, List.set_cons_succ])
        refine take_w (i := 14) (oi := ?oZ37) (v := ?vZ37) ?hiZ37 (by kernel_rfl) (by kernel_rfl) (by kernel_rfl) ?hQZ37 ?hwZ37 ?hyZ37 (by assumption) ?restZ37
        case hiZ37 => (simp only [List.getElem?_toArray, List.getElem?_cons_succ, List.getElem?_cons_zero] <;> rfl)
        case hQZ37 => exact (fun _ _ _ h => h)
        case hwZ37 => rfl
        case hyZ37 => (intro w hSw; (try dsimp only at hSw); go_simp; try with_reducible rfl)
        (try simp only [Act.put, List.setIfInBounds_toArray, List.set_cons_zero, List.set_cons_succ])
        refine take_w (i := 15) (oi := ?oZ38) (v := ?vZ38) ?hiZ38 (by kernel_rfl) (by kernel_rfl) (by kernel_rfl) ?hQZ38 ?hwZ38 ?hyZ38 (by assumption) ?restZ38
        case hiZ38 => (simp only [List.getElem?_toArray, List.getElem?_cons_succ, List.getElem?_cons_zero] <;> rfl)
        case hQZ38 => exact (fun _ _ _ h => h)
        case hwZ38 => rfl
        case hyZ38 => (intro w hSw; (try dsimp only at hSw); go_simp; try with_reducible rfl)
        (try simp only [Act.put, List.setIfInBounds_toArray, List.set_cons_zero, List.set_cons_succ])
        refine take_w (i := 16) (oi := ?oZ39) (v := ?vZ39) ?hiZ39 (by kernel_rfl) (by kernel_rfl) (by kernel_rfl) ?hQZ39 ?hwZ39 ?hyZ39 (by assumption) ?restZ39
        case hiZ39 => (simp only [List.getElem?_toArray, List.getElem?_cons_succ, List.getElem?_cons_zero] <;> rfl)
        case hQZ39 => exact (fun _ _ _ h => h)
        case hwZ39 => rfl
        case hyZ39 => (intro w hSw; (try dsimp only at hSw); go_simp; try with_reducible rfl)
        (try simp only [Act.put, List.setIfInBounds_toArray, List.set_cons_zero, List.set_cons_succ])
        refine take_w (i := 17) (oi := ?oZ40) (v := ?vZ40) ?hiZ40 (by kernel_rfl) (by kernel_rfl) (by kernel_rfl) ?hQZ40 ?hwZ40 ?hyZ40 (by assumption) ?restZ40
        case hiZ40 => (simp only [List.getElem?_toArray, List.getElem?_cons_succ, List.getElem?_cons_zero] <;> rfl)
        case hQZ40 => exact (fun _ _ _ h => h)
        case hwZ40 => rfl
        case hyZ40 => (intro w hSw; (try dsimp only at hSw); go_simp; try with_reducible rfl)
        (try simp only [Act.put, List.setIfInBounds_toArray, List.set_cons_zero, List.set_cons_succ])
        refine take_w (i := 18) (oi := ?oZ41) (v := ?vZ41) ?hiZ41 (by kernel_rfl) (by kernel_rfl) (by kernel_rfl) ?hQZ41 ?hwZ41 ?hyZ41 (by assumption) ?restZ41
        case hiZ41 => (simp only [List.getElem?_toArray, List.getElem?_cons_succ, List.getElem?_cons_zero] <;> rfl)
        case hQZ41 => exact (fun _ _ _ h => h)
        case hwZ41 => rfl
        case hyZ41 => (intro w hSw; (try dsimp only at hSw); go_simp; try with_reducible rfl)
        (try simp only [Act.put, List.setIfInBounds_toArray, List.set_cons_zero, List.set_cons_succ])
        refine take_w (i := 19) (oi := ?oZ42) (v := ?vZ42) ?hiZ42 (by kernel_rfl) (by kernel_rfl) (by kernel_rfl) ?hQZ42 ?hwZ42 ?hyZ42 (by assumption) ?restZ42
        case hiZ42 => (simp only [List.getElem?_toArray, List.getElem?_cons_succ, List.getElem?_cons_zero] <;> rfl)
        case hQZ42 => exact (fun _ _ _ h => h)
        case hwZ42 => rfl
        case hyZ42 => (intro w hSw; (try dsimp only at hSw); go_simp; try with_reducible rfl)
        (try simp only [Act.put, List.setIfInBounds_toArray, List.set_cons_zero, List.set_cons_succ])
        refine wpAnyH_ready (rs := [20]) (by kernel_rfl) (by simp) ?_
        refine AllReadyH.cons (o := ?oZ43) ?hiZ43 (fun K hK => ?stZ43) AllReadyH.nil
        case hiZ43 => (simp only [List.getElem?_toArray, List.getElem?_cons_succ, List.getElem?_cons_zero] <;> rfl)
        go_simp
        go_at_call 10
        (with_reducible refine (value_any a i cap bs _ ?_ (by omega)).mono ?_)
        · exact HIN.out.below HQ.out.k.b.drew
        rintro _ w13 ⟨g13, c13, rfl, ho13, hb13⟩
        have hq13 := HQ.out.below' hb13
        have hs13 := hq13.convs
        have hc13 := conv_own ho13 (valL_bytes HIN.out.bytes)
        have HB13 := Lib.hid hq13.k.b
        clear ho13 hb13 hq13
        go_simp
        refine hK.out _ _ ?_ (fun hHeld => ?_)
        · (first | exact hs13 | exact hs0)
        clear hK K
        (try simp only [Act.put, List.setIfInBounds_toArray, List.set_cons_zero, List.set_cons_succ])
        refine wpAnyH_ready (rs := [21]) (by kernel_rfl) (by simp) ?_
        refine AllReadyH.cons (o := ?oZ44) ?hiZ44 (fun K hK => ?stZ44) AllReadyH.nil
        case hiZ44 => (simp only [List.getElem?_toArray, List.getElem?_cons_succ, List.getElem?_cons_zero] <;> rfl)
        go_simp
        refine hK.out _ _ ?_ (fun hHeld => ?_)
        · (first | exact hs13 | exact hs0)
        clear hK K
        (try simp only [Act.put, List.setIfInBounds_toArray, List.set_cons_zero, List.set_cons_succ])
        refine take_w (i := 22) (oi := ?oZ45) (v := ?vZ45) ?hiZ45 (by kernel_rfl) (by kernel_rfl) (by kernel_rfl) ?hQZ45 ?hwZ45 ?hyZ45 (by assumption) ?restZ45
        case hiZ45 => (simp only [List.getElem?_toArray, List.getElem?_cons_succ, List.getElem?_cons_zero] <;> rfl)
        case hQZ45 => exact (fun _ _ _ h => h)
        case hwZ45 => rfl
        case hyZ45 => (intro w hSw; (try dsimp only at hSw); go_simp; try with_reducible rfl)
        (try simp only [Act.put, List.setIfInBounds_toArray, List.set_cons_zero, List.set_cons_succ])
        refine take_w (i := 23) (oi := ?oZ46) (v := ?vZ46) ?hiZ46 (by kernel_rfl) (by kernel_rfl) (by kernel_rfl) ?hQZ46 ?hwZ46 ?hyZ46 (by assumption) ?restZ46
        case hiZ46 => (simp only [List.getElem?_toArray, List.getElem?_cons_succ, List.getElem?_cons_zero] <;> rfl)
        case hQZ46 => exact (fun _ _ _ h => h)
        case hwZ46 => rfl
        case hyZ46 => (intro w hSw; (try dsimp only at hSw); go_simp; try with_reducible rfl)
        (try simp only [Act.put, List.setIfInBounds_toArray, List.set_cons_zero, List.set_cons_succ])
        refine take_w (i := 24) (oi := ?oZ47) (v := ?vZ47) ?hiZ47 (by kernel_rfl) (by kernel_rfl) (by kernel_rfl) ?hQZ47 ?hwZ47 ?hyZ47 (by assumption) ?restZ47
        case hiZ47 => (simp only [List.getElem?_toArray, List.getElem?_cons_succ, List.getElem?_cons_zero] <;> rfl)
        case hQZ47 => exact (fun _ _ _ h => h)
        case hwZ47 => rfl
        case hyZ47 => (intro w hSw; (try dsimp only at hSw); go_simp; try with_reducible rfl)
        (try simp only [Act.put, List.setIfInBounds_toArray, List.set_cons_zero, List.set_cons_succ])
        refine take_w (i := 25) (oi := ?oZ48) (v := ?vZ48) ?hiZ48 (by kernel_rfl) (by kernel_rfl) (by kernel_rfl) ?hQZ48 ?hwZ48 ?hyZ48 (by assumption) ?restZ48
        case hiZ48 => (simp only [List.getElem?_toArray, List.getElem?_cons_succ, List.getElem?_cons_zero] <;> rfl)
        case hQZ48 => exact (fun _ _ _ h => h)
        case hwZ48 => rfl
        case hyZ48 => (intro w hSw; (try dsimp only at hSw); go_simp; try with_reducible rfl)
        (try simp only [Act.put, List.setIfInBounds_toArray, List.set_cons_zero, List.set_cons_succ])
        refine take_w (i := 26) (oi := ?oZ49) (v := ?vZ49) ?hiZ49 (by kernel_rfl) (by kernel_rfl) (by kernel_rfl) ?hQZ49 ?hwZ49 ?hyZ49 (by assumption) ?restZ49
        case hiZ49 => (simp only [List.getElem?_toArray, List.getElem?_cons_succ, List.getElem?_cons_zero] <;> rfl)
        case hQZ49 => exact (fun _ _ _ h => h)
        case hwZ49 => rfl
        case hyZ49 => (intro w hSw; (try dsimp only at hSw); go_simp; try with_reducible rfl)
        (try simp only [Act.put, List.setIfInBounds_toArray, List.set_cons_zero, List.set_cons_succ])
        refine take_w (i := 27) (oi := ?oZ50) (v := ?vZ50) ?hiZ50 (by kernel_rfl) (by kernel_rfl) (by kernel_rfl) ?hQZ50 ?hwZ50 ?hyZ50 (by assumption) ?restZ50
        case hiZ50 => (simp only [List.getElem?_toArray, List.getElem?_cons_succ, List.getElem?_cons_zero] <;> rfl)
        case hQZ50 => exact (fun _ _ _ h => h)
        case hwZ50 => rfl
        case hyZ50 => (intro w hSw; (try dsimp only at hSw); go_simp; try with_reducible rfl)
        (try simp only [Act.put, List.setIfInBounds_toArray, List.set_cons_zero, List.set_cons_succ])
        refine take_w (i := 28) (oi := ?oZ51) (v := ?vZ51) ?hiZ51 (by kernel_rfl) (by kernel_rfl) (by kernel_rfl) ?hQZ51 ?hwZ51 ?hyZ51 (by assumption) ?restZ51
        case hiZ51 => (simp only [List.getElem?_toArray, List.getElem?_cons_succ, List.getElem?_cons_zero] <;> rfl)
        case hQZ51 => exact (fun _ _ _ h => h)
        case hwZ51 => rfl
        case hyZ51 => (intro w hSw; (try dsimp only at hSw); go_simp; try with_reducible rfl)
        (try simp only [Act.put, List.setIfInBounds_toArray, List.set_cons_zero, List.set_cons_succ])
        refine take_w (i := 29) (oi := ?oZ52) (v := ?vZ52) ?hiZ52 (by kernel_rfl) (by kernel_rfl) (by kernel_rfl) ?hQZ52 ?hwZ52 ?hyZ52 (by assumption) ?restZ52
        case hiZ52 => (simp only [List.getElem?_toArray, List.getElem?_cons_succ, List.getElem?_cons_zero] <;> rfl)
        case hQZ52 => exact (fun _ _ _ h => h)
        case hwZ52 => rfl
        case hyZ52 => (intro w hSw; (try dsimp only at hSw); go_simp; try with_reducible rfl)
        (try simp only [Act.put, List.setIfInBounds_toArray, List.set_cons_zero, List.set_cons_succ])
        refine take_w (i := 30) (oi := ?oZ53) (v := ?vZ53) ?hiZ53 (by kernel_rfl) (by kernel_rfl) (by kernel_rfl) ?hQZ53 ?hwZ53 ?hyZ53 (by assumption) ?restZ53
        case hiZ53 => (simp only [List.getElem?_toArray, List.getElem?_cons_succ, List.getElem?_cons_zero] <;> rfl)
        case hQZ53 => exact (fun _ _ _ h => h)
        case hwZ53 => rfl
        case hyZ53 => (intro w hSw; (try dsimp only at hSw); go_simp; try with_reducible rfl)
        (try simp only [Act.put, List.setIfInBounds_toArray, List.set_cons_zero, List.set_cons_succ])
        refine take_w (i := 31) (oi := ?oZ54) (v := ?vZ54) ?hiZ54 (by kernel_rfl) (by kernel_rfl) (by kernel_rfl) ?hQZ54 ?hwZ54 ?hyZ54 (by assumption) ?restZ54
        case hiZ54 => (simp only [List.getElem?_toArray, List.getElem?_cons_succ, List.getElem?_cons_zero] <;> rfl)
        case hQZ54 => exact (fun _ _ _ h => h)
        case hwZ54 => rfl
        case hyZ54 => (intro w hSw; (try dsimp only at hSw); go_simp; try with_reducible rfl)
        (try simp only [Act.put, List.setIfInBounds_toArray, List.set_cons_zero, List.set_cons_succ])
        refine take_w (i := 32) (oi := ?oZ55) (v := ?vZ55) ?hiZ55 (by kernel_rfl) (by kernel_rfl) (by kernel_rfl) ?hQZ55 ?hwZ55 ?hyZ55 (by assumption) ?restZ55
        case hiZ55 => (simp only [List.getElem?_toArray, List.getElem?_cons_succ, List.getElem?_cons_zero] <;> rfl)
        case hQZ55 => exact (fun _ _ _ h => h)
        case hwZ55 => rfl
        case hyZ55 => (intro w hSw; (try dsimp only at hSw); go_simp; try with_reducible rfl)
        (try simp only [Act.put, List.setIfInBounds_toArray, List.set_cons_zero, List.set_cons_succ])
        refine take_w (i := 33) (oi := ?oZ56) (v := ?vZ56) ?hiZ56 (by kernel_rfl) (by kernel_rfl) (by kernel_rfl) ?hQZ56 ?hwZ56 ?hyZ56 (by assumption) ?restZ56
        case hiZ56 => (simp only [List.getElem?_toArray, List.getElem?_cons_succ, List.getElem?_cons_zero] <;> rfl)
        case hQZ56 => exact (fun _ _ _ h => h)
        case hwZ56 => rfl
        case hyZ56 => (intro w hSw; (try dsimp only at hSw); go_simp; try with_reducible rfl)
        (try simp only [Act.put, List.setIfInBounds_toArray, List.set_cons_zero, List.set_cons_succ])
        refine take_w (i := 34) (oi := ?oZ57) (v := ?vZ57) ?hiZ57 (by kernel_rfl) (by kernel_rfl) (by kernel_rfl) ?hQZ57 ?hwZ57 ?hyZ57 (by assumption) ?restZ57
        case hiZ57 => (simp only [List.getElem?_toArray, List.getElem?_cons_succ, List.getElem?_cons_zero] <;> rfl)
        case hQZ57 => exact (fun _ _ _ h => h)
        case hwZ57 => rfl
        case hyZ57 => (intro w hSw; (try dsimp only at hSw); go_simp; try with_reducible rfl)
        (try simp only [Act.put, List.setIfInBounds_toArray, List.set_cons_zero, List.set_cons_succ])
        refine take_w (i := 35) (oi := ?oZ58) (v := ?vZ58) ?hiZ58 (by kernel_rfl) (by kernel_rfl) (by kernel_rfl) ?hQZ58 ?hwZ58 ?hyZ58 (by assumption) ?restZ58
        case hiZ58 => (simp only [List.getElem?_toArray, List.getElem?_cons_succ, List.getElem?_cons_zero] <;> rfl)
        case hQZ58 => exact (fun _ _ _ h => h)
        case hwZ58 => rfl
        case hyZ58 => (intro w hSw; (try dsimp only at hSw); go_simp; try with_reducible rfl)
        (try simp only [Act.put, List.setIfInBounds_toArray, List.set_cons_zero, List.set_cons_succ])
        refine take_w (i := 36) (oi := ?oZ59) (v := ?vZ59) ?hiZ59 (by kernel_rfl) (by kernel_rfl) (by kernel_rfl) ?hQZ59 ?hwZ59 ?hyZ59 (by assumption) ?restZ59
        case hiZ59 => (simp only [List.getElem?_toArray, List.getElem?_cons_succ, List.getElem?_cons_zero] <;> rfl)
        case hQZ59 => exact (fun _ _ _ h => h)
        case hwZ59 => rfl
        case hyZ59 => (intro w hSw; (try dsimp only at hSw); go_simp; try with_reducible rfl)
        (try simp only [Act.put, List.setIfInBounds_toArray, List.set_cons_zero, List.set_cons_succ])
        refine take_w (i := 37) (oi := ?oZ60) (v := ?vZ60) ?hiZ60 (by kernel_rfl) (by kernel_rfl) (by kernel_rfl) ?hQZ60 ?hwZ60 ?hyZ60 (by assumption) ?restZ60
        case hiZ60 => (simp only [List.getElem?_toArray, List.getElem?_cons_succ, List.getElem?_cons_zero] <;> rfl)
        case hQZ60 => exact (fun _ _ _ h => h)
        case hwZ60 => rfl
        case hyZ60 => (intro w hSw; (try dsimp only at hSw); go_simp; try with_reducible rfl)
        (try simp only [Act.put, List.setIfInBounds_toArray, List.set_cons_zero, List.set_cons_succ])
        refine take_w (i := 38) (oi := ?oZ61) (v := ?vZ61) ?hiZ61 (by kernel_rfl) (by kernel_rfl) (by kernel_rfl) ?hQZ61 ?hwZ61 ?hyZ61 (by assumption) ?restZ61
        case hiZ61 => (simp only [List.getElem?_toArray, List.getElem?_cons_succ, List.getElem?_cons_zero] <;> rfl)
        case hQZ61 => exact (fun _ _ _ h => h)
        case hwZ61 => rfl
        case hyZ61 => (intro w hSw; (try dsimp only at hSw); go_simp; try with_reducible rfl)
        (try simp only [Act.put, List.setIfInBounds_toArray, List.set_cons_zero, List.set_cons_succ])
        refine take_w (i := 39) (oi := ?oZ62) (v := ?vZ62) ?hiZ62 (by kernel_rfl) (by kernel_rfl) (by kernel_rfl) ?hQZ62 ?hwZ62 ?hyZ62 (by assumption) ?restZ62
        case hiZ62 => (simp only [List.getElem?_toArray, List.getElem?_cons_succ, List.getElem?_cons_zero] <;> rfl)
        case hQZ62 => exact (fun _ _ _ h => h)
        case hwZ62 => rfl
        case hyZ62 => (intro w hSw; (try dsimp only at hSw); go_simp; try with_reducible rfl)
        (try simp only [Act.put, List.setIfInBounds_toArray, List.set_cons_zero, List.set_cons_succ])
        refine take_w (i := 40) (oi := ?oZ63) (v := ?vZ63) ?hiZ63 (by kernel_rfl) (by kernel_rfl) (by kernel_rfl) ?hQZ63 ?hwZ63 ?hyZ63 (by assumption) ?restZ63
        case hiZ63 => (simp only [List.getElem?_toArray, List.getElem?_cons_succ, List.getElem?_cons_zero] <;> rfl)
        case hQZ63 => exact (fun _ _ _ h => h)
        case hwZ63 => rfl
        case hyZ63 => (intro w hSw; (try dsimp only at hSw); go_simp; try with_reducible rfl)
        (try simp only [Act.put, List.setIfInBounds_toArray, List.set_cons_zero, List.set_cons_succ])
        refine take_w (i := 41) (oi := ?oZ64) (v := ?vZ64) ?hiZ64 (by kernel_rfl) (by kernel_rfl) (by kernel_rfl) ?hQZ64 ?hwZ64 ?hyZ64 (by assumption) ?restZ64
        case hiZ64 => (simp only [List.getElem?_toArray, List.getElem?_cons_succ, List.getElem?_cons_zero] <;> rfl)
        case hQZ64 => exact (fun _ _ _ h => h)
        case hwZ64 => rfl
        case hyZ64 => (intro w hSw; (try dsimp only at hSw); go_simp; try with_reducible rfl)
        (try simp only [Act.put, List.setIfInBounds_toArray, List.set_cons_zero, List.set_cons_succ])
        refine take_w (i := 42) (oi := ?oZ65) (v := ?vZ65) ?hiZ65 (by kernel_rfl) (by kernel_rfl) (by kernel_rfl) ?hQZ65 ?hwZ65 ?hyZ65 (by assumption) ?restZ65
        case hiZ65 => (simp only [List.getElem?_toArray, List.getElem?_cons_succ, List.getElem?_cons_zero] <;> rfl)
        case hQZ65 => exact (fun _ _ _ h => h)
        case hwZ65 => rfl
        case hyZ65 => (intro w hSw; (try dsimp only at hSw); go_simp; try with_reducible rfl)
        (try simp only [Act.put, List.setIfInBounds_toArray, List.set_cons_zero, List.set_cons_succ])
        refine take_w (i := 43) (oi := ?oZ66) (v := ?vZ66) ?hiZ66 (by kernel_rfl) (by kernel_rfl) (by kernel_rfl) ?hQZ66 ?hwZ66 ?hyZ66 (by assumption) ?restZ66
        case hiZ66 => (simp only [List.getElem?_toArray, List.getElem?_cons_succ, List.getElem?_cons_zero] <;> rfl)
        case hQZ66 => exact (fun _ _ _ h => h)
        case hwZ66 => rfl
        case hyZ66 => (intro w hSw; (try dsimp only at hSw); go_simp; try with_reducible rfl)
        (try simp only [Act.put, List.setIfInBounds_toArray, List.set_cons_zero, List.set_cons_succ])
        refine take_w (i := 44) (oi := ?oZ67) (v := ?vZ67) ?hiZ67 (by kernel_rfl) (by kernel_rfl) (by kernel_rfl) ?hQZ67 ?hwZ67 ?hyZ67 (by assumption) ?restZ67
        case hiZ67 => (simp only [List.getElem?_toArray, List.getElem?_cons_succ, List.getElem?_cons_zero] <;> rfl)
        case hQZ67 => exact (fun _ _ _ h => h)
        case hwZ67 => rfl
        case hyZ67 => (intro w hSw; (try dsimp only at hSw); go_simp; try with_reducible rfl)
        (try simp only [Act.put, List.setIfInBounds_toArray, List.set_cons_zero, List.set_cons_succ])
        refine take_w (i := 45) (oi := ?oZ68) (v := ?vZ68) ?hiZ68 (by kernel_rfl) (by kernel_rfl) (by kernel_rfl) ?hQZ68 ?hwZ68 ?hyZ68 (by assumption) ?restZ68
        case hiZ68 => (simp only [List.getElem?_toArray, List.getElem?_cons_succ, List.getElem?_cons_zero] <;> rfl)
        case hQZ68 => exact (fun _ _ _ h => h)
        case hwZ68 => rfl
        case hyZ68 => (intro w hSw; (try dsimp only at hSw); go_simp; try with_reducible rfl)
        (try simp only [Act.put, List.setIfInBounds_toArray, List.set_cons_zero, List.set_cons_succ])
        refine wpAnyH_done (by kernel_rfl) ?_ _
        
        go_wp2_with fail
        go_ret
        exact ⟨rfl, HB13.out⟩
end Go.Proofs.YtdmfjnohkpiaiaaDoor
