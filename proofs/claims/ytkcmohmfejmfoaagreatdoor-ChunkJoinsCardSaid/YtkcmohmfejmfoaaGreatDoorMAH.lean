/- The walk of the law ChunkJoins. What the row's condition on three listed variables gives the walk; a start that meets it. A tree that is an argument of the program. A list of trees that is an argument of the program. -/
import Derived.Test.YtkcmohmfejmfoaaGreatDoorMAG
import Derived.Test.YtkcmohmfejmfoaaGreatDoorMAD
import Derived.Test.YtkcmohmfejmfoaaGreatDoorMAA
import Derived.Test.YtkcmohmfejmfoaaGreatDoorMAE
import Derived.Test.YtkcmohmfejmfoaaGreatDoorRows
import Derived.ChangeVars
import Derived.LaidHandle
import Derived.MakeChecks
import Derived.Test.YtkcmohmfejmfoaaGreatDoorMAC
import Derived.Test.YtkcmohmfejmfoaaGreatDoorProg
import Derived.Test.YtkcmohmfejmfoaaGreatDoorMAB
/- The walk of the law ChunkJoins. -/
namespace Go.Proofs.YtkcmohmfejmfoaaGreatDoor
open Go.RowKit
set_option linter.unusedVariables false

theorem check_leJ (t : Tr) : checkT t ≤ 13 := by
  unfold checkT
  split
  · omega
  · split <;> omega
theorem formed_nilJ : formedT tNil = true := (AT.tr_formed .nil).2 (fun p hp => by cases hp)
theorem bad_leJ {x : Int} {t : Tr} : ∀ (ps : List Tr) (i : Nat) {j m : Nat}, badX x t i ps = some (j, m) → m ≤ 13 := by
  intro ps
  induction ps with
  | nil =>
    intro i j m h
    cases h
  | cons p ps ih =>
    intro i j m h
    rw [badX] at h
    by_cases q : fitsX x t i p = 0
    · rw [if_pos q] at h
      exact ih (i + 1) h
    · rw [if_neg q] at h
      injection h with h
      injection h with h1 h2
      rw [← h2]
      exact fitsX_le _ _ _ _
theorem join_cases (x : Int) (t : Tr) (ps : List Tr) : (∃ i : Nat, joinX x t ps = (6, some i, tNil)) ∨ (∃ m c, joinX x t ps = (m, none, c) ∧ m ≤ 13 ∧ formedT c = true) := by
  unfold joinX
  by_cases h1 : ¬ (1 ≤ x ∧ x ≤ 32)
  · rw [if_pos h1]
    exact .inr ⟨1, tNil, rfl, by omega, formed_nilJ⟩
  rw [if_neg h1]
  by_cases h2 : checkT t ≠ 0
  · rw [if_pos h2]
    exact .inr ⟨_, tNil, rfl, check_leJ t, formed_nilJ⟩
  rw [if_neg h2]
  by_cases h3 : (cutsT t).length ≠ ps.length ∨ darkP (toP t) = true
  · rw [if_pos h3]
    exact .inr ⟨3, tNil, rfl, by omega, formed_nilJ⟩
  rw [if_neg h3]
  cases hb : badX x t 0 ps with
  | some p =>
    obtain ⟨i, m⟩ := p
    have hm := bad_leJ ps 0 hb
    by_cases h6 : m = 6
    · subst h6
      exact .inl ⟨i, rfl⟩
    · refine .inr ⟨m, tNil, ?_, hm, formed_nilJ⟩
      show (m, (if m = 6 then some i else none), tNil) = _
      rw [if_neg h6]
  | none =>
    by_cases h4 : checkT (fillA (toP t) (ps.map toA)).1.tr ≠ 0
    · exact .inr ⟨_, tNil, if_pos h4, check_leJ _, formed_nilJ⟩
    · exact .inr ⟨0, _, if_neg h4, by omega, (check_zero (by simpa using h4)).1⟩

set_option maxRecDepth 100000 in
set_option maxHeartbeats 8000000 in
theorem chunkJoins_law (x : Int) (t : Tr) (h : TH) (a : Option Addr) (n c : Nat) (ps : List Tr) (H : Nat → TH) (w : World) (ht : InTree w h t) (hps : TreesAt w a n c ps H) (hT : TabLies w) (hg : w.cell? ⟨0, 0, none⟩ = some (.iface 112 (.agg #[.pointer (some ⟨3, 30, none⟩)]))) (hx1 : -9223372036854775808 ≤ x) (hx2 : x ≤ 9223372036854775807) :
    Calls Tryz.prog 3 #[.int .i64 x, h.v, .slice a n c] w (Says w (.bool true)) := by
  unfold TH.v
  have hb0 : Below w.heap.size w (w.alloc (.cells #[.int .i64 h.k, .slice h.ka h.kn h.kc, .slice h.va h.vn h.vc, .slice h.da h.dn h.dc, .slice h.ta h.tn h.tc] 25)) := (Below.refl _ _).alloc (Nat.le_refl _) _
  have HD : Hid (RW11 w (w.alloc (.cells #[.int .i64 h.k, .slice h.ka h.kn h.kc, .slice h.va h.vn h.vc, .slice h.da h.dn h.dc, .slice h.ta h.tn h.tc] 25)) h t) := Lib.hid ⟨Box.new w 25 h, ht.lower hb0, hb0⟩
  have HT := Lib.hid hT
  have HPS := Lib.hid hps
  have HG := Lib.hid hg
  have HGL : Hid (0 < w.heap.size) := Lib.hid (by
    rcases Nat.lt_or_ge 0 w.heap.size with q | q
    · exact q
    · simp [World.cell?, Array.getElem?_eq_none q] at hg)
  have hpl := hps.len
  clear hT ht hb0 hps hg
  go_enter Tryz.func3, Tryz.ntmps3
  go_upto_region 1 with fail
  generalize (w.alloc (.cells #[.int .i64 h.k, .slice h.ka h.kn h.kc, .slice h.va h.vn h.vc, .slice h.da h.dn h.dc, .slice h.ta h.tn h.tc] 25)) = w0 at *
  go_upto_region 2 with (first
  | (go_at_call 4
     refine (up11_any _ (HT.out.below HD.out.b (Nat.le_refl _))).mono ?_
     rintro _ w1 ⟨rfl, hb1⟩
     have HD1 := Lib.hid (HD.out.below hb1)
     clear hb1))
  go_cut [21] (fun s21 wx => ∃ b : Bool, s21 = .bool b ∧ RW11 w wx h t ∧ (b = false → countT t ≤ 200 ∧ n ≤ 40 ∧ ∀ p ∈ ps, LightOK p ∧ countT p ≤ 200))
  case first =>
    obtain ⟨x0, x1, x2, x3, x4⟩ := HD1.out.bx.cells
    go_wp2_with (first
    | (go_at_call 5
       have hck : ∀ W, InTree W h t → Calls Tryz.prog 5 #[.agg #[.int .i64 h.k, .slice h.ka h.kn h.kc, .slice h.va h.vn h.vc, .slice h.da h.dn h.dc, .slice h.ta h.tn h.tc]] W (fun e w' => ∃ b, e = .returned (.bool b) ∧ (b = true → LightOK t ∧ countT t ≤ 200) ∧ Below W.heap.size W w') := fun W a => small11_any t h W a
       (with_reducible refine (hck _ ?_).mono ?_)
       · exact HD1.out.t
       rintro _ w2 ⟨s2, rfl, hok2, hb2⟩
       have HD2 := Lib.hid (HD1.out.below hb2)
       have HK2 := Lib.hid hok2
       clear hck hok2 hb2 x0 x1 x2 x3 x4)
    | (go_at_call 6
       refine (all11_any a n c ps H _ (HPS.out.below HD2.out.b)).mono ?_
       unfold AllPost
       rintro _ w3 ⟨s3, rfl, hok3, hb3⟩
       have HD3 := Lib.hid (HD2.out.below hb3)
       have HK3 := Lib.hid hok3
       clear hok3 hb3))
    · go_meet
      cases s3 with
      | true => exact ⟨false, rfl, HD3.out, fun _ => ⟨(HK2.out (by assumption)).2, HK3.out rfl⟩⟩
      | false => exact ⟨true, rfl, HD3.out, fun q => (by cases q)⟩
    · go_meet
      exact ⟨true, rfl, HD2.out, fun q => (by cases q)⟩
  case rest =>
    obtain ⟨b, rfl, hd, hcc⟩ := hcut
    have HD4 := Lib.hid hd
    have HCC := Lib.hid hcc
    clear hd hcc HD1 HD
    cases b with
    | true =>
      go_wp2_with fail
      go_ret
      exact ⟨rfl, HD4.out.b⟩
    | false =>
    obtain ⟨hc1, hn40, hcp⟩ := HCC.out rfl
    have HCP := Lib.hid hcp
    clear HCC hcp
    obtain ⟨x0, x1, x2, x3, x4⟩ := HD4.out.bx.cells
    rcases join_cases x t ps with ⟨i, hj⟩ | ⟨m, cc, hj, hm, hf⟩
    · skip
      have HRJ : Hid (∀ W gk ck, InTree W h t → TreesAt W a n c ps H → Seg .u32 W gk 0 kTab → gk < W.heap.size → Calls Tryz.prog 8 #[.agg #[.slice (some ⟨gk, 0, none⟩) 64 ck, .int .u32 1779033703, .int .u32 3144134277, .int .u32 1013904242, .int .u32 2773480762, .int .u32 1359893119, .int .u32 2600822924, .int .u32 528734635, .int .u32 1541459225], .int .i64 x, .agg #[.int .i64 h.k, .slice h.ka h.kn h.kc, .slice h.va h.vn h.vc, .slice h.da h.dn h.dc, .slice h.ta h.tn h.tc], .slice a n c] W (fun e w' => ∃ h7 : TH, e = .returned (.tuple #[.agg #[.int .i64 h7.k, .slice h7.ka h7.kn h7.kc, .slice h7.va h7.vn h7.vc, .slice h7.da h7.dn h7.dc, .slice h7.ta h7.tn h7.tc], .int .i64 6, .int .i64 (i : Int)]) ∧ InTree w' h7 tNil ∧ Below W.heap.size W w')) := Lib.hid (fun W gk ck q1 q2 q3 q4 => by
        have q := refJoin_any x hx1 hx2 gk ck t h a n c ps H W q1 q2 (by omega) (by omega) q3 q4
        rw [hj] at q
        exact q.mono fun e w' ⟨h7, e1, e2, e3⟩ => ⟨h7, e1, e2, e3⟩)
      have HR := Lib.hid hj
      have HFO : Hid (formedT tNil = true) := Lib.hid formed_nilJ
      go_upto_region 5 with (first
      | (go_at_call 7
         refine (cjoin_any x hx1 hx2 t h a n c ps H _ HD4.out.t (HPS.out.below HD4.out.b) (by omega) (fun p hp => by have := (HCP.out p hp).2; omega) (by omega) (HT.out.below HD4.out.b (Nat.le_refl _))).mono ?_
         rw [HR.out]
         unfold JoinTold TH.v
         rintro _ w5 ⟨h5, v5, rfl, hi5, hv5, hb5⟩
         have HI5 : Hid (InTree w5 h5 tNil) := Lib.hid hi5
         have HV5 := Lib.hid hv5
         have HD5 := Lib.hid (HD4.out.below hb5)
         clear hi5 hv5 hb5 x0 x1 x2 x3 x4)
      | (refine wpList_store_box rfl 25 (.tmp 8) (.tmp 28) rfl w5.heap.size hZ h5 rfl rfl 25 (Box.new w5 25 hZ) infoTree5 ?_
         intro w5b hbx hg
         have qq : Below w5.heap.size w5 w5b := ((Below.refl w5.heap.size w5).alloc (Nat.le_refl _) _).grown hg (by simp) (fun j hj => by injection hj; omega)
         have HX6 : Hid (Box w5b 25 w5.heap.size h5 ∧ InTree w5b h5 tNil ∧ RW11 w w5b h t) := Lib.hid ⟨hbx, HI5.out.lower qq, HD5.out.below qq⟩
         have HQQ := Lib.hid qq
         clear hbx hg qq))
      have hsv : ∃ g, v5 = .iface 61 (.pointer (some ⟨g, 0, none⟩)) ∧ g < w5.heap.size ∧ w5b.heap[g]? = some (.cells #[.int .i64 (i : Int), .iface 42 (.int .i64 6)] 63 (0, 0)) := by
        obtain ⟨g, e, q1, q2⟩ := HV5.out
        have hlt : g < w5.heap.size := by
          rcases Nat.lt_or_ge g w5.heap.size with q | q
          · exact q
          · rw [Array.getElem?_eq_none q] at q2
            cases q2
        exact ⟨g, e, hlt, (HQQ.out.block g hlt).trans q2⟩
      obtain ⟨g, hve, hgl, hsp⟩ := hsv
      subst hve
      have HSP := Lib.hid (And.intro hsp (show g < w5b.heap.size from Nat.lt_of_lt_of_le hgl HQQ.out.size))
      clear hsp hgl
      clear HV5 HQQ HI5 HD5 HD4
      generalize w5.heap.size = g5 at *
      have HB0 : Hid (Below w5b.heap.size w5b w5b.drew) := Lib.hid (Below.refl _ _).drew
      have HB1 : Hid (Below w5b.heap.size w5b (w5b.drew.alloc (.cells #[.int .i64 0, .slice none 0 0, .slice none 0 0, .slice none 0 0, .slice none 0 0] 25))) := Lib.hid (HB0.out.trans (((Below.refl w5b.drew.heap.size w5b.drew).alloc (Nat.le_refl _) (.cells #[.int .i64 0, .slice none 0 0, .slice none 0 0, .slice none 0 0, .slice none 0 0] 25)).mono HB0.out.size))
      go_cut [10, 11, 12] (fun s10 s11 s12 wx => ∃ h7 L, s10 = .pointer (some ⟨L, 0, none⟩) ∧ s11 = .int .i64 6 ∧ s12 = .int .i64 (i : Int) ∧ Box wx 25 L h7 ∧ InTree wx h7 tNil ∧ Below w5b.heap.size w5b wx)
      case first =>
        refine wp_region_held_drew (S := (fun W => W.cell? ⟨w.heap.size, 0, none⟩ = some (.int .i64 h.k) ∧ W.cell? ⟨w.heap.size, 1, none⟩ = some (.slice h.ka h.kn h.kc) ∧ W.cell? ⟨w.heap.size, 2, none⟩ = some (.slice h.va h.vn h.vc) ∧ W.cell? ⟨w.heap.size, 3, none⟩ = some (.slice h.da h.dn h.dc) ∧ W.cell? ⟨w.heap.size, 4, none⟩ = some (.slice h.ta h.tn h.tc))) (by kernel_rfl) (by exact (HX6.out.2.2.below HB0.out).bx.cells) (fun hHeld => ?_)
        refine take_w (i := 1) (oi := ?oZ11) (v := ?vZ11) ?hiZ11 (by kernel_rfl) (by kernel_rfl) (by kernel_rfl) ?hQZ11 ?hwZ11 ?hyZ11 (by assumption) ?restZ11
        case hiZ11 => (simp only [List.getElem?_toArray, List.getElem?_cons_succ, List.getElem?_cons_zero] <;> rfl)
        case hQZ11 => exact (fun _ _ _ h => h)
        case hwZ11 => rfl
        case hyZ11 => (intro w hSw; (try dsimp only at hSw); go_simp; try with_reducible rfl)
        (try simp only [Act.put, List.setIfInBounds_toArray, List.set_cons_zero, List.set_cons_succ])
        refine take_w (i := 2) (oi := ?oZ12) (v := ?vZ12) ?hiZ12 (by kernel_rfl) (by kernel_rfl) (by kernel_rfl) ?hQZ12 ?hwZ12 ?hyZ12 (by assumption) ?restZ12
        case hiZ12 => (simp only [List.getElem?_toArray, List.getElem?_cons_succ, List.getElem?_cons_zero] <;> rfl)
        case hQZ12 => exact (fun _ _ _ h => h)
        case hwZ12 => rfl
        case hyZ12 => (intro w hSw; (try dsimp only at hSw); go_simp; try with_reducible rfl)
        (try simp only [Act.put, List.setIfInBounds_toArray, List.set_cons_zero, List.set_cons_succ])
        refine take_w (i := 3) (oi := ?oZ13) (v := ?vZ13) ?hiZ13 (by kernel_rfl) (by kernel_rfl) (by kernel_rfl) ?hQZ13 ?hwZ13 ?hyZ13 (by assumption) ?restZ13
        case hiZ13 => (simp only [List.getElem?_toArray, List.getElem?_cons_succ, List.getElem?_cons_zero] <;> rfl)
        case hQZ13 => exact (fun _ _ _ h => h)
        case hwZ13 => rfl
        case hyZ13 => (intro w hSw; (try dsimp only at hSw); go_simp; try with_reducible rfl)
        (try simp only [Act.put, List.setIfInBounds_toArray, List.set_cons_zero, List.set_cons_succ])
        refine wpAnyH_ready (rs := [0, 9]) (by kernel_rfl) (by simp) ?_
        refine AllReadyH.cons (o := ?oZ14) ?hiZ14 (fun K hK => ?stZ14) (AllReadyH.cons (o := ?oZ15) ?hiZ15 (fun K hK => ?stZ15) AllReadyH.nil)
        case hiZ14 => (simp only [List.getElem?_toArray, List.getElem?_cons_zero] <;> rfl)
        case hiZ15 => (simp only [List.getElem?_toArray, List.getElem?_cons_succ, List.getElem?_cons_zero] <;> rfl)
        case stZ14 =>
          go_simp
          go_at_call 9
          refine (made_any _).mono ?_
          rintro e6 w6 ⟨gk, ck, hq6, ho6, hb6⟩
          have hqq : e6 = Ending.returned (.agg #[.slice (some ⟨gk, 0, none⟩) 64 ck, .int .u32 1779033703, .int .u32 3144134277, .int .u32 1013904242, .int .u32 2773480762, .int .u32 1359893119, .int .u32 2600822924, .int .u32 528734635, .int .u32 1541459225]) := hq6
          clear hq6
          subst hqq
          have HK := Lib.hid (And.intro (own_seg ho6) (ho6.lt gk rfl).2)
          have HBa : Hid (Below w5b.heap.size w5b w6) := Lib.hid (HB0.out.trans (hb6.mono HB0.out.size))
          clear ho6 hb6
          go_simp
          have HBd : Hid (Below w5b.heap.size w5b (w6.alloc (.cells #[.int .i64 0, .slice none 0 0, .slice none 0 0, .slice none 0 0, .slice none 0 0] 25))) := Lib.hid (HBa.out.trans (((Below.refl w6.heap.size w6).alloc (Nat.le_refl _) (.cells #[.int .i64 0, .slice none 0 0, .slice none 0 0, .slice none 0 0, .slice none 0 0] 25)).mono HBa.out.size))
          refine hK.out _ _ ?_ (fun hHeld => ?_)
          · (first | exact (HX6.out.2.2.below HBL.out).bx.cells | exact (HX6.out.2.2.below HBc.out).bx.cells | exact (HX6.out.2.2.below HBb.out).bx.cells | exact (HX6.out.2.2.below HBe.out).bx.cells | exact (HX6.out.2.2.below HBd.out).bx.cells | exact (HX6.out.2.2.below HBa.out).bx.cells | exact (HX6.out.2.2.below HBg.out).bx.cells | exact (HX6.out.2.2.below HBf.out).bx.cells | exact (HX6.out.2.2.below HB1.out).bx.cells | exact (HX6.out.2.2.below HB0.out).bx.cells)
          clear hK K
          (try simp only [Act.put, List.setIfInBounds_toArray, List.set_cons_zero, List.set_cons_succ])
          refine wpAnyH_ready (rs := [4, 9]) (by kernel_rfl) (by simp) ?_
          refine AllReadyH.cons (o := ?oZ16) ?hiZ16 (fun K hK => ?stZ16) (AllReadyH.cons (o := ?oZ17) ?hiZ17 (fun K hK => ?stZ17) AllReadyH.nil)
          case hiZ16 => (simp only [List.getElem?_toArray, List.getElem?_cons_succ, List.getElem?_cons_zero] <;> rfl)
          case hiZ17 => (simp only [List.getElem?_toArray, List.getElem?_cons_succ, List.getElem?_cons_zero] <;> rfl)
          case stZ16 =>
            go_simp
            go_at_call 8
            (with_reducible refine (HRJ.out _ gk ck ?_ ?_ ?_ ?_).mono ?_)
            · exact (HX6.out.2.2.below HBa.out).t
            · exact HPS.out.below (HX6.out.2.2.below HBa.out).b
            · exact HK.out.1
            · exact HK.out.2
            rintro _ w7 ⟨h7, rfl, hi7, hb7⟩
            have HBb : Hid (Below w5b.heap.size w5b w7) := Lib.hid (HBa.out.trans (hb7.mono HBa.out.size))
            have HI7 := Lib.hid hi7
            clear hi7 hb7
            go_simp
            have HBc : Hid (Below w5b.heap.size w5b (w7.alloc (.cells #[.int .i64 0, .slice none 0 0, .slice none 0 0, .slice none 0 0, .slice none 0 0] 25))) := Lib.hid (HBb.out.trans (((Below.refl w7.heap.size w7).alloc (Nat.le_refl _) (.cells #[.int .i64 0, .slice none 0 0, .slice none 0 0, .slice none 0 0, .slice none 0 0] 25)).mono HBb.out.size))
            refine hK.out _ _ ?_ (fun hHeld => ?_)
            · (first | exact (HX6.out.2.2.below HBL.out).bx.cells | exact (HX6.out.2.2.below HBc.out).bx.cells | exact (HX6.out.2.2.below HBb.out).bx.cells | exact (HX6.out.2.2.below HBe.out).bx.cells | exact (HX6.out.2.2.below HBd.out).bx.cells | exact (HX6.out.2.2.below HBa.out).bx.cells | exact (HX6.out.2.2.below HBg.out).bx.cells | exact (HX6.out.2.2.below HBf.out).bx.cells | exact (HX6.out.2.2.below HB1.out).bx.cells | exact (HX6.out.2.2.below HB0.out).bx.cells)
            clear hK K
            (try simp only [Act.put, List.setIfInBounds_toArray, List.set_cons_zero, List.set_cons_succ])
            refine take_w (i := 5) (oi := ?oZ18) (v := ?vZ18) ?hiZ18 (by kernel_rfl) (by kernel_rfl) (by kernel_rfl) ?hQZ18 ?hwZ18 ?hyZ18 (by assumption) ?restZ18
            case hiZ18 => (simp only [List.getElem?_toArray, List.getElem?_cons_succ, List.getElem?_cons_zero] <;> rfl)
            case hQZ18 => exact (fun _ _ _ h => h)
            case hwZ18 => rfl
            case hyZ18 => (intro w hSw; (try dsimp only at hSw); go_simp; try with_reducible rfl)
            (try simp only [Act.put, List.setIfInBounds_toArray, List.set_cons_zero, List.set_cons_succ])
            refine take_w (i := 6) (oi := ?oZ19) (v := ?vZ19) ?hiZ19 (by kernel_rfl) (by kernel_rfl) (by kernel_rfl) ?hQZ19 ?hwZ19 ?hyZ19 (by assumption) ?restZ19
            case hiZ19 => (simp only [List.getElem?_toArray, List.getElem?_cons_succ, List.getElem?_cons_zero] <;> rfl)
            case hQZ19 => exact (fun _ _ _ h => h)
            case hwZ19 => rfl
            case hyZ19 => (intro w hSw; (try dsimp only at hSw); go_simp; try with_reducible rfl)
            (try simp only [Act.put, List.setIfInBounds_toArray, List.set_cons_zero, List.set_cons_succ])
            refine take_w (i := 7) (oi := ?oZ20) (v := ?vZ20) ?hiZ20 (by kernel_rfl) (by kernel_rfl) (by kernel_rfl) ?hQZ20 ?hwZ20 ?hyZ20 (by assumption) ?restZ20
            case hiZ20 => (simp only [List.getElem?_toArray, List.getElem?_cons_succ, List.getElem?_cons_zero] <;> rfl)
            case hQZ20 => exact (fun _ _ _ h => h)
            case hwZ20 => rfl
            case hyZ20 => (intro w hSw; (try dsimp only at hSw); go_simp; try with_reducible rfl)
            (try simp only [Act.put, List.setIfInBounds_toArray, List.set_cons_zero, List.set_cons_succ])
            refine take_w (i := 8) (oi := ?oZ21) (v := ?vZ21) ?hiZ21 (by kernel_rfl) (by kernel_rfl) (by kernel_rfl) ?hQZ21 ?hwZ21 ?hyZ21 (by assumption) ?restZ21
            case hiZ21 => (simp only [List.getElem?_toArray, List.getElem?_cons_succ, List.getElem?_cons_zero] <;> rfl)
            case hQZ21 => exact (fun _ _ _ h => h)
            case hwZ21 => rfl
            case hyZ21 => (intro w hSw; (try dsimp only at hSw); go_simp; try with_reducible rfl)
            (try simp only [Act.put, List.setIfInBounds_toArray, List.set_cons_zero, List.set_cons_succ])
            refine wpAnyH_ready (rs := [9]) (by kernel_rfl) (by simp) ?_
            refine AllReadyH.cons (o := ?oZ22) ?hiZ22 (fun K hK => ?stZ22) AllReadyH.nil
            case hiZ22 => (simp only [List.getElem?_toArray, List.getElem?_cons_succ, List.getElem?_cons_zero] <;> rfl)
            go_simp
            refine hK.out _ _ ?_ (fun hHeld => ?_)
            · (first | exact (HX6.out.2.2.below HBL.out).bx.cells | exact (HX6.out.2.2.below HBc.out).bx.cells | exact (HX6.out.2.2.below HBb.out).bx.cells | exact (HX6.out.2.2.below HBe.out).bx.cells | exact (HX6.out.2.2.below HBd.out).bx.cells | exact (HX6.out.2.2.below HBa.out).bx.cells | exact (HX6.out.2.2.below HBg.out).bx.cells | exact (HX6.out.2.2.below HBf.out).bx.cells | exact (HX6.out.2.2.below HB1.out).bx.cells | exact (HX6.out.2.2.below HB0.out).bx.cells)
            clear hK K
            (try simp only [Act.put, List.setIfInBounds_toArray, List.set_cons_zero, List.set_cons_succ])
            refine wpAnyH_ready (rs := [10]) (by kernel_rfl) (by simp) ?_
            refine AllReadyH.cons (o := ?oZ23) ?hiZ23 (fun K hK => ?stZ23) AllReadyH.nil
            case hiZ23 => (simp only [List.getElem?_toArray, List.getElem?_cons_succ, List.getElem?_cons_zero] <;> rfl)
            refine step_store_box rfl 25 (.tmp 10) (.tmp 36) rfl w7.heap.size hZ h7 rfl rfl 25 (Box.new w7 25 hZ) infoTree5 ?_
            intro wl hbl hgl
            have HBL : Hid (Below w5b.heap.size w5b wl) := Lib.hid (HBc.out.grown hgl HBc.out.size (fun j hj => by injection hj; have := HBb.out.size; omega))
            have HBX := Lib.hid hbl
            have HTL := Lib.hid (InTree.outBox (Box.new w7 25 hZ) hgl _ _ HFO.out (HI7.out.lower ((Below.refl w7.heap.size w7).alloc (Nat.le_refl _) (.cells #[.int .i64 0, .slice none 0 0, .slice none 0 0, .slice none 0 0, .slice none 0 0] 25))))
            clear hbl hgl
            refine hK.out _ _ ?_ (fun hHeld => ?_)
            · (first | exact (HX6.out.2.2.below HBL.out).bx.cells | exact (HX6.out.2.2.below HBc.out).bx.cells | exact (HX6.out.2.2.below HBb.out).bx.cells | exact (HX6.out.2.2.below HBe.out).bx.cells | exact (HX6.out.2.2.below HBd.out).bx.cells | exact (HX6.out.2.2.below HBa.out).bx.cells | exact (HX6.out.2.2.below HBg.out).bx.cells | exact (HX6.out.2.2.below HBf.out).bx.cells | exact (HX6.out.2.2.below HB1.out).bx.cells | exact (HX6.out.2.2.below HB0.out).bx.cells)
            clear hK K
            (try simp only [Act.put])
            refine wpAnyH_ready (rs := [11]) (by kernel_rfl) (by simp) ?_
            refine AllReadyH.cons (o := ?oZ24) ?hiZ24 (fun K hK => ?stZ24) AllReadyH.nil
            case hiZ24 => (simp only [List.getElem?_toArray, List.getElem?_cons_succ, List.getElem?_cons_zero] <;> rfl)
            go_simp
            refine hK.out _ _ ?_ (fun hHeld => ?_)
            · (first | exact (HX6.out.2.2.below HBL.out).bx.cells | exact (HX6.out.2.2.below HBc.out).bx.cells | exact (HX6.out.2.2.below HBb.out).bx.cells | exact (HX6.out.2.2.below HBe.out).bx.cells | exact (HX6.out.2.2.below HBd.out).bx.cells | exact (HX6.out.2.2.below HBa.out).bx.cells | exact (HX6.out.2.2.below HBg.out).bx.cells | exact (HX6.out.2.2.below HBf.out).bx.cells | exact (HX6.out.2.2.below HB1.out).bx.cells | exact (HX6.out.2.2.below HB0.out).bx.cells)
            clear hK K
            (try simp only [Act.put, List.setIfInBounds_toArray, List.set_cons_zero, List.set_cons_succ])
            refine wpAnyH_ready (rs := [12]) (by kernel_rfl) (by simp) ?_
            refine AllReadyH.cons (o := ?oZ25) ?hiZ25 (fun K hK => ?stZ25) AllReadyH.nil
            case hiZ25 => (simp only [List.getElem?_toArray, List.getElem?_cons_succ, List.getElem?_cons_zero] <;> rfl)
            go_simp
            refine hK.out _ _ ?_ (fun hHeld => ?_)
            · (first | exact (HX6.out.2.2.below HBL.out).bx.cells | exact (HX6.out.2.2.below HBc.out).bx.cells | exact (HX6.out.2.2.below HBb.out).bx.cells | exact (HX6.out.2.2.below HBe.out).bx.cells | exact (HX6.out.2.2.below HBd.out).bx.cells | exact (HX6.out.2.2.below HBa.out).bx.cells | exact (HX6.out.2.2.below HBg.out).bx.cells | exact (HX6.out.2.2.below HBf.out).bx.cells | exact (HX6.out.2.2.below HB1.out).bx.cells | exact (HX6.out.2.2.below HB0.out).bx.cells)
            clear hK K
            (try simp only [Act.put, List.setIfInBounds_toArray, List.set_cons_zero, List.set_cons_succ])
            refine wpAnyH_done (by kernel_rfl) ?_ _
            clear hHeld
            go_wp2_with fail
            go_meet
            exact ⟨h7, _, rfl, rfl, rfl, HBX.out, HTL.out, HBL.out⟩
          case stZ17 =>
            go_simp
            refine hK.out _ _ ?_ (fun hHeld => ?_)
            · (first | exact (HX6.out.2.2.below HBL.out).bx.cells | exact (HX6.out.2.2.below HBc.out).bx.cells | exact (HX6.out.2.2.below HBb.out).bx.cells | exact (HX6.out.2.2.below HBe.out).bx.cells | exact (HX6.out.2.2.below HBd.out).bx.cells | exact (HX6.out.2.2.below HBa.out).bx.cells | exact (HX6.out.2.2.below HBg.out).bx.cells | exact (HX6.out.2.2.below HBf.out).bx.cells | exact (HX6.out.2.2.below HB1.out).bx.cells | exact (HX6.out.2.2.below HB0.out).bx.cells)
            clear hK K
            (try simp only [Act.put, List.setIfInBounds_toArray, List.set_cons_zero, List.set_cons_succ])
            refine wpAnyH_ready (rs := [4]) (by kernel_rfl) (by simp) ?_
            refine AllReadyH.cons (o := ?oZ26) ?hiZ26 (fun K hK => ?stZ26) AllReadyH.nil
            case hiZ26 => (simp only [List.getElem?_toArray, List.getElem?_cons_succ, List.getElem?_cons_zero] <;> rfl)
            go_simp
            have HKd := Lib.hid (And.intro (HK.out.1.below ((Below.refl w6.heap.size w6).alloc (Nat.le_refl _) (.cells #[.int .i64 0, .slice none 0 0, .slice none 0 0, .slice none 0 0, .slice none 0 0] 25)) HK.out.2) (Nat.lt_of_lt_of_le HK.out.2 ((Below.refl w6.heap.size w6).alloc (Nat.le_refl _) (.cells #[.int .i64 0, .slice none 0 0, .slice none 0 0, .slice none 0 0, .slice none 0 0] 25)).size))
            go_at_call 8
            (with_reducible refine (HRJ.out _ gk ck ?_ ?_ ?_ ?_).mono ?_)
            · exact (HX6.out.2.2.below HBd.out).t
            · exact HPS.out.below (HX6.out.2.2.below HBd.out).b
            · exact HKd.out.1
            · exact HKd.out.2
            rintro _ w7 ⟨h7, rfl, hi7, hb7⟩
            have HBe : Hid (Below w5b.heap.size w5b w7) := Lib.hid (HBd.out.trans (hb7.mono HBd.out.size))
            have HBXg := Lib.hid ((Box.new w6 25 hZ).below hb7 (Box.new w6 25 hZ).lt)
            have HI7 := Lib.hid hi7
            clear hi7 hb7
            go_simp
            refine hK.out _ _ ?_ (fun hHeld => ?_)
            · (first | exact (HX6.out.2.2.below HBL.out).bx.cells | exact (HX6.out.2.2.below HBc.out).bx.cells | exact (HX6.out.2.2.below HBb.out).bx.cells | exact (HX6.out.2.2.below HBe.out).bx.cells | exact (HX6.out.2.2.below HBd.out).bx.cells | exact (HX6.out.2.2.below HBa.out).bx.cells | exact (HX6.out.2.2.below HBg.out).bx.cells | exact (HX6.out.2.2.below HBf.out).bx.cells | exact (HX6.out.2.2.below HB1.out).bx.cells | exact (HX6.out.2.2.below HB0.out).bx.cells)
            clear hK K
            (try simp only [Act.put, List.setIfInBounds_toArray, List.set_cons_zero, List.set_cons_succ])
            refine take_w (i := 5) (oi := ?oZ27) (v := ?vZ27) ?hiZ27 (by kernel_rfl) (by kernel_rfl) (by kernel_rfl) ?hQZ27 ?hwZ27 ?hyZ27 (by assumption) ?restZ27
            case hiZ27 => (simp only [List.getElem?_toArray, List.getElem?_cons_succ, List.getElem?_cons_zero] <;> rfl)
            case hQZ27 => exact (fun _ _ _ h => h)
            case hwZ27 => rfl
            case hyZ27 => (intro w hSw; (try dsimp only at hSw); go_simp; try with_reducible rfl)
            (try simp only [Act.put, List.setIfInBounds_toArray, List.set_cons_zero, List.set_cons_succ])
            refine take_w (i := 6) (oi := ?oZ28) (v := ?vZ28) ?hiZ28 (by kernel_rfl) (by kernel_rfl) (by kernel_rfl) ?hQZ28 ?hwZ28 ?hyZ28 (by assumption) ?restZ28
            case hiZ28 => (simp only [List.getElem?_toArray, List.getElem?_cons_succ, List.getElem?_cons_zero] <;> rfl)
            case hQZ28 => exact (fun _ _ _ h => h)
            case hwZ28 => rfl
            case hyZ28 => (intro w hSw; (try dsimp only at hSw); go_simp; try with_reducible rfl)
            (try simp only [Act.put, List.setIfInBounds_toArray, List.set_cons_zero, List.set_cons_succ])
            refine take_w (i := 7) (oi := ?oZ29) (v := ?vZ29) ?hiZ29 (by kernel_rfl) (by kernel_rfl) (by kernel_rfl) ?hQZ29 ?hwZ29 ?hyZ29 (by assumption) ?restZ29
            case hiZ29 => (simp only [List.getElem?_toArray, List.getElem?_cons_succ, List.getElem?_cons_zero] <;> rfl)
            case hQZ29 => exact (fun _ _ _ h => h)
            case hwZ29 => rfl
            case hyZ29 => (intro w hSw; (try dsimp only at hSw); go_simp; try with_reducible rfl)
            (try simp only [Act.put, List.setIfInBounds_toArray, List.set_cons_zero, List.set_cons_succ])
            refine take_w (i := 8) (oi := ?oZ30) (v := ?vZ30) ?hiZ30 (by kernel_rfl) (by kernel_rfl) (by kernel_rfl) ?hQZ30 ?hwZ30 ?hyZ30 (by assumption) ?restZ30
            case hiZ30 => (simp only [List.getElem?_toArray, List.getElem?_cons_succ, List.getElem?_cons_zero] <;> rfl)
            case hQZ30 => exact (fun _ _ _ h => h)
            case hwZ30 => rfl
            case hyZ30 => (intro w hSw; (try dsimp only at hSw); go_simp; try with_reducible rfl)
            (try simp only [Act.put, List.setIfInBounds_toArray, List.set_cons_zero, List.set_cons_succ])
            refine wpAnyH_ready (rs := [10]) (by kernel_rfl) (by simp) ?_
            refine AllReadyH.cons (o := ?oZ31) ?hiZ31 (fun K hK => ?stZ31) AllReadyH.nil
            case hiZ31 => (simp only [List.getElem?_toArray, List.getElem?_cons_succ, List.getElem?_cons_zero] <;> rfl)
            refine step_store_box rfl 25 (.tmp 10) (.tmp 36) rfl w6.heap.size hZ h7 rfl rfl 25 HBXg.out infoTree5 ?_
            intro wl hbl hgl
            have HBL : Hid (Below w5b.heap.size w5b wl) := Lib.hid (HBe.out.grown hgl HBe.out.size (fun j hj => by injection hj; have := HBa.out.size; omega))
            have HBX := Lib.hid hbl
            have HTL := Lib.hid (InTree.outBox HBXg.out hgl _ _ HFO.out HI7.out)
            clear hbl hgl
            refine hK.out _ _ ?_ (fun hHeld => ?_)
            · (first | exact (HX6.out.2.2.below HBL.out).bx.cells | exact (HX6.out.2.2.below HBc.out).bx.cells | exact (HX6.out.2.2.below HBb.out).bx.cells | exact (HX6.out.2.2.below HBe.out).bx.cells | exact (HX6.out.2.2.below HBd.out).bx.cells | exact (HX6.out.2.2.below HBa.out).bx.cells | exact (HX6.out.2.2.below HBg.out).bx.cells | exact (HX6.out.2.2.below HBf.out).bx.cells | exact (HX6.out.2.2.below HB1.out).bx.cells | exact (HX6.out.2.2.below HB0.out).bx.cells)
            clear hK K
            (try simp only [Act.put])
            refine wpAnyH_ready (rs := [11]) (by kernel_rfl) (by simp) ?_
            refine AllReadyH.cons (o := ?oZ32) ?hiZ32 (fun K hK => ?stZ32) AllReadyH.nil
            case hiZ32 => (simp only [List.getElem?_toArray, List.getElem?_cons_succ, List.getElem?_cons_zero] <;> rfl)
            go_simp
            refine hK.out _ _ ?_ (fun hHeld => ?_)
            · (first | exact (HX6.out.2.2.below HBL.out).bx.cells | exact (HX6.out.2.2.below HBc.out).bx.cells | exact (HX6.out.2.2.below HBb.out).bx.cells | exact (HX6.out.2.2.below HBe.out).bx.cells | exact (HX6.out.2.2.below HBd.out).bx.cells | exact (HX6.out.2.2.below HBa.out).bx.cells | exact (HX6.out.2.2.below HBg.out).bx.cells | exact (HX6.out.2.2.below HBf.out).bx.cells | exact (HX6.out.2.2.below HB1.out).bx.cells | exact (HX6.out.2.2.below HB0.out).bx.cells)
            clear hK K
            (try simp only [Act.put, List.setIfInBounds_toArray, List.set_cons_zero, List.set_cons_succ])
            refine wpAnyH_ready (rs := [12]) (by kernel_rfl) (by simp) ?_
            refine AllReadyH.cons (o := ?oZ33) ?hiZ33 (fun K hK => ?stZ33) AllReadyH.nil
            case hiZ33 => (simp only [List.getElem?_toArray, List.getElem?_cons_succ, List.getElem?_cons_zero] <;> rfl)
            go_simp
            refine hK.out _ _ ?_ (fun hHeld => ?_)
            · (first | exact (HX6.out.2.2.below HBL.out).bx.cells | exact (HX6.out.2.2.below HBc.out).bx.cells | exact (HX6.out.2.2.below HBb.out).bx.cells | exact (HX6.out.2.2.below HBe.out).bx.cells | exact (HX6.out.2.2.below HBd.out).bx.cells | exact (HX6.out.2.2.below HBa.out).bx.cells | exact (HX6.out.2.2.below HBg.out).bx.cells | exact (HX6.out.2.2.below HBf.out).bx.cells | exact (HX6.out.2.2.below HB1.out).bx.cells | exact (HX6.out.2.2.below HB0.out).bx.cells)
            clear hK K
            (try simp only [Act.put, List.setIfInBounds_toArray, List.set_cons_zero, List.set_cons_succ])
            refine wpAnyH_done (by kernel_rfl) ?_ _
            clear hHeld
            go_wp2_with fail
            go_meet
            exact ⟨h7, _, rfl, rfl, rfl, HBX.out, HTL.out, HBL.out⟩
        case stZ15 =>
          go_simp
          refine hK.out _ _ ?_ (fun hHeld => ?_)
          · (first | exact (HX6.out.2.2.below HBL.out).bx.cells | exact (HX6.out.2.2.below HBc.out).bx.cells | exact (HX6.out.2.2.below HBb.out).bx.cells | exact (HX6.out.2.2.below HBe.out).bx.cells | exact (HX6.out.2.2.below HBd.out).bx.cells | exact (HX6.out.2.2.below HBa.out).bx.cells | exact (HX6.out.2.2.below HBg.out).bx.cells | exact (HX6.out.2.2.below HBf.out).bx.cells | exact (HX6.out.2.2.below HB1.out).bx.cells | exact (HX6.out.2.2.below HB0.out).bx.cells)
          clear hK K
          (try simp only [Act.put, List.setIfInBounds_toArray, List.set_cons_zero, List.set_cons_succ])
          refine wpAnyH_ready (rs := [0]) (by kernel_rfl) (by simp) ?_
          refine AllReadyH.cons (o := ?oZ34) ?hiZ34 (fun K hK => ?stZ34) AllReadyH.nil
          case hiZ34 => (simp only [List.getElem?_toArray, List.getElem?_cons_zero] <;> rfl)
          go_simp
          go_at_call 9
          refine (made_any _).mono ?_
          rintro e6 w6 ⟨gk, ck, hq6, ho6, hb6⟩
          have hqq : e6 = Ending.returned (.agg #[.slice (some ⟨gk, 0, none⟩) 64 ck, .int .u32 1779033703, .int .u32 3144134277, .int .u32 1013904242, .int .u32 2773480762, .int .u32 1359893119, .int .u32 2600822924, .int .u32 528734635, .int .u32 1541459225]) := hq6
          clear hq6
          subst hqq
          have HK := Lib.hid (And.intro (own_seg ho6) (ho6.lt gk rfl).2)
          have HBf : Hid (Below w5b.heap.size w5b w6) := Lib.hid (HB1.out.trans (hb6.mono HB1.out.size))
          have HBXh := Lib.hid ((Box.new w5b.drew 25 hZ).below hb6 (Box.new w5b.drew 25 hZ).lt)
          clear ho6 hb6
          go_simp
          refine hK.out _ _ ?_ (fun hHeld => ?_)
          · (first | exact (HX6.out.2.2.below HBL.out).bx.cells | exact (HX6.out.2.2.below HBc.out).bx.cells | exact (HX6.out.2.2.below HBb.out).bx.cells | exact (HX6.out.2.2.below HBe.out).bx.cells | exact (HX6.out.2.2.below HBd.out).bx.cells | exact (HX6.out.2.2.below HBa.out).bx.cells | exact (HX6.out.2.2.below HBg.out).bx.cells | exact (HX6.out.2.2.below HBf.out).bx.cells | exact (HX6.out.2.2.below HB1.out).bx.cells | exact (HX6.out.2.2.below HB0.out).bx.cells)
          clear hK K
          (try simp only [Act.put, List.setIfInBounds_toArray, List.set_cons_zero, List.set_cons_succ])
          refine wpAnyH_ready (rs := [4]) (by kernel_rfl) (by simp) ?_
          refine AllReadyH.cons (o := ?oZ35) ?hiZ35 (fun K hK => ?stZ35) AllReadyH.nil
          case hiZ35 => (simp only [List.getElem?_toArray, List.getElem?_cons_succ, List.getElem?_cons_zero] <;> rfl)
          go_simp
          go_at_call 8
          (with_reducible refine (HRJ.out _ gk ck ?_ ?_ ?_ ?_).mono ?_)
          · exact (HX6.out.2.2.below HBf.out).t
          · exact HPS.out.below (HX6.out.2.2.below HBf.out).b
          · exact HK.out.1
          · exact HK.out.2
          rintro _ w7 ⟨h7, rfl, hi7, hb7⟩
          have HBg : Hid (Below w5b.heap.size w5b w7) := Lib.hid (HBf.out.trans (hb7.mono HBf.out.size))
          have HBXi := Lib.hid (HBXh.out.below hb7 HBXh.out.lt)
          have HI7 := Lib.hid hi7
          clear hi7 hb7
          go_simp
          refine hK.out _ _ ?_ (fun hHeld => ?_)
          · (first | exact (HX6.out.2.2.below HBL.out).bx.cells | exact (HX6.out.2.2.below HBc.out).bx.cells | exact (HX6.out.2.2.below HBb.out).bx.cells | exact (HX6.out.2.2.below HBe.out).bx.cells | exact (HX6.out.2.2.below HBd.out).bx.cells | exact (HX6.out.2.2.below HBa.out).bx.cells | exact (HX6.out.2.2.below HBg.out).bx.cells | exact (HX6.out.2.2.below HBf.out).bx.cells | exact (HX6.out.2.2.below HB1.out).bx.cells | exact (HX6.out.2.2.below HB0.out).bx.cells)
          clear hK K
          (try simp only [Act.put, List.setIfInBounds_toArray, List.set_cons_zero, List.set_cons_succ])
          refine take_w (i := 5) (oi := ?oZ36) (v := ?vZ36) ?hiZ36 (by kernel_rfl) (by kernel_rfl) (by kernel_rfl) ?hQZ36 ?hwZ36 ?hyZ36 (by assumption) ?restZ36
          case hiZ36 => (simp only [List.getElem?_toArray, List.getElem?_cons_succ, List.getElem?_cons_zero] <;> rfl)
          case hQZ36 => exact (fun _ _ _ h => h)
          case hwZ36 => rfl
          case hyZ36 => (intro w hSw; (try dsimp only at hSw); go_simp; try with_reducible rfl)
          (try simp only [Act.put, List.setIfInBounds_toArray, List.set_cons_zero, List.set_cons_succ])
          refine take_w (i := 6) (oi := ?oZ37) (v := ?vZ37) ?hiZ37 (by kernel_rfl) (by kernel_rfl) (by kernel_rfl) ?hQZ37 ?hwZ37 ?hyZ37 (by assumption) ?restZ37
          case hiZ37 => (simp only [List.getElem?_toArray, List.getElem?_cons_succ, List.getElem?_cons_zero] <;> rfl)
          case hQZ37 => exact (fun _ _ _ h => h)
          case hwZ37 => rfl
          case hyZ37 => (intro w hSw; (try dsimp only at hSw); go_simp; try with_reducible rfl)
          (try simp only [Act.put, List.setIfInBounds_toArray, List.set_cons_zero, List.set_cons_succ])
          refine take_w (i := 7) (oi := ?oZ38) (v := ?vZ38) ?hiZ38 (by kernel_rfl) (by kernel_rfl) (by kernel_rfl) ?hQZ38 ?hwZ38 ?hyZ38 (by assumption) ?restZ38
          case hiZ38 => (simp only [List.getElem?_toArray, List.getElem?_cons_succ, List.getElem?_cons_zero] <;> rfl)
          case hQZ38 => exact (fun _ _ _ h => h)
          case hwZ38 => rfl
          case hyZ38 => (intro w hSw; (try dsimp only at hSw); go_simp; try with_reducible rfl)
          (try simp only [Act.put, List.setIfInBounds_toArray, List.set_cons_zero, List.set_cons_succ])
          refine take_w (i := 8) (oi := ?oZ39) (v := ?vZ39) ?hiZ39 (by kernel_rfl) (by kernel_rfl) (by kernel_rfl) ?hQZ39 ?hwZ39 ?hyZ39 (by assumption) ?restZ39
          case hiZ39 => (simp only [List.getElem?_toArray, List.getElem?_cons_succ, List.getElem?_cons_zero] <;> rfl)
          case hQZ39 => exact (fun _ _ _ h => h)
          case hwZ39 => rfl
          case hyZ39 => (intro w hSw; (try dsimp only at hSw); go_simp; try with_reducible rfl)
          (try simp only [Act.put, List.setIfInBounds_toArray, List.set_cons_zero, List.set_cons_succ])
          refine wpAnyH_ready (rs := [10]) (by kernel_rfl) (by simp) ?_
          refine AllReadyH.cons (o := ?oZ40) ?hiZ40 (fun K hK => ?stZ40) AllReadyH.nil
          case hiZ40 => (simp only [List.getElem?_toArray, List.getElem?_cons_succ, List.getElem?_cons_zero] <;> rfl)
          refine step_store_box rfl 25 (.tmp 10) (.tmp 36) rfl w5b.heap.size hZ h7 rfl rfl 25 HBXi.out infoTree5 ?_
          intro wl hbl hgl
          have HBL : Hid (Below w5b.heap.size w5b wl) := Lib.hid (HBg.out.grown hgl HBg.out.size (fun j hj => by injection hj; have := (Nat.le_refl w5b.heap.size); omega))
          have HBX := Lib.hid hbl
          have HTL := Lib.hid (InTree.outBox HBXi.out hgl _ _ HFO.out HI7.out)
          clear hbl hgl
          refine hK.out _ _ ?_ (fun hHeld => ?_)
          · (first | exact (HX6.out.2.2.below HBL.out).bx.cells | exact (HX6.out.2.2.below HBc.out).bx.cells | exact (HX6.out.2.2.below HBb.out).bx.cells | exact (HX6.out.2.2.below HBe.out).bx.cells | exact (HX6.out.2.2.below HBd.out).bx.cells | exact (HX6.out.2.2.below HBa.out).bx.cells | exact (HX6.out.2.2.below HBg.out).bx.cells | exact (HX6.out.2.2.below HBf.out).bx.cells | exact (HX6.out.2.2.below HB1.out).bx.cells | exact (HX6.out.2.2.below HB0.out).bx.cells)
          clear hK K
          (try simp only [Act.put])
          refine wpAnyH_ready (rs := [11]) (by kernel_rfl) (by simp) ?_
          refine AllReadyH.cons (o := ?oZ41) ?hiZ41 (fun K hK => ?stZ41) AllReadyH.nil
          case hiZ41 => (simp only [List.getElem?_toArray, List.getElem?_cons_succ, List.getElem?_cons_zero] <;> rfl)
          go_simp
          refine hK.out _ _ ?_ (fun hHeld => ?_)
          · (first | exact (HX6.out.2.2.below HBL.out).bx.cells | exact (HX6.out.2.2.below HBc.out).bx.cells | exact (HX6.out.2.2.below HBb.out).bx.cells | exact (HX6.out.2.2.below HBe.out).bx.cells | exact (HX6.out.2.2.below HBd.out).bx.cells | exact (HX6.out.2.2.below HBa.out).bx.cells | exact (HX6.out.2.2.below HBg.out).bx.cells | exact (HX6.out.2.2.below HBf.out).bx.cells | exact (HX6.out.2.2.below HB1.out).bx.cells | exact (HX6.out.2.2.below HB0.out).bx.cells)
          clear hK K
          (try simp only [Act.put, List.setIfInBounds_toArray, List.set_cons_zero, List.set_cons_succ])
          refine wpAnyH_ready (rs := [12]) (by kernel_rfl) (by simp) ?_
          refine AllReadyH.cons (o := ?oZ42) ?hiZ42 (fun K hK => ?stZ42) AllReadyH.nil
          case hiZ42 => (simp only [List.getElem?_toArray, List.getElem?_cons_succ, List.getElem?_cons_zero] <;> rfl)
          go_simp
          refine hK.out _ _ ?_ (fun hHeld => ?_)
          · (first | exact (HX6.out.2.2.below HBL.out).bx.cells | exact (HX6.out.2.2.below HBc.out).bx.cells | exact (HX6.out.2.2.below HBb.out).bx.cells | exact (HX6.out.2.2.below HBe.out).bx.cells | exact (HX6.out.2.2.below HBd.out).bx.cells | exact (HX6.out.2.2.below HBa.out).bx.cells | exact (HX6.out.2.2.below HBg.out).bx.cells | exact (HX6.out.2.2.below HBf.out).bx.cells | exact (HX6.out.2.2.below HB1.out).bx.cells | exact (HX6.out.2.2.below HB0.out).bx.cells)
          clear hK K
          (try simp only [Act.put, List.setIfInBounds_toArray, List.set_cons_zero, List.set_cons_succ])
          refine wpAnyH_done (by kernel_rfl) ?_ _
          clear hHeld
          go_wp2_with fail
          go_meet
          exact ⟨h7, _, rfl, rfl, rfl, HBX.out, HTL.out, HBL.out⟩
      case rest =>
        obtain ⟨h7, L, rfl, rfl, rfl, hb7, ht7, hbl⟩ := hcut
        obtain ⟨w8, hw8⟩ : ∃ x, x = wc := ⟨_, rfl⟩
        subst hw8
        have HX8 : Hid (Box w8 25 g5 h5 ∧ InTree w8 h5 tNil ∧ RW11 w w8 h t) := Lib.hid ⟨HX6.out.1.below hbl HX6.out.1.lt, HX6.out.2.1.lower hbl, HX6.out.2.2.below hbl⟩
        have HSP8 := Lib.hid ((hbl.block g HSP.out.2).trans HSP.out.1)
        have HG8 : Hid (w8.cell? ⟨0, 0, none⟩ = some (.iface 112 (.agg #[.pointer (some ⟨3, 30, none⟩)]))) := Lib.hid ((HX8.out.2.2.b.cell (p := ⟨0, 0, none⟩) HGL.out).trans HG.out)
        have hi0 : (0 : Int) ≤ (i : Int) := by omega
        clear hb7 ht7 hbl
        obtain ⟨x0, x1, x2, x3, x4⟩ := HX8.out.1.cells
        go_wp2_with (first
        | (go_at_call 10
           (with_reducible refine (spotIs_any g (i : Int) _ ?_ ?_).mono ?_)
           · exact HSP8.out
           · exact HG8.out
           rintro _ w9 ⟨rfl, hb9⟩
           have HX9 : Hid (Box w9 25 g5 h5 ∧ InTree w9 h5 tNil ∧ RW11 w w9 h t) := Lib.hid ⟨HX8.out.1.below hb9 HX8.out.1.lt, HX8.out.2.1.lower hb9, HX8.out.2.2.below hb9⟩
           clear hb9 x0 x1 x2 x3 x4
           obtain ⟨x0, x1, x2, x3, x4⟩ := HX9.out.1.cells)
        | (go_at_call 11
           have hck : ∀ W, InTree W h5 tNil → Calls Tryz.prog 11 #[.agg #[.int .i64 h5.k, .slice h5.ka h5.kn h5.kc, .slice h5.va h5.vn h5.vc, .slice h5.da h5.dn h5.dc, .slice h5.ta h5.tn h5.tc], .agg #[.int .i64 0, .slice none 0 0, .slice none 0 0, .slice none 0 0, .slice none 0 0]] W (Says W (.bool true)) := fun W p => refSame_any tNil h5 hNil W p (inTree_nil W)
           (with_reducible refine (hck _ ?_).mono ?_)
           · exact HX9.out.2.1
           rintro _ wa ⟨rfl, hba⟩
           have HBA : Hid (Below w.heap.size w wa) := Lib.hid (HX9.out.2.2.b.trans (hba.mono HX9.out.2.2.b.size))
           clear hck hba x0 x1 x2 x3 x4))
        go_ret
        exact ⟨rfl, HBA.out⟩

    · skip
      have HRJ : Hid (∀ W gk ck, InTree W h t → TreesAt W a n c ps H → Seg .u32 W gk 0 kTab → gk < W.heap.size → Calls Tryz.prog 8 #[.agg #[.slice (some ⟨gk, 0, none⟩) 64 ck, .int .u32 1779033703, .int .u32 3144134277, .int .u32 1013904242, .int .u32 2773480762, .int .u32 1359893119, .int .u32 2600822924, .int .u32 528734635, .int .u32 1541459225], .int .i64 x, .agg #[.int .i64 h.k, .slice h.ka h.kn h.kc, .slice h.va h.vn h.vc, .slice h.da h.dn h.dc, .slice h.ta h.tn h.tc], .slice a n c] W (fun e w' => ∃ h7 : TH, e = .returned (.tuple #[.agg #[.int .i64 h7.k, .slice h7.ka h7.kn h7.kc, .slice h7.va h7.vn h7.vc, .slice h7.da h7.dn h7.dc, .slice h7.ta h7.tn h7.tc], .int .i64 (m : Nat), .int .i64 (-1)]) ∧ InTree w' h7 cc ∧ Below W.heap.size W w')) := Lib.hid (fun W gk ck q1 q2 q3 q4 => by
        have q := refJoin_any x hx1 hx2 gk ck t h a n c ps H W q1 q2 (by omega) (by omega) q3 q4
        rw [hj] at q
        exact q.mono fun e w' ⟨h7, e1, e2, e3⟩ => ⟨h7, e1, e2, e3⟩)
      have HR := Lib.hid hj
      have HFO : Hid (formedT cc = true) := Lib.hid hf
      go_upto_region 5 with (first
      | (go_at_call 7
         refine (cjoin_any x hx1 hx2 t h a n c ps H _ HD4.out.t (HPS.out.below HD4.out.b) (by omega) (fun p hp => by have := (HCP.out p hp).2; omega) (by omega) (HT.out.below HD4.out.b (Nat.le_refl _))).mono ?_
         rw [HR.out]
         unfold JoinTold TH.v
         rintro _ w5 ⟨h5, v5, rfl, hi5, hv5, hb5⟩
         have HI5 : Hid (InTree w5 h5 cc) := Lib.hid hi5
         have HV5 := Lib.hid hv5
         have HD5 := Lib.hid (HD4.out.below hb5)
         clear hi5 hv5 hb5 x0 x1 x2 x3 x4)
      | (refine wpList_store_box rfl 25 (.tmp 8) (.tmp 28) rfl w5.heap.size hZ h5 rfl rfl 25 (Box.new w5 25 hZ) infoTree5 ?_
         intro w5b hbx hg
         have qq : Below w5.heap.size w5 w5b := ((Below.refl w5.heap.size w5).alloc (Nat.le_refl _) _).grown hg (by simp) (fun j hj => by injection hj; omega)
         have HX6 : Hid (Box w5b 25 w5.heap.size h5 ∧ InTree w5b h5 cc ∧ RW11 w w5b h t) := Lib.hid ⟨hbx, HI5.out.lower qq, HD5.out.below qq⟩
         have HQQ := Lib.hid qq
         clear hbx hg qq))
      obtain rfl : v5 = codeV m := HV5.out
      clear HV5 HQQ HI5 HD5 HD4
      generalize w5.heap.size = g5 at *
      have HB0 : Hid (Below w5b.heap.size w5b w5b.drew) := Lib.hid (Below.refl _ _).drew
      have HB1 : Hid (Below w5b.heap.size w5b (w5b.drew.alloc (.cells #[.int .i64 0, .slice none 0 0, .slice none 0 0, .slice none 0 0, .slice none 0 0] 25))) := Lib.hid (HB0.out.trans (((Below.refl w5b.drew.heap.size w5b.drew).alloc (Nat.le_refl _) (.cells #[.int .i64 0, .slice none 0 0, .slice none 0 0, .slice none 0 0, .slice none 0 0] 25)).mono HB0.out.size))
      go_cut [10, 11, 12] (fun s10 s11 s12 wx => ∃ h7 L, s10 = .pointer (some ⟨L, 0, none⟩) ∧ s11 = .int .i64 (m : Nat) ∧ s12 = .int .i64 (-1) ∧ Box wx 25 L h7 ∧ InTree wx h7 cc ∧ Below w5b.heap.size w5b wx)
      case first =>
        refine wp_region_held_drew (S := (fun W => W.cell? ⟨w.heap.size, 0, none⟩ = some (.int .i64 h.k) ∧ W.cell? ⟨w.heap.size, 1, none⟩ = some (.slice h.ka h.kn h.kc) ∧ W.cell? ⟨w.heap.size, 2, none⟩ = some (.slice h.va h.vn h.vc) ∧ W.cell? ⟨w.heap.size, 3, none⟩ = some (.slice h.da h.dn h.dc) ∧ W.cell? ⟨w.heap.size, 4, none⟩ = some (.slice h.ta h.tn h.tc))) (by kernel_rfl) (by exact (HX6.out.2.2.below HB0.out).bx.cells) (fun hHeld => ?_)
        refine take_w (i := 1) (oi := ?oZ43) (v := ?vZ43) ?hiZ43 (by kernel_rfl) (by kernel_rfl) (by kernel_rfl) ?hQZ43 ?hwZ43 ?hyZ43 (by assumption) ?restZ43
        case hiZ43 => (simp only [List.getElem?_toArray, List.getElem?_cons_succ, List.getElem?_cons_zero] <;> rfl)
        case hQZ43 => exact (fun _ _ _ h => h)
        case hwZ43 => rfl
        case hyZ43 => (intro w hSw; (try dsimp only at hSw); go_simp; try with_reducible rfl)
        (try simp only [Act.put, List.setIfInBounds_toArray, List.set_cons_zero, List.set_cons_succ])
        refine take_w (i := 2) (oi := ?oZ44) (v := ?vZ44) ?hiZ44 (by kernel_rfl) (by kernel_rfl) (by kernel_rfl) ?hQZ44 ?hwZ44 ?hyZ44 (by assumption) ?restZ44
        case hiZ44 => (simp only [List.getElem?_toArray, List.getElem?_cons_succ, List.getElem?_cons_zero] <;> rfl)
        case hQZ44 => exact (fun _ _ _ h => h)
        case hwZ44 => rfl
        case hyZ44 => (intro w hSw; (try dsimp only at hSw); go_simp; try with_reducible rfl)
        (try simp only [Act.put, List.setIfInBounds_toArray, List.set_cons_zero, List.set_cons_succ])
        refine take_w (i := 3) (oi := ?oZ45) (v := ?vZ45) ?hiZ45 (by kernel_rfl) (by kernel_rfl) (by kernel_rfl) ?hQZ45 ?hwZ45 ?hyZ45 (by assumption) ?restZ45
        case hiZ45 => (simp only [List.getElem?_toArray, List.getElem?_cons_succ, List.getElem?_cons_zero] <;> rfl)
        case hQZ45 => exact (fun _ _ _ h => h)
        case hwZ45 => rfl
        case hyZ45 => (intro w hSw; (try dsimp only at hSw); go_simp; try with_reducible rfl)
        (try simp only [Act.put, List.setIfInBounds_toArray, List.set_cons_zero, List.set_cons_succ])
        refine wpAnyH_ready (rs := [0, 9]) (by kernel_rfl) (by simp) ?_
        refine AllReadyH.cons (o := ?oZ46) ?hiZ46 (fun K hK => ?stZ46) (AllReadyH.cons (o := ?oZ47) ?hiZ47 (fun K hK => ?stZ47) AllReadyH.nil)
        case hiZ46 => (simp only [List.getElem?_toArray, List.getElem?_cons_zero] <;> rfl)
        case hiZ47 => (simp only [List.getElem?_toArray, List.getElem?_cons_succ, List.getElem?_cons_zero] <;> rfl)
        case stZ46 =>
          go_simp
          go_at_call 9
          refine (made_any _).mono ?_
          rintro e6 w6 ⟨gk, ck, hq6, ho6, hb6⟩
          have hqq : e6 = Ending.returned (.agg #[.slice (some ⟨gk, 0, none⟩) 64 ck, .int .u32 1779033703, .int .u32 3144134277, .int .u32 1013904242, .int .u32 2773480762, .int .u32 1359893119, .int .u32 2600822924, .int .u32 528734635, .int .u32 1541459225]) := hq6
          clear hq6
          subst hqq
          have HK := Lib.hid (And.intro (own_seg ho6) (ho6.lt gk rfl).2)
          have HBa : Hid (Below w5b.heap.size w5b w6) := Lib.hid (HB0.out.trans (hb6.mono HB0.out.size))
          clear ho6 hb6
          go_simp
          have HBd : Hid (Below w5b.heap.size w5b (w6.alloc (.cells #[.int .i64 0, .slice none 0 0, .slice none 0 0, .slice none 0 0, .slice none 0 0] 25))) := Lib.hid (HBa.out.trans (((Below.refl w6.heap.size w6).alloc (Nat.le_refl _) (.cells #[.int .i64 0, .slice none 0 0, .slice none 0 0, .slice none 0 0, .slice none 0 0] 25)).mono HBa.out.size))
          refine hK.out _ _ ?_ (fun hHeld => ?_)
          · (first | exact (HX6.out.2.2.below HBL.out).bx.cells | exact (HX6.out.2.2.below HBc.out).bx.cells | exact (HX6.out.2.2.below HBb.out).bx.cells | exact (HX6.out.2.2.below HBe.out).bx.cells | exact (HX6.out.2.2.below HBd.out).bx.cells | exact (HX6.out.2.2.below HBa.out).bx.cells | exact (HX6.out.2.2.below HBg.out).bx.cells | exact (HX6.out.2.2.below HBf.out).bx.cells | exact (HX6.out.2.2.below HB1.out).bx.cells | exact (HX6.out.2.2.below HB0.out).bx.cells)
          clear hK K
          (try simp only [Act.put, List.setIfInBounds_toArray, List.set_cons_zero, List.set_cons_succ])
          refine wpAnyH_ready (rs := [4, 9]) (by kernel_rfl) (by simp) ?_
          refine AllReadyH.cons (o := ?oZ48) ?hiZ48 (fun K hK => ?stZ48) (AllReadyH.cons (o := ?oZ49) ?hiZ49 (fun K hK => ?stZ49) AllReadyH.nil)
          case hiZ48 => (simp only [List.getElem?_toArray, List.getElem?_cons_succ, List.getElem?_cons_zero] <;> rfl)
          case hiZ49 => (simp only [List.getElem?_toArray, List.getElem?_cons_succ, List.getElem?_cons_zero] <;> rfl)
          case stZ48 =>
            go_simp
            go_at_call 8
            (with_reducible refine (HRJ.out _ gk ck ?_ ?_ ?_ ?_).mono ?_)
            · exact (HX6.out.2.2.below HBa.out).t
            · exact HPS.out.below (HX6.out.2.2.below HBa.out).b
            · exact HK.out.1
            · exact HK.out.2
            rintro _ w7 ⟨h7, rfl, hi7, hb7⟩
            have HBb : Hid (Below w5b.heap.size w5b w7) := Lib.hid (HBa.out.trans (hb7.mono HBa.out.size))
            have HI7 := Lib.hid hi7
            clear hi7 hb7
            go_simp
            have HBc : Hid (Below w5b.heap.size w5b (w7.alloc (.cells #[.int .i64 0, .slice none 0 0, .slice none 0 0, .slice none 0 0, .slice none 0 0] 25))) := Lib.hid (HBb.out.trans (((Below.refl w7.heap.size w7).alloc (Nat.le_refl _) (.cells #[.int .i64 0, .slice none 0 0, .slice none 0 0, .slice none 0 0, .slice none 0 0] 25)).mono HBb.out.size))
            refine hK.out _ _ ?_ (fun hHeld => ?_)
            · (first | exact (HX6.out.2.2.below HBL.out).bx.cells | exact (HX6.out.2.2.below HBc.out).bx.cells | exact (HX6.out.2.2.below HBb.out).bx.cells | exact (HX6.out.2.2.below HBe.out).bx.cells | exact (HX6.out.2.2.below HBd.out).bx.cells | exact (HX6.out.2.2.below HBa.out).bx.cells | exact (HX6.out.2.2.below HBg.out).bx.cells | exact (HX6.out.2.2.below HBf.out).bx.cells | exact (HX6.out.2.2.below HB1.out).bx.cells | exact (HX6.out.2.2.below HB0.out).bx.cells)
            clear hK K
            (try simp only [Act.put, List.setIfInBounds_toArray, List.set_cons_zero, List.set_cons_succ])
            refine take_w (i := 5) (oi := ?oZ50) (v := ?vZ50) ?hiZ50 (by kernel_rfl) (by kernel_rfl) (by kernel_rfl) ?hQZ50 ?hwZ50 ?hyZ50 (by assumption) ?restZ50
            case hiZ50 => (simp only [List.getElem?_toArray, List.getElem?_cons_succ, List.getElem?_cons_zero] <;> rfl)
            case hQZ50 => exact (fun _ _ _ h => h)
            case hwZ50 => rfl
            case hyZ50 => (intro w hSw; (try dsimp only at hSw); go_simp; try with_reducible rfl)
            (try simp only [Act.put, List.setIfInBounds_toArray, List.set_cons_zero, List.set_cons_succ])
            refine take_w (i := 6) (oi := ?oZ51) (v := ?vZ51) ?hiZ51 (by kernel_rfl) (by kernel_rfl) (by kernel_rfl) ?hQZ51 ?hwZ51 ?hyZ51 (by assumption) ?restZ51
            case hiZ51 => (simp only [List.getElem?_toArray, List.getElem?_cons_succ, List.getElem?_cons_zero] <;> rfl)
            case hQZ51 => exact (fun _ _ _ h => h)
            case hwZ51 => rfl
            case hyZ51 => (intro w hSw; (try dsimp only at hSw); go_simp; try with_reducible rfl)
            (try simp only [Act.put, List.setIfInBounds_toArray, List.set_cons_zero, List.set_cons_succ])
            refine take_w (i := 7) (oi := ?oZ52) (v := ?vZ52) ?hiZ52 (by kernel_rfl) (by kernel_rfl) (by kernel_rfl) ?hQZ52 ?hwZ52 ?hyZ52 (by assumption) ?restZ52
            case hiZ52 => (simp only [List.getElem?_toArray, List.getElem?_cons_succ, List.getElem?_cons_zero] <;> rfl)
            case hQZ52 => exact (fun _ _ _ h => h)
            case hwZ52 => rfl
            case hyZ52 => (intro w hSw; (try dsimp only at hSw); go_simp; try with_reducible rfl)
            (try simp only [Act.put, List.setIfInBounds_toArray, List.set_cons_zero, List.set_cons_succ])
            refine take_w (i := 8) (oi := ?oZ53) (v := ?vZ53) ?hiZ53 (by kernel_rfl) (by kernel_rfl) (by kernel_rfl) ?hQZ53 ?hwZ53 ?hyZ53 (by assumption) ?restZ53
            case hiZ53 => (simp only [List.getElem?_toArray, List.getElem?_cons_succ, List.getElem?_cons_zero] <;> rfl)
            case hQZ53 => exact (fun _ _ _ h => h)
            case hwZ53 => rfl
            case hyZ53 => (intro w hSw; (try dsimp only at hSw); go_simp; try with_reducible rfl)
            (try simp only [Act.put, List.setIfInBounds_toArray, List.set_cons_zero, List.set_cons_succ])
            refine wpAnyH_ready (rs := [9]) (by kernel_rfl) (by simp) ?_
            refine AllReadyH.cons (o := ?oZ54) ?hiZ54 (fun K hK => ?stZ54) AllReadyH.nil
            case hiZ54 => (simp only [List.getElem?_toArray, List.getElem?_cons_succ, List.getElem?_cons_zero] <;> rfl)
            go_simp
            refine hK.out _ _ ?_ (fun hHeld => ?_)
            · (first | exact (HX6.out.2.2.below HBL.out).bx.cells | exact (HX6.out.2.2.below HBc.out).bx.cells | exact (HX6.out.2.2.below HBb.out).bx.cells | exact (HX6.out.2.2.below HBe.out).bx.cells | exact (HX6.out.2.2.below HBd.out).bx.cells | exact (HX6.out.2.2.below HBa.out).bx.cells | exact (HX6.out.2.2.below HBg.out).bx.cells | exact (HX6.out.2.2.below HBf.out).bx.cells | exact (HX6.out.2.2.below HB1.out).bx.cells | exact (HX6.out.2.2.below HB0.out).bx.cells)
            clear hK K
            (try simp only [Act.put, List.setIfInBounds_toArray, List.set_cons_zero, List.set_cons_succ])
            refine wpAnyH_ready (rs := [10]) (by kernel_rfl) (by simp) ?_
            refine AllReadyH.cons (o := ?oZ55) ?hiZ55 (fun K hK => ?stZ55) AllReadyH.nil
            case hiZ55 => (simp only [List.getElem?_toArray, List.getElem?_cons_succ, List.getElem?_cons_zero] <;> rfl)
            refine step_store_box rfl 25 (.tmp 10) (.tmp 36) rfl w7.heap.size hZ h7 rfl rfl 25 (Box.new w7 25 hZ) infoTree5 ?_
            intro wl hbl hgl
            have HBL : Hid (Below w5b.heap.size w5b wl) := Lib.hid (HBc.out.grown hgl HBc.out.size (fun j hj => by injection hj; have := HBb.out.size; omega))
            have HBX := Lib.hid hbl
            have HTL := Lib.hid (InTree.outBox (Box.new w7 25 hZ) hgl _ _ HFO.out (HI7.out.lower ((Below.refl w7.heap.size w7).alloc (Nat.le_refl _) (.cells #[.int .i64 0, .slice none 0 0, .slice none 0 0, .slice none 0 0, .slice none 0 0] 25))))
            clear hbl hgl
            refine hK.out _ _ ?_ (fun hHeld => ?_)
            · (first | exact (HX6.out.2.2.below HBL.out).bx.cells | exact (HX6.out.2.2.below HBc.out).bx.cells | exact (HX6.out.2.2.below HBb.out).bx.cells | exact (HX6.out.2.2.below HBe.out).bx.cells | exact (HX6.out.2.2.below HBd.out).bx.cells | exact (HX6.out.2.2.below HBa.out).bx.cells | exact (HX6.out.2.2.below HBg.out).bx.cells | exact (HX6.out.2.2.below HBf.out).bx.cells | exact (HX6.out.2.2.below HB1.out).bx.cells | exact (HX6.out.2.2.below HB0.out).bx.cells)
            clear hK K
            (try simp only [Act.put])
            refine wpAnyH_ready (rs := [11]) (by kernel_rfl) (by simp) ?_
            refine AllReadyH.cons (o := ?oZ56) ?hiZ56 (fun K hK => ?stZ56) AllReadyH.nil
            case hiZ56 => (simp only [List.getElem?_toArray, List.getElem?_cons_succ, List.getElem?_cons_zero] <;> rfl)
            go_simp
            refine hK.out _ _ ?_ (fun hHeld => ?_)
            · (first | exact (HX6.out.2.2.below HBL.out).bx.cells | exact (HX6.out.2.2.below HBc.out).bx.cells | exact (HX6.out.2.2.below HBb.out).bx.cells | exact (HX6.out.2.2.below HBe.out).bx.cells | exact (HX6.out.2.2.below HBd.out).bx.cells | exact (HX6.out.2.2.below HBa.out).bx.cells | exact (HX6.out.2.2.below HBg.out).bx.cells | exact (HX6.out.2.2.below HBf.out).bx.cells | exact (HX6.out.2.2.below HB1.out).bx.cells | exact (HX6.out.2.2.below HB0.out).bx.cells)
            clear hK K
            (try simp only [Act.put, List.setIfInBounds_toArray, List.set_cons_zero, List.set_cons_succ])
            refine wpAnyH_ready (rs := [12]) (by kernel_rfl) (by simp) ?_
            refine AllReadyH.cons (o := ?oZ57) ?hiZ57 (fun K hK => ?stZ57) AllReadyH.nil
            case hiZ57 => (simp only [List.getElem?_toArray, List.getElem?_cons_succ, List.getElem?_cons_zero] <;> rfl)
            go_simp
            refine hK.out _ _ ?_ (fun hHeld => ?_)
            · (first | exact (HX6.out.2.2.below HBL.out).bx.cells | exact (HX6.out.2.2.below HBc.out).bx.cells | exact (HX6.out.2.2.below HBb.out).bx.cells | exact (HX6.out.2.2.below HBe.out).bx.cells | exact (HX6.out.2.2.below HBd.out).bx.cells | exact (HX6.out.2.2.below HBa.out).bx.cells | exact (HX6.out.2.2.below HBg.out).bx.cells | exact (HX6.out.2.2.below HBf.out).bx.cells | exact (HX6.out.2.2.below HB1.out).bx.cells | exact (HX6.out.2.2.below HB0.out).bx.cells)
            clear hK K
            (try simp only [Act.put, List.setIfInBounds_toArray, List.set_cons_zero, List.set_cons_succ])
            refine wpAnyH_done (by kernel_rfl) ?_ _
            clear hHeld
            go_wp2_with fail
            go_meet
            exact ⟨h7, _, rfl, rfl, rfl, HBX.out, HTL.out, HBL.out⟩
          case stZ49 =>
            go_simp
            refine hK.out _ _ ?_ (fun hHeld => ?_)
            · (first | exact (HX6.out.2.2.below HBL.out).bx.cells | exact (HX6.out.2.2.below HBc.out).bx.cells | exact (HX6.out.2.2.below HBb.out).bx.cells | exact (HX6.out.2.2.below HBe.out).bx.cells | exact (HX6.out.2.2.below HBd.out).bx.cells | exact (HX6.out.2.2.below HBa.out).bx.cells | exact (HX6.out.2.2.below HBg.out).bx.cells | exact (HX6.out.2.2.below HBf.out).bx.cells | exact (HX6.out.2.2.below HB1.out).bx.cells | exact (HX6.out.2.2.below HB0.out).bx.cells)
            clear hK K
            (try simp only [Act.put, List.setIfInBounds_toArray, List.set_cons_zero, List.set_cons_succ])
            refine wpAnyH_ready (rs := [4]) (by kernel_rfl) (by simp) ?_
            refine AllReadyH.cons (o := ?oZ58) ?hiZ58 (fun K hK => ?stZ58) AllReadyH.nil
            case hiZ58 => (simp only [List.getElem?_toArray, List.getElem?_cons_succ, List.getElem?_cons_zero] <;> rfl)
            go_simp
            have HKd := Lib.hid (And.intro (HK.out.1.below ((Below.refl w6.heap.size w6).alloc (Nat.le_refl _) (.cells #[.int .i64 0, .slice none 0 0, .slice none 0 0, .slice none 0 0, .slice none 0 0] 25)) HK.out.2) (Nat.lt_of_lt_of_le HK.out.2 ((Below.refl w6.heap.size w6).alloc (Nat.le_refl _) (.cells #[.int .i64 0, .slice none 0 0, .slice none 0 0, .slice none 0 0, .slice none 0 0] 25)).size))
            go_at_call 8
            (with_reducible refine (HRJ.out _ gk ck ?_ ?_ ?_ ?_).mono ?_)
            · exact (HX6.out.2.2.below HBd.out).t
            · exact HPS.out.below (HX6.out.2.2.below HBd.out).b
            · exact HKd.out.1
            · exact HKd.out.2
            rintro _ w7 ⟨h7, rfl, hi7, hb7⟩
            have HBe : Hid (Below w5b.heap.size w5b w7) := Lib.hid (HBd.out.trans (hb7.mono HBd.out.size))
            have HBXg := Lib.hid ((Box.new w6 25 hZ).below hb7 (Box.new w6 25 hZ).lt)
            have HI7 := Lib.hid hi7
            clear hi7 hb7
            go_simp
            refine hK.out _ _ ?_ (fun hHeld => ?_)
            · (first | exact (HX6.out.2.2.below HBL.out).bx.cells | exact (HX6.out.2.2.below HBc.out).bx.cells | exact (HX6.out.2.2.below HBb.out).bx.cells | exact (HX6.out.2.2.below HBe.out).bx.cells | exact (HX6.out.2.2.below HBd.out).bx.cells | exact (HX6.out.2.2.below HBa.out).bx.cells | exact (HX6.out.2.2.below HBg.out).bx.cells | exact (HX6.out.2.2.below HBf.out).bx.cells | exact (HX6.out.2.2.below HB1.out).bx.cells | exact (HX6.out.2.2.below HB0.out).bx.cells)
            clear hK K
            (try simp only [Act.put, List.setIfInBounds_toArray, List.set_cons_zero, List.set_cons_succ])
            refine take_w (i := 5) (oi := ?oZ59) (v := ?vZ59) ?hiZ59 (by kernel_rfl) (by kernel_rfl) (by kernel_rfl) ?hQZ59 ?hwZ59 ?hyZ59 (by assumption) ?restZ59
            case hiZ59 => (simp only [List.getElem?_toArray, List.getElem?_cons_succ, List.getElem?_cons_zero] <;> rfl)
            case hQZ59 => exact (fun _ _ _ h => h)
            case hwZ59 => rfl
            case hyZ59 => (intro w hSw; (try dsimp only at hSw); go_simp; try with_reducible rfl)
            (try simp only [Act.put, List.setIfInBounds_toArray, List.set_cons_zero, List.set_cons_succ])
            refine take_w (i := 6) (oi := ?oZ60) (v := ?vZ60) ?hiZ60 (by kernel_rfl) (by kernel_rfl) (by kernel_rfl) ?hQZ60 ?hwZ60 ?hyZ60 (by assumption) ?restZ60
            case hiZ60 => (simp only [List.getElem?_toArray, List.getElem?_cons_succ, List.getElem?_cons_zero] <;> rfl)
            case hQZ60 => exact (fun _ _ _ h => h)
            case hwZ60 => rfl
            case hyZ60 => (intro w hSw; (try dsimp only at hSw); go_simp; try with_reducible rfl)
            (try simp only [Act.put, List.setIfInBounds_toArray, List.set_cons_zero, List.set_cons_succ])
            refine take_w (i := 7) (oi := ?oZ61) (v := ?vZ61) ?hiZ61 (by kernel_rfl) (by kernel_rfl) (by kernel_rfl) ?hQZ61 ?hwZ61 ?hyZ61 (by assumption) ?restZ61
            case hiZ61 => (simp only [List.getElem?_toArray, List.getElem?_cons_succ, List.getElem?_cons_zero] <;> rfl)
            case hQZ61 => exact (fun _ _ _ h => h)
            case hwZ61 => rfl
            case hyZ61 => (intro w hSw; (try dsimp only at hSw); go_simp; try with_reducible rfl)
            (try simp only [Act.put, List.setIfInBounds_toArray, List.set_cons_zero, List.set_cons_succ])
            refine take_w (i := 8) (oi := ?oZ62) (v := ?vZ62) ?hiZ62 (by kernel_rfl) (by kernel_rfl) (by kernel_rfl) ?hQZ62 ?hwZ62 ?hyZ62 (by assumption) ?restZ62
            case hiZ62 => (simp only [List.getElem?_toArray, List.getElem?_cons_succ, List.getElem?_cons_zero] <;> rfl)
            case hQZ62 => exact (fun _ _ _ h => h)
            case hwZ62 => rfl
            case hyZ62 => (intro w hSw; (try dsimp only at hSw); go_simp; try with_reducible rfl)
            (try simp only [Act.put, List.setIfInBounds_toArray, List.set_cons_zero, List.set_cons_succ])
            refine wpAnyH_ready (rs := [10]) (by kernel_rfl) (by simp) ?_
            refine AllReadyH.cons (o := ?oZ63) ?hiZ63 (fun K hK => ?stZ63) AllReadyH.nil
            case hiZ63 => (simp only [List.getElem?_toArray, List.getElem?_cons_succ, List.getElem?_cons_zero] <;> rfl)
            refine step_store_box rfl 25 (.tmp 10) (.tmp 36) rfl w6.heap.size hZ h7 rfl rfl 25 HBXg.out infoTree5 ?_
            intro wl hbl hgl
            have HBL : Hid (Below w5b.heap.size w5b wl) := Lib.hid (HBe.out.grown hgl HBe.out.size (fun j hj => by injection hj; have := HBa.out.size; omega))
            have HBX := Lib.hid hbl
            have HTL := Lib.hid (InTree.outBox HBXg.out hgl _ _ HFO.out HI7.out)
            clear hbl hgl
            refine hK.out _ _ ?_ (fun hHeld => ?_)
            · (first | exact (HX6.out.2.2.below HBL.out).bx.cells | exact (HX6.out.2.2.below HBc.out).bx.cells | exact (HX6.out.2.2.below HBb.out).bx.cells | exact (HX6.out.2.2.below HBe.out).bx.cells | exact (HX6.out.2.2.below HBd.out).bx.cells | exact (HX6.out.2.2.below HBa.out).bx.cells | exact (HX6.out.2.2.below HBg.out).bx.cells | exact (HX6.out.2.2.below HBf.out).bx.cells | exact (HX6.out.2.2.below HB1.out).bx.cells | exact (HX6.out.2.2.below HB0.out).bx.cells)
            clear hK K
            (try simp only [Act.put])
            refine wpAnyH_ready (rs := [11]) (by kernel_rfl) (by simp) ?_
            refine AllReadyH.cons (o := ?oZ64) ?hiZ64 (fun K hK => ?stZ64) AllReadyH.nil
            case hiZ64 => (simp only [List.getElem?_toArray, List.getElem?_cons_succ, List.getElem?_cons_zero] <;> rfl)
            go_simp
            refine hK.out _ _ ?_ (fun hHeld => ?_)
            · (first | exact (HX6.out.2.2.below HBL.out).bx.cells | exact (HX6.out.2.2.below HBc.out).bx.cells | exact (HX6.out.2.2.below HBb.out).bx.cells | exact (HX6.out.2.2.below HBe.out).bx.cells | exact (HX6.out.2.2.below HBd.out).bx.cells | exact (HX6.out.2.2.below HBa.out).bx.cells | exact (HX6.out.2.2.below HBg.out).bx.cells | exact (HX6.out.2.2.below HBf.out).bx.cells | exact (HX6.out.2.2.below HB1.out).bx.cells | exact (HX6.out.2.2.below HB0.out).bx.cells)
            clear hK K
            (try simp only [Act.put, List.setIfInBounds_toArray, List.set_cons_zero, List.set_cons_succ])
            refine wpAnyH_ready (rs := [12]) (by kernel_rfl) (by simp) ?_
            refine AllReadyH.cons (o := ?oZ65) ?hiZ65 (fun K hK => ?stZ65) AllReadyH.nil
            case hiZ65 => (simp only [List.getElem?_toArray, List.getElem?_cons_succ, List.getElem?_cons_zero] <;> rfl)
            go_simp
            refine hK.out _ _ ?_ (fun hHeld => ?_)
            · (first | exact (HX6.out.2.2.below HBL.out).bx.cells | exact (HX6.out.2.2.below HBc.out).bx.cells | exact (HX6.out.2.2.below HBb.out).bx.cells | exact (HX6.out.2.2.below HBe.out).bx.cells | exact (HX6.out.2.2.below HBd.out).bx.cells | exact (HX6.out.2.2.below HBa.out).bx.cells | exact (HX6.out.2.2.below HBg.out).bx.cells | exact (HX6.out.2.2.below HBf.out).bx.cells | exact (HX6.out.2.2.below HB1.out).bx.cells | exact (HX6.out.2.2.below HB0.out).bx.cells)
            clear hK K
            (try simp only [Act.put, List.setIfInBounds_toArray, List.set_cons_zero, List.set_cons_succ])
            refine wpAnyH_done (by kernel_rfl) ?_ _
            clear hHeld
            go_wp2_with fail
            go_meet
            exact ⟨h7, _, rfl, rfl, rfl, HBX.out, HTL.out, HBL.out⟩
        case stZ47 =>
          go_simp
          refine hK.out _ _ ?_ (fun hHeld => ?_)
          · (first | exact (HX6.out.2.2.below HBL.out).bx.cells | exact (HX6.out.2.2.below HBc.out).bx.cells | exact (HX6.out.2.2.below HBb.out).bx.cells | exact (HX6.out.2.2.below HBe.out).bx.cells | exact (HX6.out.2.2.below HBd.out).bx.cells | exact (HX6.out.2.2.below HBa.out).bx.cells | exact (HX6.out.2.2.below HBg.out).bx.cells | exact (HX6.out.2.2.below HBf.out).bx.cells | exact (HX6.out.2.2.below HB1.out).bx.cells | exact (HX6.out.2.2.below HB0.out).bx.cells)
          clear hK K
          (try simp only [Act.put, List.setIfInBounds_toArray, List.set_cons_zero, List.set_cons_succ])
          refine wpAnyH_ready (rs := [0]) (by kernel_rfl) (by simp) ?_
          refine AllReadyH.cons (o := ?oZ66) ?hiZ66 (fun K hK => ?stZ66) AllReadyH.nil
          case hiZ66 => (simp only [List.getElem?_toArray, List.getElem?_cons_zero] <;> rfl)
          go_simp
          go_at_call 9
          refine (made_any _).mono ?_
          rintro e6 w6 ⟨gk, ck, hq6, ho6, hb6⟩
          have hqq : e6 = Ending.returned (.agg #[.slice (some ⟨gk, 0, none⟩) 64 ck, .int .u32 1779033703, .int .u32 3144134277, .int .u32 1013904242, .int .u32 2773480762, .int .u32 1359893119, .int .u32 2600822924, .int .u32 528734635, .int .u32 1541459225]) := hq6
          clear hq6
          subst hqq
          have HK := Lib.hid (And.intro (own_seg ho6) (ho6.lt gk rfl).2)
          have HBf : Hid (Below w5b.heap.size w5b w6) := Lib.hid (HB1.out.trans (hb6.mono HB1.out.size))
          have HBXh := Lib.hid ((Box.new w5b.drew 25 hZ).below hb6 (Box.new w5b.drew 25 hZ).lt)
          clear ho6 hb6
          go_simp
          refine hK.out _ _ ?_ (fun hHeld => ?_)
          · (first | exact (HX6.out.2.2.below HBL.out).bx.cells | exact (HX6.out.2.2.below HBc.out).bx.cells | exact (HX6.out.2.2.below HBb.out).bx.cells | exact (HX6.out.2.2.below HBe.out).bx.cells | exact (HX6.out.2.2.below HBd.out).bx.cells | exact (HX6.out.2.2.below HBa.out).bx.cells | exact (HX6.out.2.2.below HBg.out).bx.cells | exact (HX6.out.2.2.below HBf.out).bx.cells | exact (HX6.out.2.2.below HB1.out).bx.cells | exact (HX6.out.2.2.below HB0.out).bx.cells)
          clear hK K
          (try simp only [Act.put, List.setIfInBounds_toArray, List.set_cons_zero, List.set_cons_succ])
          refine wpAnyH_ready (rs := [4]) (by kernel_rfl) (by simp) ?_
          refine AllReadyH.cons (o := ?oZ67) ?hiZ67 (fun K hK => ?stZ67) AllReadyH.nil
          case hiZ67 => (simp only [List.getElem?_toArray, List.getElem?_cons_succ, List.getElem?_cons_zero] <;> rfl)
          go_simp
          go_at_call 8
          (with_reducible refine (HRJ.out _ gk ck ?_ ?_ ?_ ?_).mono ?_)
          · exact (HX6.out.2.2.below HBf.out).t
          · exact HPS.out.below (HX6.out.2.2.below HBf.out).b
          · exact HK.out.1
          · exact HK.out.2
          rintro _ w7 ⟨h7, rfl, hi7, hb7⟩
          have HBg : Hid (Below w5b.heap.size w5b w7) := Lib.hid (HBf.out.trans (hb7.mono HBf.out.size))
          have HBXi := Lib.hid (HBXh.out.below hb7 HBXh.out.lt)
          have HI7 := Lib.hid hi7
          clear hi7 hb7
          go_simp
          refine hK.out _ _ ?_ (fun hHeld => ?_)
          · (first | exact (HX6.out.2.2.below HBL.out).bx.cells | exact (HX6.out.2.2.below HBc.out).bx.cells | exact (HX6.out.2.2.below HBb.out).bx.cells | exact (HX6.out.2.2.below HBe.out).bx.cells | exact (HX6.out.2.2.below HBd.out).bx.cells | exact (HX6.out.2.2.below HBa.out).bx.cells | exact (HX6.out.2.2.below HBg.out).bx.cells | exact (HX6.out.2.2.below HBf.out).bx.cells | exact (HX6.out.2.2.below HB1.out).bx.cells | exact (HX6.out.2.2.below HB0.out).bx.cells)
          clear hK K
          (try simp only [Act.put, List.setIfInBounds_toArray, List.set_cons_zero, List.set_cons_succ])
          refine take_w (i := 5) (oi := ?oZ68) (v := ?vZ68) ?hiZ68 (by kernel_rfl) (by kernel_rfl) (by kernel_rfl) ?hQZ68 ?hwZ68 ?hyZ68 (by assumption) ?restZ68
          case hiZ68 => (simp only [List.getElem?_toArray, List.getElem?_cons_succ, List.getElem?_cons_zero] <;> rfl)
          case hQZ68 => exact (fun _ _ _ h => h)
          case hwZ68 => rfl
          case hyZ68 => (intro w hSw; (try dsimp only at hSw); go_simp; try with_reducible rfl)
          (try simp only [Act.put, List.setIfInBounds_toArray, List.set_cons_zero, List.set_cons_succ])
          refine take_w (i := 6) (oi := ?oZ69) (v := ?vZ69) ?hiZ69 (by kernel_rfl) (by kernel_rfl) (by kernel_rfl) ?hQZ69 ?hwZ69 ?hyZ69 (by assumption) ?restZ69
          case hiZ69 => (simp only [List.getElem?_toArray, List.getElem?_cons_succ, List.getElem?_cons_zero] <;> rfl)
          case hQZ69 => exact (fun _ _ _ h => h)
          case hwZ69 => rfl
          case hyZ69 => (intro w hSw; (try dsimp only at hSw); go_simp; try with_reducible rfl)
          (try simp only [Act.put, List.setIfInBounds_toArray, List.set_cons_zero, List.set_cons_succ])
          refine take_w (i := 7) (oi := ?oZ70) (v := ?vZ70) ?hiZ70 (by kernel_rfl) (by kernel_rfl) (by kernel_rfl) ?hQZ70 ?hwZ70 ?hyZ70 (by assumption) ?restZ70
          case hiZ70 => (simp only [List.getElem?_toArray, List.getElem?_cons_succ, List.getElem?_cons_zero] <;> rfl)
          case hQZ70 => exact (fun _ _ _ h => h)
          case hwZ70 => rfl
          case hyZ70 => (intro w hSw; (try dsimp only at hSw); go_simp; try with_reducible rfl)
          (try simp only [Act.put, List.setIfInBounds_toArray, List.set_cons_zero, List.set_cons_succ])
          refine take_w (i := 8) (oi := ?oZ71) (v := ?vZ71) ?hiZ71 (by kernel_rfl) (by kernel_rfl) (by kernel_rfl) ?hQZ71 ?hwZ71 ?hyZ71 (by assumption) ?restZ71
          case hiZ71 => (simp only [List.getElem?_toArray, List.getElem?_cons_succ, List.getElem?_cons_zero] <;> rfl)
          case hQZ71 => exact (fun _ _ _ h => h)
          case hwZ71 => rfl
          case hyZ71 => (intro w hSw; (try dsimp only at hSw); go_simp; try with_reducible rfl)
          (try simp only [Act.put, List.setIfInBounds_toArray, List.set_cons_zero, List.set_cons_succ])
          refine wpAnyH_ready (rs := [10]) (by kernel_rfl) (by simp) ?_
          refine AllReadyH.cons (o := ?oZ72) ?hiZ72 (fun K hK => ?stZ72) AllReadyH.nil
          case hiZ72 => (simp only [List.getElem?_toArray, List.getElem?_cons_succ, List.getElem?_cons_zero] <;> rfl)
          refine step_store_box rfl 25 (.tmp 10) (.tmp 36) rfl w5b.heap.size hZ h7 rfl rfl 25 HBXi.out infoTree5 ?_
          intro wl hbl hgl
          have HBL : Hid (Below w5b.heap.size w5b wl) := Lib.hid (HBg.out.grown hgl HBg.out.size (fun j hj => by injection hj; have := (Nat.le_refl w5b.heap.size); omega))
          have HBX := Lib.hid hbl
          have HTL := Lib.hid (InTree.outBox HBXi.out hgl _ _ HFO.out HI7.out)
          clear hbl hgl
          refine hK.out _ _ ?_ (fun hHeld => ?_)
          · (first | exact (HX6.out.2.2.below HBL.out).bx.cells | exact (HX6.out.2.2.below HBc.out).bx.cells | exact (HX6.out.2.2.below HBb.out).bx.cells | exact (HX6.out.2.2.below HBe.out).bx.cells | exact (HX6.out.2.2.below HBd.out).bx.cells | exact (HX6.out.2.2.below HBa.out).bx.cells | exact (HX6.out.2.2.below HBg.out).bx.cells | exact (HX6.out.2.2.below HBf.out).bx.cells | exact (HX6.out.2.2.below HB1.out).bx.cells | exact (HX6.out.2.2.below HB0.out).bx.cells)
          clear hK K
          (try simp only [Act.put])
          refine wpAnyH_ready (rs := [11]) (by kernel_rfl) (by simp) ?_
          refine AllReadyH.cons (o := ?oZ73) ?hiZ73 (fun K hK => ?stZ73) AllReadyH.nil
          case hiZ73 => (simp only [List.getElem?_toArray, List.getElem?_cons_succ, List.getElem?_cons_zero] <;> rfl)
          go_simp
          refine hK.out _ _ ?_ (fun hHeld => ?_)
          · (first | exact (HX6.out.2.2.below HBL.out).bx.cells | exact (HX6.out.2.2.below HBc.out).bx.cells | exact (HX6.out.2.2.below HBb.out).bx.cells | exact (HX6.out.2.2.below HBe.out).bx.cells | exact (HX6.out.2.2.below HBd.out).bx.cells | exact (HX6.out.2.2.below HBa.out).bx.cells | exact (HX6.out.2.2.below HBg.out).bx.cells | exact (HX6.out.2.2.below HBf.out).bx.cells | exact (HX6.out.2.2.below HB1.out).bx.cells | exact (HX6.out.2.2.below HB0.out).bx.cells)
          clear hK K
          (try simp only [Act.put, List.setIfInBounds_toArray, List.set_cons_zero, List.set_cons_succ])
          refine wpAnyH_ready (rs := [12]) (by kernel_rfl) (by simp) ?_
          refine AllReadyH.cons (o := ?oZ74) ?hiZ74 (fun K hK => ?stZ74) AllReadyH.nil
          case hiZ74 => (simp only [List.getElem?_toArray, List.getElem?_cons_succ, List.getElem?_cons_zero] <;> rfl)
          go_simp
          refine hK.out _ _ ?_ (fun hHeld => ?_)
          · (first | exact (HX6.out.2.2.below HBL.out).bx.cells | exact (HX6.out.2.2.below HBc.out).bx.cells | exact (HX6.out.2.2.below HBb.out).bx.cells | exact (HX6.out.2.2.below HBe.out).bx.cells | exact (HX6.out.2.2.below HBd.out).bx.cells | exact (HX6.out.2.2.below HBa.out).bx.cells | exact (HX6.out.2.2.below HBg.out).bx.cells | exact (HX6.out.2.2.below HBf.out).bx.cells | exact (HX6.out.2.2.below HB1.out).bx.cells | exact (HX6.out.2.2.below HB0.out).bx.cells)
          clear hK K
          (try simp only [Act.put, List.setIfInBounds_toArray, List.set_cons_zero, List.set_cons_succ])
          refine wpAnyH_done (by kernel_rfl) ?_ _
          clear hHeld
          go_wp2_with fail
          go_meet
          exact ⟨h7, _, rfl, rfl, rfl, HBX.out, HTL.out, HBL.out⟩
      case rest =>
        obtain ⟨h7, L, rfl, rfl, rfl, hb7, ht7, hbl⟩ := hcut
        obtain ⟨w8, hw8⟩ : ∃ x, x = wc := ⟨_, rfl⟩
        subst hw8
        have HX8 : Hid (Box w8 25 g5 h5 ∧ InTree w8 h5 cc ∧ RW11 w w8 h t) := Lib.hid ⟨HX6.out.1.below hbl HX6.out.1.lt, HX6.out.2.1.lower hbl, HX6.out.2.2.below hbl⟩
        have HT8 := Lib.hid ht7
        have hq2 : ((m : Int) == (m : Int)) = true := by simp
        obtain ⟨x0, x1, x2, x3, x4⟩ := HX8.out.1.cells
        obtain ⟨y0, y1, y2, y3, y4⟩ := hb7.cells
        clear hb7 ht7 hbl
        go_wp2_with (first
        | (go_at_call 12
           refine (code_any m hm _).mono ?_
           rintro _ w9 ⟨rfl, mm, hw9⟩
           rw [hw9]
           clear hw9)
        | (go_at_call 11
           refine (refSame_any cc h5 h7 _ ?_ ?_).mono ?_
           · exact HX8.out.2.1.lower (below_drawn (Below.refl _ _) _)
           · exact HT8.out.lower (below_drawn (Below.refl _ _) _)
           rintro _ wa ⟨rfl, hba⟩
           have HBA : Hid (Below w.heap.size w wa) := Lib.hid ((below_drawn HX8.out.2.2.b mm).trans (hba.mono (below_drawn HX8.out.2.2.b mm).size))
           clear hba x0 x1 x2 x3 x4 y0 y1 y2 y3 y4))
        go_ret
        exact ⟨rfl, HBA.out⟩

end Go.Proofs.YtkcmohmfejmfoaaGreatDoor

/- What the row's condition on three listed variables gives the walk; a start that meets it. -/
namespace Go.Proofs.YtkcmohmfejmfoaaGreatDoor
open Go.RowKit
set_option linter.unusedVariables false

open Go.ChangeShapes Go.WideShapes Go.ChangeAt
theorem etE : Tryz.prog.globalNamed "errors.errorType" = some 0 := by kernel_rfl
theorem rtE : (Tryz.prog.cutTypes.find? (·.1 == "internal/reflectlite.rtype")).map (·.2) = some 112 := by kernel_rfl
theorem sizeE : Tryz.prog.types.size = 176 := by kernel_rfl
theorem oneE : ((List.range 176).filter fun t => Tryz.prog.rowNamed t [101, 114, 114, 111, 114]) = [30] := by kernel_rfl
abbrev tabsE : List (String × DataW Unit) := [("errors.errorType", Rows.laid_errors_errorType), ("heartwood/sha.roundConstants", Rows.laid_heartwood_sha_roundConstants), ("heartwood/sha.initialState", Rows.laid_heartwood_sha_initialState)]
theorem of_laidE {W : World} (h : laidMetH Tryz.prog tabsE W) : TabLies W ∧ W.cell? ⟨0, 0, none⟩ = some (.iface 112 (.agg #[.pointer (some ⟨3, 30, none⟩)])) := by
  have h' : laidMet Tryz.prog tabs W ∧ handlesMet Tryz.prog [("errors.errorType", Rows.laid_errors_errorType)] W := h
  refine ⟨of_laid (by rw [MakeChecks.laidMetH_plain _ _ _ (by kernel_rfl)]; exact h'.1), ?_⟩
  obtain ⟨name, u, ty, e1, e2, e3, e4, e5⟩ := h'.2 _ (List.mem_singleton.2 rfl)
  have en : name = [101, 114, 114, 111, 114] := (Option.some.inj e1).symm
  subst en
  obtain rfl := Option.some.inj (rtE.symm.trans e2)
  have hm : ty ∈ (List.range 176).filter fun t => Tryz.prog.rowNamed t [101, 114, 114, 111, 114] := List.mem_filter.2 ⟨List.mem_range.2 (by rw [← sizeE]; exact e3), e4⟩
  rw [oneE] at hm
  obtain rfl := List.mem_singleton.1 hm
  have hh : typeHandle Tryz.prog 30 = .pointer (some ⟨3, 30, none⟩) := by kernel_rfl
  rw [hh] at e5
  simpa using World.var?_cell etE e5 0
theorem door_metE (os : Os) (args : Array Value) : laidMetH Tryz.prog tabsE ((World.doorLaid Tryz.prog 400 os).forCall (fun _ _ => 0) ⟨#[], args, []⟩).memory :=
  laidMetH_of_parts (laidMet_of_run' 8 (by kernel_rfl) (by kernel_rfl)) (by kernel_rfl)
end Go.Proofs.YtkcmohmfejmfoaaGreatDoor

/- A tree that is an argument of the program. -/
namespace Go.Proofs.YtkcmohmfejmfoaaGreatDoor
open Go.ChangeShapes Go.WideShapes Go.RowKit Go.Deep
set_option linter.unusedVariables false

set_option maxRecDepth 100000 in
theorem open_tree {H : Type} {enc : TypeId × Value → H} {w : World} {base : Nat} {spare : Nat → Bool} {held : Bool} {r : Reach} {b0 : Nat} {v : Value} {d : DataW H} {p : List MemPlace}
    (hv : Value.okWide Tryz.prog w r b0 25 v) (h : DataW.Trod enc Tryz.prog w base spare held 25 v d p) : ∃ hd t, v = TH.v hd ∧ InTree w hd t := by
  obtain ⟨cs, rfl, hs⟩ := okWide_struct Tryz.underlying25 hv
  obtain ⟨fuel, hf⟩ := h
  obtain ⟨hd, t, e, ht⟩ := trod_tree Tryz.underlying25 (by kernel_rfl) rfl rfl rfl rfl rfl (by kernel_rfl) (by kernel_rfl) (by kernel_rfl) (by kernel_rfl) (by kernel_rfl)
    Tryz.underlying3 Tryz.underlying22 Tryz.underlying22 Tryz.underlying22 Tryz.underlying23 Tryz.underlying5 (by kernel_rfl) fuel _ _ hf
  refine ⟨hd, t, ?_, ht⟩
  have e2 : cs = hd.cells.toArray := by
    simp only [Value.cells] at e
    rw [← e]
  rw [e2]
  rfl
end Go.Proofs.YtkcmohmfejmfoaaGreatDoor

/- A list of trees that is an argument of the program. -/
namespace Go.Proofs.YtkcmohmfejmfoaaGreatDoor
open Go.ChangeShapes Go.WideShapes Go.RowKit Go.Deep
set_option linter.unusedVariables false

def recTr : Rec TH where
  cells := TH.cells
  sz := 5
  pos := by omega
  len := fun _ => rfl
  one := fun r u hu => by
    unfold TH.cells at hu
    simp at hu
    rcases hu with rfl | rfl | rfl | rfl | rfl <;> rfl
set_option maxRecDepth 100000 in
theorem open_trees {H : Type} {enc : TypeId × Value → H} {w : World} {base : Nat} {spare : Nat → Bool} {held : Bool} {a : Option Addr} {n cap : Nat} {d : DataW H} {p : List MemPlace}
    (h : DataW.Trod enc Tryz.prog w base spare held 23 (.slice a n cap) d p) : ∃ (ts : List Tr) (D : Nat → TH), TreesAt w a n cap ts D := by
  obtain ⟨D, hin, hq⟩ := open_rec recTr (fun r => ∃ t, InTree w r t) hNil Tryz.underlying23 (by kernel_rfl)
    (fun fuel cs x hx => by
      obtain ⟨hd, t, e, ht⟩ := trod_tree Tryz.underlying25 (by kernel_rfl) rfl rfl rfl rfl rfl (by kernel_rfl) (by kernel_rfl) (by kernel_rfl) (by kernel_rfl) (by kernel_rfl)
        Tryz.underlying3 Tryz.underlying22 Tryz.underlying22 Tryz.underlying22 Tryz.underlying23 Tryz.underlying5 (by kernel_rfl) fuel cs x hx
      exact ⟨hd, e, t, ht⟩) h
  refine ⟨(List.range n).map (fun i => if hi : i < n then (hq i hi).choose else tNil), D, hin, by simp, fun i hi => ?_⟩
  have hi' : i < n := by simpa using hi
  rw [List.getElem_map, List.getElem_range, dif_pos hi']
  exact (hq i hi').choose_spec
end Go.Proofs.YtkcmohmfejmfoaaGreatDoor
