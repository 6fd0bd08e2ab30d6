/- The walk of the law TreeStays. -/
import Derived.Test.YtcplfpnaepdddaaDoorTreeHidesW
import Derived.Test.YtcplfpnaepdddaaDoorCopy
import Derived.Test.YtcplfpnaepdddaaDoorRefSame
namespace Go.Proofs.YtcplfpnaepdddaaDoor
open Go.RowKit
set_option linter.unusedVariables false

/-- The law's tree, its copy, and the copy's box. -/
structure SW (w X : World) (h : TH) (t : Tr) (go : Nat) (h3 : TH) : Prop where
  box : Box X 25 w.heap.size h
  own : Box X 25 go h3
  ti : InTree X h t
  ci : InTree X h3 t
  tab : TabLies X
  b : Below w.heap.size w X
theorem SW.below {w X X' : World} {h : TH} {t : Tr} {go : Nat} {h3 : TH} (d : SW w X h t go h3) (hb : Below X.heap.size X X') : SW w X' h t go h3 :=
  ⟨d.box.below hb d.box.lt, d.own.below hb d.own.lt, d.ti.lower hb, d.ci.lower hb, d.tab.below hb (Nat.le_refl _), d.b.trans (hb.mono d.b.size)⟩
/-- Four bytes that may be written. -/
structure Four (B : World) (X : World) (gd off : Nat) : Prop where
  cells : ∀ j, j < 4 → ∃ z, 0 ≤ z ∧ z ≤ 255 ∧ X.cell? ⟨gd, off + j, none⟩ = some (.int .u8 z)
  free : ∀ o, X.frozen? ⟨gd, o, none⟩ = false
  b : Below B.heap.size B X
  ge : B.heap.size ≤ gd
theorem Four.put {B X : World} {gd off : Nat} (f : Four B X gd off) (i : Nat) (hi : i < 4) (y : Int) (h0 : 0 ≤ y) (h1 : y ≤ 255) : Four B (X.setCell ⟨gd, off + i, none⟩ (.int .u8 y)) gd off := by
  refine ⟨fun j hj => ?_, fun o => ?_, f.b.setCell f.ge _, f.ge⟩
  · by_cases hji : j = i
    · subst hji
      obtain ⟨z, _, _, hz⟩ := f.cells j hj
      exact ⟨y, h0, h1, World.cell?_setCell_same X _ _ hz⟩
    · obtain ⟨z, q0, q1, hz⟩ := f.cells j hj
      refine ⟨z, q0, q1, ?_⟩
      rw [World.cell?_setCell_other X _ _ _ (fun e => hji (by injection e with _ e; omega))]
      exact hz
  · rw [World.frozen?_setCell]
    exact f.free o

/-- New bytes that may be written, below W's end. -/
structure NB (B W : World) (a : Option Addr) (n c : Nat) (zs : List Int) : Prop where
  inb : InBytes W a n c zs
  ge : ∀ ad, a = some ad → B.heap.size ≤ ad.block ∧ ad.block < W.heap.size
  free : ∀ ad o, a = some ad → W.frozen? ⟨ad.block, o, none⟩ = false
theorem NB.below {B W W' : World} {a : Option Addr} {n c : Nat} {zs : List Int} (x : NB B W a n c zs) (hb : Below W.heap.size W W') : NB B W' a n c zs :=
  ⟨x.inb.below hb, fun ad e => ⟨(x.ge ad e).1, Nat.lt_of_lt_of_le (x.ge ad e).2 hb.size⟩, fun ad o e => (World.frozen?_of_block (a := ⟨ad.block, o, none⟩) (hb.block _ (x.ge ad e).2)).trans (x.free ad o e)⟩

set_option maxRecDepth 100000 in
set_option maxHeartbeats 4000000 in
theorem stays_law (t : Tr) (h : TH) (w : World) (ht : InTree w h t) (hT : TabLies w) :
    Calls Tryd.prog 7 #[h.v] w (Says w (.bool true)) := by
  unfold TH.v
  have hd0 := TW.new w ht
  have HD0 := Lib.hid hd0
  have HT := Lib.hid hT
  clear ht hT hd0
  go_enter Tryd.func7, Tryd.ntmps7
  go_upto_region 3 with (first
    | (go_at_call 8
       refine (upT_any _ (HT.out.below HD0.out.b (Nat.le_refl _))).mono ?_
       rintro _ w1 ⟨rfl, hb1⟩
       have hd1 := HD0.out.below hb1
       have HD1 := Lib.hid hd1
       obtain ⟨x0, x1, x2, x3, x4⟩ := hd1.box.cells
       clear hb1 hd1)
    | (go_at_call 9
       refine (small_any t h _ HD1.out.t).mono ?_
       rintro _ w2 ⟨ok, rfl, hok, hb2⟩
       have hd2 := HD1.out.below hb2
       have HD2 := Lib.hid hd2
       have HOK := Lib.hid hok
       clear x0 x1 x2 x3 x4
       obtain ⟨x0, x1, x2, x3, x4⟩ := hd2.box.cells
       clear hb2 hd2 hok))
  cases ok
  · go_wp2_with fail
    go_ret
    exact ⟨rfl, HD2.out.b⟩
  have hcn := (HOK.out rfl).2
  have HLO := Lib.hid (HOK.out rfl).1
  go_upto_region 6 with (first
    | (go_at_call 24
       refine (copy_any w2 t h _ HD2.out.t (Below.refl _ _) HLO.out).mono ?_
       rintro _ w3 ⟨h3, rfl, hf3, hb3⟩
       unfold TH.v
       have HD3 := Lib.hid (HD2.out.below hb3)
       have HI3 := Lib.hid (hf3.self hb3 (Nat.le_refl _))
       clear hf3 hb3))
  clear x0 x1 x2 x3 x4
  have hb5 : Below w3.heap.size w3 (w3.alloc (.cells #[.int .i64 h3.k, .slice h3.ka h3.kn h3.kc, .slice h3.va h3.vn h3.vc, .slice h3.da h3.dn h3.dc, .slice h3.ta h3.tn h3.tc] 25)) := (Below.refl _ _).alloc (Nat.le_refl _) _
  have hbx5 := Box.new w3 25 h3
  generalize w3.alloc (.cells #[.int .i64 h3.k, .slice h3.ka h3.kn h3.kc, .slice h3.va h3.vn h3.vc, .slice h3.da h3.dn h3.dc, .slice h3.ta h3.tn h3.tc] 25) = w5 at *
  have hd5 := HD3.out.below hb5
  have HS5 : Hid (SW w w5 h t w3.heap.size h3) := Lib.hid ⟨hd5.box, hbx5, hd5.t, HI3.out.lower hb5, HT.out.below hd5.b (Nat.le_refl _), hd5.b⟩
  clear hb5 hbx5 hd5 HI3 HD3
  generalize w3.heap.size = go at *
  obtain ⟨x0, x1, x2, x3, x4⟩ := HS5.out.box.cells
  obtain ⟨y0, y1, y2, y3, y4⟩ := HS5.out.own.cells
  by_cases hgood : checkT t = 0 ∧ ∃ zs, digT 4 t = some zs
  rotate_left
  · have HC : Hid (∀ X, InTree X h3 t → TabLies X → Calls Tryd.prog 17 #[.int .i64 4, h3.v] X (fun e w' => ∃ c, c ≠ 0 ∧ ErrPost X c e w')) := Lib.hid (fun X hi hx => (digest_all 4 t h3 X hi hx (by omega) (by omega)).mono fun e w' q => by
      rcases q with q | ⟨k, zs, q1, q2, q3, q4, q5, _⟩
      · exact q
      · have : k = 4 := by omega
        subst this
        exact absurd ⟨q4, zs, q5⟩ hgood)
    unfold TH.v at HC
    clear hgood
    go_upto_region 10 with (first
    | (go_at_call 17
       refine (HC.out _ HS5.out.ci HS5.out.tab).mono ?_
       rintro _ w6 ⟨c, hc, a6, c6, rfl, hb6⟩
       rw [codeV_pos hc]
       have HS6 := Lib.hid (HS5.out.below hb6)
       have HB6 := Lib.hid hb6
       clear x0 x1 x2 x3 x4 y0 y1 y2 y3 y4
       obtain ⟨x0, x1, x2, x3, x4⟩ := HS6.out.box.cells
       obtain ⟨y0, y1, y2, y3, y4⟩ := HS6.out.own.cells
       clear hb6 hc)
    | (go_at_call 10
       refine (check_any t h3 _ HS6.out.ci).mono ?_
       rintro _ w7 ⟨rfl, hb7⟩
       have HS7 := Lib.hid (HS6.out.below hb7)
       have HB7 := Lib.hid (HB6.out.trans (hb7.mono HB6.out.size))
       skip
       clear x0 x1 x2 x3 x4 y0 y1 y2 y3 y4
       obtain ⟨x0, x1, x2, x3, x4⟩ := HS7.out.box.cells
       obtain ⟨y0, y1, y2, y3, y4⟩ := HS7.out.own.cells
       clear hb7)
    | (go_at_call 20
       refine (list_any t h3 _ HS7.out.ci (by omega)).mono ?_
       rintro _ w8 ⟨v8, hs8, rfl, -, -, -, hb8⟩
       have HS8 := Lib.hid (HS7.out.below hb8)
       have HB8 := Lib.hid (HB7.out.trans (hb8.mono HB7.out.size))
       skip
       clear x0 x1 x2 x3 x4 y0 y1 y2 y3 y4
       obtain ⟨x0, x1, x2, x3, x4⟩ := HS8.out.box.cells
       obtain ⟨y0, y1, y2, y3, y4⟩ := HS8.out.own.cells
       clear hb8)
    | (go_at_call 22
       refine (refSame_any t h3 h _ HS8.out.ci HS8.out.ti).mono ?_
       rintro _ w9 ⟨rfl, hb9⟩
       have HS9 := Lib.hid (HS8.out.below hb9)
       have HB9 := Lib.hid (HB8.out.trans (hb9.mono HB8.out.size))
       skip
       clear x0 x1 x2 x3 x4 y0 y1 y2 y3 y4
       clear hb9))
    go_wp2_with fail
    go_loopw [9] (fun s9 wx => s9 = .int .i64 0 ∧ SW w wx h t go h3) (fun _ _ => 0)
    case atStart => exact ⟨rfl, HS9.out⟩
    case round =>
      obtain ⟨rfl, hs10⟩ := hrel
      have HS10 := Lib.hid hs10
      obtain ⟨x0, x1, x2, x3, x4⟩ := hs10.box.cells
      obtain ⟨y0, y1, y2, y3, y4⟩ := hs10.own.cells
      clear hs10
      go_upto_region 16 with (first
    | (go_at_call 22
       refine (refSame_any t h3 h _ HS10.out.ci HS10.out.ti).mono ?_
       rintro _ w11 ⟨rfl, hb11⟩
       have HS11 := Lib.hid (HS10.out.below hb11)
       clear x0 x1 x2 x3 x4 y0 y1 y2 y3 y4
       obtain ⟨y0, y1, y2, y3, y4⟩ := HS11.out.own.cells
       clear hb11)
    | (go_at_call 17
       refine (HC.out _ HS11.out.ci HS11.out.tab).mono ?_
       rintro _ w12 ⟨c', hc', a12, c12, rfl, hb12⟩
       rw [codeV_pos hc']
       have HS12 := Lib.hid (HS11.out.below hb12)
       clear y0 y1 y2 y3 y4
       clear hb12 hc'))
      go_quiet (fail)
      go_wp2_with fail
      go_ret
      exact ⟨by simp, below_drewN HS12.out.b _⟩
  obtain ⟨hck, zs, hdg⟩ := hgood
  have hzl := digT_len (by omega) hdg
  have HDG := Lib.hid (And.intro hck hdg)
  clear hck hdg
  go_upto_region 10 with (first
    | (go_at_call 17
       refine (digest_ok 4 (by omega) (by omega) t h3 _ HS5.out.ci HS5.out.tab HDG.out.1 HDG.out.2).mono ?_
       rintro _ w6 ⟨a6, c6, rfl, hn6, hb6⟩
       rw [hzl]
       have hinb := hn6.inb
       rw [hzl] at hinb
       have HS6 := Lib.hid (HS5.out.below hb6)
       have HB6 := Lib.hid hb6
       have HI6 : Hid (NB w5 w6 a6 4 c6 zs) := Lib.hid ⟨hinb, fun ad e => ⟨hn6.new ad e, by
         obtain ⟨gg, oo, e2, hlt, _⟩ := hinb.place (by omega)
         rw [e2] at e
         injection e with e
         rw [← e]
         exact hlt⟩, hn6.free⟩
       clear x0 x1 x2 x3 x4 y0 y1 y2 y3 y4
       obtain ⟨x0, x1, x2, x3, x4⟩ := HS6.out.box.cells
       obtain ⟨y0, y1, y2, y3, y4⟩ := HS6.out.own.cells
       clear hb6 hn6 hinb)
    | (go_at_call 10
       refine (check_any t h3 _ HS6.out.ci).mono ?_
       rintro _ w7 ⟨rfl, hb7⟩
       have HS7 := Lib.hid (HS6.out.below hb7)
       have HB7 := Lib.hid (HB6.out.trans (hb7.mono HB6.out.size))
       have HI7 := Lib.hid (HI6.out.below hb7)
       clear x0 x1 x2 x3 x4 y0 y1 y2 y3 y4
       obtain ⟨x0, x1, x2, x3, x4⟩ := HS7.out.box.cells
       obtain ⟨y0, y1, y2, y3, y4⟩ := HS7.out.own.cells
       clear hb7)
    | (go_at_call 20
       refine (list_any t h3 _ HS7.out.ci (by omega)).mono ?_
       rintro _ w8 ⟨v8, hs8, rfl, -, -, -, hb8⟩
       have HS8 := Lib.hid (HS7.out.below hb8)
       have HB8 := Lib.hid (HB7.out.trans (hb8.mono HB7.out.size))
       have HI8 := Lib.hid (HI7.out.below hb8)
       clear x0 x1 x2 x3 x4 y0 y1 y2 y3 y4
       obtain ⟨x0, x1, x2, x3, x4⟩ := HS8.out.box.cells
       obtain ⟨y0, y1, y2, y3, y4⟩ := HS8.out.own.cells
       clear hb8)
    | (go_at_call 22
       refine (refSame_any t h3 h _ HS8.out.ci HS8.out.ti).mono ?_
       rintro _ w9 ⟨rfl, hb9⟩
       have HS9 := Lib.hid (HS8.out.below hb9)
       have HB9 := Lib.hid (HB8.out.trans (hb9.mono HB8.out.size))
       have HI9 := Lib.hid (HI8.out.below hb9)
       clear x0 x1 x2 x3 x4 y0 y1 y2 y3 y4
       clear hb9))
  obtain ⟨gd, off, hga, -, -⟩ := HI9.out.inb.place (by omega)
  subst hga
  have hf9 : Four w5 w9 gd off := ⟨fun j hj => by
      obtain ⟨g', o', e, _, hseg⟩ := HI9.out.inb.place (by omega)
      injection e with e
      injection e with e1 e2
      subst e1 e2
      have hjl : j < zs.length := by rw [HI9.out.inb.len]; exact hj
      exact ⟨zs[j], (HI9.out.inb.bytes _ (List.getElem_mem hjl)).1, (HI9.out.inb.bytes _ (List.getElem_mem hjl)).2, hseg j hjl⟩, fun o => HI9.out.free _ o rfl, HB9.out, (HI9.out.ge _ rfl).1⟩
  have HF9 := Lib.hid hf9
  clear hf9
  go_wp2_with fail
  go_loopw [9] (fun s9 wx => ∃ i : Nat, i ≤ 4 ∧ s9 = .int .i64 i ∧ Four w5 wx gd off) (fun s9 _ => 4 - (intOf s9).toNat)
  case atStart => exact ⟨0, by omega, rfl, HF9.out⟩
  case round =>
    clear HF9 HI9 HI8 HI7 HI6
    obtain ⟨i, hi, rfl, hf⟩ := hrel
    have HF := Lib.hid hf
    clear hf
    by_cases hlt : i < 4
    · have q1 : (i : Int) < 4 := by omega
      obtain ⟨z, hz0, hz1, hzc⟩ := HF.out.cells i hlt
      have hzf := HF.out.free (off + i)
      go_wp2_with fail
      exact ⟨⟨i + 1, by omega, by go_num, HF.out.put i hlt _ (by omega) (by omega)⟩, by simp [intOf]; omega⟩
    · obtain rfl : i = 4 := by omega
      have HS10 := Lib.hid (HS5.out.below HF.out.b)
      obtain ⟨x0, x1, x2, x3, x4⟩ := HS10.out.box.cells
      obtain ⟨y0, y1, y2, y3, y4⟩ := HS10.out.own.cells
      go_upto_region 16 with (first
    | (go_at_call 22
       refine (refSame_any t h3 h _ HS10.out.ci HS10.out.ti).mono ?_
       rintro _ w11 ⟨rfl, hb11⟩
       have HS11 := Lib.hid (HS10.out.below hb11)
       clear x0 x1 x2 x3 x4 y0 y1 y2 y3 y4
       obtain ⟨y0, y1, y2, y3, y4⟩ := HS11.out.own.cells
       clear hb11)
    | (go_at_call 17
       refine (digest_ok 4 (by omega) (by omega) t h3 _ HS11.out.ci HS11.out.tab HDG.out.1 HDG.out.2).mono ?_
       rintro _ w12 ⟨a12, c12, rfl, hn12, hb12⟩
       rw [hzl]
       have HS12 := Lib.hid (HS11.out.below hb12)
       clear y0 y1 y2 y3 y4
       clear hb12 hn12))
      go_quiet (fail)
      go_wp2_with fail
      go_ret
      exact ⟨by simp, below_drewN HS12.out.b _⟩
end Go.Proofs.YtcplfpnaepdddaaDoor
