/- The walk of the law ScanParts. -/
import Derived.Test.YtpjojhmdgeejmaaScanUp
import Derived.Test.YtpjojhmdgeejmaaRefRange
import Derived.Test.YtpjojhmdgeejmaaPrScan
import Derived.Test.YtpjojhmdgeejmaaRefGrown
import Derived.Test.YtpjojhmdgeejmaaRefGet
import Derived.Test.YtpjojhmdgeejmaaScanPartsM
namespace Go.Proofs.Ytpjojhmdgeejmaa
open Go.RowKit
set_option linter.unusedVariables false

/-- A row of pairs of one's own, and its pairs. -/
structure RP (W : World) (v : Value) (rs : List PH) (kvs : List KV) : Prop where
  o : OwnR recP W 0 49 v rs
  p : PairsIn W rs kvs
theorem RP.below {W W' : World} {v : Value} {rs : List PH} {kvs : List KV} (x : RP W v rs kvs) (hb : Below W.heap.size W W') : RP W' v rs kvs := ⟨x.o.keep hb, x.p.below hb⟩
theorem RP.drew {W : World} {v : Value} {rs : List PH} {kvs : List KV} (x : RP W v rs kvs) : RP W.drew v rs kvs := x.below (Below.refl _ _).drew
/-- The law's span, and its tree in the box g8. -/
structure QX (w W : World) (sp : DH) (f tt : List Int) (g8 : Nat) (h2 : TH) (a : AT) : Prop where
  sx : SX w W sp f tt
  tb : Box W 33 g8 h2
  ti : InTree W h2 a.tr
theorem QX.below {w W W' : World} {sp : DH} {f tt : List Int} {g8 : Nat} {h2 : TH} {a : AT} (x : QX w W sp f tt g8 h2 a) (hb : Below W.heap.size W W') : QX w W' sp f tt g8 h2 a := ⟨x.sx.below hb, x.tb.below hb x.tb.lt, x.ti.lower hb⟩
theorem QX.drew {w W : World} {sp : DH} {f tt : List Int} {g8 : Nat} {h2 : TH} {a : AT} (x : QX w W sp f tt g8 h2 a) : QX w W.drew sp f tt g8 h2 a := x.below (Below.refl _ _).drew
theorem PairsIn.app {w : World} {a b : List PH} {s t : List KV} (h : PairsIn w a s) (h' : PairsIn w b t) : PairsIn w (a ++ b) (s ++ t) := by
  refine ⟨by simp [h.1, h'.1], fun i h1 h2 => ?_⟩
  by_cases hi : i < a.length
  · rw [List.getElem_append_left hi, List.getElem_append_left (by rw [← h.1]; exact hi)]
    exact h.2 i hi _
  · have e1 : (a ++ b)[i] = b[i - a.length]'(by rw [List.length_append] at h1; omega) := List.getElem_append_right (by omega)
    have e2 : (s ++ t)[i] = t[i - s.length]'(by rw [List.length_append] at h2; have := h.1; omega) := List.getElem_append_right (by have := h.1; omega)
    rw [e1, e2]
    have e3 : i - s.length = i - a.length := by rw [h.1]
    simp only [e3]
    exact h'.2 _ _ _
theorem count_le {a : AT} (h : a.pairs.length ≤ 60) : countT a.tr ≤ 500 := by
  have e : countT a.tr = 2 * a.pairs.length + 1 := by
    clear h
    induction a with
    | nil => rw [countT_eq]; rfl
    | node l k v r ihl ihr =>
      rw [countT_eq, AT.tr_kids]
      simp only [List.map_cons, List.map_nil, List.sum_cons, List.sum_nil, ihl, ihr, AT.pairs, List.length_append, List.length_cons]
      omega
  omega

set_option maxRecDepth 100000 in
set_option maxHeartbeats 8000000 in
theorem scanParts_law (la : Option Addr) (n cap : Nat) (D : Nat → PH) (sp : DH) (f tt at' : List Int) (aa : Option Addr) (an ac : Nat) (w : World) (hin : InRec recP w la n cap D) (hkv : ∀ i, i < n → ∃ key val, InBytes w (D i).ka (D i).kn (D i).kc key ∧ InBytes w (D i).va (D i).vn (D i).vc val)
    (hs : SpanIn w sp f tt) (ha : InBytes w aa an ac at') (han : an ≤ 140737488351232) :
    Calls Try.prog 7 #[.slice la n cap, sp.v, .slice aa an ac] w (Says w (.bool true)) := by
  have hle1 := le_not f at'
  have hle2 := le_not at' tt
  rw [← str_lt hs.f.bytes ha.bytes, ← str_eq hs.f.bytes ha.bytes] at hle1
  rw [← str_lt ha.bytes hs.t.bytes, ← str_eq ha.bytes hs.t.bytes] at hle2
  unfold DH.v
  obtain ⟨ti, hti, htz⟩ := Option.map_eq_some_iff.1 infoPair
  simp only [Prod.mk.injEq] at htz
  obtain ⟨hz0, hz1, hz2⟩ := htz
  have HTI := Lib.hid (And.intro hti (And.intro hz0 (And.intro hz1 hz2)))
  have HD0 := Lib.hid (SX.new w hs)
  have HL := Lib.hid (And.intro hin hkv)
  have HA := Lib.hid ha
  clear hti hz0 hz1 hz2 hs hin hkv ha
  go_enter Try.func7, Try.ntmps7
  go_upto_region 3 with (first
    | (go_at_call 9
       refine (up6_any _).mono ?_
       rintro _ w1 ⟨rfl, hb1⟩
       have HD1 := Lib.hid (HD0.out.below hb1)
       clear hb1)
    | (go_at_call 20
       refine (refGrown_any la n cap D _ (HL.out.1.below HD1.out.b) (fun i hi => by
         obtain ⟨key, val, q1, q2⟩ := HL.out.2 i hi
         exact ⟨key, val, q1.below HD1.out.b, q2.below HD1.out.b⟩)).mono ?_
       rintro _ w2 ⟨a, hgood, hlen, h2, rfl, hi2, hb2⟩
       have HD2 := Lib.hid (HD1.out.below hb2)
       have HI2 := Lib.hid hi2
       have HGD := Lib.hid hgood
       have HLEN := Lib.hid hlen
       clear hb2 hi2 hgood hlen)
    | (refine wpList_store_box rfl 33 (.tmp 8) (.tmp 24) rfl w2.heap.size hZ h2 rfl rfl 33 (Box.new w2 33 hZ) infoTree5 ?_
       intro w3 hbx hg
       have qq : Below w2.heap.size w2 w3 := ((Below.refl w2.heap.size w2).alloc (Nat.le_refl _) _).grown hg (by simp) (fun j hj => by injection hj; omega)
       have HD3 : Hid (QX w w3 sp f tt w2.heap.size h2 a) := Lib.hid ⟨HD2.out.below qq, hbx, HI2.out.lower qq⟩
       clear hbx hg qq))
  generalize w2.heap.size = g8 at *
  have HIS : Hid (isT a.tr = true) := Lib.hid (HGD.out.is (by have := HLEN.out; omega))
  have HCN : Hid (countT a.tr ≤ 500) := Lib.hid (count_le HLEN.out)
  generalize hkA : a.pairs.filter (fun p => inS f at' false p.1) = kA
  have HKA := Lib.hid hkA
  generalize hkB : a.pairs.filter (fun p => inS at' tt sp.out p.1) = kB
  have HKB := Lib.hid hkB
  generalize hkC : a.pairs.filter (fun p => inS f tt sp.out p.1) = kC
  have HKC := Lib.hid hkC
  generalize hkP : a.pairs.filter (fun p => inS at' (at' ++ [0]) false p.1) = kP
  have HKP := Lib.hid hkP
  have HLE : Hid (kA.length ≤ 60 ∧ kB.length ≤ 60) := Lib.hid (by
    have h1 := List.length_filter_le (fun p : KV => inS f at' false p.1) a.pairs
    have h2 := List.length_filter_le (fun p : KV => inS at' tt sp.out p.1) a.pairs
    rw [hkA] at h1
    rw [hkB] at h2
    have := HLEN.out
    omega)
  clear hkA hkB hkC hkP
  obtain ⟨x0, x1, x2, x3, x4⟩ := HD3.out.tb.cells
  obtain ⟨y0, y1, y2⟩ := HD3.out.sx.box.three
  go_upto_region 4 with (first
    | (go_at_call 16
       refine (scanRange_ok a h2 (⟨sp.ka, sp.kn, sp.kc, aa, an, ac, false⟩ : DH) f at' _ HD3.out.ti ⟨HD3.out.sx.sp.f, HA.out.below HD3.out.sx.b⟩ HIS.out HCN.out).mono ?_
       rw [HKA.out]
       rintro _ w4 ⟨raA, rA, rcA, rsA, rfl, ho, hl, hp, -, hb⟩
       have HD4 := Lib.hid (HD3.out.below hb)
       have HNA : Hid (rA = kA.length ∧ rsA.length = rA) := Lib.hid ⟨by rw [← hl, hp.1], hl⟩
       have HRA4 : Hid (RP w4 (.slice raA rA rcA) rsA kA) := Lib.hid ⟨ho.weak (Nat.zero_le _), hp⟩
       skip
       clear hb ho hl hp x0 x1 x2 x3 x4))
  clear y0 y1 y2
  obtain ⟨x0, x1, x2, x3, x4⟩ := HD4.out.tb.cells
  obtain ⟨y0, y1, y2⟩ := HD4.out.sx.box.three
  go_upto_region 5 with (first
    | (go_at_call 16
       refine (scanRange_ok a h2 (⟨aa, an, ac, sp.va, sp.vn, sp.vc, sp.out⟩ : DH) at' tt _ HD4.out.ti ⟨HA.out.below HD4.out.sx.b, HD4.out.sx.sp.t⟩ HIS.out HCN.out).mono ?_
       rw [HKB.out]
       rintro _ w5 ⟨raB, rB, rcB, rsB, rfl, ho, hl, hp, -, hb⟩
       have HD5 := Lib.hid (HD4.out.below hb)
       have HNB : Hid (rB = kB.length ∧ rsB.length = rB) := Lib.hid ⟨by rw [← hl, hp.1], hl⟩
       have HRB5 : Hid (RP w5 (.slice raB rB rcB) rsB kB) := Lib.hid ⟨ho.weak (Nat.zero_le _), hp⟩
       have HRA5 := Lib.hid (HRA4.out.below hb)
       clear hb ho hl hp x0 x1 x2 x3 x4))
  clear y0 y1 y2
  obtain ⟨x0, x1, x2, x3, x4⟩ := HD5.out.tb.cells
  obtain ⟨y0, y1, y2⟩ := HD5.out.sx.box.three
  go_upto_region 6 with (first
    | (go_at_call 16
       refine (scanRange_ok a h2 sp f tt _ HD5.out.ti HD5.out.sx.sp HIS.out HCN.out).mono ?_
       rw [HKC.out]
       rintro _ w6 ⟨raC, rC, rcC, rsC, rfl, ho, hl, hp, -, hb⟩
       have HD6 := Lib.hid (HD5.out.below hb)
       have HNC : Hid (rC = kC.length ∧ rsC.length = rC) := Lib.hid ⟨by rw [← hl, hp.1], hl⟩
       have HRC6 : Hid (RP w6 (.slice raC rC rcC) rsC kC) := Lib.hid ⟨ho.weak (Nat.zero_le _), hp⟩
       have HRA6 := Lib.hid (HRA5.out.below hb); have HRB6 := Lib.hid (HRB5.out.below hb)
       clear hb ho hl hp x0 x1 x2 x3 x4))
  clear y0 y1 y2
  refine wp_region_held_drew (S := (fun W => W.cell? ⟨g8, 0, none⟩ = some (.int .i64 h2.k) ∧ W.cell? ⟨g8, 1, none⟩ = some (.slice h2.ka h2.kn h2.kc) ∧ W.cell? ⟨g8, 2, none⟩ = some (.slice h2.va h2.vn h2.vc) ∧ W.cell? ⟨g8, 3, none⟩ = some (.slice h2.da h2.dn h2.dc) ∧ W.cell? ⟨g8, 4, none⟩ = some (.slice h2.ta h2.tn h2.tc))) (by kernel_rfl) HD6.out.drew.tb.cells (fun hHeld => ?_)
  refine take_w (i := 0) (oi := ?oZ50) (v := ?vZ50) ?hiZ50 (by kernel_rfl) (by kernel_rfl) (by kernel_rfl) ?hQZ50 ?hwZ50 ?hyZ50 (by assumption) ?restZ50
  case hiZ50 => (simp only [List.getElem?_toArray, List.getElem?_cons_zero] <;> rfl)
  case hQZ50 => exact (fun _ _ _ h => h)
  case hwZ50 => rfl
  case hyZ50 => (intro w hSw; (try dsimp only at hSw); go_simp; try with_reducible rfl)
  (try simp only [Act.put, List.setIfInBounds_toArray, List.set_cons_zero, List.set_cons_succ])
  refine take_w (i := 1) (oi := ?oZ51) (v := ?vZ51) ?hiZ51 (by kernel_rfl) (by kernel_rfl) (by kernel_rfl) ?hQZ51 ?hwZ51 ?hyZ51 (by assumption) ?restZ51
  case hiZ51 => (simp only [List.getElem?_toArray, List.getElem?_cons_succ, List.getElem?_cons_zero] <;> rfl)
  case hQZ51 => exact (fun _ _ _ h => h)
  case hwZ51 => rfl
  case hyZ51 => (intro w hSw; (try dsimp only at hSw); go_simp; try with_reducible rfl)
  (try simp only [Act.put, List.setIfInBounds_toArray, List.set_cons_zero, List.set_cons_succ])
  refine wpAnyH_ready (rs := [2]) (by kernel_rfl) (by simp) ?_
  refine AllReadyH.cons (o := ?oZ52) ?hiZ52 (fun K hK => ?stZ52) AllReadyH.nil
  case hiZ52 => (simp only [List.getElem?_toArray, List.getElem?_cons_succ, List.getElem?_cons_zero] <;> rfl)
  go_simp
  go_at_call 10
  refine (scanPoint_any at' aa an ac _ (HA.out.below HD6.out.drew.sx.b) han).mono ?_
  rintro _ w7 ⟨h7, rfl, hs7, ho7, hb7⟩
  have HD7 := Lib.hid (HD6.out.drew.below hb7)
  have HRA7 := Lib.hid (HRA6.out.drew.below hb7)
  have HRB7 := Lib.hid (HRB6.out.drew.below hb7)
  have HRC7 := Lib.hid (HRC6.out.drew.below hb7)
  have HS7 := Lib.hid hs7
  have hv7 : h7.v = DH.v ⟨h7.ka, h7.kn, h7.kc, h7.va, h7.vn, h7.vc, false⟩ := by unfold DH.v; rw [ho7]
  rw [hv7]
  unfold DH.v
  clear hb7 hs7 ho7 hv7
  go_simp
  refine hK.out _ _ ?_ (fun hHeld => ?_)
  · (first | exact HD8.out.tb.cells | exact HD7.out.tb.cells | exact HD6.out.drew.tb.cells)
  clear hK K
  (try simp only [Act.put, List.setIfInBounds_toArray, List.set_cons_zero, List.set_cons_succ])
  refine wpAnyH_ready (rs := [3]) (by kernel_rfl) (by simp) ?_
  refine AllReadyH.cons (o := ?oZ53) ?hiZ53 (fun K hK => ?stZ53) AllReadyH.nil
  case hiZ53 => (simp only [List.getElem?_toArray, List.getElem?_cons_succ, List.getElem?_cons_zero] <;> rfl)
  go_simp
  go_at_call 16
  refine (scanRange_ok a h2 ⟨h7.ka, h7.kn, h7.kc, h7.va, h7.vn, h7.vc, false⟩ at' (at' ++ [0]) _ HD7.out.ti ⟨HS7.out.f, HS7.out.t⟩ HIS.out HCN.out).mono ?_
  rw [HKP.out]
  rintro _ w8 ⟨raP, rP, rcP, rsP, rfl, ho, hl, hp, -, hb⟩
  have HD8 := Lib.hid (HD7.out.below hb)
  have HNP : Hid (rP = kP.length ∧ rsP.length = rP) := Lib.hid ⟨by rw [← hl, hp.1], hl⟩
  have HRP8 : Hid (RP w8 (.slice raP rP rcP) rsP kP) := Lib.hid ⟨ho.weak (Nat.zero_le _), hp⟩
  have HRA8 := Lib.hid (HRA7.out.below hb)
  have HRB8 := Lib.hid (HRB7.out.below hb)
  have HRC8 := Lib.hid (HRC7.out.below hb)
  clear hb ho hl hp
  go_simp
  refine hK.out _ _ ?_ (fun hHeld => ?_)
  · (first | exact HD8.out.tb.cells | exact HD7.out.tb.cells | exact HD6.out.drew.tb.cells)
  clear hK K
  (try simp only [Act.put, List.setIfInBounds_toArray, List.set_cons_zero, List.set_cons_succ])
  refine take_w (i := 4) (oi := ?oZ54) (v := ?vZ54) ?hiZ54 (by kernel_rfl) (by kernel_rfl) (by kernel_rfl) ?hQZ54 ?hwZ54 ?hyZ54 (by assumption) ?restZ54
  case hiZ54 => (simp only [List.getElem?_toArray, List.getElem?_cons_succ, List.getElem?_cons_zero] <;> rfl)
  case hQZ54 => exact (fun _ _ _ h => h)
  case hwZ54 => rfl
  case hyZ54 => (intro w hSw; (try dsimp only at hSw); go_simp; try with_reducible rfl)
  (try simp only [Act.put, List.setIfInBounds_toArray, List.set_cons_zero, List.set_cons_succ])
  refine take_w (i := 5) (oi := ?oZ55) (v := ?vZ55) ?hiZ55 (by kernel_rfl) (by kernel_rfl) (by kernel_rfl) ?hQZ55 ?hwZ55 ?hyZ55 (by assumption) ?restZ55
  case hiZ55 => (simp only [List.getElem?_toArray, List.getElem?_cons_succ, List.getElem?_cons_zero] <;> rfl)
  case hQZ55 => exact (fun _ _ _ h => h)
  case hwZ55 => rfl
  case hyZ55 => (intro w hSw; (try dsimp only at hSw); go_simp; try with_reducible rfl)
  (try simp only [Act.put, List.setIfInBounds_toArray, List.set_cons_zero, List.set_cons_succ])
  refine take_w (i := 6) (oi := ?oZ56) (v := ?vZ56) ?hiZ56 (by kernel_rfl) (by kernel_rfl) (by kernel_rfl) ?hQZ56 ?hwZ56 ?hyZ56 (by assumption) ?restZ56
  case hiZ56 => (simp only [List.getElem?_toArray, List.getElem?_cons_succ, List.getElem?_cons_zero] <;> rfl)
  case hQZ56 => exact (fun _ _ _ h => h)
  case hwZ56 => rfl
  case hyZ56 => (intro w hSw; (try dsimp only at hSw); go_simp; try with_reducible rfl)
  (try simp only [Act.put, List.setIfInBounds_toArray, List.set_cons_zero, List.set_cons_succ])
  refine take_w (i := 7) (oi := ?oZ57) (v := ?vZ57) ?hiZ57 (by kernel_rfl) (by kernel_rfl) (by kernel_rfl) ?hQZ57 ?hwZ57 ?hyZ57 (by assumption) ?restZ57
  case hiZ57 => (simp only [List.getElem?_toArray, List.getElem?_cons_succ, List.getElem?_cons_zero] <;> rfl)
  case hQZ57 => exact (fun _ _ _ h => h)
  case hwZ57 => rfl
  case hyZ57 => (intro w hSw; (try dsimp only at hSw); go_simp; try with_reducible rfl)
  (try simp only [Act.put, List.setIfInBounds_toArray, List.set_cons_zero, List.set_cons_succ])
  refine take_w (i := 8) (oi := ?oZ58) (v := ?vZ58) ?hiZ58 (by kernel_rfl) (by kernel_rfl) (by kernel_rfl) ?hQZ58 ?hwZ58 ?hyZ58 (by assumption) ?restZ58
  case hiZ58 => (simp only [List.getElem?_toArray, List.getElem?_cons_succ, List.getElem?_cons_zero] <;> rfl)
  case hQZ58 => exact (fun _ _ _ h => h)
  case hwZ58 => rfl
  case hyZ58 => (intro w hSw; (try dsimp only at hSw); go_simp; try with_reducible rfl)
  (try simp only [Act.put, List.setIfInBounds_toArray, List.set_cons_zero, List.set_cons_succ])
  refine wpAnyH_done (by kernel_rfl) ?_ _
  clear hHeld
  go_upto_region 9 with fail
  have cv0 := conv_key HD8.out.sx.sp.f
  have cv1 := conv_key HD8.out.sx.sp.t
  have cv2 := conv_key (HA.out.below HD8.out.sx.b)
  obtain ⟨y0, y1, y2⟩ := HD8.out.sx.box.three
  cases c1 : ltL at' f with
  | true =>
    rw [c1, Bool.not_true] at hle1
    clear c1 hle2
    obtain ⟨x0, x1, x2, x3, x4⟩ := HD8.out.tb.cells
    cases hgt : a.get at' with
    | none =>
      have HGT := Lib.hid hgt
      have hkp : kP = [] := by rw [← HKP.out, point_pairs HD8.out.ti HGD.out.rise at', hgt]; rfl
      have hr0 : rP = 0 := by rw [HNP.out.1, hkp]; rfl
      subst hr0
      clear hgt hkp
      go_upto_region 11 with (first
        | (go_at_call 21
           refine (refGet_any a h2 at' aa an ac _ HD8.out.ti HGD.out.lim HCN.out (HA.out.below HD8.out.sx.b)).mono ?_
           rw [HGT.out]
           rintro _ w9 ⟨a9, n9, c9, rfl, hi9, hb9⟩
           have HD9 := Lib.hid (HD8.out.below hb9)
           have HRA9 := Lib.hid (HRA8.out.below hb9)
           have HRB9 := Lib.hid (HRB8.out.below hb9)
           have HRC9 := Lib.hid (HRC8.out.below hb9)
           have HRP9 := Lib.hid (HRP8.out.below hb9)
           have HI9 := Lib.hid hi9
           clear hb9 hi9 x0 x1 x2 x3 x4))
      obtain ⟨w10, hw10⟩ : ∃ w10 : World, w10 = w9.drew := ⟨_, rfl⟩
      refine wp_region_held_drew (S := (fun _ => True)) (by kernel_rfl) trivial (fun hHeld => ?_)
      refine take_w (i := 0) (oi := ?oZ59) (v := ?vZ59) ?hiZ59 (by kernel_rfl) (by kernel_rfl) (by kernel_rfl) ?hQZ59 ?hwZ59 ?hyZ59 (by assumption) ?restZ59
      case hiZ59 => (simp only [List.getElem?_toArray, List.getElem?_cons_zero] <;> rfl)
      case hQZ59 => exact (fun _ _ _ h => h)
      case hwZ59 => rfl
      case hyZ59 => (intro w hSw; (try dsimp only at hSw); go_simp; try with_reducible rfl)
      (try simp only [Act.put, List.setIfInBounds_toArray, List.set_cons_zero, List.set_cons_succ])
      refine take_w (i := 1) (oi := ?oZ60) (v := ?vZ60) ?hiZ60 (by kernel_rfl) (by kernel_rfl) (by kernel_rfl) ?hQZ60 ?hwZ60 ?hyZ60 (by assumption) ?restZ60
      case hiZ60 => (simp only [List.getElem?_toArray, List.getElem?_cons_succ, List.getElem?_cons_zero] <;> rfl)
      case hQZ60 => exact (fun _ _ _ h => h)
      case hwZ60 => rfl
      case hyZ60 => (intro w hSw; (try dsimp only at hSw); go_simp; try with_reducible rfl)
      (try simp only [Act.put, List.setIfInBounds_toArray, List.set_cons_zero, List.set_cons_succ])
      refine take_w (i := 2) (oi := ?oZ61) (v := ?vZ61) ?hiZ61 (by kernel_rfl) (by kernel_rfl) (by kernel_rfl) ?hQZ61 ?hwZ61 ?hyZ61 (by assumption) ?restZ61
      case hiZ61 => (simp only [List.getElem?_toArray, List.getElem?_cons_succ, List.getElem?_cons_zero] <;> rfl)
      case hQZ61 => exact (fun _ _ _ h => h)
      case hwZ61 => rfl
      case hyZ61 => (intro w hSw; (try dsimp only at hSw); go_simp; try with_reducible rfl)
      (try simp only [Act.put, List.setIfInBounds_toArray, List.set_cons_zero, List.set_cons_succ])
      refine take_w (i := 3) (oi := ?oZ62) (v := ?vZ62) ?hiZ62 (by kernel_rfl) (by kernel_rfl) (by kernel_rfl) ?hQZ62 ?hwZ62 ?hyZ62 (by assumption) ?restZ62
      case hiZ62 => (simp only [List.getElem?_toArray, List.getElem?_cons_succ, List.getElem?_cons_zero] <;> rfl)
      case hQZ62 => exact (fun _ _ _ h => h)
      case hwZ62 => rfl
      case hyZ62 => (intro w hSw; (try dsimp only at hSw); go_simp; try with_reducible rfl)
      (try simp only [Act.put, List.setIfInBounds_toArray, List.set_cons_zero, List.set_cons_succ])
      refine take_w (i := 4) (oi := ?oZ63) (v := ?vZ63) ?hiZ63 (by kernel_rfl) (by kernel_rfl) (by kernel_rfl) ?hQZ63 ?hwZ63 ?hyZ63 (by assumption) ?restZ63
      case hiZ63 => (simp only [List.getElem?_toArray, List.getElem?_cons_succ, List.getElem?_cons_zero] <;> rfl)
      case hQZ63 => exact (fun _ _ _ h => h)
      case hwZ63 => rfl
      case hyZ63 => (intro w hSw; (try dsimp only at hSw); go_simp; try with_reducible rfl)
      (try simp only [Act.put, List.setIfInBounds_toArray, List.set_cons_zero, List.set_cons_succ])
      refine take_w (i := 5) (oi := ?oZ64) (v := ?vZ64) ?hiZ64 (by kernel_rfl) (by kernel_rfl) (by kernel_rfl) ?hQZ64 ?hwZ64 ?hyZ64 (by assumption) ?restZ64
      case hiZ64 => (simp only [List.getElem?_toArray, List.getElem?_cons_succ, List.getElem?_cons_zero] <;> rfl)
      case hQZ64 => exact (fun _ _ _ h => h)
      case hwZ64 => rfl
      case hyZ64 => (intro w hSw; (try dsimp only at hSw); go_simp; try with_reducible rfl)
      (try simp only [Act.put, List.setIfInBounds_toArray, List.set_cons_zero, List.set_cons_succ])
      refine take_w (i := 6) (oi := ?oZ65) (v := ?vZ65) ?hiZ65 (by kernel_rfl) (by kernel_rfl) (by kernel_rfl) ?hQZ65 ?hwZ65 ?hyZ65 (by assumption) ?restZ65
      case hiZ65 => (simp only [List.getElem?_toArray, List.getElem?_cons_succ, List.getElem?_cons_zero] <;> rfl)
      case hQZ65 => exact (fun _ _ _ h => h)
      case hwZ65 => rfl
      case hyZ65 => (intro w hSw; (try dsimp only at hSw); go_simp; try with_reducible rfl)
      (try simp only [Act.put, List.setIfInBounds_toArray, List.set_cons_zero, List.set_cons_succ])
      refine take_w (i := 7) (oi := ?oZ66) (v := ?vZ66) ?hiZ66 (by kernel_rfl) (by kernel_rfl) (by kernel_rfl) ?hQZ66 ?hwZ66 ?hyZ66 (by assumption) ?restZ66
      case hiZ66 => (simp only [List.getElem?_toArray, List.getElem?_cons_succ, List.getElem?_cons_zero] <;> rfl)
      case hQZ66 => exact (fun _ _ _ h => h)
      case hwZ66 => rfl
      case hyZ66 => (intro w hSw; (try dsimp only at hSw); go_simp; try with_reducible rfl)
      (try simp only [Act.put, List.setIfInBounds_toArray, List.set_cons_zero, List.set_cons_succ])
      refine take_u (i := 8) (oi := ?oZ67) ?hiZ67 (by kernel_rfl) (by kernel_rfl) (by kernel_rfl) ?hQZ67 ?hwZ67 (by assumption) ?restZ67
      case hiZ67 => (simp only [List.getElem?_toArray, List.getElem?_cons_succ, List.getElem?_cons_zero] <;> rfl)
      case hQZ67 => exact (fun _ _ _ h => h)
      case hwZ67 => rfl
      (try simp only [Act.put, List.setIfInBounds_toArray, List.set_cons_zero, List.set_cons_succ])
      refine take_u (i := 9) (oi := ?oZ68) ?hiZ68 (by kernel_rfl) (by kernel_rfl) (by kernel_rfl) ?hQZ68 ?hwZ68 (by assumption) ?restZ68
      case hiZ68 => (simp only [List.getElem?_toArray, List.getElem?_cons_succ, List.getElem?_cons_zero] <;> rfl)
      case hQZ68 => exact (fun _ _ _ h => h)
      case hwZ68 => rfl
      (try simp only [Act.put, List.setIfInBounds_toArray, List.set_cons_zero, List.set_cons_succ])
      refine take_u (i := 10) (oi := ?oZ69) ?hiZ69 (by kernel_rfl) (by kernel_rfl) (by kernel_rfl) ?hQZ69 ?hwZ69 (by assumption) ?restZ69
      case hiZ69 => (simp only [List.getElem?_toArray, List.getElem?_cons_succ, List.getElem?_cons_zero] <;> rfl)
      case hQZ69 => exact (fun _ _ _ h => h)
      case hwZ69 => rfl
      (try simp only [Act.put, List.setIfInBounds_toArray, List.set_cons_zero, List.set_cons_succ])
      refine take_u (i := 11) (oi := ?oZ70) ?hiZ70 (by kernel_rfl) (by kernel_rfl) (by kernel_rfl) ?hQZ70 ?hwZ70 (by assumption) ?restZ70
      case hiZ70 => (simp only [List.getElem?_toArray, List.getElem?_cons_succ, List.getElem?_cons_zero] <;> rfl)
      case hQZ70 => exact (fun _ _ _ h => h)
      case hwZ70 => rfl
      (try simp only [Act.put, List.setIfInBounds_toArray, List.set_cons_zero, List.set_cons_succ])
      refine take_u (i := 12) (oi := ?oZ71) ?hiZ71 (by kernel_rfl) (by kernel_rfl) (by kernel_rfl) ?hQZ71 ?hwZ71 (by assumption) ?restZ71
      case hiZ71 => (simp only [List.getElem?_toArray, List.getElem?_cons_succ, List.getElem?_cons_zero] <;> rfl)
      case hQZ71 => exact (fun _ _ _ h => h)
      case hwZ71 => rfl
      (try simp only [Act.put, List.setIfInBounds_toArray, List.set_cons_zero, List.set_cons_succ])
      refine take_u (i := 13) (oi := ?oZ72) ?hiZ72 (by kernel_rfl) (by kernel_rfl) (by kernel_rfl) ?hQZ72 ?hwZ72 (by assumption) ?restZ72
      case hiZ72 => (simp only [List.getElem?_toArray, List.getElem?_cons_succ, List.getElem?_cons_zero] <;> rfl)
      case hQZ72 => exact (fun _ _ _ h => h)
      case hwZ72 => rfl
      (try simp only [Act.put, List.setIfInBounds_toArray, List.set_cons_zero, List.set_cons_succ])
      refine take_u (i := 14) (oi := ?oZ73) ?hiZ73 (by kernel_rfl) (by kernel_rfl) (by kernel_rfl) ?hQZ73 ?hwZ73 (by assumption) ?restZ73
      case hiZ73 => (simp only [List.getElem?_toArray, List.getElem?_cons_succ, List.getElem?_cons_zero] <;> rfl)
      case hQZ73 => exact (fun _ _ _ h => h)
      case hwZ73 => rfl
      (try simp only [Act.put, List.setIfInBounds_toArray, List.set_cons_zero, List.set_cons_succ])
      refine take_u (i := 15) (oi := ?oZ74) ?hiZ74 (by kernel_rfl) (by kernel_rfl) (by kernel_rfl) ?hQZ74 ?hwZ74 (by assumption) ?restZ74
      case hiZ74 => (simp only [List.getElem?_toArray, List.getElem?_cons_succ, List.getElem?_cons_zero] <;> rfl)
      case hQZ74 => exact (fun _ _ _ h => h)
      case hwZ74 => rfl
      (try simp only [Act.put, List.setIfInBounds_toArray, List.set_cons_zero, List.set_cons_succ])
      refine take_u (i := 16) (oi := ?oZ75) ?hiZ75 (by kernel_rfl) (by kernel_rfl) (by kernel_rfl) ?hQZ75 ?hwZ75 (by assumption) ?restZ75
      case hiZ75 => (simp only [List.getElem?_toArray, List.getElem?_cons_succ, List.getElem?_cons_zero] <;> rfl)
      case hQZ75 => exact (fun _ _ _ h => h)
      case hwZ75 => rfl
      (try simp only [Act.put, List.setIfInBounds_toArray, List.set_cons_zero, List.set_cons_succ])
      refine take_u (i := 17) (oi := ?oZ76) ?hiZ76 (by kernel_rfl) (by kernel_rfl) (by kernel_rfl) ?hQZ76 ?hwZ76 (by assumption) ?restZ76
      case hiZ76 => (simp only [List.getElem?_toArray, List.getElem?_cons_succ, List.getElem?_cons_zero] <;> rfl)
      case hQZ76 => exact (fun _ _ _ h => h)
      case hwZ76 => rfl
      (try simp only [Act.put, List.setIfInBounds_toArray, List.set_cons_zero, List.set_cons_succ])
      refine take_u (i := 18) (oi := ?oZ77) ?hiZ77 (by kernel_rfl) (by kernel_rfl) (by kernel_rfl) ?hQZ77 ?hwZ77 (by assumption) ?restZ77
      case hiZ77 => (simp only [List.getElem?_toArray, List.getElem?_cons_succ, List.getElem?_cons_zero] <;> rfl)
      case hQZ77 => exact (fun _ _ _ h => h)
      case hwZ77 => rfl
      (try simp only [Act.put, List.setIfInBounds_toArray, List.set_cons_zero, List.set_cons_succ])
      refine take_u (i := 19) (oi := ?oZ78) ?hiZ78 (by kernel_rfl) (by kernel_rfl) (by kernel_rfl) ?hQZ78 ?hwZ78 (by assumption) ?restZ78
      case hiZ78 => (simp only [List.getElem?_toArray, List.getElem?_cons_succ, List.getElem?_cons_zero] <;> rfl)
      case hQZ78 => exact (fun _ _ _ h => h)
      case hwZ78 => rfl
      (try simp only [Act.put, List.setIfInBounds_toArray, List.set_cons_zero, List.set_cons_succ])
      refine take_u (i := 20) (oi := ?oZ79) ?hiZ79 (by kernel_rfl) (by kernel_rfl) (by kernel_rfl) ?hQZ79 ?hwZ79 (by assumption) ?restZ79
      case hiZ79 => (simp only [List.getElem?_toArray, List.getElem?_cons_succ, List.getElem?_cons_zero] <;> rfl)
      case hQZ79 => exact (fun _ _ _ h => h)
      case hwZ79 => rfl
      (try simp only [Act.put, List.setIfInBounds_toArray, List.set_cons_zero, List.set_cons_succ])
      refine take_u (i := 21) (oi := ?oZ80) ?hiZ80 (by kernel_rfl) (by kernel_rfl) (by kernel_rfl) ?hQZ80 ?hwZ80 (by assumption) ?restZ80
      case hiZ80 => (simp only [List.getElem?_toArray, List.getElem?_cons_succ, List.getElem?_cons_zero] <;> rfl)
      case hQZ80 => exact (fun _ _ _ h => h)
      case hwZ80 => rfl
      (try simp only [Act.put, List.setIfInBounds_toArray, List.set_cons_zero, List.set_cons_succ])
      refine take_u (i := 22) (oi := ?oZ81) ?hiZ81 (by kernel_rfl) (by kernel_rfl) (by kernel_rfl) ?hQZ81 ?hwZ81 (by assumption) ?restZ81
      case hiZ81 => (simp only [List.getElem?_toArray, List.getElem?_cons_succ, List.getElem?_cons_zero] <;> rfl)
      case hQZ81 => exact (fun _ _ _ h => h)
      case hwZ81 => rfl
      (try simp only [Act.put, List.setIfInBounds_toArray, List.set_cons_zero, List.set_cons_succ])
      refine take_u (i := 23) (oi := ?oZ82) ?hiZ82 (by kernel_rfl) (by kernel_rfl) (by kernel_rfl) ?hQZ82 ?hwZ82 (by assumption) ?restZ82
      case hiZ82 => (simp only [List.getElem?_toArray, List.getElem?_cons_succ, List.getElem?_cons_zero] <;> rfl)
      case hQZ82 => exact (fun _ _ _ h => h)
      case hwZ82 => rfl
      (try simp only [Act.put, List.setIfInBounds_toArray, List.set_cons_zero, List.set_cons_succ])
      refine take_w (i := 24) (oi := ?oZ83) (v := ?vZ83) ?hiZ83 (by kernel_rfl) (by kernel_rfl) (by kernel_rfl) ?hQZ83 ?hwZ83 ?hyZ83 (by assumption) ?restZ83
      case hiZ83 => (simp only [List.getElem?_toArray, List.getElem?_cons_succ, List.getElem?_cons_zero] <;> rfl)
      case hQZ83 => exact (fun _ _ _ h => h)
      case hwZ83 => rfl
      case hyZ83 => (intro w hSw; (try dsimp only at hSw); go_simp; try with_reducible rfl)
      (try simp only [Act.put, List.setIfInBounds_toArray, List.set_cons_zero, List.set_cons_succ])
      refine take_w (i := 25) (oi := ?oZ84) (v := ?vZ84) ?hiZ84 (by kernel_rfl) (by kernel_rfl) (by kernel_rfl) ?hQZ84 ?hwZ84 ?hyZ84 (by assumption) ?restZ84
      case hiZ84 => (simp only [List.getElem?_toArray, List.getElem?_cons_succ, List.getElem?_cons_zero] <;> rfl)
      case hQZ84 => exact (fun _ _ _ h => h)
      case hwZ84 => rfl
      case hyZ84 => (intro w hSw; (try dsimp only at hSw); go_simp; try with_reducible rfl)
      (try simp only [Act.put, List.setIfInBounds_toArray, List.set_cons_zero, List.set_cons_succ])
      refine wpAnyH_done (by kernel_rfl) ?_ _
      clear hHeld
      have HD10 : Hid (QX w w10 sp f tt g8 h2 a) := Lib.hid (by rw [hw10]; exact HD9.out.drew)
      have HRA10 : Hid (RP w10 (.slice raA rA rcA) rsA kA) := Lib.hid (by rw [hw10]; exact HRA9.out.drew)
      have HRB10 : Hid (RP w10 (.slice raB rB rcB) rsB kB) := Lib.hid (by rw [hw10]; exact HRB9.out.drew)
      have HRC10 : Hid (RP w10 (.slice raC rC rcC) rsC kC) := Lib.hid (by rw [hw10]; exact HRC9.out.drew)
      rw [← hw10]
      clear hw10
      go_upto_region 13 with (first
        | (at_builtin
           refine wpList_append_recs _ rfl (.tmp 121) (.tmp 122) 35 rfl recP w10.heap.size 49 ti _ 48 Try.underlying35 HTI.out.1 HTI.out.2.1 HTI.out.2.2.1 HTI.out.2.2.2 rfl (.slice (some ⟨w10.heap.size, 0, none⟩) 0 0) [] rfl (OwnR.empty recP w10 49 w10.heap.size (Nat.le_refl _)) 0 (.slice raA rA rcA) rsA rfl ((HRA10.out.below ((Below.refl _ _).alloc (Nat.le_refl _) _)).o) ?_ (by omega) (by simp) ?_
           · have h1 := HNA.out
             have h2 := HLE.out.1
             simp only [List.length_nil]
             omega
           intro v11 w11 ho11 hg11
           have q11 : Below w10.heap.size w10 w11 := ((Below.refl w10.heap.size w10).alloc (Nat.le_refl _) _).grown hg11 (by simp) (fun j hj => by have e : w10.heap.size = j := Option.some.inj hj; omega)
           have HO11 := Lib.hid ho11
           have HQ11 := Lib.hid q11
           obtain ⟨a11, c11, hv11⟩ := ho11.sl
           subst hv11
           clear ho11 hg11 q11)
        | (at_builtin
           refine wpList_append_recs _ rfl (.tmp 123) (.tmp 124) 35 rfl recP w10.heap.size 49 ti _ 48 Try.underlying35 HTI.out.1 HTI.out.2.1 HTI.out.2.2.1 HTI.out.2.2.2 rfl (.slice a11 ([] ++ rsA).length c11) ([] ++ rsA) rfl HO11.out 0 (.slice raB rB rcB) rsB rfl ((HRB10.out.below HQ11.out).o) ?_ (by omega) HQ11.out.size ?_
           · have h1 := HNA.out
             have h2 := HNB.out
             have h3 := HLE.out
             simp only [List.nil_append]
             omega
           intro v12 w12 ho12 hg12
           have q12 : Below w10.heap.size w10 w12 := HQ11.out.grown hg12 HQ11.out.size (fun j hj => (HO11.out.base_le hj).1)
           have HD12 := Lib.hid (HD10.out.below q12)
           rw [List.nil_append] at ho12
           have HRC12 := Lib.hid (HRC10.out.below q12)
           have HRX12 : Hid (RP w12 v12 (rsA ++ rsB) (kA ++ kB)) := Lib.hid ⟨ho12.weak (Nat.zero_le _), (HRA10.out.below q12).p.app (HRB10.out.below q12).p⟩
           have hl12 : (rsA ++ rsB).length = rA + rB := by rw [List.length_append, HNA.out.2, HNB.out.2]
           obtain ⟨a12, c12, hv12⟩ := ho12.sl
           rw [hl12] at hv12
           subst hv12
           clear ho12 hg12 q12 hl12))
      go_wp2_with fail
      go_ret
      exact ⟨rfl, HD12.out.sx.b⟩
    | some gv =>
      have HGT := Lib.hid hgt
      have hkp : kP = [(at', gv)] := by rw [← HKP.out, point_pairs HD8.out.ti HGD.out.rise at', hgt]; rfl
      have HKPV := Lib.hid hkp
      have hr1 : rP = 1 := by rw [HNP.out.1, hkp]; rfl
      subst hr1
      clear hgt hkp
      go_upto_region 11 with (first
        | (go_at_call 21
           refine (refGet_any a h2 at' aa an ac _ HD8.out.ti HGD.out.lim HCN.out (HA.out.below HD8.out.sx.b)).mono ?_
           rw [HGT.out]
           rintro _ w9 ⟨a9, n9, c9, rfl, hi9, hb9⟩
           have HD9 := Lib.hid (HD8.out.below hb9)
           have HRA9 := Lib.hid (HRA8.out.below hb9)
           have HRB9 := Lib.hid (HRB8.out.below hb9)
           have HRC9 := Lib.hid (HRC8.out.below hb9)
           have HRP9 := Lib.hid (HRP8.out.below hb9)
           have HI9 := Lib.hid hi9
           clear hb9 hi9 x0 x1 x2 x3 x4))
      obtain ⟨w10, hw10⟩ : ∃ w10 : World, w10 = w9.drew := ⟨_, rfl⟩
      have hk1 : kP.length = 1 := by rw [HKPV.out]; rfl
      have hps : 0 < rsP.length := by rw [HNP.out.2]; omega
      obtain ⟨gP, hgP, hcP⟩ := HRP9.out.drew.o.at 0 hps
      subst hgP
      have hvP : InBytes w9.drew (rsP[0]).va (rsP[0]).vn (rsP[0]).vc gv := by
        have q := (HRP9.out.drew.p.2 0 hps (by omega)).2
        simp only [HKPV.out] at q
        exact q
      have HS11 : Hid ((fun W => W.cell? ⟨gP, 1, none⟩ = some (.slice (rsP[0]).va (rsP[0]).vn (rsP[0]).vc) ∧ (convert 22 9 (.slice (rsP[0]).va (rsP[0]).vn (rsP[0]).vc)).run Try.prog W = .ok (.string (strOfNums gv)) W ∧ (convert 22 9 (.slice a9 n9 c9)).run Try.prog W = .ok (.string (strOfNums gv)) W) w9.drew) := Lib.hid ⟨by have q := hcP 1 _ rfl; simpa [recP] using q, conv_key hvP, conv_key (HI9.out.below (Below.refl _ _).drew)⟩
      have hse : ((strOfNums gv).toList == (strOfNums gv).toList) = true := by simp
      clear hcP hvP hk1
      refine wp_region_held_drew (S := (fun W => W.cell? ⟨gP, 1, none⟩ = some (.slice (rsP[0]).va (rsP[0]).vn (rsP[0]).vc) ∧ (convert 22 9 (.slice (rsP[0]).va (rsP[0]).vn (rsP[0]).vc)).run Try.prog W = .ok (.string (strOfNums gv)) W ∧ (convert 22 9 (.slice a9 n9 c9)).run Try.prog W = .ok (.string (strOfNums gv)) W)) (by kernel_rfl) HS11.out (fun hHeld => ?_)
      refine take_w (i := 0) (oi := ?oZ85) (v := ?vZ85) ?hiZ85 (by kernel_rfl) (by kernel_rfl) (by kernel_rfl) ?hQZ85 ?hwZ85 ?hyZ85 (by assumption) ?restZ85
      case hiZ85 => (simp only [List.getElem?_toArray, List.getElem?_cons_zero] <;> rfl)
      case hQZ85 => exact (fun _ _ _ h => h)
      case hwZ85 => rfl
      case hyZ85 => (intro w hSw; (try dsimp only at hSw); go_simp; try with_reducible rfl)
      (try simp only [Act.put, List.setIfInBounds_toArray, List.set_cons_zero, List.set_cons_succ])
      refine take_w (i := 1) (oi := ?oZ86) (v := ?vZ86) ?hiZ86 (by kernel_rfl) (by kernel_rfl) (by kernel_rfl) ?hQZ86 ?hwZ86 ?hyZ86 (by assumption) ?restZ86
      case hiZ86 => (simp only [List.getElem?_toArray, List.getElem?_cons_succ, List.getElem?_cons_zero] <;> rfl)
      case hQZ86 => exact (fun _ _ _ h => h)
      case hwZ86 => rfl
      case hyZ86 => (intro w hSw; (try dsimp only at hSw); go_simp; try with_reducible rfl)
      (try simp only [Act.put, List.setIfInBounds_toArray, List.set_cons_zero, List.set_cons_succ])
      refine take_w (i := 2) (oi := ?oZ87) (v := ?vZ87) ?hiZ87 (by kernel_rfl) (by kernel_rfl) (by kernel_rfl) ?hQZ87 ?hwZ87 ?hyZ87 (by assumption) ?restZ87
      case hiZ87 => (simp only [List.getElem?_toArray, List.getElem?_cons_succ, List.getElem?_cons_zero] <;> rfl)
      case hQZ87 => exact (fun _ _ _ h => h)
      case hwZ87 => rfl
      case hyZ87 => (intro w hSw; (try dsimp only at hSw); go_simp; try with_reducible rfl)
      (try simp only [Act.put, List.setIfInBounds_toArray, List.set_cons_zero, List.set_cons_succ])
      refine take_w (i := 3) (oi := ?oZ88) (v := ?vZ88) ?hiZ88 (by kernel_rfl) (by kernel_rfl) (by kernel_rfl) ?hQZ88 ?hwZ88 ?hyZ88 (by assumption) ?restZ88
      case hiZ88 => (simp only [List.getElem?_toArray, List.getElem?_cons_succ, List.getElem?_cons_zero] <;> rfl)
      case hQZ88 => exact (fun _ _ _ h => h)
      case hwZ88 => rfl
      case hyZ88 => (intro w hSw; (try dsimp only at hSw); go_simp; try with_reducible rfl)
      (try simp only [Act.put, List.setIfInBounds_toArray, List.set_cons_zero, List.set_cons_succ])
      refine take_u (i := 4) (oi := ?oZ89) ?hiZ89 (by kernel_rfl) (by kernel_rfl) (by kernel_rfl) ?hQZ89 ?hwZ89 (by assumption) ?restZ89
      case hiZ89 => (simp only [List.getElem?_toArray, List.getElem?_cons_succ, List.getElem?_cons_zero] <;> rfl)
      case hQZ89 => exact (fun _ _ _ h => h)
      case hwZ89 => rfl
      (try simp only [Act.put, List.setIfInBounds_toArray, List.set_cons_zero, List.set_cons_succ])
      refine take_u (i := 5) (oi := ?oZ90) ?hiZ90 (by kernel_rfl) (by kernel_rfl) (by kernel_rfl) ?hQZ90 ?hwZ90 (by assumption) ?restZ90
      case hiZ90 => (simp only [List.getElem?_toArray, List.getElem?_cons_succ, List.getElem?_cons_zero] <;> rfl)
      case hQZ90 => exact (fun _ _ _ h => h)
      case hwZ90 => rfl
      (try simp only [Act.put, List.setIfInBounds_toArray, List.set_cons_zero, List.set_cons_succ])
      refine take_w (i := 6) (oi := ?oZ91) (v := ?vZ91) ?hiZ91 (by kernel_rfl) (by kernel_rfl) (by kernel_rfl) ?hQZ91 ?hwZ91 ?hyZ91 (by assumption) ?restZ91
      case hiZ91 => (simp only [List.getElem?_toArray, List.getElem?_cons_succ, List.getElem?_cons_zero] <;> rfl)
      case hQZ91 => exact (fun _ _ _ h => h)
      case hwZ91 => rfl
      case hyZ91 => (intro w hSw; (try dsimp only at hSw); go_simp; try with_reducible rfl)
      (try simp only [Act.put, List.setIfInBounds_toArray, List.set_cons_zero, List.set_cons_succ])
      refine take_w (i := 7) (oi := ?oZ92) (v := ?vZ92) ?hiZ92 (by kernel_rfl) (by kernel_rfl) (by kernel_rfl) ?hQZ92 ?hwZ92 ?hyZ92 (by assumption) ?restZ92
      case hiZ92 => (simp only [List.getElem?_toArray, List.getElem?_cons_succ, List.getElem?_cons_zero] <;> rfl)
      case hQZ92 => exact (fun _ _ _ h => h)
      case hwZ92 => rfl
      case hyZ92 => (intro w hSw; (try dsimp only at hSw); go_simp; try with_reducible rfl)
      (try simp only [Act.put, List.setIfInBounds_toArray, List.set_cons_zero, List.set_cons_succ])
      refine take_w (i := 8) (oi := ?oZ93) (v := ?vZ93) ?hiZ93 (by kernel_rfl) (by kernel_rfl) (by kernel_rfl) ?hQZ93 ?hwZ93 ?hyZ93 (by assumption) ?restZ93
      case hiZ93 => (simp only [List.getElem?_toArray, List.getElem?_cons_succ, List.getElem?_cons_zero] <;> rfl)
      case hQZ93 => exact (fun _ _ _ h => h)
      case hwZ93 => rfl
      case hyZ93 => (intro w hSw; (try dsimp only at hSw); go_simp; try with_reducible rfl)
      (try simp only [Act.put, List.setIfInBounds_toArray, List.set_cons_zero, List.set_cons_succ])
      refine take_w (i := 9) (oi := ?oZ94) (v := ?vZ94) ?hiZ94 (by kernel_rfl) (by kernel_rfl) (by kernel_rfl) ?hQZ94 ?hwZ94 ?hyZ94 (by assumption) ?restZ94
      case hiZ94 => (simp only [List.getElem?_toArray, List.getElem?_cons_succ, List.getElem?_cons_zero] <;> rfl)
      case hQZ94 => exact (fun _ _ _ h => h)
      case hwZ94 => rfl
      case hyZ94 => (intro w hSw; (try dsimp only at hSw); go_simp; try with_reducible rfl)
      (try simp only [Act.put, List.setIfInBounds_toArray, List.set_cons_zero, List.set_cons_succ])
      refine take_w (i := 10) (oi := ?oZ95) (v := ?vZ95) ?hiZ95 (by kernel_rfl) (by kernel_rfl) (by kernel_rfl) ?hQZ95 ?hwZ95 ?hyZ95 (by assumption) ?restZ95
      case hiZ95 => (simp only [List.getElem?_toArray, List.getElem?_cons_succ, List.getElem?_cons_zero] <;> rfl)
      case hQZ95 => exact (fun _ _ _ h => h)
      case hwZ95 => rfl
      case hyZ95 => (intro w hSw; (try dsimp only at hSw); go_simp; try with_reducible rfl)
      (try simp only [Act.put, List.setIfInBounds_toArray, List.set_cons_zero, List.set_cons_succ])
      refine take_w (i := 11) (oi := ?oZ96) (v := ?vZ96) ?hiZ96 (by kernel_rfl) (by kernel_rfl) (by kernel_rfl) ?hQZ96 ?hwZ96 ?hyZ96 (by assumption) ?restZ96
      case hiZ96 => (simp only [List.getElem?_toArray, List.getElem?_cons_succ, List.getElem?_cons_zero] <;> rfl)
      case hQZ96 => exact (fun _ _ _ h => h)
      case hwZ96 => rfl
      case hyZ96 => (intro w hSw; (try dsimp only at hSw); go_simp; try with_reducible rfl)
      (try simp only [Act.put, List.setIfInBounds_toArray, List.set_cons_zero, List.set_cons_succ])
      refine take_w (i := 12) (oi := ?oZ97) (v := ?vZ97) ?hiZ97 (by kernel_rfl) (by kernel_rfl) (by kernel_rfl) ?hQZ97 ?hwZ97 ?hyZ97 (by assumption) ?restZ97
      case hiZ97 => (simp only [List.getElem?_toArray, List.getElem?_cons_succ, List.getElem?_cons_zero] <;> rfl)
      case hQZ97 => exact (fun _ _ _ h => h)
      case hwZ97 => rfl
      case hyZ97 => (intro w hSw; (try dsimp only at hSw); go_simp; try with_reducible rfl)
      (try simp only [Act.put, List.setIfInBounds_toArray, List.set_cons_zero, List.set_cons_succ])
      refine take_w (i := 13) (oi := ?oZ98) (v := ?vZ98) ?hiZ98 (by kernel_rfl) (by kernel_rfl) (by kernel_rfl) ?hQZ98 ?hwZ98 ?hyZ98 (by assumption) ?restZ98
      case hiZ98 => (simp only [List.getElem?_toArray, List.getElem?_cons_succ, List.getElem?_cons_zero] <;> rfl)
      case hQZ98 => exact (fun _ _ _ h => h)
      case hwZ98 => rfl
      case hyZ98 => (intro w hSw; (try dsimp only at hSw); go_simp; try with_reducible rfl)
      (try simp only [Act.put, List.setIfInBounds_toArray, List.set_cons_zero, List.set_cons_succ])
      refine take_w (i := 14) (oi := ?oZ99) (v := ?vZ99) ?hiZ99 (by kernel_rfl) (by kernel_rfl) (by kernel_rfl) ?hQZ99 ?hwZ99 ?hyZ99 (by assumption) ?restZ99
      case hiZ99 => (simp only [List.getElem?_toArray, List.getElem?_cons_succ, List.getElem?_cons_zero] <;> rfl)
      case hQZ99 => exact (fun _ _ _ h => h)
      case hwZ99 => rfl
      case hyZ99 => (intro w hSw; (try dsimp only at hSw); go_simp; try with_reducible rfl)
      (try simp only [Act.put, List.setIfInBounds_toArray, List.set_cons_zero, List.set_cons_succ])
      refine take_w (i := 15) (oi := ?oZ100) (v := ?vZ100) ?hiZ100 (by kernel_rfl) (by kernel_rfl) (by kernel_rfl) ?hQZ100 ?hwZ100 ?hyZ100 (by assumption) ?restZ100
      case hiZ100 => (simp only [List.getElem?_toArray, List.getElem?_cons_succ, List.getElem?_cons_zero] <;> rfl)
      case hQZ100 => exact (fun _ _ _ h => h)
      case hwZ100 => rfl
      case hyZ100 => (intro w hSw; (try dsimp only at hSw); go_simp; try with_reducible rfl)
      (try simp only [Act.put, List.setIfInBounds_toArray, List.set_cons_zero, List.set_cons_succ])
      refine take_w (i := 16) (oi := ?oZ101) (v := ?vZ101) ?hiZ101 (by kernel_rfl) (by kernel_rfl) (by kernel_rfl) ?hQZ101 ?hwZ101 ?hyZ101 (by assumption) ?restZ101
      case hiZ101 => (simp only [List.getElem?_toArray, List.getElem?_cons_succ, List.getElem?_cons_zero] <;> rfl)
      case hQZ101 => exact (fun _ _ _ h => h)
      case hwZ101 => rfl
      case hyZ101 => (intro w hSw; (try dsimp only at hSw); go_simp; try with_reducible rfl)
      (try simp only [Act.put, List.setIfInBounds_toArray, List.set_cons_zero, List.set_cons_succ])
      refine take_w (i := 17) (oi := ?oZ102) (v := ?vZ102) ?hiZ102 (by kernel_rfl) (by kernel_rfl) (by kernel_rfl) ?hQZ102 ?hwZ102 ?hyZ102 (by assumption) ?restZ102
      case hiZ102 => (simp only [List.getElem?_toArray, List.getElem?_cons_succ, List.getElem?_cons_zero] <;> rfl)
      case hQZ102 => exact (fun _ _ _ h => h)
      case hwZ102 => rfl
      case hyZ102 => (intro w hSw; (try dsimp only at hSw); go_simp; try with_reducible rfl)
      (try simp only [Act.put, List.setIfInBounds_toArray, List.set_cons_zero, List.set_cons_succ])
      refine take_w (i := 18) (oi := ?oZ103) (v := ?vZ103) ?hiZ103 (by kernel_rfl) (by kernel_rfl) (by kernel_rfl) ?hQZ103 ?hwZ103 ?hyZ103 (by assumption) ?restZ103
      case hiZ103 => (simp only [List.getElem?_toArray, List.getElem?_cons_succ, List.getElem?_cons_zero] <;> rfl)
      case hQZ103 => exact (fun _ _ _ h => h)
      case hwZ103 => rfl
      case hyZ103 => (intro w hSw; (try dsimp only at hSw); go_simp; try with_reducible rfl)
      (try simp only [Act.put, List.setIfInBounds_toArray, List.set_cons_zero, List.set_cons_succ])
      refine take_w (i := 19) (oi := ?oZ104) (v := ?vZ104) ?hiZ104 (by kernel_rfl) (by kernel_rfl) (by kernel_rfl) ?hQZ104 ?hwZ104 ?hyZ104 (by assumption) ?restZ104
      case hiZ104 => (simp only [List.getElem?_toArray, List.getElem?_cons_succ, List.getElem?_cons_zero] <;> rfl)
      case hQZ104 => exact (fun _ _ _ h => h)
      case hwZ104 => rfl
      case hyZ104 => (intro w hSw; (try dsimp only at hSw); go_simp; try with_reducible rfl)
      (try simp only [Act.put, List.setIfInBounds_toArray, List.set_cons_zero, List.set_cons_succ])
      refine take_w (i := 20) (oi := ?oZ105) (v := ?vZ105) ?hiZ105 (by kernel_rfl) (by kernel_rfl) (by kernel_rfl) ?hQZ105 ?hwZ105 ?hyZ105 (by assumption) ?restZ105
      case hiZ105 => (simp only [List.getElem?_toArray, List.getElem?_cons_succ, List.getElem?_cons_zero] <;> rfl)
      case hQZ105 => exact (fun _ _ _ h => h)
      case hwZ105 => rfl
      case hyZ105 => (intro w hSw; (try dsimp only at hSw); go_simp; try with_reducible rfl)
      (try simp only [Act.put, List.setIfInBounds_toArray, List.set_cons_zero, List.set_cons_succ])
      refine take_w (i := 21) (oi := ?oZ106) (v := ?vZ106) ?hiZ106 (by kernel_rfl) (by kernel_rfl) (by kernel_rfl) ?hQZ106 ?hwZ106 ?hyZ106 (by assumption) ?restZ106
      case hiZ106 => (simp only [List.getElem?_toArray, List.getElem?_cons_succ, List.getElem?_cons_zero] <;> rfl)
      case hQZ106 => exact (fun _ _ _ h => h)
      case hwZ106 => rfl
      case hyZ106 => (intro w hSw; (try dsimp only at hSw); go_simp; try with_reducible rfl)
      (try simp only [Act.put, List.setIfInBounds_toArray, List.set_cons_zero, List.set_cons_succ])
      refine take_w (i := 22) (oi := ?oZ107) (v := ?vZ107) ?hiZ107 (by kernel_rfl) (by kernel_rfl) (by kernel_rfl) ?hQZ107 ?hwZ107 ?hyZ107 (by assumption) ?restZ107
      case hiZ107 => (simp only [List.getElem?_toArray, List.getElem?_cons_succ, List.getElem?_cons_zero] <;> rfl)
      case hQZ107 => exact (fun _ _ _ h => h)
      case hwZ107 => rfl
      case hyZ107 => (intro w hSw; (try dsimp only at hSw); go_simp; try with_reducible rfl)
      (try simp only [Act.put, List.setIfInBounds_toArray, List.set_cons_zero, List.set_cons_succ])
      refine take_w (i := 23) (oi := ?oZ108) (v := ?vZ108) ?hiZ108 (by kernel_rfl) (by kernel_rfl) (by kernel_rfl) ?hQZ108 ?hwZ108 ?hyZ108 (by assumption) ?restZ108
      case hiZ108 => (simp only [List.getElem?_toArray, List.getElem?_cons_succ, List.getElem?_cons_zero] <;> rfl)
      case hQZ108 => exact (fun _ _ _ h => h)
      case hwZ108 => rfl
      case hyZ108 => (intro w hSw; (try dsimp only at hSw); go_simp; try with_reducible rfl)
      (try simp only [Act.put, List.setIfInBounds_toArray, List.set_cons_zero, List.set_cons_succ])
      refine take_w (i := 24) (oi := ?oZ109) (v := ?vZ109) ?hiZ109 (by kernel_rfl) (by kernel_rfl) (by kernel_rfl) ?hQZ109 ?hwZ109 ?hyZ109 (by assumption) ?restZ109
      case hiZ109 => (simp only [List.getElem?_toArray, List.getElem?_cons_succ, List.getElem?_cons_zero] <;> rfl)
      case hQZ109 => exact (fun _ _ _ h => h)
      case hwZ109 => rfl
      case hyZ109 => (intro w hSw; (try dsimp only at hSw); go_simp; try with_reducible rfl)
      (try simp only [Act.put, List.setIfInBounds_toArray, List.set_cons_zero, List.set_cons_succ])
      refine take_w (i := 25) (oi := ?oZ110) (v := ?vZ110) ?hiZ110 (by kernel_rfl) (by kernel_rfl) (by kernel_rfl) ?hQZ110 ?hwZ110 ?hyZ110 (by assumption) ?restZ110
      case hiZ110 => (simp only [List.getElem?_toArray, List.getElem?_cons_succ, List.getElem?_cons_zero] <;> rfl)
      case hQZ110 => exact (fun _ _ _ h => h)
      case hwZ110 => rfl
      case hyZ110 => (intro w hSw; (try dsimp only at hSw); go_simp; try with_reducible rfl)
      (try simp only [Act.put, List.setIfInBounds_toArray, List.set_cons_zero, List.set_cons_succ])
      refine wpAnyH_done (by kernel_rfl) ?_ _
      clear hHeld
      clear HS11
      have HD10 : Hid (QX w w10 sp f tt g8 h2 a) := Lib.hid (by rw [hw10]; exact HD9.out.drew)
      have HRA10 : Hid (RP w10 (.slice raA rA rcA) rsA kA) := Lib.hid (by rw [hw10]; exact HRA9.out.drew)
      have HRB10 : Hid (RP w10 (.slice raB rB rcB) rsB kB) := Lib.hid (by rw [hw10]; exact HRB9.out.drew)
      have HRC10 : Hid (RP w10 (.slice raC rC rcC) rsC kC) := Lib.hid (by rw [hw10]; exact HRC9.out.drew)
      rw [← hw10]
      clear hw10
      go_upto_region 13 with (first
        | (at_builtin
           refine wpList_append_recs _ rfl (.tmp 121) (.tmp 122) 35 rfl recP w10.heap.size 49 ti _ 48 Try.underlying35 HTI.out.1 HTI.out.2.1 HTI.out.2.2.1 HTI.out.2.2.2 rfl (.slice (some ⟨w10.heap.size, 0, none⟩) 0 0) [] rfl (OwnR.empty recP w10 49 w10.heap.size (Nat.le_refl _)) 0 (.slice raA rA rcA) rsA rfl ((HRA10.out.below ((Below.refl _ _).alloc (Nat.le_refl _) _)).o) ?_ (by omega) (by simp) ?_
           · have h1 := HNA.out
             have h2 := HLE.out.1
             simp only [List.length_nil]
             omega
           intro v11 w11 ho11 hg11
           have q11 : Below w10.heap.size w10 w11 := ((Below.refl w10.heap.size w10).alloc (Nat.le_refl _) _).grown hg11 (by simp) (fun j hj => by have e : w10.heap.size = j := Option.some.inj hj; omega)
           have HO11 := Lib.hid ho11
           have HQ11 := Lib.hid q11
           obtain ⟨a11, c11, hv11⟩ := ho11.sl
           subst hv11
           clear ho11 hg11 q11)
        | (at_builtin
           refine wpList_append_recs _ rfl (.tmp 123) (.tmp 124) 35 rfl recP w10.heap.size 49 ti _ 48 Try.underlying35 HTI.out.1 HTI.out.2.1 HTI.out.2.2.1 HTI.out.2.2.2 rfl (.slice a11 ([] ++ rsA).length c11) ([] ++ rsA) rfl HO11.out 0 (.slice raB rB rcB) rsB rfl ((HRB10.out.below HQ11.out).o) ?_ (by omega) HQ11.out.size ?_
           · have h1 := HNA.out
             have h2 := HNB.out
             have h3 := HLE.out
             simp only [List.nil_append]
             omega
           intro v12 w12 ho12 hg12
           have q12 : Below w10.heap.size w10 w12 := HQ11.out.grown hg12 HQ11.out.size (fun j hj => (HO11.out.base_le hj).1)
           have HD12 := Lib.hid (HD10.out.below q12)
           rw [List.nil_append] at ho12
           have HRC12 := Lib.hid (HRC10.out.below q12)
           have HRX12 : Hid (RP w12 v12 (rsA ++ rsB) (kA ++ kB)) := Lib.hid ⟨ho12.weak (Nat.zero_le _), (HRA10.out.below q12).p.app (HRB10.out.below q12).p⟩
           have hl12 : (rsA ++ rsB).length = rA + rB := by rw [List.length_append, HNA.out.2, HNB.out.2]
           obtain ⟨a12, c12, hv12⟩ := ho12.sl
           rw [hl12] at hv12
           subst hv12
           clear ho12 hg12 q12 hl12))
      go_wp2_with fail
      go_ret
      exact ⟨rfl, HD12.out.sx.b⟩
  | false =>
    rw [c1, Bool.not_false] at hle1
    cases co : sp.out with
    | true =>
      rw [co] at y2
      have HIN : Hid (ltL at' f = false ∧ (sp.out || !ltL tt at') = true) := Lib.hid ⟨c1, by rw [co]; rfl⟩
      clear c1 co hle2
      obtain ⟨x0, x1, x2, x3, x4⟩ := HD8.out.tb.cells
      cases hgt : a.get at' with
      | none =>
        have HGT := Lib.hid hgt
        have hkp : kP = [] := by rw [← HKP.out, point_pairs HD8.out.ti HGD.out.rise at', hgt]; rfl
        have hr0 : rP = 0 := by rw [HNP.out.1, hkp]; rfl
        subst hr0
        clear hgt hkp
        go_upto_region 11 with (first
          | (go_at_call 21
             refine (refGet_any a h2 at' aa an ac _ HD8.out.ti HGD.out.lim HCN.out (HA.out.below HD8.out.sx.b)).mono ?_
             rw [HGT.out]
             rintro _ w9 ⟨a9, n9, c9, rfl, hi9, hb9⟩
             have HD9 := Lib.hid (HD8.out.below hb9)
             have HRA9 := Lib.hid (HRA8.out.below hb9)
             have HRB9 := Lib.hid (HRB8.out.below hb9)
             have HRC9 := Lib.hid (HRC8.out.below hb9)
             have HRP9 := Lib.hid (HRP8.out.below hb9)
             have HI9 := Lib.hid hi9
             clear hb9 hi9 x0 x1 x2 x3 x4))
        obtain ⟨w10, hw10⟩ : ∃ w10 : World, w10 = w9.drew := ⟨_, rfl⟩
        refine wp_region_held_drew (S := (fun _ => True)) (by kernel_rfl) trivial (fun hHeld => ?_)
        refine take_w (i := 0) (oi := ?oZ111) (v := ?vZ111) ?hiZ111 (by kernel_rfl) (by kernel_rfl) (by kernel_rfl) ?hQZ111 ?hwZ111 ?hyZ111 (by assumption) ?restZ111
        case hiZ111 => (simp only [List.getElem?_toArray, List.getElem?_cons_zero] <;> rfl)
        case hQZ111 => exact (fun _ _ _ h => h)
        case hwZ111 => rfl
        case hyZ111 => (intro w hSw; (try dsimp only at hSw); go_simp; try with_reducible rfl)
        (try simp only [Act.put, List.setIfInBounds_toArray, List.set_cons_zero, List.set_cons_succ])
        refine take_w (i := 1) (oi := ?oZ112) (v := ?vZ112) ?hiZ112 (by kernel_rfl) (by kernel_rfl) (by kernel_rfl) ?hQZ112 ?hwZ112 ?hyZ112 (by assumption) ?restZ112
        case hiZ112 => (simp only [List.getElem?_toArray, List.getElem?_cons_succ, List.getElem?_cons_zero] <;> rfl)
        case hQZ112 => exact (fun _ _ _ h => h)
        case hwZ112 => rfl
        case hyZ112 => (intro w hSw; (try dsimp only at hSw); go_simp; try with_reducible rfl)
        (try simp only [Act.put, List.setIfInBounds_toArray, List.set_cons_zero, List.set_cons_succ])
        refine take_w (i := 2) (oi := ?oZ113) (v := ?vZ113) ?hiZ113 (by kernel_rfl) (by kernel_rfl) (by kernel_rfl) ?hQZ113 ?hwZ113 ?hyZ113 (by assumption) ?restZ113
        case hiZ113 => (simp only [List.getElem?_toArray, List.getElem?_cons_succ, List.getElem?_cons_zero] <;> rfl)
        case hQZ113 => exact (fun _ _ _ h => h)
        case hwZ113 => rfl
        case hyZ113 => (intro w hSw; (try dsimp only at hSw); go_simp; try with_reducible rfl)
        (try simp only [Act.put, List.setIfInBounds_toArray, List.set_cons_zero, List.set_cons_succ])
        refine take_w (i := 3) (oi := ?oZ114) (v := ?vZ114) ?hiZ114 (by kernel_rfl) (by kernel_rfl) (by kernel_rfl) ?hQZ114 ?hwZ114 ?hyZ114 (by assumption) ?restZ114
        case hiZ114 => (simp only [List.getElem?_toArray, List.getElem?_cons_succ, List.getElem?_cons_zero] <;> rfl)
        case hQZ114 => exact (fun _ _ _ h => h)
        case hwZ114 => rfl
        case hyZ114 => (intro w hSw; (try dsimp only at hSw); go_simp; try with_reducible rfl)
        (try simp only [Act.put, List.setIfInBounds_toArray, List.set_cons_zero, List.set_cons_succ])
        refine take_w (i := 4) (oi := ?oZ115) (v := ?vZ115) ?hiZ115 (by kernel_rfl) (by kernel_rfl) (by kernel_rfl) ?hQZ115 ?hwZ115 ?hyZ115 (by assumption) ?restZ115
        case hiZ115 => (simp only [List.getElem?_toArray, List.getElem?_cons_succ, List.getElem?_cons_zero] <;> rfl)
        case hQZ115 => exact (fun _ _ _ h => h)
        case hwZ115 => rfl
        case hyZ115 => (intro w hSw; (try dsimp only at hSw); go_simp; try with_reducible rfl)
        (try simp only [Act.put, List.setIfInBounds_toArray, List.set_cons_zero, List.set_cons_succ])
        refine take_w (i := 5) (oi := ?oZ116) (v := ?vZ116) ?hiZ116 (by kernel_rfl) (by kernel_rfl) (by kernel_rfl) ?hQZ116 ?hwZ116 ?hyZ116 (by assumption) ?restZ116
        case hiZ116 => (simp only [List.getElem?_toArray, List.getElem?_cons_succ, List.getElem?_cons_zero] <;> rfl)
        case hQZ116 => exact (fun _ _ _ h => h)
        case hwZ116 => rfl
        case hyZ116 => (intro w hSw; (try dsimp only at hSw); go_simp; try with_reducible rfl)
        (try simp only [Act.put, List.setIfInBounds_toArray, List.set_cons_zero, List.set_cons_succ])
        refine take_w (i := 6) (oi := ?oZ117) (v := ?vZ117) ?hiZ117 (by kernel_rfl) (by kernel_rfl) (by kernel_rfl) ?hQZ117 ?hwZ117 ?hyZ117 (by assumption) ?restZ117
        case hiZ117 => (simp only [List.getElem?_toArray, List.getElem?_cons_succ, List.getElem?_cons_zero] <;> rfl)
        case hQZ117 => exact (fun _ _ _ h => h)
        case hwZ117 => rfl
        case hyZ117 => (intro w hSw; (try dsimp only at hSw); go_simp; try with_reducible rfl)
        (try simp only [Act.put, List.setIfInBounds_toArray, List.set_cons_zero, List.set_cons_succ])
        refine take_w (i := 7) (oi := ?oZ118) (v := ?vZ118) ?hiZ118 (by kernel_rfl) (by kernel_rfl) (by kernel_rfl) ?hQZ118 ?hwZ118 ?hyZ118 (by assumption) ?restZ118
        case hiZ118 => (simp only [List.getElem?_toArray, List.getElem?_cons_succ, List.getElem?_cons_zero] <;> rfl)
        case hQZ118 => exact (fun _ _ _ h => h)
        case hwZ118 => rfl
        case hyZ118 => (intro w hSw; (try dsimp only at hSw); go_simp; try with_reducible rfl)
        (try simp only [Act.put, List.setIfInBounds_toArray, List.set_cons_zero, List.set_cons_succ])
        refine take_u (i := 8) (oi := ?oZ119) ?hiZ119 (by kernel_rfl) (by kernel_rfl) (by kernel_rfl) ?hQZ119 ?hwZ119 (by assumption) ?restZ119
        case hiZ119 => (simp only [List.getElem?_toArray, List.getElem?_cons_succ, List.getElem?_cons_zero] <;> rfl)
        case hQZ119 => exact (fun _ _ _ h => h)
        case hwZ119 => rfl
        (try simp only [Act.put, List.setIfInBounds_toArray, List.set_cons_zero, List.set_cons_succ])
        refine take_u (i := 9) (oi := ?oZ120) ?hiZ120 (by kernel_rfl) (by kernel_rfl) (by kernel_rfl) ?hQZ120 ?hwZ120 (by assumption) ?restZ120
        case hiZ120 => (simp only [List.getElem?_toArray, List.getElem?_cons_succ, List.getElem?_cons_zero] <;> rfl)
        case hQZ120 => exact (fun _ _ _ h => h)
        case hwZ120 => rfl
        (try simp only [Act.put, List.setIfInBounds_toArray, List.set_cons_zero, List.set_cons_succ])
        refine take_u (i := 10) (oi := ?oZ121) ?hiZ121 (by kernel_rfl) (by kernel_rfl) (by kernel_rfl) ?hQZ121 ?hwZ121 (by assumption) ?restZ121
        case hiZ121 => (simp only [List.getElem?_toArray, List.getElem?_cons_succ, List.getElem?_cons_zero] <;> rfl)
        case hQZ121 => exact (fun _ _ _ h => h)
        case hwZ121 => rfl
        (try simp only [Act.put, List.setIfInBounds_toArray, List.set_cons_zero, List.set_cons_succ])
        refine take_u (i := 11) (oi := ?oZ122) ?hiZ122 (by kernel_rfl) (by kernel_rfl) (by kernel_rfl) ?hQZ122 ?hwZ122 (by assumption) ?restZ122
        case hiZ122 => (simp only [List.getElem?_toArray, List.getElem?_cons_succ, List.getElem?_cons_zero] <;> rfl)
        case hQZ122 => exact (fun _ _ _ h => h)
        case hwZ122 => rfl
        (try simp only [Act.put, List.setIfInBounds_toArray, List.set_cons_zero, List.set_cons_succ])
        refine take_u (i := 12) (oi := ?oZ123) ?hiZ123 (by kernel_rfl) (by kernel_rfl) (by kernel_rfl) ?hQZ123 ?hwZ123 (by assumption) ?restZ123
        case hiZ123 => (simp only [List.getElem?_toArray, List.getElem?_cons_succ, List.getElem?_cons_zero] <;> rfl)
        case hQZ123 => exact (fun _ _ _ h => h)
        case hwZ123 => rfl
        (try simp only [Act.put, List.setIfInBounds_toArray, List.set_cons_zero, List.set_cons_succ])
        refine take_u (i := 13) (oi := ?oZ124) ?hiZ124 (by kernel_rfl) (by kernel_rfl) (by kernel_rfl) ?hQZ124 ?hwZ124 (by assumption) ?restZ124
        case hiZ124 => (simp only [List.getElem?_toArray, List.getElem?_cons_succ, List.getElem?_cons_zero] <;> rfl)
        case hQZ124 => exact (fun _ _ _ h => h)
        case hwZ124 => rfl
        (try simp only [Act.put, List.setIfInBounds_toArray, List.set_cons_zero, List.set_cons_succ])
        refine take_u (i := 14) (oi := ?oZ125) ?hiZ125 (by kernel_rfl) (by kernel_rfl) (by kernel_rfl) ?hQZ125 ?hwZ125 (by assumption) ?restZ125
        case hiZ125 => (simp only [List.getElem?_toArray, List.getElem?_cons_succ, List.getElem?_cons_zero] <;> rfl)
        case hQZ125 => exact (fun _ _ _ h => h)
        case hwZ125 => rfl
        (try simp only [Act.put, List.setIfInBounds_toArray, List.set_cons_zero, List.set_cons_succ])
        refine take_u (i := 15) (oi := ?oZ126) ?hiZ126 (by kernel_rfl) (by kernel_rfl) (by kernel_rfl) ?hQZ126 ?hwZ126 (by assumption) ?restZ126
        case hiZ126 => (simp only [List.getElem?_toArray, List.getElem?_cons_succ, List.getElem?_cons_zero] <;> rfl)
        case hQZ126 => exact (fun _ _ _ h => h)
        case hwZ126 => rfl
        (try simp only [Act.put, List.setIfInBounds_toArray, List.set_cons_zero, List.set_cons_succ])
        refine take_u (i := 16) (oi := ?oZ127) ?hiZ127 (by kernel_rfl) (by kernel_rfl) (by kernel_rfl) ?hQZ127 ?hwZ127 (by assumption) ?restZ127
        case hiZ127 => (simp only [List.getElem?_toArray, List.getElem?_cons_succ, List.getElem?_cons_zero] <;> rfl)
        case hQZ127 => exact (fun _ _ _ h => h)
        case hwZ127 => rfl
        (try simp only [Act.put, List.setIfInBounds_toArray, List.set_cons_zero, List.set_cons_succ])
        refine take_u (i := 17) (oi := ?oZ128) ?hiZ128 (by kernel_rfl) (by kernel_rfl) (by kernel_rfl) ?hQZ128 ?hwZ128 (by assumption) ?restZ128
        case hiZ128 => (simp only [List.getElem?_toArray, List.getElem?_cons_succ, List.getElem?_cons_zero] <;> rfl)
        case hQZ128 => exact (fun _ _ _ h => h)
        case hwZ128 => rfl
        (try simp only [Act.put, List.setIfInBounds_toArray, List.set_cons_zero, List.set_cons_succ])
        refine take_u (i := 18) (oi := ?oZ129) ?hiZ129 (by kernel_rfl) (by kernel_rfl) (by kernel_rfl) ?hQZ129 ?hwZ129 (by assumption) ?restZ129
        case hiZ129 => (simp only [List.getElem?_toArray, List.getElem?_cons_succ, List.getElem?_cons_zero] <;> rfl)
        case hQZ129 => exact (fun _ _ _ h => h)
        case hwZ129 => rfl
        (try simp only [Act.put, List.setIfInBounds_toArray, List.set_cons_zero, List.set_cons_succ])
        refine take_u (i := 19) (oi := ?oZ130) ?hiZ130 (by kernel_rfl) (by kernel_rfl) (by kernel_rfl) ?hQZ130 ?hwZ130 (by assumption) ?restZ130
        case hiZ130 => (simp only [List.getElem?_toArray, List.getElem?_cons_succ, List.getElem?_cons_zero] <;> rfl)
        case hQZ130 => exact (fun _ _ _ h => h)
        case hwZ130 => rfl
        (try simp only [Act.put, List.setIfInBounds_toArray, List.set_cons_zero, List.set_cons_succ])
        refine take_u (i := 20) (oi := ?oZ131) ?hiZ131 (by kernel_rfl) (by kernel_rfl) (by kernel_rfl) ?hQZ131 ?hwZ131 (by assumption) ?restZ131
        case hiZ131 => (simp only [List.getElem?_toArray, List.getElem?_cons_succ, List.getElem?_cons_zero] <;> rfl)
        case hQZ131 => exact (fun _ _ _ h => h)
        case hwZ131 => rfl
        (try simp only [Act.put, List.setIfInBounds_toArray, List.set_cons_zero, List.set_cons_succ])
        refine take_u (i := 21) (oi := ?oZ132) ?hiZ132 (by kernel_rfl) (by kernel_rfl) (by kernel_rfl) ?hQZ132 ?hwZ132 (by assumption) ?restZ132
        case hiZ132 => (simp only [List.getElem?_toArray, List.getElem?_cons_succ, List.getElem?_cons_zero] <;> rfl)
        case hQZ132 => exact (fun _ _ _ h => h)
        case hwZ132 => rfl
        (try simp only [Act.put, List.setIfInBounds_toArray, List.set_cons_zero, List.set_cons_succ])
        refine take_u (i := 22) (oi := ?oZ133) ?hiZ133 (by kernel_rfl) (by kernel_rfl) (by kernel_rfl) ?hQZ133 ?hwZ133 (by assumption) ?restZ133
        case hiZ133 => (simp only [List.getElem?_toArray, List.getElem?_cons_succ, List.getElem?_cons_zero] <;> rfl)
        case hQZ133 => exact (fun _ _ _ h => h)
        case hwZ133 => rfl
        (try simp only [Act.put, List.setIfInBounds_toArray, List.set_cons_zero, List.set_cons_succ])
        refine take_u (i := 23) (oi := ?oZ134) ?hiZ134 (by kernel_rfl) (by kernel_rfl) (by kernel_rfl) ?hQZ134 ?hwZ134 (by assumption) ?restZ134
        case hiZ134 => (simp only [List.getElem?_toArray, List.getElem?_cons_succ, List.getElem?_cons_zero] <;> rfl)
        case hQZ134 => exact (fun _ _ _ h => h)
        case hwZ134 => rfl
        (try simp only [Act.put, List.setIfInBounds_toArray, List.set_cons_zero, List.set_cons_succ])
        refine take_w (i := 24) (oi := ?oZ135) (v := ?vZ135) ?hiZ135 (by kernel_rfl) (by kernel_rfl) (by kernel_rfl) ?hQZ135 ?hwZ135 ?hyZ135 (by assumption) ?restZ135
        case hiZ135 => (simp only [List.getElem?_toArray, List.getElem?_cons_succ, List.getElem?_cons_zero] <;> rfl)
        case hQZ135 => exact (fun _ _ _ h => h)
        case hwZ135 => rfl
        case hyZ135 => (intro w hSw; (try dsimp only at hSw); go_simp; try with_reducible rfl)
        (try simp only [Act.put, List.setIfInBounds_toArray, List.set_cons_zero, List.set_cons_succ])
        refine take_w (i := 25) (oi := ?oZ136) (v := ?vZ136) ?hiZ136 (by kernel_rfl) (by kernel_rfl) (by kernel_rfl) ?hQZ136 ?hwZ136 ?hyZ136 (by assumption) ?restZ136
        case hiZ136 => (simp only [List.getElem?_toArray, List.getElem?_cons_succ, List.getElem?_cons_zero] <;> rfl)
        case hQZ136 => exact (fun _ _ _ h => h)
        case hwZ136 => rfl
        case hyZ136 => (intro w hSw; (try dsimp only at hSw); go_simp; try with_reducible rfl)
        (try simp only [Act.put, List.setIfInBounds_toArray, List.set_cons_zero, List.set_cons_succ])
        refine wpAnyH_done (by kernel_rfl) ?_ _
        clear hHeld
        have HD10 : Hid (QX w w10 sp f tt g8 h2 a) := Lib.hid (by rw [hw10]; exact HD9.out.drew)
        have HRA10 : Hid (RP w10 (.slice raA rA rcA) rsA kA) := Lib.hid (by rw [hw10]; exact HRA9.out.drew)
        have HRB10 : Hid (RP w10 (.slice raB rB rcB) rsB kB) := Lib.hid (by rw [hw10]; exact HRB9.out.drew)
        have HRC10 : Hid (RP w10 (.slice raC rC rcC) rsC kC) := Lib.hid (by rw [hw10]; exact HRC9.out.drew)
        rw [← hw10]
        clear hw10
        go_upto_region 13 with (first
          | (at_builtin
             refine wpList_append_recs _ rfl (.tmp 121) (.tmp 122) 35 rfl recP w10.heap.size 49 ti _ 48 Try.underlying35 HTI.out.1 HTI.out.2.1 HTI.out.2.2.1 HTI.out.2.2.2 rfl (.slice (some ⟨w10.heap.size, 0, none⟩) 0 0) [] rfl (OwnR.empty recP w10 49 w10.heap.size (Nat.le_refl _)) 0 (.slice raA rA rcA) rsA rfl ((HRA10.out.below ((Below.refl _ _).alloc (Nat.le_refl _) _)).o) ?_ (by omega) (by simp) ?_
             · have h1 := HNA.out
               have h2 := HLE.out.1
               simp only [List.length_nil]
               omega
             intro v11 w11 ho11 hg11
             have q11 : Below w10.heap.size w10 w11 := ((Below.refl w10.heap.size w10).alloc (Nat.le_refl _) _).grown hg11 (by simp) (fun j hj => by have e : w10.heap.size = j := Option.some.inj hj; omega)
             have HO11 := Lib.hid ho11
             have HQ11 := Lib.hid q11
             obtain ⟨a11, c11, hv11⟩ := ho11.sl
             subst hv11
             clear ho11 hg11 q11)
          | (at_builtin
             refine wpList_append_recs _ rfl (.tmp 123) (.tmp 124) 35 rfl recP w10.heap.size 49 ti _ 48 Try.underlying35 HTI.out.1 HTI.out.2.1 HTI.out.2.2.1 HTI.out.2.2.2 rfl (.slice a11 ([] ++ rsA).length c11) ([] ++ rsA) rfl HO11.out 0 (.slice raB rB rcB) rsB rfl ((HRB10.out.below HQ11.out).o) ?_ (by omega) HQ11.out.size ?_
             · have h1 := HNA.out
               have h2 := HNB.out
               have h3 := HLE.out
               simp only [List.nil_append]
               omega
             intro v12 w12 ho12 hg12
             have q12 : Below w10.heap.size w10 w12 := HQ11.out.grown hg12 HQ11.out.size (fun j hj => (HO11.out.base_le hj).1)
             have HD12 := Lib.hid (HD10.out.below q12)
             rw [List.nil_append] at ho12
             have HRC12 := Lib.hid (HRC10.out.below q12)
             have HRX12 : Hid (RP w12 v12 (rsA ++ rsB) (kA ++ kB)) := Lib.hid ⟨ho12.weak (Nat.zero_le _), (HRA10.out.below q12).p.app (HRB10.out.below q12).p⟩
             have hl12 : (rsA ++ rsB).length = rA + rB := by rw [List.length_append, HNA.out.2, HNB.out.2]
             obtain ⟨a12, c12, hv12⟩ := ho12.sl
             rw [hl12] at hv12
             subst hv12
             clear ho12 hg12 q12 hl12))
        have hkk : kA ++ kB = kC := by rw [← HKA.out, ← HKB.out, ← HKC.out]; exact parts_whole HIN.out.1 HIN.out.2 HGD.out.rise
        have hrr : rC = rA + rB := by rw [HNC.out.1, ← hkk, List.length_append, HNA.out.1, HNB.out.1]
        subst hrr
        rw [hkk] at HRX12
        go_wp2_with (first
          | (go_at_call 18
             refine (refSameP_any kC (fun i => (rsA ++ rsB).getD i pZ) (fun i => rsC.getD i pZ) a12 raC (rA + rB) c12 rcC _ HNC.out.1 (HRX12.out.o.inRec pZ).2 (HRC12.out.o.inRec pZ).2 HRX12.out.p.byD HRC12.out.p.byD).mono ?_
             rintro _ w13 ⟨rfl, hb13⟩
             have HD13 := Lib.hid (HD12.out.below hb13)
             clear hb13))
        go_ret
        exact ⟨rfl, HD13.out.sx.b⟩
      | some gv =>
        have HGT := Lib.hid hgt
        have hkp : kP = [(at', gv)] := by rw [← HKP.out, point_pairs HD8.out.ti HGD.out.rise at', hgt]; rfl
        have HKPV := Lib.hid hkp
        have hr1 : rP = 1 := by rw [HNP.out.1, hkp]; rfl
        subst hr1
        clear hgt hkp
        go_upto_region 11 with (first
          | (go_at_call 21
             refine (refGet_any a h2 at' aa an ac _ HD8.out.ti HGD.out.lim HCN.out (HA.out.below HD8.out.sx.b)).mono ?_
             rw [HGT.out]
             rintro _ w9 ⟨a9, n9, c9, rfl, hi9, hb9⟩
             have HD9 := Lib.hid (HD8.out.below hb9)
             have HRA9 := Lib.hid (HRA8.out.below hb9)
             have HRB9 := Lib.hid (HRB8.out.below hb9)
             have HRC9 := Lib.hid (HRC8.out.below hb9)
             have HRP9 := Lib.hid (HRP8.out.below hb9)
             have HI9 := Lib.hid hi9
             clear hb9 hi9 x0 x1 x2 x3 x4))
        obtain ⟨w10, hw10⟩ : ∃ w10 : World, w10 = w9.drew := ⟨_, rfl⟩
        have hk1 : kP.length = 1 := by rw [HKPV.out]; rfl
        have hps : 0 < rsP.length := by rw [HNP.out.2]; omega
        obtain ⟨gP, hgP, hcP⟩ := HRP9.out.drew.o.at 0 hps
        subst hgP
        have hvP : InBytes w9.drew (rsP[0]).va (rsP[0]).vn (rsP[0]).vc gv := by
          have q := (HRP9.out.drew.p.2 0 hps (by omega)).2
          simp only [HKPV.out] at q
          exact q
        have HS11 : Hid ((fun W => W.cell? ⟨gP, 1, none⟩ = some (.slice (rsP[0]).va (rsP[0]).vn (rsP[0]).vc) ∧ (convert 22 9 (.slice (rsP[0]).va (rsP[0]).vn (rsP[0]).vc)).run Try.prog W = .ok (.string (strOfNums gv)) W ∧ (convert 22 9 (.slice a9 n9 c9)).run Try.prog W = .ok (.string (strOfNums gv)) W) w9.drew) := Lib.hid ⟨by have q := hcP 1 _ rfl; simpa [recP] using q, conv_key hvP, conv_key (HI9.out.below (Below.refl _ _).drew)⟩
        have hse : ((strOfNums gv).toList == (strOfNums gv).toList) = true := by simp
        clear hcP hvP hk1
        refine wp_region_held_drew (S := (fun W => W.cell? ⟨gP, 1, none⟩ = some (.slice (rsP[0]).va (rsP[0]).vn (rsP[0]).vc) ∧ (convert 22 9 (.slice (rsP[0]).va (rsP[0]).vn (rsP[0]).vc)).run Try.prog W = .ok (.string (strOfNums gv)) W ∧ (convert 22 9 (.slice a9 n9 c9)).run Try.prog W = .ok (.string (strOfNums gv)) W)) (by kernel_rfl) HS11.out (fun hHeld => ?_)
        refine take_w (i := 0) (oi := ?oZ137) (v := ?vZ137) ?hiZ137 (by kernel_rfl) (by kernel_rfl) (by kernel_rfl) ?hQZ137 ?hwZ137 ?hyZ137 (by assumption) ?restZ137
        case hiZ137 => (simp only [List.getElem?_toArray, List.getElem?_cons_zero] <;> rfl)
        case hQZ137 => exact (fun _ _ _ h => h)
        case hwZ137 => rfl
        case hyZ137 => (intro w hSw; (try dsimp only at hSw); go_simp; try with_reducible rfl)
        (try simp only [Act.put, List.setIfInBounds_toArray, List.set_cons_zero, List.set_cons_succ])
        refine take_w (i := 1) (oi := ?oZ138) (v := ?vZ138) ?hiZ138 (by kernel_rfl) (by kernel_rfl) (by kernel_rfl) ?hQZ138 ?hwZ138 ?hyZ138 (by assumption) ?restZ138
        case hiZ138 => (simp only [List.getElem?_toArray, List.getElem?_cons_succ, List.getElem?_cons_zero] <;> rfl)
        case hQZ138 => exact (fun _ _ _ h => h)
        case hwZ138 => rfl
        case hyZ138 => (intro w hSw; (try dsimp only at hSw); go_simp; try with_reducible rfl)
        (try simp only [Act.put, List.setIfInBounds_toArray, List.set_cons_zero, List.set_cons_succ])
        refine take_w (i := 2) (oi := ?oZ139) (v := ?vZ139) ?hiZ139 (by kernel_rfl) (by kernel_rfl) (by kernel_rfl) ?hQZ139 ?hwZ139 ?hyZ139 (by assumption) ?restZ139
        case hiZ139 => (simp only [List.getElem?_toArray, List.getElem?_cons_succ, List.getElem?_cons_zero] <;> rfl)
        case hQZ139 => exact (fun _ _ _ h => h)
        case hwZ139 => rfl
        case hyZ139 => (intro w hSw; (try dsimp only at hSw); go_simp; try with_reducible rfl)
        (try simp only [Act.put, List.setIfInBounds_toArray, List.set_cons_zero, List.set_cons_succ])
        refine take_w (i := 3) (oi := ?oZ140) (v := ?vZ140) ?hiZ140 (by kernel_rfl) (by kernel_rfl) (by kernel_rfl) ?hQZ140 ?hwZ140 ?hyZ140 (by assumption) ?restZ140
        case hiZ140 => (simp only [List.getElem?_toArray, List.getElem?_cons_succ, List.getElem?_cons_zero] <;> rfl)
        case hQZ140 => exact (fun _ _ _ h => h)
        case hwZ140 => rfl
        case hyZ140 => (intro w hSw; (try dsimp only at hSw); go_simp; try with_reducible rfl)
        (try simp only [Act.put, List.setIfInBounds_toArray, List.set_cons_zero, List.set_cons_succ])
        refine take_u (i := 4) (oi := ?oZ141) ?hiZ141 (by kernel_rfl) (by kernel_rfl) (by kernel_rfl) ?hQZ141 ?hwZ141 (by assumption) ?restZ141
        case hiZ141 => (simp only [List.getElem?_toArray, List.getElem?_cons_succ, List.getElem?_cons_zero] <;> rfl)
        case hQZ141 => exact (fun _ _ _ h => h)
        case hwZ141 => rfl
        (try simp only [Act.put, List.setIfInBounds_toArray, List.set_cons_zero, List.set_cons_succ])
        refine take_u (i := 5) (oi := ?oZ142) ?hiZ142 (by kernel_rfl) (by kernel_rfl) (by kernel_rfl) ?hQZ142 ?hwZ142 (by assumption) ?restZ142
        case hiZ142 => (simp only [List.getElem?_toArray, List.getElem?_cons_succ, List.getElem?_cons_zero] <;> rfl)
        case hQZ142 => exact (fun _ _ _ h => h)
        case hwZ142 => rfl
        (try simp only [Act.put, List.setIfInBounds_toArray, List.set_cons_zero, List.set_cons_succ])
        refine take_w (i := 6) (oi := ?oZ143) (v := ?vZ143) ?hiZ143 (by kernel_rfl) (by kernel_rfl) (by kernel_rfl) ?hQZ143 ?hwZ143 ?hyZ143 (by assumption) ?restZ143
        case hiZ143 => (simp only [List.getElem?_toArray, List.getElem?_cons_succ, List.getElem?_cons_zero] <;> rfl)
        case hQZ143 => exact (fun _ _ _ h => h)
        case hwZ143 => rfl
        case hyZ143 => (intro w hSw; (try dsimp only at hSw); go_simp; try with_reducible rfl)
        (try simp only [Act.put, List.setIfInBounds_toArray, List.set_cons_zero, List.set_cons_succ])
        refine take_w (i := 7) (oi := ?oZ144) (v := ?vZ144) ?hiZ144 (by kernel_rfl) (by kernel_rfl) (by kernel_rfl) ?hQZ144 ?hwZ144 ?hyZ144 (by assumption) ?restZ144
        case hiZ144 => (simp only [List.getElem?_toArray, List.getElem?_cons_succ, List.getElem?_cons_zero] <;> rfl)
        case hQZ144 => exact (fun _ _ _ h => h)
        case hwZ144 => rfl
        case hyZ144 => (intro w hSw; (try dsimp only at hSw); go_simp; try with_reducible rfl)
        (try simp only [Act.put, List.setIfInBounds_toArray, List.set_cons_zero, List.set_cons_succ])
        refine take_w (i := 8) (oi := ?oZ145) (v := ?vZ145) ?hiZ145 (by kernel_rfl) (by kernel_rfl) (by kernel_rfl) ?hQZ145 ?hwZ145 ?hyZ145 (by assumption) ?restZ145
        case hiZ145 => (simp only [List.getElem?_toArray, List.getElem?_cons_succ, List.getElem?_cons_zero] <;> rfl)
        case hQZ145 => exact (fun _ _ _ h => h)
        case hwZ145 => rfl
        case hyZ145 => (intro w hSw; (try dsimp only at hSw); go_simp; try with_reducible rfl)
        (try simp only [Act.put, List.setIfInBounds_toArray, List.set_cons_zero, List.set_cons_succ])
        refine take_w (i := 9) (oi := ?oZ146) (v := ?vZ146) ?hiZ146 (by kernel_rfl) (by kernel_rfl) (by kernel_rfl) ?hQZ146 ?hwZ146 ?hyZ146 (by assumption) ?restZ146
        case hiZ146 => (simp only [List.getElem?_toArray, List.getElem?_cons_succ, List.getElem?_cons_zero] <;> rfl)
        case hQZ146 => exact (fun _ _ _ h => h)
        case hwZ146 => rfl
        case hyZ146 => (intro w hSw; (try dsimp only at hSw); go_simp; try with_reducible rfl)
        (try simp only [Act.put, List.setIfInBounds_toArray, List.set_cons_zero, List.set_cons_succ])
        refine take_w (i := 10) (oi := ?oZ147) (v := ?vZ147) ?hiZ147 (by kernel_rfl) (by kernel_rfl) (by kernel_rfl) ?hQZ147 ?hwZ147 ?hyZ147 (by assumption) ?restZ147
        case hiZ147 => (simp only [List.getElem?_toArray, List.getElem?_cons_succ, List.getElem?_cons_zero] <;> rfl)
        case hQZ147 => exact (fun _ _ _ h => h)
        case hwZ147 => rfl
        case hyZ147 => (intro w hSw; (try dsimp only at hSw); go_simp; try with_reducible rfl)
        (try simp only [Act.put, List.setIfInBounds_toArray, List.set_cons_zero, List.set_cons_succ])
        refine take_w (i := 11) (oi := ?oZ148) (v := ?vZ148) ?hiZ148 (by kernel_rfl) (by kernel_rfl) (by kernel_rfl) ?hQZ148 ?hwZ148 ?hyZ148 (by assumption) ?restZ148
        case hiZ148 => (simp only [List.getElem?_toArray, List.getElem?_cons_succ, List.getElem?_cons_zero] <;> rfl)
        case hQZ148 => exact (fun _ _ _ h => h)
        case hwZ148 => rfl
        case hyZ148 => (intro w hSw; (try dsimp only at hSw); go_simp; try with_reducible rfl)
        (try simp only [Act.put, List.setIfInBounds_toArray, List.set_cons_zero, List.set_cons_succ])
        refine take_w (i := 12) (oi := ?oZ149) (v := ?vZ149) ?hiZ149 (by kernel_rfl) (by kernel_rfl) (by kernel_rfl) ?hQZ149 ?hwZ149 ?hyZ149 (by assumption) ?restZ149
        case hiZ149 => (simp only [List.getElem?_toArray, List.getElem?_cons_succ, List.getElem?_cons_zero] <;> rfl)
        case hQZ149 => exact (fun _ _ _ h => h)
        case hwZ149 => rfl
        case hyZ149 => (intro w hSw; (try dsimp only at hSw); go_simp; try with_reducible rfl)
        (try simp only [Act.put, List.setIfInBounds_toArray, List.set_cons_zero, List.set_cons_succ])
        refine take_w (i := 13) (oi := ?oZ150) (v := ?vZ150) ?hiZ150 (by kernel_rfl) (by kernel_rfl) (by kernel_rfl) ?hQZ150 ?hwZ150 ?hyZ150 (by assumption) ?restZ150
        case hiZ150 => (simp only [List.getElem?_toArray, List.getElem?_cons_succ, List.getElem?_cons_zero] <;> rfl)
        case hQZ150 => exact (fun _ _ _ h => h)
        case hwZ150 => rfl
        case hyZ150 => (intro w hSw; (try dsimp only at hSw); go_simp; try with_reducible rfl)
        (try simp only [Act.put, List.setIfInBounds_toArray, List.set_cons_zero, List.set_cons_succ])
        refine take_w (i := 14) (oi := ?oZ151) (v := ?vZ151) ?hiZ151 (by kernel_rfl) (by kernel_rfl) (by kernel_rfl) ?hQZ151 ?hwZ151 ?hyZ151 (by assumption) ?restZ151
        case hiZ151 => (simp only [List.getElem?_toArray, List.getElem?_cons_succ, List.getElem?_cons_zero] <;> rfl)
        case hQZ151 => exact (fun _ _ _ h => h)
        case hwZ151 => rfl
        case hyZ151 => (intro w hSw; (try dsimp only at hSw); go_simp; try with_reducible rfl)
        (try simp only [Act.put, List.setIfInBounds_toArray, List.set_cons_zero, List.set_cons_succ])
        refine take_w (i := 15) (oi := ?oZ152) (v := ?vZ152) ?hiZ152 (by kernel_rfl) (by kernel_rfl) (by kernel_rfl) ?hQZ152 ?hwZ152 ?hyZ152 (by assumption) ?restZ152
        case hiZ152 => (simp only [List.getElem?_toArray, List.getElem?_cons_succ, List.getElem?_cons_zero] <;> rfl)
        case hQZ152 => exact (fun _ _ _ h => h)
        case hwZ152 => rfl
        case hyZ152 => (intro w hSw; (try dsimp only at hSw); go_simp; try with_reducible rfl)
        (try simp only [Act.put, List.setIfInBounds_toArray, List.set_cons_zero, List.set_cons_succ])
        refine take_w (i := 16) (oi := ?oZ153) (v := ?vZ153) ?hiZ153 (by kernel_rfl) (by kernel_rfl) (by kernel_rfl) ?hQZ153 ?hwZ153 ?hyZ153 (by assumption) ?restZ153
        case hiZ153 => (simp only [List.getElem?_toArray, List.getElem?_cons_succ, List.getElem?_cons_zero] <;> rfl)
        case hQZ153 => exact (fun _ _ _ h => h)
        case hwZ153 => rfl
        case hyZ153 => (intro w hSw; (try dsimp only at hSw); go_simp; try with_reducible rfl)
        (try simp only [Act.put, List.setIfInBounds_toArray, List.set_cons_zero, List.set_cons_succ])
        refine take_w (i := 17) (oi := ?oZ154) (v := ?vZ154) ?hiZ154 (by kernel_rfl) (by kernel_rfl) (by kernel_rfl) ?hQZ154 ?hwZ154 ?hyZ154 (by assumption) ?restZ154
        case hiZ154 => (simp only [List.getElem?_toArray, List.getElem?_cons_succ, List.getElem?_cons_zero] <;> rfl)
        case hQZ154 => exact (fun _ _ _ h => h)
        case hwZ154 => rfl
        case hyZ154 => (intro w hSw; (try dsimp only at hSw); go_simp; try with_reducible rfl)
        (try simp only [Act.put, List.setIfInBounds_toArray, List.set_cons_zero, List.set_cons_succ])
        refine take_w (i := 18) (oi := ?oZ155) (v := ?vZ155) ?hiZ155 (by kernel_rfl) (by kernel_rfl) (by kernel_rfl) ?hQZ155 ?hwZ155 ?hyZ155 (by assumption) ?restZ155
        case hiZ155 => (simp only [List.getElem?_toArray, List.getElem?_cons_succ, List.getElem?_cons_zero] <;> rfl)
        case hQZ155 => exact (fun _ _ _ h => h)
        case hwZ155 => rfl
        case hyZ155 => (intro w hSw; (try dsimp only at hSw); go_simp; try with_reducible rfl)
        (try simp only [Act.put, List.setIfInBounds_toArray, List.set_cons_zero, List.set_cons_succ])
        refine take_w (i := 19) (oi := ?oZ156) (v := ?vZ156) ?hiZ156 (by kernel_rfl) (by kernel_rfl) (by kernel_rfl) ?hQZ156 ?hwZ156 ?hyZ156 (by assumption) ?restZ156
        case hiZ156 => (simp only [List.getElem?_toArray, List.getElem?_cons_succ, List.getElem?_cons_zero] <;> rfl)
        case hQZ156 => exact (fun _ _ _ h => h)
        case hwZ156 => rfl
        case hyZ156 => (intro w hSw; (try dsimp only at hSw); go_simp; try with_reducible rfl)
        (try simp only [Act.put, List.setIfInBounds_toArray, List.set_cons_zero, List.set_cons_succ])
        refine take_w (i := 20) (oi := ?oZ157) (v := ?vZ157) ?hiZ157 (by kernel_rfl) (by kernel_rfl) (by kernel_rfl) ?hQZ157 ?hwZ157 ?hyZ157 (by assumption) ?restZ157
        case hiZ157 => (simp only [List.getElem?_toArray, List.getElem?_cons_succ, List.getElem?_cons_zero] <;> rfl)
        case hQZ157 => exact (fun _ _ _ h => h)
        case hwZ157 => rfl
        case hyZ157 => (intro w hSw; (try dsimp only at hSw); go_simp; try with_reducible rfl)
        (try simp only [Act.put, List.setIfInBounds_toArray, List.set_cons_zero, List.set_cons_succ])
        refine take_w (i := 21) (oi := ?oZ158) (v := ?vZ158) ?hiZ158 (by kernel_rfl) (by kernel_rfl) (by kernel_rfl) ?hQZ158 ?hwZ158 ?hyZ158 (by assumption) ?restZ158
        case hiZ158 => (simp only [List.getElem?_toArray, List.getElem?_cons_succ, List.getElem?_cons_zero] <;> rfl)
        case hQZ158 => exact (fun _ _ _ h => h)
        case hwZ158 => rfl
        case hyZ158 => (intro w hSw; (try dsimp only at hSw); go_simp; try with_reducible rfl)
        (try simp only [Act.put, List.setIfInBounds_toArray, List.set_cons_zero, List.set_cons_succ])
        refine take_w (i := 22) (oi := ?oZ159) (v := ?vZ159) ?hiZ159 (by kernel_rfl) (by kernel_rfl) (by kernel_rfl) ?hQZ159 ?hwZ159 ?hyZ159 (by assumption) ?restZ159
        case hiZ159 => (simp only [List.getElem?_toArray, List.getElem?_cons_succ, List.getElem?_cons_zero] <;> rfl)
        case hQZ159 => exact (fun _ _ _ h => h)
        case hwZ159 => rfl
        case hyZ159 => (intro w hSw; (try dsimp only at hSw); go_simp; try with_reducible rfl)
        (try simp only [Act.put, List.setIfInBounds_toArray, List.set_cons_zero, List.set_cons_succ])
        refine take_w (i := 23) (oi := ?oZ160) (v := ?vZ160) ?hiZ160 (by kernel_rfl) (by kernel_rfl) (by kernel_rfl) ?hQZ160 ?hwZ160 ?hyZ160 (by assumption) ?restZ160
        case hiZ160 => (simp only [List.getElem?_toArray, List.getElem?_cons_succ, List.getElem?_cons_zero] <;> rfl)
        case hQZ160 => exact (fun _ _ _ h => h)
        case hwZ160 => rfl
        case hyZ160 => (intro w hSw; (try dsimp only at hSw); go_simp; try with_reducible rfl)
        (try simp only [Act.put, List.setIfInBounds_toArray, List.set_cons_zero, List.set_cons_succ])
        refine take_w (i := 24) (oi := ?oZ161) (v := ?vZ161) ?hiZ161 (by kernel_rfl) (by kernel_rfl) (by kernel_rfl) ?hQZ161 ?hwZ161 ?hyZ161 (by assumption) ?restZ161
        case hiZ161 => (simp only [List.getElem?_toArray, List.getElem?_cons_succ, List.getElem?_cons_zero] <;> rfl)
        case hQZ161 => exact (fun _ _ _ h => h)
        case hwZ161 => rfl
        case hyZ161 => (intro w hSw; (try dsimp only at hSw); go_simp; try with_reducible rfl)
        (try simp only [Act.put, List.setIfInBounds_toArray, List.set_cons_zero, List.set_cons_succ])
        refine take_w (i := 25) (oi := ?oZ162) (v := ?vZ162) ?hiZ162 (by kernel_rfl) (by kernel_rfl) (by kernel_rfl) ?hQZ162 ?hwZ162 ?hyZ162 (by assumption) ?restZ162
        case hiZ162 => (simp only [List.getElem?_toArray, List.getElem?_cons_succ, List.getElem?_cons_zero] <;> rfl)
        case hQZ162 => exact (fun _ _ _ h => h)
        case hwZ162 => rfl
        case hyZ162 => (intro w hSw; (try dsimp only at hSw); go_simp; try with_reducible rfl)
        (try simp only [Act.put, List.setIfInBounds_toArray, List.set_cons_zero, List.set_cons_succ])
        refine wpAnyH_done (by kernel_rfl) ?_ _
        clear hHeld
        clear HS11
        have HD10 : Hid (QX w w10 sp f tt g8 h2 a) := Lib.hid (by rw [hw10]; exact HD9.out.drew)
        have HRA10 : Hid (RP w10 (.slice raA rA rcA) rsA kA) := Lib.hid (by rw [hw10]; exact HRA9.out.drew)
        have HRB10 : Hid (RP w10 (.slice raB rB rcB) rsB kB) := Lib.hid (by rw [hw10]; exact HRB9.out.drew)
        have HRC10 : Hid (RP w10 (.slice raC rC rcC) rsC kC) := Lib.hid (by rw [hw10]; exact HRC9.out.drew)
        rw [← hw10]
        clear hw10
        go_upto_region 13 with (first
          | (at_builtin
             refine wpList_append_recs _ rfl (.tmp 121) (.tmp 122) 35 rfl recP w10.heap.size 49 ti _ 48 Try.underlying35 HTI.out.1 HTI.out.2.1 HTI.out.2.2.1 HTI.out.2.2.2 rfl (.slice (some ⟨w10.heap.size, 0, none⟩) 0 0) [] rfl (OwnR.empty recP w10 49 w10.heap.size (Nat.le_refl _)) 0 (.slice raA rA rcA) rsA rfl ((HRA10.out.below ((Below.refl _ _).alloc (Nat.le_refl _) _)).o) ?_ (by omega) (by simp) ?_
             · have h1 := HNA.out
               have h2 := HLE.out.1
               simp only [List.length_nil]
               omega
             intro v11 w11 ho11 hg11
             have q11 : Below w10.heap.size w10 w11 := ((Below.refl w10.heap.size w10).alloc (Nat.le_refl _) _).grown hg11 (by simp) (fun j hj => by have e : w10.heap.size = j := Option.some.inj hj; omega)
             have HO11 := Lib.hid ho11
             have HQ11 := Lib.hid q11
             obtain ⟨a11, c11, hv11⟩ := ho11.sl
             subst hv11
             clear ho11 hg11 q11)
          | (at_builtin
             refine wpList_append_recs _ rfl (.tmp 123) (.tmp 124) 35 rfl recP w10.heap.size 49 ti _ 48 Try.underlying35 HTI.out.1 HTI.out.2.1 HTI.out.2.2.1 HTI.out.2.2.2 rfl (.slice a11 ([] ++ rsA).length c11) ([] ++ rsA) rfl HO11.out 0 (.slice raB rB rcB) rsB rfl ((HRB10.out.below HQ11.out).o) ?_ (by omega) HQ11.out.size ?_
             · have h1 := HNA.out
               have h2 := HNB.out
               have h3 := HLE.out
               simp only [List.nil_append]
               omega
             intro v12 w12 ho12 hg12
             have q12 : Below w10.heap.size w10 w12 := HQ11.out.grown hg12 HQ11.out.size (fun j hj => (HO11.out.base_le hj).1)
             have HD12 := Lib.hid (HD10.out.below q12)
             rw [List.nil_append] at ho12
             have HRC12 := Lib.hid (HRC10.out.below q12)
             have HRX12 : Hid (RP w12 v12 (rsA ++ rsB) (kA ++ kB)) := Lib.hid ⟨ho12.weak (Nat.zero_le _), (HRA10.out.below q12).p.app (HRB10.out.below q12).p⟩
             have hl12 : (rsA ++ rsB).length = rA + rB := by rw [List.length_append, HNA.out.2, HNB.out.2]
             obtain ⟨a12, c12, hv12⟩ := ho12.sl
             rw [hl12] at hv12
             subst hv12
             clear ho12 hg12 q12 hl12))
        have hkk : kA ++ kB = kC := by rw [← HKA.out, ← HKB.out, ← HKC.out]; exact parts_whole HIN.out.1 HIN.out.2 HGD.out.rise
        have hrr : rC = rA + rB := by rw [HNC.out.1, ← hkk, List.length_append, HNA.out.1, HNB.out.1]
        subst hrr
        rw [hkk] at HRX12
        go_wp2_with (first
          | (go_at_call 18
             refine (refSameP_any kC (fun i => (rsA ++ rsB).getD i pZ) (fun i => rsC.getD i pZ) a12 raC (rA + rB) c12 rcC _ HNC.out.1 (HRX12.out.o.inRec pZ).2 (HRC12.out.o.inRec pZ).2 HRX12.out.p.byD HRC12.out.p.byD).mono ?_
             rintro _ w13 ⟨rfl, hb13⟩
             have HD13 := Lib.hid (HD12.out.below hb13)
             clear hb13))
        go_ret
        exact ⟨rfl, HD13.out.sx.b⟩
    | false =>
      rw [co] at y2
      cases c3 : ltL tt at' with
      | true =>
        rw [c3, Bool.not_true] at hle2
        clear c1 c3 co
        obtain ⟨x0, x1, x2, x3, x4⟩ := HD8.out.tb.cells
        cases hgt : a.get at' with
        | none =>
          have HGT := Lib.hid hgt
          have hkp : kP = [] := by rw [← HKP.out, point_pairs HD8.out.ti HGD.out.rise at', hgt]; rfl
          have hr0 : rP = 0 := by rw [HNP.out.1, hkp]; rfl
          subst hr0
          clear hgt hkp
          go_upto_region 11 with (first
            | (go_at_call 21
               refine (refGet_any a h2 at' aa an ac _ HD8.out.ti HGD.out.lim HCN.out (HA.out.below HD8.out.sx.b)).mono ?_
               rw [HGT.out]
               rintro _ w9 ⟨a9, n9, c9, rfl, hi9, hb9⟩
               have HD9 := Lib.hid (HD8.out.below hb9)
               have HRA9 := Lib.hid (HRA8.out.below hb9)
               have HRB9 := Lib.hid (HRB8.out.below hb9)
               have HRC9 := Lib.hid (HRC8.out.below hb9)
               have HRP9 := Lib.hid (HRP8.out.below hb9)
               have HI9 := Lib.hid hi9
               clear hb9 hi9 x0 x1 x2 x3 x4))
          obtain ⟨w10, hw10⟩ : ∃ w10 : World, w10 = w9.drew := ⟨_, rfl⟩
          refine wp_region_held_drew (S := (fun _ => True)) (by kernel_rfl) trivial (fun hHeld => ?_)
          refine take_w (i := 0) (oi := ?oZ163) (v := ?vZ163) ?hiZ163 (by kernel_rfl) (by kernel_rfl) (by kernel_rfl) ?hQZ163 ?hwZ163 ?hyZ163 (by assumption) ?restZ163
          case hiZ163 => (simp only [List.getElem?_toArray, List.getElem?_cons_zero] <;> rfl)
          case hQZ163 => exact (fun _ _ _ h => h)
          case hwZ163 => rfl
          case hyZ163 => (intro w hSw; (try dsimp only at hSw); go_simp; try with_reducible rfl)
          (try simp only [Act.put, List.setIfInBounds_toArray, List.set_cons_zero, List.set_cons_succ])
          refine take_w (i := 1) (oi := ?oZ164) (v := ?vZ164) ?hiZ164 (by kernel_rfl) (by kernel_rfl) (by kernel_rfl) ?hQZ164 ?hwZ164 ?hyZ164 (by assumption) ?restZ164
          case hiZ164 => (simp only [List.getElem?_toArray, List.getElem?_cons_succ, List.getElem?_cons_zero] <;> rfl)
          case hQZ164 => exact (fun _ _ _ h => h)
          case hwZ164 => rfl
          case hyZ164 => (intro w hSw; (try dsimp only at hSw); go_simp; try with_reducible rfl)
          (try simp only [Act.put, List.setIfInBounds_toArray, List.set_cons_zero, List.set_cons_succ])
          refine take_w (i := 2) (oi := ?oZ165) (v := ?vZ165) ?hiZ165 (by kernel_rfl) (by kernel_rfl) (by kernel_rfl) ?hQZ165 ?hwZ165 ?hyZ165 (by assumption) ?restZ165
          case hiZ165 => (simp only [List.getElem?_toArray, List.getElem?_cons_succ, List.getElem?_cons_zero] <;> rfl)
          case hQZ165 => exact (fun _ _ _ h => h)
          case hwZ165 => rfl
          case hyZ165 => (intro w hSw; (try dsimp only at hSw); go_simp; try with_reducible rfl)
          (try simp only [Act.put, List.setIfInBounds_toArray, List.set_cons_zero, List.set_cons_succ])
          refine take_w (i := 3) (oi := ?oZ166) (v := ?vZ166) ?hiZ166 (by kernel_rfl) (by kernel_rfl) (by kernel_rfl) ?hQZ166 ?hwZ166 ?hyZ166 (by assumption) ?restZ166
          case hiZ166 => (simp only [List.getElem?_toArray, List.getElem?_cons_succ, List.getElem?_cons_zero] <;> rfl)
          case hQZ166 => exact (fun _ _ _ h => h)
          case hwZ166 => rfl
          case hyZ166 => (intro w hSw; (try dsimp only at hSw); go_simp; try with_reducible rfl)
          (try simp only [Act.put, List.setIfInBounds_toArray, List.set_cons_zero, List.set_cons_succ])
          refine take_w (i := 4) (oi := ?oZ167) (v := ?vZ167) ?hiZ167 (by kernel_rfl) (by kernel_rfl) (by kernel_rfl) ?hQZ167 ?hwZ167 ?hyZ167 (by assumption) ?restZ167
          case hiZ167 => (simp only [List.getElem?_toArray, List.getElem?_cons_succ, List.getElem?_cons_zero] <;> rfl)
          case hQZ167 => exact (fun _ _ _ h => h)
          case hwZ167 => rfl
          case hyZ167 => (intro w hSw; (try dsimp only at hSw); go_simp; try with_reducible rfl)
          (try simp only [Act.put, List.setIfInBounds_toArray, List.set_cons_zero, List.set_cons_succ])
          refine take_w (i := 5) (oi := ?oZ168) (v := ?vZ168) ?hiZ168 (by kernel_rfl) (by kernel_rfl) (by kernel_rfl) ?hQZ168 ?hwZ168 ?hyZ168 (by assumption) ?restZ168
          case hiZ168 => (simp only [List.getElem?_toArray, List.getElem?_cons_succ, List.getElem?_cons_zero] <;> rfl)
          case hQZ168 => exact (fun _ _ _ h => h)
          case hwZ168 => rfl
          case hyZ168 => (intro w hSw; (try dsimp only at hSw); go_simp; try with_reducible rfl)
          (try simp only [Act.put, List.setIfInBounds_toArray, List.set_cons_zero, List.set_cons_succ])
          refine take_w (i := 6) (oi := ?oZ169) (v := ?vZ169) ?hiZ169 (by kernel_rfl) (by kernel_rfl) (by kernel_rfl) ?hQZ169 ?hwZ169 ?hyZ169 (by assumption) ?restZ169
          case hiZ169 => (simp only [List.getElem?_toArray, List.getElem?_cons_succ, List.getElem?_cons_zero] <;> rfl)
          case hQZ169 => exact (fun _ _ _ h => h)
          case hwZ169 => rfl
          case hyZ169 => (intro w hSw; (try dsimp only at hSw); go_simp; try with_reducible rfl)
          (try simp only [Act.put, List.setIfInBounds_toArray, List.set_cons_zero, List.set_cons_succ])
          refine take_w (i := 7) (oi := ?oZ170) (v := ?vZ170) ?hiZ170 (by kernel_rfl) (by kernel_rfl) (by kernel_rfl) ?hQZ170 ?hwZ170 ?hyZ170 (by assumption) ?restZ170
          case hiZ170 => (simp only [List.getElem?_toArray, List.getElem?_cons_succ, List.getElem?_cons_zero] <;> rfl)
          case hQZ170 => exact (fun _ _ _ h => h)
          case hwZ170 => rfl
          case hyZ170 => (intro w hSw; (try dsimp only at hSw); go_simp; try with_reducible rfl)
          (try simp only [Act.put, List.setIfInBounds_toArray, List.set_cons_zero, List.set_cons_succ])
          refine take_u (i := 8) (oi := ?oZ171) ?hiZ171 (by kernel_rfl) (by kernel_rfl) (by kernel_rfl) ?hQZ171 ?hwZ171 (by assumption) ?restZ171
          case hiZ171 => (simp only [List.getElem?_toArray, List.getElem?_cons_succ, List.getElem?_cons_zero] <;> rfl)
          case hQZ171 => exact (fun _ _ _ h => h)
          case hwZ171 => rfl
          (try simp only [Act.put, List.setIfInBounds_toArray, List.set_cons_zero, List.set_cons_succ])
          refine take_u (i := 9) (oi := ?oZ172) ?hiZ172 (by kernel_rfl) (by kernel_rfl) (by kernel_rfl) ?hQZ172 ?hwZ172 (by assumption) ?restZ172
          case hiZ172 => (simp only [List.getElem?_toArray, List.getElem?_cons_succ, List.getElem?_cons_zero] <;> rfl)
          case hQZ172 => exact (fun _ _ _ h => h)
          case hwZ172 => rfl
          (try simp only [Act.put, List.setIfInBounds_toArray, List.set_cons_zero, List.set_cons_succ])
          refine take_u (i := 10) (oi := ?oZ173) ?hiZ173 (by kernel_rfl) (by kernel_rfl) (by kernel_rfl) ?hQZ173 ?hwZ173 (by assumption) ?restZ173
          case hiZ173 => (simp only [List.getElem?_toArray, List.getElem?_cons_succ, List.getElem?_cons_zero] <;> rfl)
          case hQZ173 => exact (fun _ _ _ h => h)
          case hwZ173 => rfl
          (try simp only [Act.put, List.setIfInBounds_toArray, List.set_cons_zero, List.set_cons_succ])
          refine take_u (i := 11) (oi := ?oZ174) ?hiZ174 (by kernel_rfl) (by kernel_rfl) (by kernel_rfl) ?hQZ174 ?hwZ174 (by assumption) ?restZ174
          case hiZ174 => (simp only [List.getElem?_toArray, List.getElem?_cons_succ, List.getElem?_cons_zero] <;> rfl)
          case hQZ174 => exact (fun _ _ _ h => h)
          case hwZ174 => rfl
          (try simp only [Act.put, List.setIfInBounds_toArray, List.set_cons_zero, List.set_cons_succ])
          refine take_u (i := 12) (oi := ?oZ175) ?hiZ175 (by kernel_rfl) (by kernel_rfl) (by kernel_rfl) ?hQZ175 ?hwZ175 (by assumption) ?restZ175
          case hiZ175 => (simp only [List.getElem?_toArray, List.getElem?_cons_succ, List.getElem?_cons_zero] <;> rfl)
          case hQZ175 => exact (fun _ _ _ h => h)
          case hwZ175 => rfl
          (try simp only [Act.put, List.setIfInBounds_toArray, List.set_cons_zero, List.set_cons_succ])
          refine take_u (i := 13) (oi := ?oZ176) ?hiZ176 (by kernel_rfl) (by kernel_rfl) (by kernel_rfl) ?hQZ176 ?hwZ176 (by assumption) ?restZ176
          case hiZ176 => (simp only [List.getElem?_toArray, List.getElem?_cons_succ, List.getElem?_cons_zero] <;> rfl)
          case hQZ176 => exact (fun _ _ _ h => h)
          case hwZ176 => rfl
          (try simp only [Act.put, List.setIfInBounds_toArray, List.set_cons_zero, List.set_cons_succ])
          refine take_u (i := 14) (oi := ?oZ177) ?hiZ177 (by kernel_rfl) (by kernel_rfl) (by kernel_rfl) ?hQZ177 ?hwZ177 (by assumption) ?restZ177
          case hiZ177 => (simp only [List.getElem?_toArray, List.getElem?_cons_succ, List.getElem?_cons_zero] <;> rfl)
          case hQZ177 => exact (fun _ _ _ h => h)
          case hwZ177 => rfl
          (try simp only [Act.put, List.setIfInBounds_toArray, List.set_cons_zero, List.set_cons_succ])
          refine take_u (i := 15) (oi := ?oZ178) ?hiZ178 (by kernel_rfl) (by kernel_rfl) (by kernel_rfl) ?hQZ178 ?hwZ178 (by assumption) ?restZ178
          case hiZ178 => (simp only [List.getElem?_toArray, List.getElem?_cons_succ, List.getElem?_cons_zero] <;> rfl)
          case hQZ178 => exact (fun _ _ _ h => h)
          case hwZ178 => rfl
          (try simp only [Act.put, List.setIfInBounds_toArray, List.set_cons_zero, List.set_cons_succ])
          refine take_u (i := 16) (oi := ?oZ179) ?hiZ179 (by kernel_rfl) (by kernel_rfl) (by kernel_rfl) ?hQZ179 ?hwZ179 (by assumption) ?restZ179
          case hiZ179 => (simp only [List.getElem?_toArray, List.getElem?_cons_succ, List.getElem?_cons_zero] <;> rfl)
          case hQZ179 => exact (fun _ _ _ h => h)
          case hwZ179 => rfl
          (try simp only [Act.put, List.setIfInBounds_toArray, List.set_cons_zero, List.set_cons_succ])
          refine take_u (i := 17) (oi := ?oZ180) ?hiZ180 (by kernel_rfl) (by kernel_rfl) (by kernel_rfl) ?hQZ180 ?hwZ180 (by assumption) ?restZ180
          case hiZ180 => (simp only [List.getElem?_toArray, List.getElem?_cons_succ, List.getElem?_cons_zero] <;> rfl)
          case hQZ180 => exact (fun _ _ _ h => h)
          case hwZ180 => rfl
          (try simp only [Act.put, List.setIfInBounds_toArray, List.set_cons_zero, List.set_cons_succ])
          refine take_u (i := 18) (oi := ?oZ181) ?hiZ181 (by kernel_rfl) (by kernel_rfl) (by kernel_rfl) ?hQZ181 ?hwZ181 (by assumption) ?restZ181
          case hiZ181 => (simp only [List.getElem?_toArray, List.getElem?_cons_succ, List.getElem?_cons_zero] <;> rfl)
          case hQZ181 => exact (fun _ _ _ h => h)
          case hwZ181 => rfl
          (try simp only [Act.put, List.setIfInBounds_toArray, List.set_cons_zero, List.set_cons_succ])
          refine take_u (i := 19) (oi := ?oZ182) ?hiZ182 (by kernel_rfl) (by kernel_rfl) (by kernel_rfl) ?hQZ182 ?hwZ182 (by assumption) ?restZ182
          case hiZ182 => (simp only [List.getElem?_toArray, List.getElem?_cons_succ, List.getElem?_cons_zero] <;> rfl)
          case hQZ182 => exact (fun _ _ _ h => h)
          case hwZ182 => rfl
          (try simp only [Act.put, List.setIfInBounds_toArray, List.set_cons_zero, List.set_cons_succ])
          refine take_u (i := 20) (oi := ?oZ183) ?hiZ183 (by kernel_rfl) (by kernel_rfl) (by kernel_rfl) ?hQZ183 ?hwZ183 (by assumption) ?restZ183
          case hiZ183 => (simp only [List.getElem?_toArray, List.getElem?_cons_succ, List.getElem?_cons_zero] <;> rfl)
          case hQZ183 => exact (fun _ _ _ h => h)
          case hwZ183 => rfl
          (try simp only [Act.put, List.setIfInBounds_toArray, List.set_cons_zero, List.set_cons_succ])
          refine take_u (i := 21) (oi := ?oZ184) ?hiZ184 (by kernel_rfl) (by kernel_rfl) (by kernel_rfl) ?hQZ184 ?hwZ184 (by assumption) ?restZ184
          case hiZ184 => (simp only [List.getElem?_toArray, List.getElem?_cons_succ, List.getElem?_cons_zero] <;> rfl)
          case hQZ184 => exact (fun _ _ _ h => h)
          case hwZ184 => rfl
          (try simp only [Act.put, List.setIfInBounds_toArray, List.set_cons_zero, List.set_cons_succ])
          refine take_u (i := 22) (oi := ?oZ185) ?hiZ185 (by kernel_rfl) (by kernel_rfl) (by kernel_rfl) ?hQZ185 ?hwZ185 (by assumption) ?restZ185
          case hiZ185 => (simp only [List.getElem?_toArray, List.getElem?_cons_succ, List.getElem?_cons_zero] <;> rfl)
          case hQZ185 => exact (fun _ _ _ h => h)
          case hwZ185 => rfl
          (try simp only [Act.put, List.setIfInBounds_toArray, List.set_cons_zero, List.set_cons_succ])
          refine take_u (i := 23) (oi := ?oZ186) ?hiZ186 (by kernel_rfl) (by kernel_rfl) (by kernel_rfl) ?hQZ186 ?hwZ186 (by assumption) ?restZ186
          case hiZ186 => (simp only [List.getElem?_toArray, List.getElem?_cons_succ, List.getElem?_cons_zero] <;> rfl)
          case hQZ186 => exact (fun _ _ _ h => h)
          case hwZ186 => rfl
          (try simp only [Act.put, List.setIfInBounds_toArray, List.set_cons_zero, List.set_cons_succ])
          refine take_w (i := 24) (oi := ?oZ187) (v := ?vZ187) ?hiZ187 (by kernel_rfl) (by kernel_rfl) (by kernel_rfl) ?hQZ187 ?hwZ187 ?hyZ187 (by assumption) ?restZ187
          case hiZ187 => (simp only [List.getElem?_toArray, List.getElem?_cons_succ, List.getElem?_cons_zero] <;> rfl)
          case hQZ187 => exact (fun _ _ _ h => h)
          case hwZ187 => rfl
          case hyZ187 => (intro w hSw; (try dsimp only at hSw); go_simp; try with_reducible rfl)
          (try simp only [Act.put, List.setIfInBounds_toArray, List.set_cons_zero, List.set_cons_succ])
          refine take_w (i := 25) (oi := ?oZ188) (v := ?vZ188) ?hiZ188 (by kernel_rfl) (by kernel_rfl) (by kernel_rfl) ?hQZ188 ?hwZ188 ?hyZ188 (by assumption) ?restZ188
          case hiZ188 => (simp only [List.getElem?_toArray, List.getElem?_cons_succ, List.getElem?_cons_zero] <;> rfl)
          case hQZ188 => exact (fun _ _ _ h => h)
          case hwZ188 => rfl
          case hyZ188 => (intro w hSw; (try dsimp only at hSw); go_simp; try with_reducible rfl)
          (try simp only [Act.put, List.setIfInBounds_toArray, List.set_cons_zero, List.set_cons_succ])
          refine wpAnyH_done (by kernel_rfl) ?_ _
          clear hHeld
          have HD10 : Hid (QX w w10 sp f tt g8 h2 a) := Lib.hid (by rw [hw10]; exact HD9.out.drew)
          have HRA10 : Hid (RP w10 (.slice raA rA rcA) rsA kA) := Lib.hid (by rw [hw10]; exact HRA9.out.drew)
          have HRB10 : Hid (RP w10 (.slice raB rB rcB) rsB kB) := Lib.hid (by rw [hw10]; exact HRB9.out.drew)
          have HRC10 : Hid (RP w10 (.slice raC rC rcC) rsC kC) := Lib.hid (by rw [hw10]; exact HRC9.out.drew)
          rw [← hw10]
          clear hw10
          go_upto_region 13 with (first
            | (at_builtin
               refine wpList_append_recs _ rfl (.tmp 121) (.tmp 122) 35 rfl recP w10.heap.size 49 ti _ 48 Try.underlying35 HTI.out.1 HTI.out.2.1 HTI.out.2.2.1 HTI.out.2.2.2 rfl (.slice (some ⟨w10.heap.size, 0, none⟩) 0 0) [] rfl (OwnR.empty recP w10 49 w10.heap.size (Nat.le_refl _)) 0 (.slice raA rA rcA) rsA rfl ((HRA10.out.below ((Below.refl _ _).alloc (Nat.le_refl _) _)).o) ?_ (by omega) (by simp) ?_
               · have h1 := HNA.out
                 have h2 := HLE.out.1
                 simp only [List.length_nil]
                 omega
               intro v11 w11 ho11 hg11
               have q11 : Below w10.heap.size w10 w11 := ((Below.refl w10.heap.size w10).alloc (Nat.le_refl _) _).grown hg11 (by simp) (fun j hj => by have e : w10.heap.size = j := Option.some.inj hj; omega)
               have HO11 := Lib.hid ho11
               have HQ11 := Lib.hid q11
               obtain ⟨a11, c11, hv11⟩ := ho11.sl
               subst hv11
               clear ho11 hg11 q11)
            | (at_builtin
               refine wpList_append_recs _ rfl (.tmp 123) (.tmp 124) 35 rfl recP w10.heap.size 49 ti _ 48 Try.underlying35 HTI.out.1 HTI.out.2.1 HTI.out.2.2.1 HTI.out.2.2.2 rfl (.slice a11 ([] ++ rsA).length c11) ([] ++ rsA) rfl HO11.out 0 (.slice raB rB rcB) rsB rfl ((HRB10.out.below HQ11.out).o) ?_ (by omega) HQ11.out.size ?_
               · have h1 := HNA.out
                 have h2 := HNB.out
                 have h3 := HLE.out
                 simp only [List.nil_append]
                 omega
               intro v12 w12 ho12 hg12
               have q12 : Below w10.heap.size w10 w12 := HQ11.out.grown hg12 HQ11.out.size (fun j hj => (HO11.out.base_le hj).1)
               have HD12 := Lib.hid (HD10.out.below q12)
               rw [List.nil_append] at ho12
               have HRC12 := Lib.hid (HRC10.out.below q12)
               have HRX12 : Hid (RP w12 v12 (rsA ++ rsB) (kA ++ kB)) := Lib.hid ⟨ho12.weak (Nat.zero_le _), (HRA10.out.below q12).p.app (HRB10.out.below q12).p⟩
               have hl12 : (rsA ++ rsB).length = rA + rB := by rw [List.length_append, HNA.out.2, HNB.out.2]
               obtain ⟨a12, c12, hv12⟩ := ho12.sl
               rw [hl12] at hv12
               subst hv12
               clear ho12 hg12 q12 hl12))
          go_wp2_with fail
          go_ret
          exact ⟨rfl, HD12.out.sx.b⟩
        | some gv =>
          have HGT := Lib.hid hgt
          have hkp : kP = [(at', gv)] := by rw [← HKP.out, point_pairs HD8.out.ti HGD.out.rise at', hgt]; rfl
          have HKPV := Lib.hid hkp
          have hr1 : rP = 1 := by rw [HNP.out.1, hkp]; rfl
          subst hr1
          clear hgt hkp
          go_upto_region 11 with (first
            | (go_at_call 21
               refine (refGet_any a h2 at' aa an ac _ HD8.out.ti HGD.out.lim HCN.out (HA.out.below HD8.out.sx.b)).mono ?_
               rw [HGT.out]
               rintro _ w9 ⟨a9, n9, c9, rfl, hi9, hb9⟩
               have HD9 := Lib.hid (HD8.out.below hb9)
               have HRA9 := Lib.hid (HRA8.out.below hb9)
               have HRB9 := Lib.hid (HRB8.out.below hb9)
               have HRC9 := Lib.hid (HRC8.out.below hb9)
               have HRP9 := Lib.hid (HRP8.out.below hb9)
               have HI9 := Lib.hid hi9
               clear hb9 hi9 x0 x1 x2 x3 x4))
          obtain ⟨w10, hw10⟩ : ∃ w10 : World, w10 = w9.drew := ⟨_, rfl⟩
          have hk1 : kP.length = 1 := by rw [HKPV.out]; rfl
          have hps : 0 < rsP.length := by rw [HNP.out.2]; omega
          obtain ⟨gP, hgP, hcP⟩ := HRP9.out.drew.o.at 0 hps
          subst hgP
          have hvP : InBytes w9.drew (rsP[0]).va (rsP[0]).vn (rsP[0]).vc gv := by
            have q := (HRP9.out.drew.p.2 0 hps (by omega)).2
            simp only [HKPV.out] at q
            exact q
          have HS11 : Hid ((fun W => W.cell? ⟨gP, 1, none⟩ = some (.slice (rsP[0]).va (rsP[0]).vn (rsP[0]).vc) ∧ (convert 22 9 (.slice (rsP[0]).va (rsP[0]).vn (rsP[0]).vc)).run Try.prog W = .ok (.string (strOfNums gv)) W ∧ (convert 22 9 (.slice a9 n9 c9)).run Try.prog W = .ok (.string (strOfNums gv)) W) w9.drew) := Lib.hid ⟨by have q := hcP 1 _ rfl; simpa [recP] using q, conv_key hvP, conv_key (HI9.out.below (Below.refl _ _).drew)⟩
          have hse : ((strOfNums gv).toList == (strOfNums gv).toList) = true := by simp
          clear hcP hvP hk1
          refine wp_region_held_drew (S := (fun W => W.cell? ⟨gP, 1, none⟩ = some (.slice (rsP[0]).va (rsP[0]).vn (rsP[0]).vc) ∧ (convert 22 9 (.slice (rsP[0]).va (rsP[0]).vn (rsP[0]).vc)).run Try.prog W = .ok (.string (strOfNums gv)) W ∧ (convert 22 9 (.slice a9 n9 c9)).run Try.prog W = .ok (.string (strOfNums gv)) W)) (by kernel_rfl) HS11.out (fun hHeld => ?_)
          refine take_w (i := 0) (oi := ?oZ189) (v := ?vZ189) ?hiZ189 (by kernel_rfl) (by kernel_rfl) (by kernel_rfl) ?hQZ189 ?hwZ189 ?hyZ189 (by assumption) ?restZ189
          case hiZ189 => (simp only [List.getElem?_toArray, List.getElem?_cons_zero] <;> rfl)
          case hQZ189 => exact (fun _ _ _ h => h)
          case hwZ189 => rfl
          case hyZ189 => (intro w hSw; (try dsimp only at hSw); go_simp; try with_reducible rfl)
          (try simp only [Act.put, List.setIfInBounds_toArray, List.set_cons_zero, List.set_cons_succ])
          refine take_w (i := 1) (oi := ?oZ190) (v := ?vZ190) ?hiZ190 (by kernel_rfl) (by kernel_rfl) (by kernel_rfl) ?hQZ190 ?hwZ190 ?hyZ190 (by assumption) ?restZ190
          case hiZ190 => (simp only [List.getElem?_toArray, List.getElem?_cons_succ, List.getElem?_cons_zero] <;> rfl)
          case hQZ190 => exact (fun _ _ _ h => h)
          case hwZ190 => rfl
          case hyZ190 => (intro w hSw; (try dsimp only at hSw); go_simp; try with_reducible rfl)
          (try simp only [Act.put, List.setIfInBounds_toArray, List.set_cons_zero, List.set_cons_succ])
          refine take_w (i := 2) (oi := ?oZ191) (v := ?vZ191) ?hiZ191 (by kernel_rfl) (by kernel_rfl) (by kernel_rfl) ?hQZ191 ?hwZ191 ?hyZ191 (by assumption) ?restZ191
          case hiZ191 => (simp only [List.getElem?_toArray, List.getElem?_cons_succ, List.getElem?_cons_zero] <;> rfl)
          case hQZ191 => exact (fun _ _ _ h => h)
          case hwZ191 => rfl
          case hyZ191 => (intro w hSw; (try dsimp only at hSw); go_simp; try with_reducible rfl)
          (try simp only [Act.put, List.setIfInBounds_toArray, List.set_cons_zero, List.set_cons_succ])
          refine take_w (i := 3) (oi := ?oZ192) (v := ?vZ192) ?hiZ192 (by kernel_rfl) (by kernel_rfl) (by kernel_rfl) ?hQZ192 ?hwZ192 ?hyZ192 (by assumption) ?restZ192
          case hiZ192 => (simp only [List.getElem?_toArray, List.getElem?_cons_succ, List.getElem?_cons_zero] <;> rfl)
          case hQZ192 => exact (fun _ _ _ h => h)
          case hwZ192 => rfl
          case hyZ192 => (intro w hSw; (try dsimp only at hSw); go_simp; try with_reducible rfl)
          (try simp only [Act.put, List.setIfInBounds_toArray, List.set_cons_zero, List.set_cons_succ])
          refine take_u (i := 4) (oi := ?oZ193) ?hiZ193 (by kernel_rfl) (by kernel_rfl) (by kernel_rfl) ?hQZ193 ?hwZ193 (by assumption) ?restZ193
          case hiZ193 => (simp only [List.getElem?_toArray, List.getElem?_cons_succ, List.getElem?_cons_zero] <;> rfl)
          case hQZ193 => exact (fun _ _ _ h => h)
          case hwZ193 => rfl
          (try simp only [Act.put, List.setIfInBounds_toArray, List.set_cons_zero, List.set_cons_succ])
          refine take_u (i := 5) (oi := ?oZ194) ?hiZ194 (by kernel_rfl) (by kernel_rfl) (by kernel_rfl) ?hQZ194 ?hwZ194 (by assumption) ?restZ194
          case hiZ194 => (simp only [List.getElem?_toArray, List.getElem?_cons_succ, List.getElem?_cons_zero] <;> rfl)
          case hQZ194 => exact (fun _ _ _ h => h)
          case hwZ194 => rfl
          (try simp only [Act.put, List.setIfInBounds_toArray, List.set_cons_zero, List.set_cons_succ])
          refine take_w (i := 6) (oi := ?oZ195) (v := ?vZ195) ?hiZ195 (by kernel_rfl) (by kernel_rfl) (by kernel_rfl) ?hQZ195 ?hwZ195 ?hyZ195 (by assumption) ?restZ195
          case hiZ195 => (simp only [List.getElem?_toArray, List.getElem?_cons_succ, List.getElem?_cons_zero] <;> rfl)
          case hQZ195 => exact (fun _ _ _ h => h)
          case hwZ195 => rfl
          case hyZ195 => (intro w hSw; (try dsimp only at hSw); go_simp; try with_reducible rfl)
          (try simp only [Act.put, List.setIfInBounds_toArray, List.set_cons_zero, List.set_cons_succ])
          refine take_w (i := 7) (oi := ?oZ196) (v := ?vZ196) ?hiZ196 (by kernel_rfl) (by kernel_rfl) (by kernel_rfl) ?hQZ196 ?hwZ196 ?hyZ196 (by assumption) ?restZ196
          case hiZ196 => (simp only [List.getElem?_toArray, List.getElem?_cons_succ, List.getElem?_cons_zero] <;> rfl)
          case hQZ196 => exact (fun _ _ _ h => h)
          case hwZ196 => rfl
          case hyZ196 => (intro w hSw; (try dsimp only at hSw); go_simp; try with_reducible rfl)
          (try simp only [Act.put, List.setIfInBounds_toArray, List.set_cons_zero, List.set_cons_succ])
          refine take_w (i := 8) (oi := ?oZ197) (v := ?vZ197) ?hiZ197 (by kernel_rfl) (by kernel_rfl) (by kernel_rfl) ?hQZ197 ?hwZ197 ?hyZ197 (by assumption) ?restZ197
          case hiZ197 => (simp only [List.getElem?_toArray, List.getElem?_cons_succ, List.getElem?_cons_zero] <;> rfl)
          case hQZ197 => exact (fun _ _ _ h => h)
          case hwZ197 => rfl
          case hyZ197 => (intro w hSw; (try dsimp only at hSw); go_simp; try with_reducible rfl)
          (try simp only [Act.put, List.setIfInBounds_toArray, List.set_cons_zero, List.set_cons_succ])
          refine take_w (i := 9) (oi := ?oZ198) (v := ?vZ198) ?hiZ198 (by kernel_rfl) (by kernel_rfl) (by kernel_rfl) ?hQZ198 ?hwZ198 ?hyZ198 (by assumption) ?restZ198
          case hiZ198 => (simp only [List.getElem?_toArray, List.getElem?_cons_succ, List.getElem?_cons_zero] <;> rfl)
          case hQZ198 => exact (fun _ _ _ h => h)
          case hwZ198 => rfl
          case hyZ198 => (intro w hSw; (try dsimp only at hSw); go_simp; try with_reducible rfl)
          (try simp only [Act.put, List.setIfInBounds_toArray, List.set_cons_zero, List.set_cons_succ])
          refine take_w (i := 10) (oi := ?oZ199) (v := ?vZ199) ?hiZ199 (by kernel_rfl) (by kernel_rfl) (by kernel_rfl) ?hQZ199 ?hwZ199 ?hyZ199 (by assumption) ?restZ199
          case hiZ199 => (simp only [List.getElem?_toArray, List.getElem?_cons_succ, List.getElem?_cons_zero] <;> rfl)
          case hQZ199 => exact (fun _ _ _ h => h)
          case hwZ199 => rfl
          case hyZ199 => (intro w hSw; (try dsimp only at hSw); go_simp; try with_reducible rfl)
          (try simp only [Act.put, List.setIfInBounds_toArray, List.set_cons_zero, List.set_cons_succ])
          refine take_w (i := 11) (oi := ?oZ200) (v := ?vZ200) ?hiZ200 (by kernel_rfl) (by kernel_rfl) (by kernel_rfl) ?hQZ200 ?hwZ200 ?hyZ200 (by assumption) ?restZ200
          case hiZ200 => (simp only [List.getElem?_toArray, List.getElem?_cons_succ, List.getElem?_cons_zero] <;> rfl)
          case hQZ200 => exact (fun _ _ _ h => h)
          case hwZ200 => rfl
          case hyZ200 => (intro w hSw; (try dsimp only at hSw); go_simp; try with_reducible rfl)
          (try simp only [Act.put, List.setIfInBounds_toArray, List.set_cons_zero, List.set_cons_succ])
          refine take_w (i := 12) (oi := ?oZ201) (v := ?vZ201) ?hiZ201 (by kernel_rfl) (by kernel_rfl) (by kernel_rfl) ?hQZ201 ?hwZ201 ?hyZ201 (by assumption) ?restZ201
          case hiZ201 => (simp only [List.getElem?_toArray, List.getElem?_cons_succ, List.getElem?_cons_zero] <;> rfl)
          case hQZ201 => exact (fun _ _ _ h => h)
          case hwZ201 => rfl
          case hyZ201 => (intro w hSw; (try dsimp only at hSw); go_simp; try with_reducible rfl)
          (try simp only [Act.put, List.setIfInBounds_toArray, List.set_cons_zero, List.set_cons_succ])
          refine take_w (i := 13) (oi := ?oZ202) (v := ?vZ202) ?hiZ202 (by kernel_rfl) (by kernel_rfl) (by kernel_rfl) ?hQZ202 ?hwZ202 ?hyZ202 (by assumption) ?restZ202
          case hiZ202 => (simp only [List.getElem?_toArray, List.getElem?_cons_succ, List.getElem?_cons_zero] <;> rfl)
          case hQZ202 => exact (fun _ _ _ h => h)
          case hwZ202 => rfl
          case hyZ202 => (intro w hSw; (try dsimp only at hSw); go_simp; try with_reducible rfl)
          (try simp only [Act.put, List.setIfInBounds_toArray, List.set_cons_zero, List.set_cons_succ])
          refine take_w (i := 14) (oi := ?oZ203) (v := ?vZ203) ?hiZ203 (by kernel_rfl) (by kernel_rfl) (by kernel_rfl) ?hQZ203 ?hwZ203 ?hyZ203 (by assumption) ?restZ203
          case hiZ203 => (simp only [List.getElem?_toArray, List.getElem?_cons_succ, List.getElem?_cons_zero] <;> rfl)
          case hQZ203 => exact (fun _ _ _ h => h)
          case hwZ203 => rfl
          case hyZ203 => (intro w hSw; (try dsimp only at hSw); go_simp; try with_reducible rfl)
          (try simp only [Act.put, List.setIfInBounds_toArray, List.set_cons_zero, List.set_cons_succ])
          refine take_w (i := 15) (oi := ?oZ204) (v := ?vZ204) ?hiZ204 (by kernel_rfl) (by kernel_rfl) (by kernel_rfl) ?hQZ204 ?hwZ204 ?hyZ204 (by assumption) ?restZ204
          case hiZ204 => (simp only [List.getElem?_toArray, List.getElem?_cons_succ, List.getElem?_cons_zero] <;> rfl)
          case hQZ204 => exact (fun _ _ _ h => h)
          case hwZ204 => rfl
          case hyZ204 => (intro w hSw; (try dsimp only at hSw); go_simp; try with_reducible rfl)
          (try simp only [Act.put, List.setIfInBounds_toArray, List.set_cons_zero, List.set_cons_succ])
          refine take_w (i := 16) (oi := ?oZ205) (v := ?vZ205) ?hiZ205 (by kernel_rfl) (by kernel_rfl) (by kernel_rfl) ?hQZ205 ?hwZ205 ?hyZ205 (by assumption) ?restZ205
          case hiZ205 => (simp only [List.getElem?_toArray, List.getElem?_cons_succ, List.getElem?_cons_zero] <;> rfl)
          case hQZ205 => exact (fun _ _ _ h => h)
          case hwZ205 => rfl
          case hyZ205 => (intro w hSw; (try dsimp only at hSw); go_simp; try with_reducible rfl)
          (try simp only [Act.put, List.setIfInBounds_toArray, List.set_cons_zero, List.set_cons_succ])
          refine take_w (i := 17) (oi := ?oZ206) (v := ?vZ206) ?hiZ206 (by kernel_rfl) (by kernel_rfl) (by kernel_rfl) ?hQZ206 ?hwZ206 ?hyZ206 (by assumption) ?restZ206
          case hiZ206 => (simp only [List.getElem?_toArray, List.getElem?_cons_succ, List.getElem?_cons_zero] <;> rfl)
          case hQZ206 => exact (fun _ _ _ h => h)
          case hwZ206 => rfl
          case hyZ206 => (intro w hSw; (try dsimp only at hSw); go_simp; try with_reducible rfl)
          (try simp only [Act.put, List.setIfInBounds_toArray, List.set_cons_zero, List.set_cons_succ])
          refine take_w (i := 18) (oi := ?oZ207) (v := ?vZ207) ?hiZ207 (by kernel_rfl) (by kernel_rfl) (by kernel_rfl) ?hQZ207 ?hwZ207 ?hyZ207 (by assumption) ?restZ207
          case hiZ207 => (simp only [List.getElem?_toArray, List.getElem?_cons_succ, List.getElem?_cons_zero] <;> rfl)
          case hQZ207 => exact (fun _ _ _ h => h)
          case hwZ207 => rfl
          case hyZ207 => (intro w hSw; (try dsimp only at hSw); go_simp; try with_reducible rfl)
          (try simp only [Act.put, List.setIfInBounds_toArray, List.set_cons_zero, List.set_cons_succ])
          refine take_w (i := 19) (oi := ?oZ208) (v := ?vZ208) ?hiZ208 (by kernel_rfl) (by kernel_rfl) (by kernel_rfl) ?hQZ208 ?hwZ208 ?hyZ208 (by assumption) ?restZ208
          case hiZ208 => (simp only [List.getElem?_toArray, List.getElem?_cons_succ, List.getElem?_cons_zero] <;> rfl)
          case hQZ208 => exact (fun _ _ _ h => h)
          case hwZ208 => rfl
          case hyZ208 => (intro w hSw; (try dsimp only at hSw); go_simp; try with_reducible rfl)
          (try simp only [Act.put, List.setIfInBounds_toArray, List.set_cons_zero, List.set_cons_succ])
          refine take_w (i := 20) (oi := ?oZ209) (v := ?vZ209) ?hiZ209 (by kernel_rfl) (by kernel_rfl) (by kernel_rfl) ?hQZ209 ?hwZ209 ?hyZ209 (by assumption) ?restZ209
          case hiZ209 => (simp only [List.getElem?_toArray, List.getElem?_cons_succ, List.getElem?_cons_zero] <;> rfl)
          case hQZ209 => exact (fun _ _ _ h => h)
          case hwZ209 => rfl
          case hyZ209 => (intro w hSw; (try dsimp only at hSw); go_simp; try with_reducible rfl)
          (try simp only [Act.put, List.setIfInBounds_toArray, List.set_cons_zero, List.set_cons_succ])
          refine take_w (i := 21) (oi := ?oZ210) (v := ?vZ210) ?hiZ210 (by kernel_rfl) (by kernel_rfl) (by kernel_rfl) ?hQZ210 ?hwZ210 ?hyZ210 (by assumption) ?restZ210
          case hiZ210 => (simp only [List.getElem?_toArray, List.getElem?_cons_succ, List.getElem?_cons_zero] <;> rfl)
          case hQZ210 => exact (fun _ _ _ h => h)
          case hwZ210 => rfl
          case hyZ210 => (intro w hSw; (try dsimp only at hSw); go_simp; try with_reducible rfl)
          (try simp only [Act.put, List.setIfInBounds_toArray, List.set_cons_zero, List.set_cons_succ])
          refine take_w (i := 22) (oi := ?oZ211) (v := ?vZ211) ?hiZ211 (by kernel_rfl) (by kernel_rfl) (by kernel_rfl) ?hQZ211 ?hwZ211 ?hyZ211 (by assumption) ?restZ211
          case hiZ211 => (simp only [List.getElem?_toArray, List.getElem?_cons_succ, List.getElem?_cons_zero] <;> rfl)
          case hQZ211 => exact (fun _ _ _ h => h)
          case hwZ211 => rfl
          case hyZ211 => (intro w hSw; (try dsimp only at hSw); go_simp; try with_reducible rfl)
          (try simp only [Act.put, List.setIfInBounds_toArray, List.set_cons_zero, List.set_cons_succ])
          refine take_w (i := 23) (oi := ?oZ212) (v := ?vZ212) ?hiZ212 (by kernel_rfl) (by kernel_rfl) (by kernel_rfl) ?hQZ212 ?hwZ212 ?hyZ212 (by assumption) ?restZ212
          case hiZ212 => (simp only [List.getElem?_toArray, List.getElem?_cons_succ, List.getElem?_cons_zero] <;> rfl)
          case hQZ212 => exact (fun _ _ _ h => h)
          case hwZ212 => rfl
          case hyZ212 => (intro w hSw; (try dsimp only at hSw); go_simp; try with_reducible rfl)
          (try simp only [Act.put, List.setIfInBounds_toArray, List.set_cons_zero, List.set_cons_succ])
          refine take_w (i := 24) (oi := ?oZ213) (v := ?vZ213) ?hiZ213 (by kernel_rfl) (by kernel_rfl) (by kernel_rfl) ?hQZ213 ?hwZ213 ?hyZ213 (by assumption) ?restZ213
          case hiZ213 => (simp only [List.getElem?_toArray, List.getElem?_cons_succ, List.getElem?_cons_zero] <;> rfl)
          case hQZ213 => exact (fun _ _ _ h => h)
          case hwZ213 => rfl
          case hyZ213 => (intro w hSw; (try dsimp only at hSw); go_simp; try with_reducible rfl)
          (try simp only [Act.put, List.setIfInBounds_toArray, List.set_cons_zero, List.set_cons_succ])
          refine take_w (i := 25) (oi := ?oZ214) (v := ?vZ214) ?hiZ214 (by kernel_rfl) (by kernel_rfl) (by kernel_rfl) ?hQZ214 ?hwZ214 ?hyZ214 (by assumption) ?restZ214
          case hiZ214 => (simp only [List.getElem?_toArray, List.getElem?_cons_succ, List.getElem?_cons_zero] <;> rfl)
          case hQZ214 => exact (fun _ _ _ h => h)
          case hwZ214 => rfl
          case hyZ214 => (intro w hSw; (try dsimp only at hSw); go_simp; try with_reducible rfl)
          (try simp only [Act.put, List.setIfInBounds_toArray, List.set_cons_zero, List.set_cons_succ])
          refine wpAnyH_done (by kernel_rfl) ?_ _
          clear hHeld
          clear HS11
          have HD10 : Hid (QX w w10 sp f tt g8 h2 a) := Lib.hid (by rw [hw10]; exact HD9.out.drew)
          have HRA10 : Hid (RP w10 (.slice raA rA rcA) rsA kA) := Lib.hid (by rw [hw10]; exact HRA9.out.drew)
          have HRB10 : Hid (RP w10 (.slice raB rB rcB) rsB kB) := Lib.hid (by rw [hw10]; exact HRB9.out.drew)
          have HRC10 : Hid (RP w10 (.slice raC rC rcC) rsC kC) := Lib.hid (by rw [hw10]; exact HRC9.out.drew)
          rw [← hw10]
          clear hw10
          go_upto_region 13 with (first
            | (at_builtin
               refine wpList_append_recs _ rfl (.tmp 121) (.tmp 122) 35 rfl recP w10.heap.size 49 ti _ 48 Try.underlying35 HTI.out.1 HTI.out.2.1 HTI.out.2.2.1 HTI.out.2.2.2 rfl (.slice (some ⟨w10.heap.size, 0, none⟩) 0 0) [] rfl (OwnR.empty recP w10 49 w10.heap.size (Nat.le_refl _)) 0 (.slice raA rA rcA) rsA rfl ((HRA10.out.below ((Below.refl _ _).alloc (Nat.le_refl _) _)).o) ?_ (by omega) (by simp) ?_
               · have h1 := HNA.out
                 have h2 := HLE.out.1
                 simp only [List.length_nil]
                 omega
               intro v11 w11 ho11 hg11
               have q11 : Below w10.heap.size w10 w11 := ((Below.refl w10.heap.size w10).alloc (Nat.le_refl _) _).grown hg11 (by simp) (fun j hj => by have e : w10.heap.size = j := Option.some.inj hj; omega)
               have HO11 := Lib.hid ho11
               have HQ11 := Lib.hid q11
               obtain ⟨a11, c11, hv11⟩ := ho11.sl
               subst hv11
               clear ho11 hg11 q11)
            | (at_builtin
               refine wpList_append_recs _ rfl (.tmp 123) (.tmp 124) 35 rfl recP w10.heap.size 49 ti _ 48 Try.underlying35 HTI.out.1 HTI.out.2.1 HTI.out.2.2.1 HTI.out.2.2.2 rfl (.slice a11 ([] ++ rsA).length c11) ([] ++ rsA) rfl HO11.out 0 (.slice raB rB rcB) rsB rfl ((HRB10.out.below HQ11.out).o) ?_ (by omega) HQ11.out.size ?_
               · have h1 := HNA.out
                 have h2 := HNB.out
                 have h3 := HLE.out
                 simp only [List.nil_append]
                 omega
               intro v12 w12 ho12 hg12
               have q12 : Below w10.heap.size w10 w12 := HQ11.out.grown hg12 HQ11.out.size (fun j hj => (HO11.out.base_le hj).1)
               have HD12 := Lib.hid (HD10.out.below q12)
               rw [List.nil_append] at ho12
               have HRC12 := Lib.hid (HRC10.out.below q12)
               have HRX12 : Hid (RP w12 v12 (rsA ++ rsB) (kA ++ kB)) := Lib.hid ⟨ho12.weak (Nat.zero_le _), (HRA10.out.below q12).p.app (HRB10.out.below q12).p⟩
               have hl12 : (rsA ++ rsB).length = rA + rB := by rw [List.length_append, HNA.out.2, HNB.out.2]
               obtain ⟨a12, c12, hv12⟩ := ho12.sl
               rw [hl12] at hv12
               subst hv12
               clear ho12 hg12 q12 hl12))
          go_wp2_with fail
          go_ret
          exact ⟨rfl, HD12.out.sx.b⟩
      | false =>
        rw [c3, Bool.not_false] at hle2
        have HIN : Hid (ltL at' f = false ∧ (sp.out || !ltL tt at') = true) := Lib.hid ⟨c1, by rw [c3]; simp⟩
        clear c1 c3 co
        obtain ⟨x0, x1, x2, x3, x4⟩ := HD8.out.tb.cells
        cases hgt : a.get at' with
        | none =>
          have HGT := Lib.hid hgt
          have hkp : kP = [] := by rw [← HKP.out, point_pairs HD8.out.ti HGD.out.rise at', hgt]; rfl
          have hr0 : rP = 0 := by rw [HNP.out.1, hkp]; rfl
          subst hr0
          clear hgt hkp
          go_upto_region 11 with (first
            | (go_at_call 21
               refine (refGet_any a h2 at' aa an ac _ HD8.out.ti HGD.out.lim HCN.out (HA.out.below HD8.out.sx.b)).mono ?_
               rw [HGT.out]
               rintro _ w9 ⟨a9, n9, c9, rfl, hi9, hb9⟩
               have HD9 := Lib.hid (HD8.out.below hb9)
               have HRA9 := Lib.hid (HRA8.out.below hb9)
               have HRB9 := Lib.hid (HRB8.out.below hb9)
               have HRC9 := Lib.hid (HRC8.out.below hb9)
               have HRP9 := Lib.hid (HRP8.out.below hb9)
               have HI9 := Lib.hid hi9
               clear hb9 hi9 x0 x1 x2 x3 x4))
          obtain ⟨w10, hw10⟩ : ∃ w10 : World, w10 = w9.drew := ⟨_, rfl⟩
          refine wp_region_held_drew (S := (fun _ => True)) (by kernel_rfl) trivial (fun hHeld => ?_)
          refine take_w (i := 0) (oi := ?oZ215) (v := ?vZ215) ?hiZ215 (by kernel_rfl) (by kernel_rfl) (by kernel_rfl) ?hQZ215 ?hwZ215 ?hyZ215 (by assumption) ?restZ215
          case hiZ215 => (simp only [List.getElem?_toArray, List.getElem?_cons_zero] <;> rfl)
          case hQZ215 => exact (fun _ _ _ h => h)
          case hwZ215 => rfl
          case hyZ215 => (intro w hSw; (try dsimp only at hSw); go_simp; try with_reducible rfl)
          (try simp only [Act.put, List.setIfInBounds_toArray, List.set_cons_zero, List.set_cons_succ])
          refine take_w (i := 1) (oi := ?oZ216) (v := ?vZ216) ?hiZ216 (by kernel_rfl) (by kernel_rfl) (by kernel_rfl) ?hQZ216 ?hwZ216 ?hyZ216 (by assumption) ?restZ216
          case hiZ216 => (simp only [List.getElem?_toArray, List.getElem?_cons_succ, List.getElem?_cons_zero] <;> rfl)
          case hQZ216 => exact (fun _ _ _ h => h)
          case hwZ216 => rfl
          case hyZ216 => (intro w hSw; (try dsimp only at hSw); go_simp; try with_reducible rfl)
          (try simp only [Act.put, List.setIfInBounds_toArray, List.set_cons_zero, List.set_cons_succ])
          refine take_w (i := 2) (oi := ?oZ217) (v := ?vZ217) ?hiZ217 (by kernel_rfl) (by kernel_rfl) (by kernel_rfl) ?hQZ217 ?hwZ217 ?hyZ217 (by assumption) ?restZ217
          case hiZ217 => (simp only [List.getElem?_toArray, List.getElem?_cons_succ, List.getElem?_cons_zero] <;> rfl)
          case hQZ217 => exact (fun _ _ _ h => h)
          case hwZ217 => rfl
          case hyZ217 => (intro w hSw; (try dsimp only at hSw); go_simp; try with_reducible rfl)
          (try simp only [Act.put, List.setIfInBounds_toArray, List.set_cons_zero, List.set_cons_succ])
          refine take_w (i := 3) (oi := ?oZ218) (v := ?vZ218) ?hiZ218 (by kernel_rfl) (by kernel_rfl) (by kernel_rfl) ?hQZ218 ?hwZ218 ?hyZ218 (by assumption) ?restZ218
          case hiZ218 => (simp only [List.getElem?_toArray, List.getElem?_cons_succ, List.getElem?_cons_zero] <;> rfl)
          case hQZ218 => exact (fun _ _ _ h => h)
          case hwZ218 => rfl
          case hyZ218 => (intro w hSw; (try dsimp only at hSw); go_simp; try with_reducible rfl)
          (try simp only [Act.put, List.setIfInBounds_toArray, List.set_cons_zero, List.set_cons_succ])
          refine take_w (i := 4) (oi := ?oZ219) (v := ?vZ219) ?hiZ219 (by kernel_rfl) (by kernel_rfl) (by kernel_rfl) ?hQZ219 ?hwZ219 ?hyZ219 (by assumption) ?restZ219
          case hiZ219 => (simp only [List.getElem?_toArray, List.getElem?_cons_succ, List.getElem?_cons_zero] <;> rfl)
          case hQZ219 => exact (fun _ _ _ h => h)
          case hwZ219 => rfl
          case hyZ219 => (intro w hSw; (try dsimp only at hSw); go_simp; try with_reducible rfl)
          (try simp only [Act.put, List.setIfInBounds_toArray, List.set_cons_zero, List.set_cons_succ])
          refine take_w (i := 5) (oi := ?oZ220) (v := ?vZ220) ?hiZ220 (by kernel_rfl) (by kernel_rfl) (by kernel_rfl) ?hQZ220 ?hwZ220 ?hyZ220 (by assumption) ?restZ220
          case hiZ220 => (simp only [List.getElem?_toArray, List.getElem?_cons_succ, List.getElem?_cons_zero] <;> rfl)
          case hQZ220 => exact (fun _ _ _ h => h)
          case hwZ220 => rfl
          case hyZ220 => (intro w hSw; (try dsimp only at hSw); go_simp; try with_reducible rfl)
          (try simp only [Act.put, List.setIfInBounds_toArray, List.set_cons_zero, List.set_cons_succ])
          refine take_w (i := 6) (oi := ?oZ221) (v := ?vZ221) ?hiZ221 (by kernel_rfl) (by kernel_rfl) (by kernel_rfl) ?hQZ221 ?hwZ221 ?hyZ221 (by assumption) ?restZ221
          case hiZ221 => (simp only [List.getElem?_toArray, List.getElem?_cons_succ, List.getElem?_cons_zero] <;> rfl)
          case hQZ221 => exact (fun _ _ _ h => h)
          case hwZ221 => rfl
          case hyZ221 => (intro w hSw; (try dsimp only at hSw); go_simp; try with_reducible rfl)
          (try simp only [Act.put, List.setIfInBounds_toArray, List.set_cons_zero, List.set_cons_succ])
          refine take_w (i := 7) (oi := ?oZ222) (v := ?vZ222) ?hiZ222 (by kernel_rfl) (by kernel_rfl) (by kernel_rfl) ?hQZ222 ?hwZ222 ?hyZ222 (by assumption) ?restZ222
          case hiZ222 => (simp only [List.getElem?_toArray, List.getElem?_cons_succ, List.getElem?_cons_zero] <;> rfl)
          case hQZ222 => exact (fun _ _ _ h => h)
          case hwZ222 => rfl
          case hyZ222 => (intro w hSw; (try dsimp only at hSw); go_simp; try with_reducible rfl)
          (try simp only [Act.put, List.setIfInBounds_toArray, List.set_cons_zero, List.set_cons_succ])
          refine take_u (i := 8) (oi := ?oZ223) ?hiZ223 (by kernel_rfl) (by kernel_rfl) (by kernel_rfl) ?hQZ223 ?hwZ223 (by assumption) ?restZ223
          case hiZ223 => (simp only [List.getElem?_toArray, List.getElem?_cons_succ, List.getElem?_cons_zero] <;> rfl)
          case hQZ223 => exact (fun _ _ _ h => h)
          case hwZ223 => rfl
          (try simp only [Act.put, List.setIfInBounds_toArray, List.set_cons_zero, List.set_cons_succ])
          refine take_u (i := 9) (oi := ?oZ224) ?hiZ224 (by kernel_rfl) (by kernel_rfl) (by kernel_rfl) ?hQZ224 ?hwZ224 (by assumption) ?restZ224
          case hiZ224 => (simp only [List.getElem?_toArray, List.getElem?_cons_succ, List.getElem?_cons_zero] <;> rfl)
          case hQZ224 => exact (fun _ _ _ h => h)
          case hwZ224 => rfl
          (try simp only [Act.put, List.setIfInBounds_toArray, List.set_cons_zero, List.set_cons_succ])
          refine take_u (i := 10) (oi := ?oZ225) ?hiZ225 (by kernel_rfl) (by kernel_rfl) (by kernel_rfl) ?hQZ225 ?hwZ225 (by assumption) ?restZ225
          case hiZ225 => (simp only [List.getElem?_toArray, List.getElem?_cons_succ, List.getElem?_cons_zero] <;> rfl)
          case hQZ225 => exact (fun _ _ _ h => h)
          case hwZ225 => rfl
          (try simp only [Act.put, List.setIfInBounds_toArray, List.set_cons_zero, List.set_cons_succ])
          refine take_u (i := 11) (oi := ?oZ226) ?hiZ226 (by kernel_rfl) (by kernel_rfl) (by kernel_rfl) ?hQZ226 ?hwZ226 (by assumption) ?restZ226
          case hiZ226 => (simp only [List.getElem?_toArray, List.getElem?_cons_succ, List.getElem?_cons_zero] <;> rfl)
          case hQZ226 => exact (fun _ _ _ h => h)
          case hwZ226 => rfl
          (try simp only [Act.put, List.setIfInBounds_toArray, List.set_cons_zero, List.set_cons_succ])
          refine take_u (i := 12) (oi := ?oZ227) ?hiZ227 (by kernel_rfl) (by kernel_rfl) (by kernel_rfl) ?hQZ227 ?hwZ227 (by assumption) ?restZ227
          case hiZ227 => (simp only [List.getElem?_toArray, List.getElem?_cons_succ, List.getElem?_cons_zero] <;> rfl)
          case hQZ227 => exact (fun _ _ _ h => h)
          case hwZ227 => rfl
          (try simp only [Act.put, List.setIfInBounds_toArray, List.set_cons_zero, List.set_cons_succ])
          refine take_u (i := 13) (oi := ?oZ228) ?hiZ228 (by kernel_rfl) (by kernel_rfl) (by kernel_rfl) ?hQZ228 ?hwZ228 (by assumption) ?restZ228
          case hiZ228 => (simp only [List.getElem?_toArray, List.getElem?_cons_succ, List.getElem?_cons_zero] <;> rfl)
          case hQZ228 => exact (fun _ _ _ h => h)
          case hwZ228 => rfl
          (try simp only [Act.put, List.setIfInBounds_toArray, List.set_cons_zero, List.set_cons_succ])
          refine take_u (i := 14) (oi := ?oZ229) ?hiZ229 (by kernel_rfl) (by kernel_rfl) (by kernel_rfl) ?hQZ229 ?hwZ229 (by assumption) ?restZ229
          case hiZ229 => (simp only [List.getElem?_toArray, List.getElem?_cons_succ, List.getElem?_cons_zero] <;> rfl)
          case hQZ229 => exact (fun _ _ _ h => h)
          case hwZ229 => rfl
          (try simp only [Act.put, List.setIfInBounds_toArray, List.set_cons_zero, List.set_cons_succ])
          refine take_u (i := 15) (oi := ?oZ230) ?hiZ230 (by kernel_rfl) (by kernel_rfl) (by kernel_rfl) ?hQZ230 ?hwZ230 (by assumption) ?restZ230
          case hiZ230 => (simp only [List.getElem?_toArray, List.getElem?_cons_succ, List.getElem?_cons_zero] <;> rfl)
          case hQZ230 => exact (fun _ _ _ h => h)
          case hwZ230 => rfl
          (try simp only [Act.put, List.setIfInBounds_toArray, List.set_cons_zero, List.set_cons_succ])
          refine take_u (i := 16) (oi := ?oZ231) ?hiZ231 (by kernel_rfl) (by kernel_rfl) (by kernel_rfl) ?hQZ231 ?hwZ231 (by assumption) ?restZ231
          case hiZ231 => (simp only [List.getElem?_toArray, List.getElem?_cons_succ, List.getElem?_cons_zero] <;> rfl)
          case hQZ231 => exact (fun _ _ _ h => h)
          case hwZ231 => rfl
          (try simp only [Act.put, List.setIfInBounds_toArray, List.set_cons_zero, List.set_cons_succ])
          refine take_u (i := 17) (oi := ?oZ232) ?hiZ232 (by kernel_rfl) (by kernel_rfl) (by kernel_rfl) ?hQZ232 ?hwZ232 (by assumption) ?restZ232
          case hiZ232 => (simp only [List.getElem?_toArray, List.getElem?_cons_succ, List.getElem?_cons_zero] <;> rfl)
          case hQZ232 => exact (fun _ _ _ h => h)
          case hwZ232 => rfl
          (try simp only [Act.put, List.setIfInBounds_toArray, List.set_cons_zero, List.set_cons_succ])
          refine take_u (i := 18) (oi := ?oZ233) ?hiZ233 (by kernel_rfl) (by kernel_rfl) (by kernel_rfl) ?hQZ233 ?hwZ233 (by assumption) ?restZ233
          case hiZ233 => (simp only [List.getElem?_toArray, List.getElem?_cons_succ, List.getElem?_cons_zero] <;> rfl)
          case hQZ233 => exact (fun _ _ _ h => h)
          case hwZ233 => rfl
          (try simp only [Act.put, List.setIfInBounds_toArray, List.set_cons_zero, List.set_cons_succ])
          refine take_u (i := 19) (oi := ?oZ234) ?hiZ234 (by kernel_rfl) (by kernel_rfl) (by kernel_rfl) ?hQZ234 ?hwZ234 (by assumption) ?restZ234
          case hiZ234 => (simp only [List.getElem?_toArray, List.getElem?_cons_succ, List.getElem?_cons_zero] <;> rfl)
          case hQZ234 => exact (fun _ _ _ h => h)
          case hwZ234 => rfl
          (try simp only [Act.put, List.setIfInBounds_toArray, List.set_cons_zero, List.set_cons_succ])
          refine take_u (i := 20) (oi := ?oZ235) ?hiZ235 (by kernel_rfl) (by kernel_rfl) (by kernel_rfl) ?hQZ235 ?hwZ235 (by assumption) ?restZ235
          case hiZ235 => (simp only [List.getElem?_toArray, List.getElem?_cons_succ, List.getElem?_cons_zero] <;> rfl)
          case hQZ235 => exact (fun _ _ _ h => h)
          case hwZ235 => rfl
          (try simp only [Act.put, List.setIfInBounds_toArray, List.set_cons_zero, List.set_cons_succ])
          refine take_u (i := 21) (oi := ?oZ236) ?hiZ236 (by kernel_rfl) (by kernel_rfl) (by kernel_rfl) ?hQZ236 ?hwZ236 (by assumption) ?restZ236
          case hiZ236 => (simp only [List.getElem?_toArray, List.getElem?_cons_succ, List.getElem?_cons_zero] <;> rfl)
          case hQZ236 => exact (fun _ _ _ h => h)
          case hwZ236 => rfl
          (try simp only [Act.put, List.setIfInBounds_toArray, List.set_cons_zero, List.set_cons_succ])
          refine take_u (i := 22) (oi := ?oZ237) ?hiZ237 (by kernel_rfl) (by kernel_rfl) (by kernel_rfl) ?hQZ237 ?hwZ237 (by assumption) ?restZ237
          case hiZ237 => (simp only [List.getElem?_toArray, List.getElem?_cons_succ, List.getElem?_cons_zero] <;> rfl)
          case hQZ237 => exact (fun _ _ _ h => h)
          case hwZ237 => rfl
          (try simp only [Act.put, List.setIfInBounds_toArray, List.set_cons_zero, List.set_cons_succ])
          refine take_u (i := 23) (oi := ?oZ238) ?hiZ238 (by kernel_rfl) (by kernel_rfl) (by kernel_rfl) ?hQZ238 ?hwZ238 (by assumption) ?restZ238
          case hiZ238 => (simp only [List.getElem?_toArray, List.getElem?_cons_succ, List.getElem?_cons_zero] <;> rfl)
          case hQZ238 => exact (fun _ _ _ h => h)
          case hwZ238 => rfl
          (try simp only [Act.put, List.setIfInBounds_toArray, List.set_cons_zero, List.set_cons_succ])
          refine take_w (i := 24) (oi := ?oZ239) (v := ?vZ239) ?hiZ239 (by kernel_rfl) (by kernel_rfl) (by kernel_rfl) ?hQZ239 ?hwZ239 ?hyZ239 (by assumption) ?restZ239
          case hiZ239 => (simp only [List.getElem?_toArray, List.getElem?_cons_succ, List.getElem?_cons_zero] <;> rfl)
          case hQZ239 => exact (fun _ _ _ h => h)
          case hwZ239 => rfl
          case hyZ239 => (intro w hSw; (try dsimp only at hSw); go_simp; try with_reducible rfl)
          (try simp only [Act.put, List.setIfInBounds_toArray, List.set_cons_zero, List.set_cons_succ])
          refine take_w (i := 25) (oi := ?oZ240) (v := ?vZ240) ?hiZ240 (by kernel_rfl) (by kernel_rfl) (by kernel_rfl) ?hQZ240 ?hwZ240 ?hyZ240 (by assumption) ?restZ240
          case hiZ240 => (simp only [List.getElem?_toArray, List.getElem?_cons_succ, List.getElem?_cons_zero] <;> rfl)
          case hQZ240 => exact (fun _ _ _ h => h)
          case hwZ240 => rfl
          case hyZ240 => (intro w hSw; (try dsimp only at hSw); go_simp; try with_reducible rfl)
          (try simp only [Act.put, List.setIfInBounds_toArray, List.set_cons_zero, List.set_cons_succ])
          refine wpAnyH_done (by kernel_rfl) ?_ _
          clear hHeld
          have HD10 : Hid (QX w w10 sp f tt g8 h2 a) := Lib.hid (by rw [hw10]; exact HD9.out.drew)
          have HRA10 : Hid (RP w10 (.slice raA rA rcA) rsA kA) := Lib.hid (by rw [hw10]; exact HRA9.out.drew)
          have HRB10 : Hid (RP w10 (.slice raB rB rcB) rsB kB) := Lib.hid (by rw [hw10]; exact HRB9.out.drew)
          have HRC10 : Hid (RP w10 (.slice raC rC rcC) rsC kC) := Lib.hid (by rw [hw10]; exact HRC9.out.drew)
          rw [← hw10]
          clear hw10
          go_upto_region 13 with (first
            | (at_builtin
               refine wpList_append_recs _ rfl (.tmp 121) (.tmp 122) 35 rfl recP w10.heap.size 49 ti _ 48 Try.underlying35 HTI.out.1 HTI.out.2.1 HTI.out.2.2.1 HTI.out.2.2.2 rfl (.slice (some ⟨w10.heap.size, 0, none⟩) 0 0) [] rfl (OwnR.empty recP w10 49 w10.heap.size (Nat.le_refl _)) 0 (.slice raA rA rcA) rsA rfl ((HRA10.out.below ((Below.refl _ _).alloc (Nat.le_refl _) _)).o) ?_ (by omega) (by simp) ?_
               · have h1 := HNA.out
                 have h2 := HLE.out.1
                 simp only [List.length_nil]
                 omega
               intro v11 w11 ho11 hg11
               have q11 : Below w10.heap.size w10 w11 := ((Below.refl w10.heap.size w10).alloc (Nat.le_refl _) _).grown hg11 (by simp) (fun j hj => by have e : w10.heap.size = j := Option.some.inj hj; omega)
               have HO11 := Lib.hid ho11
               have HQ11 := Lib.hid q11
               obtain ⟨a11, c11, hv11⟩ := ho11.sl
               subst hv11
               clear ho11 hg11 q11)
            | (at_builtin
               refine wpList_append_recs _ rfl (.tmp 123) (.tmp 124) 35 rfl recP w10.heap.size 49 ti _ 48 Try.underlying35 HTI.out.1 HTI.out.2.1 HTI.out.2.2.1 HTI.out.2.2.2 rfl (.slice a11 ([] ++ rsA).length c11) ([] ++ rsA) rfl HO11.out 0 (.slice raB rB rcB) rsB rfl ((HRB10.out.below HQ11.out).o) ?_ (by omega) HQ11.out.size ?_
               · have h1 := HNA.out
                 have h2 := HNB.out
                 have h3 := HLE.out
                 simp only [List.nil_append]
                 omega
               intro v12 w12 ho12 hg12
               have q12 : Below w10.heap.size w10 w12 := HQ11.out.grown hg12 HQ11.out.size (fun j hj => (HO11.out.base_le hj).1)
               have HD12 := Lib.hid (HD10.out.below q12)
               rw [List.nil_append] at ho12
               have HRC12 := Lib.hid (HRC10.out.below q12)
               have HRX12 : Hid (RP w12 v12 (rsA ++ rsB) (kA ++ kB)) := Lib.hid ⟨ho12.weak (Nat.zero_le _), (HRA10.out.below q12).p.app (HRB10.out.below q12).p⟩
               have hl12 : (rsA ++ rsB).length = rA + rB := by rw [List.length_append, HNA.out.2, HNB.out.2]
               obtain ⟨a12, c12, hv12⟩ := ho12.sl
               rw [hl12] at hv12
               subst hv12
               clear ho12 hg12 q12 hl12))
          have hkk : kA ++ kB = kC := by rw [← HKA.out, ← HKB.out, ← HKC.out]; exact parts_whole HIN.out.1 HIN.out.2 HGD.out.rise
          have hrr : rC = rA + rB := by rw [HNC.out.1, ← hkk, List.length_append, HNA.out.1, HNB.out.1]
          subst hrr
          rw [hkk] at HRX12
          go_wp2_with (first
            | (go_at_call 18
               refine (refSameP_any kC (fun i => (rsA ++ rsB).getD i pZ) (fun i => rsC.getD i pZ) a12 raC (rA + rB) c12 rcC _ HNC.out.1 (HRX12.out.o.inRec pZ).2 (HRC12.out.o.inRec pZ).2 HRX12.out.p.byD HRC12.out.p.byD).mono ?_
               rintro _ w13 ⟨rfl, hb13⟩
               have HD13 := Lib.hid (HD12.out.below hb13)
               clear hb13))
          go_ret
          exact ⟨rfl, HD13.out.sx.b⟩
        | some gv =>
          have HGT := Lib.hid hgt
          have hkp : kP = [(at', gv)] := by rw [← HKP.out, point_pairs HD8.out.ti HGD.out.rise at', hgt]; rfl
          have HKPV := Lib.hid hkp
          have hr1 : rP = 1 := by rw [HNP.out.1, hkp]; rfl
          subst hr1
          clear hgt hkp
          go_upto_region 11 with (first
            | (go_at_call 21
               refine (refGet_any a h2 at' aa an ac _ HD8.out.ti HGD.out.lim HCN.out (HA.out.below HD8.out.sx.b)).mono ?_
               rw [HGT.out]
               rintro _ w9 ⟨a9, n9, c9, rfl, hi9, hb9⟩
               have HD9 := Lib.hid (HD8.out.below hb9)
               have HRA9 := Lib.hid (HRA8.out.below hb9)
               have HRB9 := Lib.hid (HRB8.out.below hb9)
               have HRC9 := Lib.hid (HRC8.out.below hb9)
               have HRP9 := Lib.hid (HRP8.out.below hb9)
               have HI9 := Lib.hid hi9
               clear hb9 hi9 x0 x1 x2 x3 x4))
          obtain ⟨w10, hw10⟩ : ∃ w10 : World, w10 = w9.drew := ⟨_, rfl⟩
          have hk1 : kP.length = 1 := by rw [HKPV.out]; rfl
          have hps : 0 < rsP.length := by rw [HNP.out.2]; omega
          obtain ⟨gP, hgP, hcP⟩ := HRP9.out.drew.o.at 0 hps
          subst hgP
          have hvP : InBytes w9.drew (rsP[0]).va (rsP[0]).vn (rsP[0]).vc gv := by
            have q := (HRP9.out.drew.p.2 0 hps (by omega)).2
            simp only [HKPV.out] at q
            exact q
          have HS11 : Hid ((fun W => W.cell? ⟨gP, 1, none⟩ = some (.slice (rsP[0]).va (rsP[0]).vn (rsP[0]).vc) ∧ (convert 22 9 (.slice (rsP[0]).va (rsP[0]).vn (rsP[0]).vc)).run Try.prog W = .ok (.string (strOfNums gv)) W ∧ (convert 22 9 (.slice a9 n9 c9)).run Try.prog W = .ok (.string (strOfNums gv)) W) w9.drew) := Lib.hid ⟨by have q := hcP 1 _ rfl; simpa [recP] using q, conv_key hvP, conv_key (HI9.out.below (Below.refl _ _).drew)⟩
          have hse : ((strOfNums gv).toList == (strOfNums gv).toList) = true := by simp
          clear hcP hvP hk1
          refine wp_region_held_drew (S := (fun W => W.cell? ⟨gP, 1, none⟩ = some (.slice (rsP[0]).va (rsP[0]).vn (rsP[0]).vc) ∧ (convert 22 9 (.slice (rsP[0]).va (rsP[0]).vn (rsP[0]).vc)).run Try.prog W = .ok (.string (strOfNums gv)) W ∧ (convert 22 9 (.slice a9 n9 c9)).run Try.prog W = .ok (.string (strOfNums gv)) W)) (by kernel_rfl) HS11.out (fun hHeld => ?_)
          refine take_w (i := 0) (oi := ?oZ241) (v := ?vZ241) ?hiZ241 (by kernel_rfl) (by kernel_rfl) (by kernel_rfl) ?hQZ241 ?hwZ241 ?hyZ241 (by assumption) ?restZ241
          case hiZ241 => (simp only [List.getElem?_toArray, List.getElem?_cons_zero] <;> rfl)
          case hQZ241 => exact (fun _ _ _ h => h)
          case hwZ241 => rfl
          case hyZ241 => (intro w hSw; (try dsimp only at hSw); go_simp; try with_reducible rfl)
          (try simp only [Act.put, List.setIfInBounds_toArray, List.set_cons_zero, List.set_cons_succ])
          refine take_w (i := 1) (oi := ?oZ242) (v := ?vZ242) ?hiZ242 (by kernel_rfl) (by kernel_rfl) (by kernel_rfl) ?hQZ242 ?hwZ242 ?hyZ242 (by assumption) ?restZ242
          case hiZ242 => (simp only [List.getElem?_toArray, List.getElem?_cons_succ, List.getElem?_cons_zero] <;> rfl)
          case hQZ242 => exact (fun _ _ _ h => h)
          case hwZ242 => rfl
          case hyZ242 => (intro w hSw; (try dsimp only at hSw); go_simp; try with_reducible rfl)
          (try simp only [Act.put, List.setIfInBounds_toArray, List.set_cons_zero, List.set_cons_succ])
          refine take_w (i := 2) (oi := ?oZ243) (v := ?vZ243) ?hiZ243 (by kernel_rfl) (by kernel_rfl) (by kernel_rfl) ?hQZ243 ?hwZ243 ?hyZ243 (by assumption) ?restZ243
          case hiZ243 => (simp only [List.getElem?_toArray, List.getElem?_cons_succ, List.getElem?_cons_zero] <;> rfl)
          case hQZ243 => exact (fun _ _ _ h => h)
          case hwZ243 => rfl
          case hyZ243 => (intro w hSw; (try dsimp only at hSw); go_simp; try with_reducible rfl)
          (try simp only [Act.put, List.setIfInBounds_toArray, List.set_cons_zero, List.set_cons_succ])
          refine take_w (i := 3) (oi := ?oZ244) (v := ?vZ244) ?hiZ244 (by kernel_rfl) (by kernel_rfl) (by kernel_rfl) ?hQZ244 ?hwZ244 ?hyZ244 (by assumption) ?restZ244
          case hiZ244 => (simp only [List.getElem?_toArray, List.getElem?_cons_succ, List.getElem?_cons_zero] <;> rfl)
          case hQZ244 => exact (fun _ _ _ h => h)
          case hwZ244 => rfl
          case hyZ244 => (intro w hSw; (try dsimp only at hSw); go_simp; try with_reducible rfl)
          (try simp only [Act.put, List.setIfInBounds_toArray, List.set_cons_zero, List.set_cons_succ])
          refine take_u (i := 4) (oi := ?oZ245) ?hiZ245 (by kernel_rfl) (by kernel_rfl) (by kernel_rfl) ?hQZ245 ?hwZ245 (by assumption) ?restZ245
          case hiZ245 => (simp only [List.getElem?_toArray, List.getElem?_cons_succ, List.getElem?_cons_zero] <;> rfl)
          case hQZ245 => exact (fun _ _ _ h => h)
          case hwZ245 => rfl
          (try simp only [Act.put, List.setIfInBounds_toArray, List.set_cons_zero, List.set_cons_succ])
          refine take_u (i := 5) (oi := ?oZ246) ?hiZ246 (by kernel_rfl) (by kernel_rfl) (by kernel_rfl) ?hQZ246 ?hwZ246 (by assumption) ?restZ246
          case hiZ246 => (simp only [List.getElem?_toArray, List.getElem?_cons_succ, List.getElem?_cons_zero] <;> rfl)
          case hQZ246 => exact (fun _ _ _ h => h)
          case hwZ246 => rfl
          (try simp only [Act.put, List.setIfInBounds_toArray, List.set_cons_zero, List.set_cons_succ])
          refine take_w (i := 6) (oi := ?oZ247) (v := ?vZ247) ?hiZ247 (by kernel_rfl) (by kernel_rfl) (by kernel_rfl) ?hQZ247 ?hwZ247 ?hyZ247 (by assumption) ?restZ247
          case hiZ247 => (simp only [List.getElem?_toArray, List.getElem?_cons_succ, List.getElem?_cons_zero] <;> rfl)
          case hQZ247 => exact (fun _ _ _ h => h)
          case hwZ247 => rfl
          case hyZ247 => (intro w hSw; (try dsimp only at hSw); go_simp; try with_reducible rfl)
          (try simp only [Act.put, List.setIfInBounds_toArray, List.set_cons_zero, List.set_cons_succ])
          refine take_w (i := 7) (oi := ?oZ248) (v := ?vZ248) ?hiZ248 (by kernel_rfl) (by kernel_rfl) (by kernel_rfl) ?hQZ248 ?hwZ248 ?hyZ248 (by assumption) ?restZ248
          case hiZ248 => (simp only [List.getElem?_toArray, List.getElem?_cons_succ, List.getElem?_cons_zero] <;> rfl)
          case hQZ248 => exact (fun _ _ _ h => h)
          case hwZ248 => rfl
          case hyZ248 => (intro w hSw; (try dsimp only at hSw); go_simp; try with_reducible rfl)
          (try simp only [Act.put, List.setIfInBounds_toArray, List.set_cons_zero, List.set_cons_succ])
          refine take_w (i := 8) (oi := ?oZ249) (v := ?vZ249) ?hiZ249 (by kernel_rfl) (by kernel_rfl) (by kernel_rfl) ?hQZ249 ?hwZ249 ?hyZ249 (by assumption) ?restZ249
          case hiZ249 => (simp only [List.getElem?_toArray, List.getElem?_cons_succ, List.getElem?_cons_zero] <;> rfl)
          case hQZ249 => exact (fun _ _ _ h => h)
          case hwZ249 => rfl
          case hyZ249 => (intro w hSw; (try dsimp only at hSw); go_simp; try with_reducible rfl)
          (try simp only [Act.put, List.setIfInBounds_toArray, List.set_cons_zero, List.set_cons_succ])
          refine take_w (i := 9) (oi := ?oZ250) (v := ?vZ250) ?hiZ250 (by kernel_rfl) (by kernel_rfl) (by kernel_rfl) ?hQZ250 ?hwZ250 ?hyZ250 (by assumption) ?restZ250
          case hiZ250 => (simp only [List.getElem?_toArray, List.getElem?_cons_succ, List.getElem?_cons_zero] <;> rfl)
          case hQZ250 => exact (fun _ _ _ h => h)
          case hwZ250 => rfl
          case hyZ250 => (intro w hSw; (try dsimp only at hSw); go_simp; try with_reducible rfl)
          (try simp only [Act.put, List.setIfInBounds_toArray, List.set_cons_zero, List.set_cons_succ])
          refine take_w (i := 10) (oi := ?oZ251) (v := ?vZ251) ?hiZ251 (by kernel_rfl) (by kernel_rfl) (by kernel_rfl) ?hQZ251 ?hwZ251 ?hyZ251 (by assumption) ?restZ251
          case hiZ251 => (simp only [List.getElem?_toArray, List.getElem?_cons_succ, List.getElem?_cons_zero] <;> rfl)
          case hQZ251 => exact (fun _ _ _ h => h)
          case hwZ251 => rfl
          case hyZ251 => (intro w hSw; (try dsimp only at hSw); go_simp; try with_reducible rfl)
          (try simp only [Act.put, List.setIfInBounds_toArray, List.set_cons_zero, List.set_cons_succ])
          refine take_w (i := 11) (oi := ?oZ252) (v := ?vZ252) ?hiZ252 (by kernel_rfl) (by kernel_rfl) (by kernel_rfl) ?hQZ252 ?hwZ252 ?hyZ252 (by assumption) ?restZ252
          case hiZ252 => (simp only [List.getElem?_toArray, List.getElem?_cons_succ, List.getElem?_cons_zero] <;> rfl)
          case hQZ252 => exact (fun _ _ _ h => h)
          case hwZ252 => rfl
          case hyZ252 => (intro w hSw; (try dsimp only at hSw); go_simp; try with_reducible rfl)
          (try simp only [Act.put, List.setIfInBounds_toArray, List.set_cons_zero, List.set_cons_succ])
          refine take_w (i := 12) (oi := ?oZ253) (v := ?vZ253) ?hiZ253 (by kernel_rfl) (by kernel_rfl) (by kernel_rfl) ?hQZ253 ?hwZ253 ?hyZ253 (by assumption) ?restZ253
          case hiZ253 => (simp only [List.getElem?_toArray, List.getElem?_cons_succ, List.getElem?_cons_zero] <;> rfl)
          case hQZ253 => exact (fun _ _ _ h => h)
          case hwZ253 => rfl
          case hyZ253 => (intro w hSw; (try dsimp only at hSw); go_simp; try with_reducible rfl)
          (try simp only [Act.put, List.setIfInBounds_toArray, List.set_cons_zero, List.set_cons_succ])
          refine take_w (i := 13) (oi := ?oZ254) (v := ?vZ254) ?hiZ254 (by kernel_rfl) (by kernel_rfl) (by kernel_rfl) ?hQZ254 ?hwZ254 ?hyZ254 (by assumption) ?restZ254
          case hiZ254 => (simp only [List.getElem?_toArray, List.getElem?_cons_succ, List.getElem?_cons_zero] <;> rfl)
          case hQZ254 => exact (fun _ _ _ h => h)
          case hwZ254 => rfl
          case hyZ254 => (intro w hSw; (try dsimp only at hSw); go_simp; try with_reducible rfl)
          (try simp only [Act.put, List.setIfInBounds_toArray, List.set_cons_zero, List.set_cons_succ])
          refine take_w (i := 14) (oi := ?oZ255) (v := ?vZ255) ?hiZ255 (by kernel_rfl) (by kernel_rfl) (by kernel_rfl) ?hQZ255 ?hwZ255 ?hyZ255 (by assumption) ?restZ255
          case hiZ255 => (simp only [List.getElem?_toArray, List.getElem?_cons_succ, List.getElem?_cons_zero] <;> rfl)
          case hQZ255 => exact (fun _ _ _ h => h)
          case hwZ255 => rfl
          case hyZ255 => (intro w hSw; (try dsimp only at hSw); go_simp; try with_reducible rfl)
          (try simp only [Act.put, List.setIfInBounds_toArray, List.set_cons_zero, List.set_cons_succ])
          refine take_w (i := 15) (oi := ?oZ256) (v := ?vZ256) ?hiZ256 (by kernel_rfl) (by kernel_rfl) (by kernel_rfl) ?hQZ256 ?hwZ256 ?hyZ256 (by assumption) ?restZ256
          case hiZ256 => (simp only [List.getElem?_toArray, List.getElem?_cons_succ, List.getElem?_cons_zero] <;> rfl)
          case hQZ256 => exact (fun _ _ _ h => h)
          case hwZ256 => rfl
          case hyZ256 => (intro w hSw; (try dsimp only at hSw); go_simp; try with_reducible rfl)
          (try simp only [Act.put, List.setIfInBounds_toArray, List.set_cons_zero, List.set_cons_succ])
          refine take_w (i := 16) (oi := ?oZ257) (v := ?vZ257) ?hiZ257 (by kernel_rfl) (by kernel_rfl) (by kernel_rfl) ?hQZ257 ?hwZ257 ?hyZ257 (by assumption) ?restZ257
          case hiZ257 => (simp only [List.getElem?_toArray, List.getElem?_cons_succ, List.getElem?_cons_zero] <;> rfl)
          case hQZ257 => exact (fun _ _ _ h => h)
          case hwZ257 => rfl
          case hyZ257 => (intro w hSw; (try dsimp only at hSw); go_simp; try with_reducible rfl)
          (try simp only [Act.put, List.setIfInBounds_toArray, List.set_cons_zero, List.set_cons_succ])
          refine take_w (i := 17) (oi := ?oZ258) (v := ?vZ258) ?hiZ258 (by kernel_rfl) (by kernel_rfl) (by kernel_rfl) ?hQZ258 ?hwZ258 ?hyZ258 (by assumption) ?restZ258
          case hiZ258 => (simp only [List.getElem?_toArray, List.getElem?_cons_succ, List.getElem?_cons_zero] <;> rfl)
          case hQZ258 => exact (fun _ _ _ h => h)
          case hwZ258 => rfl
          case hyZ258 => (intro w hSw; (try dsimp only at hSw); go_simp; try with_reducible rfl)
          (try simp only [Act.put, List.setIfInBounds_toArray, List.set_cons_zero, List.set_cons_succ])
          refine take_w (i := 18) (oi := ?oZ259) (v := ?vZ259) ?hiZ259 (by kernel_rfl) (by kernel_rfl) (by kernel_rfl) ?hQZ259 ?hwZ259 ?hyZ259 (by assumption) ?restZ259
          case hiZ259 => (simp only [List.getElem?_toArray, List.getElem?_cons_succ, List.getElem?_cons_zero] <;> rfl)
          case hQZ259 => exact (fun _ _ _ h => h)
          case hwZ259 => rfl
          case hyZ259 => (intro w hSw; (try dsimp only at hSw); go_simp; try with_reducible rfl)
          (try simp only [Act.put, List.setIfInBounds_toArray, List.set_cons_zero, List.set_cons_succ])
          refine take_w (i := 19) (oi := ?oZ260) (v := ?vZ260) ?hiZ260 (by kernel_rfl) (by kernel_rfl) (by kernel_rfl) ?hQZ260 ?hwZ260 ?hyZ260 (by assumption) ?restZ260
          case hiZ260 => (simp only [List.getElem?_toArray, List.getElem?_cons_succ, List.getElem?_cons_zero] <;> rfl)
          case hQZ260 => exact (fun _ _ _ h => h)
          case hwZ260 => rfl
          case hyZ260 => (intro w hSw; (try dsimp only at hSw); go_simp; try with_reducible rfl)
          (try simp only [Act.put, List.setIfInBounds_toArray, List.set_cons_zero, List.set_cons_succ])
          refine take_w (i := 20) (oi := ?oZ261) (v := ?vZ261) ?hiZ261 (by kernel_rfl) (by kernel_rfl) (by kernel_rfl) ?hQZ261 ?hwZ261 ?hyZ261 (by assumption) ?restZ261
          case hiZ261 => (simp only [List.getElem?_toArray, List.getElem?_cons_succ, List.getElem?_cons_zero] <;> rfl)
          case hQZ261 => exact (fun _ _ _ h => h)
          case hwZ261 => rfl
          case hyZ261 => (intro w hSw; (try dsimp only at hSw); go_simp; try with_reducible rfl)
          (try simp only [Act.put, List.setIfInBounds_toArray, List.set_cons_zero, List.set_cons_succ])
          refine take_w (i := 21) (oi := ?oZ262) (v := ?vZ262) ?hiZ262 (by kernel_rfl) (by kernel_rfl) (by kernel_rfl) ?hQZ262 ?hwZ262 ?hyZ262 (by assumption) ?restZ262
          case hiZ262 => (simp only [List.getElem?_toArray, List.getElem?_cons_succ, List.getElem?_cons_zero] <;> rfl)
          case hQZ262 => exact (fun _ _ _ h => h)
          case hwZ262 => rfl
          case hyZ262 => (intro w hSw; (try dsimp only at hSw); go_simp; try with_reducible rfl)
          (try simp only [Act.put, List.setIfInBounds_toArray, List.set_cons_zero, List.set_cons_succ])
          refine take_w (i := 22) (oi := ?oZ263) (v := ?vZ263) ?hiZ263 (by kernel_rfl) (by kernel_rfl) (by kernel_rfl) ?hQZ263 ?hwZ263 ?hyZ263 (by assumption) ?restZ263
          case hiZ263 => (simp only [List.getElem?_toArray, List.getElem?_cons_succ, List.getElem?_cons_zero] <;> rfl)
          case hQZ263 => exact (fun _ _ _ h => h)
          case hwZ263 => rfl
          case hyZ263 => (intro w hSw; (try dsimp only at hSw); go_simp; try with_reducible rfl)
          (try simp only [Act.put, List.setIfInBounds_toArray, List.set_cons_zero, List.set_cons_succ])
          refine take_w (i := 23) (oi := ?oZ264) (v := ?vZ264) ?hiZ264 (by kernel_rfl) (by kernel_rfl) (by kernel_rfl) ?hQZ264 ?hwZ264 ?hyZ264 (by assumption) ?restZ264
          case hiZ264 => (simp only [List.getElem?_toArray, List.getElem?_cons_succ, List.getElem?_cons_zero] <;> rfl)
          case hQZ264 => exact (fun _ _ _ h => h)
          case hwZ264 => rfl
          case hyZ264 => (intro w hSw; (try dsimp only at hSw); go_simp; try with_reducible rfl)
          (try simp only [Act.put, List.setIfInBounds_toArray, List.set_cons_zero, List.set_cons_succ])
          refine take_w (i := 24) (oi := ?oZ265) (v := ?vZ265) ?hiZ265 (by kernel_rfl) (by kernel_rfl) (by kernel_rfl) ?hQZ265 ?hwZ265 ?hyZ265 (by assumption) ?restZ265
          case hiZ265 => (simp only [List.getElem?_toArray, List.getElem?_cons_succ, List.getElem?_cons_zero] <;> rfl)
          case hQZ265 => exact (fun _ _ _ h => h)
          case hwZ265 => rfl
          case hyZ265 => (intro w hSw; (try dsimp only at hSw); go_simp; try with_reducible rfl)
          (try simp only [Act.put, List.setIfInBounds_toArray, List.set_cons_zero, List.set_cons_succ])
          refine take_w (i := 25) (oi := ?oZ266) (v := ?vZ266) ?hiZ266 (by kernel_rfl) (by kernel_rfl) (by kernel_rfl) ?hQZ266 ?hwZ266 ?hyZ266 (by assumption) ?restZ266
          case hiZ266 => (simp only [List.getElem?_toArray, List.getElem?_cons_succ, List.getElem?_cons_zero] <;> rfl)
          case hQZ266 => exact (fun _ _ _ h => h)
          case hwZ266 => rfl
          case hyZ266 => (intro w hSw; (try dsimp only at hSw); go_simp; try with_reducible rfl)
          (try simp only [Act.put, List.setIfInBounds_toArray, List.set_cons_zero, List.set_cons_succ])
          refine wpAnyH_done (by kernel_rfl) ?_ _
          clear hHeld
          clear HS11
          have HD10 : Hid (QX w w10 sp f tt g8 h2 a) := Lib.hid (by rw [hw10]; exact HD9.out.drew)
          have HRA10 : Hid (RP w10 (.slice raA rA rcA) rsA kA) := Lib.hid (by rw [hw10]; exact HRA9.out.drew)
          have HRB10 : Hid (RP w10 (.slice raB rB rcB) rsB kB) := Lib.hid (by rw [hw10]; exact HRB9.out.drew)
          have HRC10 : Hid (RP w10 (.slice raC rC rcC) rsC kC) := Lib.hid (by rw [hw10]; exact HRC9.out.drew)
          rw [← hw10]
          clear hw10
          go_upto_region 13 with (first
            | (at_builtin
               refine wpList_append_recs _ rfl (.tmp 121) (.tmp 122) 35 rfl recP w10.heap.size 49 ti _ 48 Try.underlying35 HTI.out.1 HTI.out.2.1 HTI.out.2.2.1 HTI.out.2.2.2 rfl (.slice (some ⟨w10.heap.size, 0, none⟩) 0 0) [] rfl (OwnR.empty recP w10 49 w10.heap.size (Nat.le_refl _)) 0 (.slice raA rA rcA) rsA rfl ((HRA10.out.below ((Below.refl _ _).alloc (Nat.le_refl _) _)).o) ?_ (by omega) (by simp) ?_
               · have h1 := HNA.out
                 have h2 := HLE.out.1
                 simp only [List.length_nil]
                 omega
               intro v11 w11 ho11 hg11
               have q11 : Below w10.heap.size w10 w11 := ((Below.refl w10.heap.size w10).alloc (Nat.le_refl _) _).grown hg11 (by simp) (fun j hj => by have e : w10.heap.size = j := Option.some.inj hj; omega)
               have HO11 := Lib.hid ho11
               have HQ11 := Lib.hid q11
               obtain ⟨a11, c11, hv11⟩ := ho11.sl
               subst hv11
               clear ho11 hg11 q11)
            | (at_builtin
               refine wpList_append_recs _ rfl (.tmp 123) (.tmp 124) 35 rfl recP w10.heap.size 49 ti _ 48 Try.underlying35 HTI.out.1 HTI.out.2.1 HTI.out.2.2.1 HTI.out.2.2.2 rfl (.slice a11 ([] ++ rsA).length c11) ([] ++ rsA) rfl HO11.out 0 (.slice raB rB rcB) rsB rfl ((HRB10.out.below HQ11.out).o) ?_ (by omega) HQ11.out.size ?_
               · have h1 := HNA.out
                 have h2 := HNB.out
                 have h3 := HLE.out
                 simp only [List.nil_append]
                 omega
               intro v12 w12 ho12 hg12
               have q12 : Below w10.heap.size w10 w12 := HQ11.out.grown hg12 HQ11.out.size (fun j hj => (HO11.out.base_le hj).1)
               have HD12 := Lib.hid (HD10.out.below q12)
               rw [List.nil_append] at ho12
               have HRC12 := Lib.hid (HRC10.out.below q12)
               have HRX12 : Hid (RP w12 v12 (rsA ++ rsB) (kA ++ kB)) := Lib.hid ⟨ho12.weak (Nat.zero_le _), (HRA10.out.below q12).p.app (HRB10.out.below q12).p⟩
               have hl12 : (rsA ++ rsB).length = rA + rB := by rw [List.length_append, HNA.out.2, HNB.out.2]
               obtain ⟨a12, c12, hv12⟩ := ho12.sl
               rw [hl12] at hv12
               subst hv12
               clear ho12 hg12 q12 hl12))
          have hkk : kA ++ kB = kC := by rw [← HKA.out, ← HKB.out, ← HKC.out]; exact parts_whole HIN.out.1 HIN.out.2 HGD.out.rise
          have hrr : rC = rA + rB := by rw [HNC.out.1, ← hkk, List.length_append, HNA.out.1, HNB.out.1]
          subst hrr
          rw [hkk] at HRX12
          go_wp2_with (first
            | (go_at_call 18
               refine (refSameP_any kC (fun i => (rsA ++ rsB).getD i pZ) (fun i => rsC.getD i pZ) a12 raC (rA + rB) c12 rcC _ HNC.out.1 (HRX12.out.o.inRec pZ).2 (HRC12.out.o.inRec pZ).2 HRX12.out.p.byD HRC12.out.p.byD).mono ?_
               rintro _ w13 ⟨rfl, hb13⟩
               have HD13 := Lib.hid (HD12.out.below hb13)
               clear hb13))
          go_ret
          exact ⟨rfl, HD13.out.sx.b⟩
end Go.Proofs.Ytpjojhmdgeejmaa
