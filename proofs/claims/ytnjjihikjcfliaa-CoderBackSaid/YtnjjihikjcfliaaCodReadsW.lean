/- The walk of the law CoderReads. -/
import Derived.Test.YtnjjihikjcfliaaCodApartW
import Derived.Test.YtnjjihikjcfliaaArg
namespace Go.Proofs.Ytnjjihikjcfliaa
open Go.RowKit
set_option linter.unusedVariables false

set_option maxRecDepth 100000 in
set_option maxHeartbeats 2000000 in
theorem pick3 (c : Int) (W : World) (h1 : -9223372036854775808 ≤ c) (h2 : c ≤ 9223372036854775807) :
    Calls Try.prog 14 #[.int .i64 c, .int .i64 3] W (fun e w' => (∃ k : Int, e = .returned (.int .i64 k) ∧ (k = 0 ∨ k = 1 ∨ k = 2)) ∧ w' = W) := by
  go_enter Try.func14, Try.ntmps14
  by_cases h : c < 0
  · have q1 : IntKind.i64.wrap (c + 1) = c + 1 := IntWalk.i64_in _ (by omega)
    have q2 : IntKind.i64.wrap (-(c + 1)) = -(c + 1) := IntWalk.i64_in _ (by omega)
    have q3 : -((c + 1).tmod 3) = (-(c + 1)) % 3 := by rw [← Int.neg_tmod, Int.tmod_eq_emod_of_nonneg (by omega)]
    go_wp2_with fail
    go_ret
    exact ⟨⟨_, rfl, by omega⟩, rfl⟩
  · go_wp2_with fail
    go_ret
    exact ⟨⟨_, rfl, by omega⟩, rfl⟩
theorem end_nat (s : Option (List Int)) : ∃ E : Nat, rdEnd s = (E : Int) ∧ E ≤ 13 := by
  cases s with
  | none => exact ⟨3, rfl, by omega⟩
  | some r => cases r with
    | nil => exact ⟨0, rfl, by omega⟩
    | cons c r => exact ⟨4, rfl, by omega⟩
theorem rdEnd_E {g : Nat} {gb : Option Nat} {s : Option (List Int)} {E : Nat} (W : World) (hr : PR W g gb s) (hE : rdEnd s = (E : Int)) :
    Calls Try.prog 21 #[.pointer (some ⟨g, 0, none⟩)] W (fun e w' => e = .returned (codeV E) ∧ ∃ m, w' = W.drewN m) := by
  have h := rdEnd_any g gb s W hr
  rwa [hE, Int.toNat_natCast] at h
theorem refEnd_E {g : Nat} {a : Option Addr} {n cap : Nat} {bs : List Int} {s : Option (List Int)} {E : Nat} (W : World) (hbl : bs.length = n) (hr : RefRd W g a n cap bs s) (hE : rdEnd s = (E : Int)) :
    Calls Try.prog 23 #[.pointer (some ⟨g, 0, none⟩)] W (fun e w' => e = .returned (.int .i64 E) ∧ ∃ m, w' = W.drewN m) := by
  have h := refEnd_any g a n cap bs s W hbl hr
  rwa [hE] at h
theorem PR.bytes {w : World} {g : Nat} {gb : Option Nat} {s : Option (List Int)} (h : PR w g gb s) : ∀ r, s = some r → Bytes8 r := by
  obtain ⟨a, n, cap, bad, hd, hgb, hne, hnone, hsome⟩ := h
  exact fun r h => (hsome r h).2.1.bytes
theorem PR.drawn {w : World} {g : Nat} {gb : Option Nat} {s : Option (List Int)} (h : PR w g gb s) (m : Nat) : PR (w.drewN m) g gb s := h.grown (only_drawn (only_refl w none) m) (by simp) (by simp)
theorem PR.drew {w : World} {g : Nat} {gb : Option Nat} {s : Option (List Int)} (h : PR w g gb s) : PR w.drew g gb s := h.grown (w' := w.drew) (only_drawn (only_refl w none) 1) (by simp) (by simp)
theorem below_drawn {B : Nat} {a w : World} (h : Below B a w) (m : Nat) : Below B a (w.drewN m) := ⟨h.os, h.tape, h.output, h.size, h.block⟩

set_option maxRecDepth 100000 in
set_option maxHeartbeats 4000000 in
theorem reads_law (a : Option Addr) (n cap : Nat) (bs : List Int) (sa : Option Addr) (sn sc : Nat) (V : Nat → Value) (x y : Nat → Int) (w : World) (hin : InBytes w a n cap bs) (hn : n ≤ 140737488351232) (hsl : InSl w sa sn sc 2 V)
    (hV : ∀ i, i < sn → V (i * 2) = .int .i64 (x i) ∧ V (i * 2 + 1) = .int .i64 (y i) ∧ (-9223372036854775808 ≤ x i ∧ x i ≤ 9223372036854775807) ∧ (-9223372036854775808 ≤ y i ∧ y i ≤ 9223372036854775807)) :
    Calls Try.prog 5 #[.slice a n cap, .slice sa sn sc] w fun e w' => e = .returned (.bool true) ∧ Below w.heap.size w w' := by
  have hbl := hin.len
  have hsle := hsl.le
  have hsmax := hsl.max
  simp only [maxLen] at hsmax
  have HNEW := Lib.hid (newReader_any a n cap bs w hin (by omega))
  have HIN := Lib.hid hin
  have HSL := Lib.hid hsl
  have HV := Lib.hid hV
  have H248 := Lib.hid number248
  clear hin hsl hV
  go_enter Try.func5, Try.ntmps5
  go_wp2_with (first
    | (go_at_call 13
       (with_reducible refine HNEW.out.mono ?_)
       rintro _ w1 ⟨g1, gb1, rfl, hg1, hgb1, hpr1, hb1⟩
       have hlt1 := hpr1.lt
       have HP1 := Lib.hid hpr1
       have HB1 := Lib.hid hb1
       have HGB1 := Lib.hid hgb1
       clear hpr1 hb1 hgb1))
  have hag : 0 < n → ∀ ad, a = some ad → ad.block ≠ w1.heap.size := fun h0 ad h => by
    obtain ⟨g, off, e, hlt, _⟩ := HIN.out.place h0
    rw [e] at h
    injection h with h
    rw [← h]
    have := HB1.out.size
    simp only
    omega
  have H0 : Hid (PR (w1.alloc (.cells #[.slice a n cap, .int .i64 0, .bool false] 33)) g1 gb1 (some bs) ∧ RefRd (w1.alloc (.cells #[.slice a n cap, .int .i64 0, .bool false] 33)) w1.heap.size a n cap bs (some bs) ∧ Below w.heap.size w (w1.alloc (.cells #[.slice a n cap, .int .i64 0, .bool false] 33))) :=
    Lib.hid ⟨HP1.out.grown (only_below ((Below.refl _ _).alloc (Nat.le_refl _) _) none) (by simp) (by simp), ⟨0, false, heap_alloc_new w1 _, Nat.zero_le _, (fun h => by cases h), fun r h => ⟨rfl, by injection h with h; rw [← h]; rfl⟩⟩, HB1.out.alloc HB1.out.size _⟩
  have HAG := Lib.hid hag
  have hne12 : g1 ≠ w1.heap.size := by omega
  have hge2 : w.heap.size ≤ w1.heap.size := HB1.out.size
  clear hag HP1 HB1 HNEW
  go_loopw [7] (fun s7 wx => ∃ (i : Nat) (s : Option (List Int)), i ≤ sn ∧ i ≤ 100 ∧ s7 = .int .i64 i ∧ PR wx g1 gb1 s ∧ RefRd wx w1.heap.size a n cap bs s ∧ Below w.heap.size w wx) (fun s7 _ => 100 - (intOf s7).toNat)
  case atStart => exact ⟨0, some bs, by omega, by omega, rfl, H0.out⟩
  case round =>
    obtain ⟨i, s, hi, hi100, rfl, hpr, hrf, hbw⟩ := hrel
    clear H0
    by_cases hlt : i < sn ∧ i < 100
    · obtain ⟨hlt1, hlt2⟩ := hlt
      have q1 : (i : Int) < (sn : Int) := by omega
      have q2 : (i : Int) < 100 := by omega
      obtain ⟨gs, off, rfl, hgs, hcs⟩ := HSL.out.place (by omega)
      obtain ⟨hv0, hv1, hx, hy⟩ := HV.out i hlt1
      have hw0 := hcs (i * 2) (by omega)
      have hw1 := hcs (i * 2 + 1) (by omega)
      rw [hv0] at hw0
      rw [hv1] at hw1
      generalize x i = c at *
      generalize y i = most at *
      have hcell0 : wr.cell? ⟨gs, off + i * 2, none⟩ = some (.int .i64 c) := (hbw.cell (p := ⟨gs, off + i * 2, none⟩) hgs).trans hw0
      have HC1 : Hid (∀ W, Below w.heap.size w W → W.cell? ⟨gs, off + i * 2 + 1, none⟩ = some (.int .i64 most)) := Lib.hid fun W hW => (hW.cell (p := ⟨gs, off + i * 2 + 1, none⟩) hgs).trans hw1
      have HS := Lib.hid (And.intro hpr (And.intro hrf hbw))
      have hpk := pick3 c wr hx.1 hx.2
      have HPK := Lib.hid hpk
      clear hcs hw0 hw1 hv0 hv1 hpr hrf hbw hpk
      go_wp2_with (first
        | (go_at_call 14
           (with_reducible refine HPK.out.mono ?_)
           rintro _ w2 ⟨⟨k, rfl, hk⟩, rfl⟩
           clear HPK
           rcases hk with rfl | rfl | rfl)
        | (go_at_call 15
           (with_reducible refine (rdNumber_any _ _ _ _ HS.out.1).mono ?_)
           rintro _ wa ⟨rfl, hpa, hga⟩
           have HSa : Hid (PR wa g1 gb1 (rdNum s).2 ∧ RefRd wa w1.heap.size a n cap bs s ∧ Below w.heap.size w wa) := Lib.hid ⟨hpa, HS.out.2.1.grown hga (by simp; omega), below_only HS.out.2.2 hga HS.out.2.2.size hg1⟩
           clear hpa hga)
        | (go_at_call 16
           (with_reducible refine (refRdNumber_any _ _ _ _ _ _ _ (HIN.out.below HSa.out.2.2) HAG.out HSa.out.2.1 HS.out.1.bytes).mono ?_)
           rintro _ wb ⟨rfl, hrb, hgb⟩
           have HSb : Hid (PR wb g1 gb1 (rdNum s).2 ∧ RefRd wb w1.heap.size a n cap bs (rdNum s).2 ∧ Below w.heap.size w wb) := Lib.hid ⟨HSa.out.1.grown hgb (by simp; omega) (fun b h => by have := (HGB1.out b h).2; simp; omega), hrb, below_only HSa.out.2.2 hgb HSa.out.2.2.size hge2⟩
           obtain ⟨E, hE⟩ := end_nat (rdNum s).2
           have HE := Lib.hid hE
           generalize (rdNum s).1 = v at *
           clear hrb hgb hE)
        | (go_at_call 17
           (with_reducible refine (rdByte_any _ _ _ _ HS.out.1).mono ?_)
           rintro _ wa ⟨rfl, hpa, hga⟩
           have HSa : Hid (PR wa g1 gb1 (rdByte s).2 ∧ RefRd wa w1.heap.size a n cap bs s ∧ Below w.heap.size w wa) := Lib.hid ⟨hpa, HS.out.2.1.grown hga (by simp; omega), below_only HS.out.2.2 hga HS.out.2.2.size hg1⟩
           clear hpa hga)
        | (go_at_call 18
           (with_reducible refine (refByte_any _ _ _ _ _ _ _ (HIN.out.below HSa.out.2.2) HAG.out HSa.out.2.1).mono ?_)
           rintro _ wb ⟨rfl, hrb, hgb⟩
           have HSb : Hid (PR wb g1 gb1 (rdByte s).2 ∧ RefRd wb w1.heap.size a n cap bs (rdByte s).2 ∧ Below w.heap.size w wb) := Lib.hid ⟨HSa.out.1.grown hgb (by simp; omega) (fun b h => by have := (HGB1.out b h).2; simp; omega), hrb, below_only HSa.out.2.2 hgb HSa.out.2.2.size hge2⟩
           obtain ⟨E, hE⟩ := end_nat (rdByte s).2
           have HE := Lib.hid hE
           generalize (rdByte s).1 = v at *
           clear hrb hgb hE)
        | (go_at_call 21
           (with_reducible refine (rdEnd_E _ HSb.out.1 HE.out.1).mono ?_)
           rintro _ _ ⟨rfl, m1, rfl⟩)
        | (go_at_call 22
           (with_reducible refine (code_any _ HE.out.2 _).mono ?_)
           rintro _ _ ⟨rfl, m2, rfl⟩)
        | (go_at_call 23
           (with_reducible refine (refEnd_E (a := a) (cap := cap) _ hbl ?_ HE.out.1).mono ?_)
           · exact HSb.out.2.1
           rintro _ _ ⟨rfl, m3, rfl⟩))
      · refine ⟨⟨i + 1, (rdNum s).2, by omega, by omega, by go_num, HSb.out.1.drawn _, HSb.out.2.1, below_drawn HSb.out.2.2 _⟩, by simp [intOf]; omega⟩
      · refine ⟨⟨i + 1, (rdByte s).2, by omega, by omega, by go_num, HSb.out.1.drawn _, HSb.out.2.1, below_drawn HSb.out.2.2 _⟩, by simp [intOf]; omega⟩
      · have hd2 : Below w.heap.size w w2.drew := HS.out.2.2.drew
        have hc2 := HC1.out _ hd2
        clear hd2
        go_region_with (first
          | (go_at_call 19
             (with_reducible refine (rdBytes_any g1 gb1 s most _ ?_ hy.1 hy.2).mono ?_)
             · exact HS.out.1.drew
             rintro _ wa ⟨aa, ca, rfl, hina, hpa, hga, hfa⟩
             have hga' : w2.grownBy wa (some g1) := ⟨hga.os, hga.tape, hga.output, hga.size, hga.block⟩
             have hsz : w1.heap.size < w2.heap.size := by
               obtain ⟨at', bad, hd, _⟩ := HS.out.2.1
               exact hd.lt
             have HSa : Hid (PR wa g1 gb1 (rdBytes most s).2 ∧ RefRd wa w1.heap.size a n cap bs s ∧ Below w.heap.size w wa) := Lib.hid ⟨hpa, HS.out.2.1.grown hga' (by simp; omega), below_only HS.out.2.2 hga' HS.out.2.2.size hg1⟩
             have hca := HC1.out _ HSa.out.2.2
             have hva := conv_in (P := Try.prog) hina 23 5 9 Try.underlying23 Try.underlying5 Try.underlying9
             have HIA := Lib.hid hina
             have hfb : ∀ ad, aa = some ad → some ad.block ≠ some w1.heap.size := fun ad e he => by
               have h1 : w2.heap.size ≤ ad.block := hfa ad e
               injection he with he
               omega
             have HFA := Lib.hid hfb
             clear hina hpa hga hfa hga' hsz hfb)
          | (go_at_call 20
             (with_reducible refine (refRdBytes_any w1.heap.size a n cap bs s most _ (HIN.out.below HSa.out.2.2) HAG.out HSa.out.2.1 HS.out.1.bytes hy.1 hy.2 ?_).mono ?_)
             · omega
             rintro _ wb ⟨ab, cb, rfl, hinb, hrb, hgb⟩
             have HSb : Hid (PR wb g1 gb1 (rdBytes most s).2 ∧ RefRd wb w1.heap.size a n cap bs (rdBytes most s).2 ∧ Below w.heap.size w wb) := Lib.hid ⟨HSa.out.1.grown hgb (by simp; omega) (fun b h => by have := (HGB1.out b h).2; simp; omega), hrb, below_only HSa.out.2.2 hgb HSa.out.2.2.size hge2⟩
             have hcb := HC1.out _ HSb.out.2.2
             have hvb := conv_in (P := Try.prog) hinb 23 5 9 Try.underlying23 Try.underlying5 Try.underlying9
             have hvab := conv_in (P := Try.prog) (HIA.out.grown hgb HFA.out) 23 5 9 Try.underlying23 Try.underlying5 Try.underlying9
             obtain ⟨E, hE⟩ := end_nat (rdBytes most s).2
             have HE := Lib.hid hE
             clear hinb hrb hgb hE))
        all_goals
          clear hca hva hcb hvb hvab hc2 HIA HFA HSa HC1
          go_wp2_with (first
          | (go_at_call 21
             (with_reducible refine (rdEnd_E _ HSb.out.1 HE.out.1).mono ?_)
             rintro _ _ ⟨rfl, m1, rfl⟩)
          | (go_at_call 22
             (with_reducible refine (code_any _ HE.out.2 _).mono ?_)
             rintro _ _ ⟨rfl, m2, rfl⟩)
          | (go_at_call 23
             (with_reducible refine (refEnd_E (a := a) (cap := cap) _ hbl ?_ HE.out.1).mono ?_)
             · exact HSb.out.2.1
             rintro _ _ ⟨rfl, m3, rfl⟩))
          exact ⟨⟨i + 1, (rdBytes most s).2, by omega, by omega, by go_num, HSb.out.1.drawn _, HSb.out.2.1, below_drawn HSb.out.2.2 _⟩, by simp [intOf]; omega⟩
    · have HS := Lib.hid (And.intro hpr (And.intro hrf hbw))
      obtain ⟨E, hE⟩ := end_nat s
      have HE := Lib.hid hE
      clear hpr hrf hbw hE
      by_cases hlt1 : i < sn
      · have q1 : (i : Int) < (sn : Int) := by omega
        have q2 : ¬ (i : Int) < 100 := by omega
        have q3 : decide ((i : Int) < 100) = false := by simpa using q2
        go_wp2_with (first
          | (go_at_call 21
             (with_reducible refine (rdEnd_E _ HS.out.1 HE.out.1).mono ?_)
             rintro _ _ ⟨rfl, m1, rfl⟩)
          | (go_at_call 22
             (with_reducible refine (code_any _ HE.out.2 _).mono ?_)
             rintro _ _ ⟨rfl, m2, rfl⟩)
          | (go_at_call 23
             (with_reducible refine (refEnd_E (a := a) (cap := cap) _ hbl ?_ HE.out.1).mono ?_)
             · exact HS.out.2.1
             rintro _ _ ⟨rfl, m3, rfl⟩)
          | (go_at_call 9
             (with_reducible refine (H248.out _).mono ?_)
             rintro _ w5 ⟨g5, c5, rfl, hc5, hb5⟩
             have HB5 := Lib.hid hb5
             clear hb5))
        go_ret
        exact ⟨rfl, (below_drawn HS.out.2.2 _).trans (HB5.out.mono (below_drawn HS.out.2.2 _).size)⟩
      · have q1 : ¬ (i : Int) < (sn : Int) := by omega
        have q3 : decide ((i : Int) < (sn : Int)) = false := by simpa using q1
        go_wp2_with (first
          | (go_at_call 21
             (with_reducible refine (rdEnd_E _ HS.out.1 HE.out.1).mono ?_)
             rintro _ _ ⟨rfl, m1, rfl⟩)
          | (go_at_call 22
             (with_reducible refine (code_any _ HE.out.2 _).mono ?_)
             rintro _ _ ⟨rfl, m2, rfl⟩)
          | (go_at_call 23
             (with_reducible refine (refEnd_E (a := a) (cap := cap) _ hbl ?_ HE.out.1).mono ?_)
             · exact HS.out.2.1
             rintro _ _ ⟨rfl, m3, rfl⟩)
          | (go_at_call 9
             (with_reducible refine (H248.out _).mono ?_)
             rintro _ w5 ⟨g5, c5, rfl, hc5, hb5⟩
             have HB5 := Lib.hid hb5
             clear hb5))
        go_ret
        exact ⟨rfl, (below_drawn HS.out.2.2 _).trans (HB5.out.mono (below_drawn HS.out.2.2 _).size)⟩
end Go.Proofs.Ytnjjihikjcfliaa
