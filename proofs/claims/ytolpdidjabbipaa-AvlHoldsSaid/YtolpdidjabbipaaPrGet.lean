/- The contracts of the program's refusal and Get. -/
import Derived.Test.YtolpdidjabbipaaPrIs
import Derived.Test.YtolpdidjabbipaaPrFind
import Derived.Test.YtolpdidjabbipaaClone
import Derived.Test.YtolpdidjabbipaaCodeV
namespace Go.Proofs.Ytolpdidjabbipaa
open Go.RowKit
set_option linter.unusedVariables false

/-- The error's number that calls have. -/
def badA (t : Tr) (kn vn : Nat) : Nat := if isT t then (if 80 < kn ∨ 1024 < vn then 1 else 0) else 3
theorem badA_no {t : Tr} (h : isT t = false) (kn vn : Nat) : badA t kn vn = 3 := by unfold badA; rw [h]; rfl
theorem badA_arg {t : Tr} {kn vn : Nat} (h : isT t = true) (hc : 80 < kn ∨ 1024 < vn) : badA t kn vn = 1 := by unfold badA; rw [if_pos h, if_pos hc]
theorem badA_ok {t : Tr} {kn vn : Nat} (h : isT t = true) (h1 : ¬ 80 < kn) (h2 : ¬ 1024 < vn) : badA t kn vn = 0 := by unfold badA; rw [if_pos h, if_neg (by omega)]
theorem badA_zero {t : Tr} {kn vn : Nat} (h : badA t kn vn = 0) : (∃ a : AT, t = a.tr ∧ a.bal ∧ Rise a.pairs ∧ Lim a.pairs ∧ a.depth ≤ 64) ∧ kn ≤ 80 ∧ vn ≤ 1024 := by
  unfold badA at h
  split at h
  · rename_i hi
    split at h
    · cases h
    · rename_i hc
      exact ⟨(isT_iff t).1 hi, by omega, by omega⟩
  · cases h
theorem badA_le (t : Tr) (kn vn : Nat) : badA t kn vn ≤ 13 := by
  unfold badA
  split
  · split <;> omega
  · omega

set_option maxRecDepth 100000 in
set_option maxHeartbeats 4000000 in
theorem refusal_any (t : Tr) (h : TH) (ka va : Option Addr) (kn kc vn vc : Nat) (w : World) (ht : InTree w h t) : Calls Try.prog 29 #[h.v, .slice ka kn kc, .slice va vn vc] w (Says w (codeV (badA t kn vn))) := by
  unfold TH.v
  have hbox := Box.new w 25 h
  have HT := Lib.hid ht
  obtain ⟨x0, x1, x2, x3, x4⟩ := hbox.cells
  clear hbox ht
  go_enter Try.func29, Try.ntmps29
  go_upto_if 9 with (first
    | (go_at_call 10
       refine (is_any t h _ ?_).mono ?_
       · exact HT.out.lower ((Below.refl _ _).alloc (Nat.le_refl _) _)
       rintro _ w1 ⟨rfl, hb1⟩
       have HB1 : Hid (Below w.heap.size w w1) := Lib.hid (((Below.refl w.heap.size w).alloc (Nat.le_refl _) _).trans (hb1.mono (by simp)))
       clear hb1 x0 x1 x2 x3 x4))
  cases hq : isT t with
  | false =>
    have HQ := Lib.hid hq
    clear hq
    simp only [Bool.not_false]
    go_wp2_with fail
    go_ret
    exact ⟨by rw [badA_no HQ.out]; rfl, HB1.out⟩
  | true =>
    have HQ := Lib.hid hq
    clear hq
    simp only [Bool.not_true]
    by_cases c1 : 80 < kn
    · have q1 : (80 : Int) < (kn : Int) := by omega
      go_wp2_with fail
      go_ret
      exact ⟨by rw [badA_arg HQ.out (.inl c1)]; rfl, HB1.out⟩
    · have q1 : ¬ (80 : Int) < (kn : Int) := by omega
      by_cases c2 : 1024 < vn
      · have q2 : (1024 : Int) < (vn : Int) := by omega
        go_wp2_with fail
        go_ret
        exact ⟨by rw [badA_arg HQ.out (.inr c2)]; rfl, HB1.out⟩
      · have q2 : ¬ (1024 : Int) < (vn : Int) := by omega
        go_wp2_with fail
        go_ret
        exact ⟨by rw [badA_ok HQ.out c1 c2]; rfl, HB1.out⟩

/-- A box of a tree that was just made, beside the one at the entry. -/
theorem grown_box {w W W' : World} {g : Nat} (hb : Below w.heap.size w W) (hg : W.grownBy W' (some g)) (h : w.heap.size ≤ g) : Below w.heap.size w W' := hb.grown hg hb.size (fun j hj => by injection hj; omega)
theorem codeV_zero : codeV 0 = .nilIface := rfl

/-- What Get tells: an error. -/
def GetBad (w : World) (k : Nat) (e : Ending) (w' : World) : Prop := e = .returned (.tuple #[.slice none 0 0, .bool false, codeV k]) ∧ Below w.heap.size w w'
/-- What Get tells: a value, or none. -/
def GetOk (w : World) (o : Option (List Int)) (e : Ending) (w' : World) : Prop := ∃ a2 c2, e = .returned (.tuple #[.slice a2 (o.getD []).length c2, .bool o.isSome, .nilIface]) ∧ InBytes w' a2 (o.getD []).length c2 (o.getD []) ∧ Below w.heap.size w w'

set_option maxRecDepth 100000 in
set_option maxHeartbeats 4000000 in
theorem get_bad (t : Tr) (h : TH) (ka : Option Addr) (kn kc : Nat) (w : World) (ht : InTree w h t) (hbad : badA t kn 0 ≠ 0) : Calls Try.prog 12 #[h.v, .slice ka kn kc] w (GetBad w (badA t kn 0)) := by
  unfold TH.v
  have hbox := Box.new w 25 h
  have HT := Lib.hid ht
  have HBAD := Lib.hid hbad
  obtain ⟨x0, x1, x2, x3, x4⟩ := hbox.cells
  clear hbox ht hbad
  go_enter Try.func12, Try.ntmps12
  go_wp2_with (first
    | (go_at_call 29
       refine (refusal_any t h ka none kn kc 0 0 _ ?_).mono ?_
       · exact HT.out.lower ((Below.refl _ _).alloc (Nat.le_refl _) _)
       rintro _ w1 ⟨rfl, hb1⟩
       have HB1 : Hid (Below w.heap.size w w1) := Lib.hid (((Below.refl w.heap.size w).alloc (Nat.le_refl _) _).trans (hb1.mono (by simp)))
       rw [codeV_pos HBAD.out]
       clear hb1 x0 x1 x2 x3 x4))
  go_ret3
  exact ⟨by rw [codeV_pos HBAD.out]; rfl, HB1.out⟩

set_option maxRecDepth 100000 in
set_option maxHeartbeats 4000000 in
theorem get_ok (a : AT) (h : TH) (key : List Int) (ka : Option Addr) (kn kc : Nat) (w : World) (ht : InTree w h a.tr) (hk : InBytes w ka kn kc key) (hbad : badA a.tr kn 0 = 0) : Calls Try.prog 12 #[h.v, .slice ka kn kc] w (GetOk w (a.get key)) := by
  have HT := Lib.hid ht
  have HK := Lib.hid hk
  obtain ⟨⟨a', e, hbal, hri, hlim, hdep⟩, -, -⟩ := badA_zero hbad
  obtain rfl := AT.tr_inj e
  have hfg := AT.find_get key a hri
  have HBAD := Lib.hid hbad
  clear e hbad
  unfold TH.v
  have hbox := Box.new w 25 h
  have HX := Lib.hid hbox
  obtain ⟨x0, x1, x2, x3, x4⟩ := hbox.cells
  have HLI := Lib.hid hlim
  clear hbox ht hk hri hlim hbal hdep
  generalize hF : a.find key = F at hfg
  have HF := Lib.hid hF
  have HFG := Lib.hid hfg
  clear hfg hF
  go_enter Try.func12, Try.ntmps12
  go_upto_region 5 with (first
    | (go_at_call 29
       refine (refusal_any a.tr h ka none kn kc 0 0 _ ?_).mono ?_
       · exact HT.out.lower ((Below.refl _ _).alloc (Nat.le_refl _) _)
       rintro _ w1 ⟨rfl, hb1⟩
       have HB1 : Hid (Below w.heap.size w w1) := Lib.hid (((Below.refl w.heap.size w).alloc (Nat.le_refl _) _).trans (hb1.mono (by simp)))
       obtain ⟨y0, y1, y2, y3, y4⟩ := (HX.out.below hb1 HX.out.lt).cells
       rw [HBAD.out, codeV_zero]
       clear hb1 x0 x1 x2 x3 x4)
    | (go_at_call 30
       refine (prFind_any key ka kn kc a h _ (HT.out.lower HB1.out) (HK.out.below HB1.out)).mono ?_
       rintro _ w2 ⟨h2, rfl, hi2, hb2⟩
       rw [HF.out] at hi2
       rw [HF.out]
       have HI2 := Lib.hid hi2
       have HB2 : Hid (Below w.heap.size w w2) := Lib.hid (HB1.out.trans (hb2.mono HB1.out.size))
       clear hi2 hb2 y0 y1 y2 y3 y4)
    | (refine wpList_store_box rfl 25 (.tmp 8) (.tmp 20) rfl w2.heap.size hZ h2 rfl rfl 25 (Box.new w2 25 hZ) infoTree5 ?_
       intro w3 hbx3 hg3
       have q3 : Below w2.heap.size w2 w3 := ((Below.refl w2.heap.size w2).alloc (Nat.le_refl _) _).grown hg3 (by simp) (fun j hj => by injection hj; omega)
       have HI3 := Lib.hid (HI2.out.lower q3)
       have HB3 : Hid (Below w.heap.size w w3) := Lib.hid (HB2.out.trans (q3.mono HB2.out.size))
       have x2 := hbx3.cells.2.2.1
       clear hbx3 hg3 q3))
  have hv3 : ∃ zs, InBytes w3 h2.va h2.vn h2.vc zs ∧ zs = ((a.get key).getD []) ∧ (!F.isNil) = (a.get key).isSome := by
    obtain ⟨H, hp⟩ := HI3.out.parts
    rcases HFG.out with ⟨e1, e2⟩ | ⟨l, v, r, e1, e2⟩
    · have hv := hp.val
      rw [e1] at hv
      exact ⟨[], hv, by rw [e2]; rfl, by rw [e1, e2]; rfl⟩
    · have hv := hp.val
      rw [e1] at hv
      exact ⟨v, hv, by rw [e2]; rfl, by rw [e1, e2]; rfl⟩
  obtain ⟨zs, hv, hz, hb⟩ := hv3
  have hvl : h2.vn ≤ 140737488355328 := by
    have := hv.len
    have h1 : zs.length ≤ 1024 := by
      rw [hz]
      cases hg : a.get key with
      | none => simp
      | some v =>
        unfold AT.get at hg
        obtain ⟨p, hp, rfl⟩ := Option.map_eq_some_iff.1 hg
        exact (HLI.out p (List.mem_of_find?_eq_some hp)).2
    omega
  rw [hb]
  have HV := Lib.hid hv
  have HZ := Lib.hid hz
  clear hv hz hb
  go_wp2_with (first
    | (go_at_call 31
       refine (clone_any h2.va h2.vn h2.vc zs _ HV.out hvl).mono ?_
       rintro _ w4 ⟨a4, c4, rfl, hi4, -, hb4⟩
       have HI4 := Lib.hid hi4
       have HB4 : Hid (Below w.heap.size w w4) := Lib.hid (HB3.out.trans (hb4.mono HB3.out.size))
       clear hi4 hb4))
  go_ret3
  refine ⟨a4, c4, ?_, ?_, HB4.out⟩
  · rw [← HZ.out]
    rfl
  · rw [← HZ.out]
    exact HI4.out
end Go.Proofs.Ytolpdidjabbipaa
