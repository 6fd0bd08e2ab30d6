/- The document's measure of a tree: has it few enough parts? -/
import Derived.Test.YtpjojhmdgeejmaaTreeMath
import Derived.Test.YtpjojhmdgeejmaaInfo
namespace Go.Proofs.Ytpjojhmdgeejmaa
open Go.RowKit
set_option linter.unusedVariables false

/-- A number from -1 to 500; where it is not below 0, the tree is small. -/
def LightPost (w : World) (t : Tr) (left : Int) (e : Ending) (w' : World) : Prop :=
  ∃ r : Int, e = .returned (.int .i64 r) ∧ -1 ≤ r ∧ r ≤ 500 ∧ (0 ≤ r → LightOK t ∧ (countT t : Int) = left - r) ∧ Below w.heap.size w w'

set_option maxRecDepth 100000 in
set_option maxHeartbeats 4000000 in
theorem light_any : ∀ (t : Tr) (h : TH) (left : Int) (dep : Int) (w : World), InTree w h t → -1 ≤ left → left ≤ 500 → 0 ≤ dep → dep ≤ 200 → 
    Calls Try.prog 15 #[h.v, .int .i64 left, .int .i64 dep] w (LightPost w t left) := by
  intro t
  induction t using Tr.ind with
  | h t ih =>
  intro h left dep w ht hl1 hl2 hd1 hd2
  unfold TH.v
  obtain ⟨H, hp⟩ := ht.parts
  have hkl := hp.key.len
  have hvl := hp.val.len
  have hdl := hp.dig.len
  have htl := hp.len
  have hkm := Nat.le_trans hp.key.le hp.key.max
  have hvm := Nat.le_trans hp.val.le hp.val.max
  have hdm := Nat.le_trans hp.dig.le hp.dig.max
  have htm := Nat.le_trans hp.sl.le hp.sl.max
  have htc := hp.sl.le
  simp only [maxLen] at hkm hvm hdm htm
  have HP := Lib.hid hp
  have IH := Lib.hid ih
  clear hp ht ih
  have hbox := Box.new w 33 h
  have HX := Lib.hid hbox
  obtain ⟨x0, x1, x2, x3, x4⟩ := hbox.cells
  clear hbox
  go_enter Try.func15, Try.ntmps15
  by_cases c0 : dep = 0
  · subst c0
    go_wp2_with fail
    go_ret
    exact ⟨_, rfl, by omega, by omega, fun h => by omega, (Below.refl _ _).alloc (Nat.le_refl _) _⟩
  by_cases c1 : left - 1 < 0
  · go_wp2_with fail
    go_ret
    exact ⟨_, rfl, by omega, by omega, fun h => by omega, (Below.refl _ _).alloc (Nat.le_refl _) _⟩
  by_cases c2 : left - 1 < (h.tn : Int)
  · go_wp2_with fail
    go_ret
    exact ⟨_, rfl, by omega, by omega, fun h => by omega, (Below.refl _ _).alloc (Nat.le_refl _) _⟩
  by_cases c3 : (3000 : Int) < (h.kn : Int)
  · go_wp2_with fail
    go_ret
    exact ⟨_, rfl, by omega, by omega, fun h => by omega, (Below.refl _ _).alloc (Nat.le_refl _) _⟩
  by_cases c4 : (3000 : Int) < (h.vn : Int)
  · go_wp2_with fail
    go_ret
    exact ⟨_, rfl, by omega, by omega, fun h => by omega, (Below.refl _ _).alloc (Nat.le_refl _) _⟩
  by_cases c5 : (3000 : Int) < (h.dn : Int)
  · go_wp2_with fail
    go_ret
    exact ⟨_, rfl, by omega, by omega, fun h => by omega, (Below.refl _ _).alloc (Nat.le_refl _) _⟩
  go_wp2_with fail
  clear x0 x1 x2 x3 x4
  go_loopw [1, 7] (fun s1 s7 wx => ∃ (i : Nat) (l : Int), i ≤ h.tn ∧ 0 ≤ l ∧ l ≤ 500 ∧ s1 = .int .i64 l ∧ s7 = .int .i64 i ∧ Box wx 33 w.heap.size h ∧ Below w.heap.size w wx ∧ (∀ j (hj : j < t.kids.length), j < i → LightOK t.kids[j]) ∧ l = left - 1 - (((t.kids.take i).map countT).sum : Nat)) (fun _ s7 _ => h.tn - (intOf s7).toNat)
  case atStart => exact ⟨0, left - 1, by omega, by omega, by omega, by go_num, rfl, HX.out, (Below.refl _ _).alloc (Nat.le_refl _) _, (fun j hj h => by omega), by simp⟩
  case round =>
    obtain ⟨i, l, hi, hl0, hl5, rfl, rfl, hbx, hbw, hok, hsum⟩ := hrel
    have hx4 := hbx.cells.2.2.2.2
    have HBX := Lib.hid hbx
    have HBW := Lib.hid hbw
    have HOK := Lib.hid (And.intro hok hsum)
    clear hbx hbw hok hsum HX
    by_cases hlt : i < h.tn
    · have q1 : (i : Int) < (h.tn : Int) := by omega
      obtain ⟨g, off, hta, hg, hcs⟩ := (HP.out.below HBW.out).place (by omega)
      rw [hta] at hx4
      obtain ⟨k0, k1, k2, k3, k4⟩ := hcs i hlt
      clear hcs hta
      have him : i < t.kids.length := by omega
      go_upto_region 8 with (first
        | (go_at_call 15
           refine (IH.out _ (List.getElem_mem him) (H i) l (dep - 1) _ ((HP.out.below HBW.out).kids i him) (by omega) (by omega) (by omega) (by omega)).mono ?_
           rintro _ w1 ⟨r, rfl, hr1, hr2, hrok, hb1⟩
           have HB1 : Hid (Below w.heap.size w w1) := Lib.hid (HBW.out.trans (hb1.mono HBW.out.size))
           have HX1 := Lib.hid (HBX.out.below hb1 HBX.out.lt)
           have HR := Lib.hid hrok
           clear hb1 hrok))
      clear hx4 k0 k1 k2 k3 k4
      by_cases hr : r < 0
      · go_wp2_with fail
        go_ret
        exact ⟨_, rfl, by omega, by omega, fun h => by omega, HB1.out⟩
      · go_wp2_with fail
        exact ⟨⟨i + 1, r, by omega, by omega, by omega, rfl, by go_num, HX1.out, HB1.out, (fun j hj hji => by
          by_cases hij : j = i
          · subst hij; exact (HR.out (by omega)).1
          · exact HOK.out.1 j hj (by omega)), by
          have h1 := (HR.out (by omega)).2
          have h2 := HOK.out.2
          rw [List.take_succ_eq_append_getElem him, List.map_append, List.sum_append]
          simp only [List.map_cons, List.map_nil, List.sum_cons, List.sum_nil]
          omega⟩, by simp [intOf]; omega⟩
    · obtain rfl : i = h.tn := by omega
      have q1 : ¬ (h.tn : Int) < (h.tn : Int) := by omega
      go_wp2_with fail
      go_ret
      exact ⟨_, rfl, by omega, by omega, fun _ => ⟨.mk t (by omega) (by omega) (by omega) (by omega) fun j hj => HOK.out.1 j hj (by omega), by
        have h2 := HOK.out.2
        rw [List.take_of_length_le (by omega)] at h2
        rw [countT_eq]
        omega⟩, HBW.out⟩
end Go.Proofs.Ytpjojhmdgeejmaa
