/- The contracts of the program's checks of trees. -/
import Derived.Test.YtpjojhmdgeejmaaRefTree2
import Derived.Test.YtpjojhmdgeejmaaCodeV
import Derived.Test.YtpjojhmdgeejmaaVar
namespace Go.Proofs.Ytpjojhmdgeejmaa
open Go.RowKit
set_option linter.unusedVariables false

/-- A pointer to a variable. -/
def ptrV (g : Nat) : Value := .pointer (some ⟨g, 0, none⟩)
/-- Counts a part as a node by its kind? -/
def nodeK (t : Tr) : Bool := t.k == 1 || t.k == 2
/-- Is a part told itself? -/
def toldK (t : Tr) : Bool := t.k != 2 && t.k != 3
/-- Is a part told itself, or has its digest the width? -/
def fitsK (k : Nat) (t : Tr) : Bool := toldK t || decide (t.dig.length = k)
/-- All parts of a tree. -/
def allT (p : Tr → Bool) (t : Tr) : Bool := t.fold fun t rs => p t && rs.all id
theorem allT_eq (p : Tr → Bool) (t : Tr) : allT p t = (p t && t.kids.all (allT p)) := by
  unfold allT
  rw [Tr.fold_eq]
  simp [List.all_map, Function.comp_def]
theorem allT_part (t : Tr) : allT partB t = formedT t := rfl
theorem allT_told : ∀ t : Tr, formedT t = true → allT toldK t = fullT t := by
  intro t
  induction t using Tr.ind with
  | h t ih =>
  intro hf
  obtain ⟨hp, hk⟩ := formed_kids hf
  rw [allT_eq, fullT_eq]
  have e1 : toldK t = decide (t.k ≤ 1) := by
    unfold toldK
    rcases part_kids hp with ⟨_, h | h⟩ | ⟨_, h | h⟩ <;> rw [h] <;> rfl
  have e2 : t.kids.all (allT toldK) = t.kids.all fullT := by
    rw [Bool.eq_iff_iff, List.all_eq_true, List.all_eq_true]
    constructor
    · intro h x hx
      obtain ⟨i, hi, rfl⟩ := List.getElem_of_mem hx
      rw [← ih _ hx (hk i hi)]
      exact h _ hx
    · intro h x hx
      obtain ⟨i, hi, rfl⟩ := List.getElem_of_mem hx
      rw [ih _ hx (hk i hi)]
      exact h _ hx
  rw [e1, e2]

set_option maxRecDepth 100000 in
set_option maxHeartbeats 4000000 in
theorem isNode_any (t : Tr) (h : TH) (w : World) (ht : InTree w h t) : Calls Try.prog 40 #[h.v] w (Says w (.bool (nodeK t))) := by
  unfold TH.v
  obtain ⟨H, hp⟩ := ht.parts
  have HK := Lib.hid hp.hk
  have hk1 := hp.hk1
  have hk2 := hp.hk2
  clear hp ht
  have hbox := Box.new w 33 h
  obtain ⟨x0, x1, x2, x3, x4⟩ := hbox.cells
  clear hbox
  have hw1 : Below w.heap.size w (w.alloc (.cells #[.int .i64 h.k, .slice h.ka h.kn h.kc, .slice h.va h.vn h.vc, .slice h.da h.dn h.dc, .slice h.ta h.tn h.tc] 33)) := (Below.refl _ _).alloc (Nat.le_refl _) _
  have HB := Lib.hid hw1
  clear hw1
  go_enter Try.func40, Try.ntmps40
  cases f1 : (h.k == 1)
  · go_wp2_with fail
    go_ret
    refine ⟨?_, HB.out⟩
    unfold nodeK
    rw [← HK.out, f1]
    rfl
  · go_wp2_with fail
    go_ret
    refine ⟨?_, HB.out⟩
    unfold nodeK
    rw [← HK.out, f1]
    rfl

set_option maxRecDepth 100000 in
set_option maxHeartbeats 4000000 in
theorem isTold_any (t : Tr) (h : TH) (w : World) (ht : InTree w h t) : Calls Try.prog 46 #[h.v] w (Says w (.bool (toldK t))) := by
  unfold TH.v
  obtain ⟨H, hp⟩ := ht.parts
  have HK := Lib.hid hp.hk
  have hk1 := hp.hk1
  have hk2 := hp.hk2
  clear hp ht
  have hbox := Box.new w 33 h
  obtain ⟨x0, x1, x2, x3, x4⟩ := hbox.cells
  clear hbox
  have hw1 : Below w.heap.size w (w.alloc (.cells #[.int .i64 h.k, .slice h.ka h.kn h.kc, .slice h.va h.vn h.vc, .slice h.da h.dn h.dc, .slice h.ta h.tn h.tc] 33)) := (Below.refl _ _).alloc (Nat.le_refl _) _
  have HB := Lib.hid hw1
  clear hw1
  go_enter Try.func46, Try.ntmps46
  cases f1 : (h.k == 2)
  · have f2 : (h.k != 2) = true := by rw [bne, f1]; rfl
    go_wp2_with fail
    go_ret
    refine ⟨?_, HB.out⟩
    unfold toldK
    rw [← HK.out, f2]
    rfl
  · have f2 : (h.k != 2) = false := by rw [bne, f1]; rfl
    go_wp2_with fail
    go_ret
    refine ⟨?_, HB.out⟩
    unfold toldK
    rw [← HK.out, f2]
    rfl

set_option maxRecDepth 100000 in
set_option maxHeartbeats 4000000 in
theorem wellFormed_any (t : Tr) (h : TH) (w : World) (ht : InTree w h t) : Calls Try.prog 49 #[h.v] w (Says w (.bool (partB t))) := by
  unfold TH.v
  obtain ⟨H, hp⟩ := ht.parts
  have hk1 := hp.hk1
  have hk2 := hp.hk2
  have HI := Lib.hid (partB_head hp)
  clear hp ht
  have hbox := Box.new w 33 h
  obtain ⟨x0, x1, x2, x3, x4⟩ := hbox.cells
  clear hbox
  have hw1 : Below w.heap.size w (w.alloc (.cells #[.int .i64 h.k, .slice h.ka h.kn h.kc, .slice h.va h.vn h.vc, .slice h.da h.dn h.dc, .slice h.ta h.tn h.tc] 33)) := (Below.refl _ _).alloc (Nat.le_refl _) _
  have HB := Lib.hid (fun m => below_drewN hw1 m)
  clear hw1
  go_enter Try.func49, Try.ntmps49
  go_upto_region 1 with fail
  go_quiet (fail)
  cases k0 : (h.k == 0)
  · cases k1 : (h.k == 1)
    · cases k2 : (h.k == 2)
      · cases k3 : (h.k == 3)
        · go_wp2_with fail
          go_ret
          refine ⟨?_, HB.out _⟩
          rw [HI.out]
          simp [k0, k1, k2, k3]
        · cases f5 : ((h.kn : Int) == 0)
          · go_wp2_with fail
            go_ret
            refine ⟨?_, HB.out _⟩
            rw [HI.out]
            simp [k0, k1, k2, k3, f5]
          · cases f6 : ((h.vn : Int) == 0)
            · go_wp2_with fail
              go_ret
              refine ⟨?_, HB.out _⟩
              rw [HI.out]
              simp [k0, k1, k2, k3, f6]
            · cases f7 : ((h.tn : Int) == 0)
              · go_wp2_with fail
                go_ret
                refine ⟨?_, HB.out _⟩
                rw [HI.out]
                simp [k0, k1, k2, k3, f7]
              · go_wp2_with fail
                go_ret
                refine ⟨?_, HB.out _⟩
                rw [HI.out]
                simp [k0, k1, k2, k3, f5, f6, f7]
      · by_cases f5 : (h.kn : Int) ≤ 80
        · cases f6 : ((h.vn : Int) == 0)
          · go_wp2_with fail
            go_ret
            refine ⟨?_, HB.out _⟩
            rw [HI.out]
            simp [k0, k1, k2, f6]
          · cases f7 : ((h.tn : Int) == 2)
            · go_wp2_with fail
              go_ret
              refine ⟨?_, HB.out _⟩
              rw [HI.out]
              simp [k0, k1, k2, f7]
            · go_wp2_with fail
              go_ret
              refine ⟨?_, HB.out _⟩
              rw [HI.out]
              simp [k0, k1, k2, f5, f6, f7]
        · go_wp2_with fail
          go_ret
          refine ⟨?_, HB.out _⟩
          rw [HI.out]
          simp [k0, k1, k2, show ¬ (h.kn : Int) ≤ 80 by omega]
    · by_cases f5 : (h.kn : Int) ≤ 80
      · by_cases f6 : (h.vn : Int) ≤ 1024
        · cases f7 : ((h.dn : Int) == 0)
          · go_wp2_with fail
            go_ret
            refine ⟨?_, HB.out _⟩
            rw [HI.out]
            simp [k0, k1, f7]
          · cases f8 : ((h.tn : Int) == 2)
            · go_wp2_with fail
              go_ret
              refine ⟨?_, HB.out _⟩
              rw [HI.out]
              simp [k0, k1, f8]
            · go_wp2_with fail
              go_ret
              refine ⟨?_, HB.out _⟩
              rw [HI.out]
              simp [k0, k1, f5, f6, f7, f8]
        · go_wp2_with fail
          go_ret
          refine ⟨?_, HB.out _⟩
          rw [HI.out]
          simp [k0, k1, show ¬ (h.vn : Int) ≤ 1024 by omega]
      · go_wp2_with fail
        go_ret
        refine ⟨?_, HB.out _⟩
        rw [HI.out]
        simp [k0, k1, show ¬ (h.kn : Int) ≤ 80 by omega]
  · cases f5 : ((h.kn : Int) == 0)
    · go_wp2_with fail
      go_ret
      refine ⟨?_, HB.out _⟩
      rw [HI.out]
      simp [k0, f5]
    · cases f6 : ((h.vn : Int) == 0)
      · go_wp2_with fail
        go_ret
        refine ⟨?_, HB.out _⟩
        rw [HI.out]
        simp [k0, f6]
      · cases f7 : ((h.dn : Int) == 0)
        · go_wp2_with fail
          go_ret
          refine ⟨?_, HB.out _⟩
          rw [HI.out]
          simp [k0, f7]
        · cases f8 : ((h.tn : Int) == 0)
          · go_wp2_with fail
            go_ret
            refine ⟨?_, HB.out _⟩
            rw [HI.out]
            simp [k0, f8]
          · go_wp2_with fail
            go_ret
            refine ⟨?_, HB.out _⟩
            rw [HI.out]
            simp [k0, f5, f6, f7, f8]

/-- A variable that holds the closure of a function which calls itself, and has pointers to variables. -/
def CloV (fn : Nat) (caps : Array Value) : Value := .func (.func fn) #[] caps
theorem deep_node {t : Tr} (hn : nodeK t = false) (h0 : t.kids.length = 0) (b : Int) : deepT t b = false := by
  have hk : t.kids = [] := List.length_eq_zero_iff.1 h0
  have e : isNode t = false := by
    unfold nodeK at hn
    unfold isNode
    rw [Bool.or_eq_false_iff] at hn
    rw [hn.1, hn.2, hk]
    rfl
  rw [deepT_eq, e, hk]
  rfl
theorem node_is {t : Tr} (h : nodeK t = true ∨ t.kids.length ≠ 0) : isNode t = true := by
  unfold isNode
  rcases h with h | h
  · unfold nodeK at h
    rw [← Bool.or_assoc, h]
    rfl
  · have : decide (0 < t.kids.length) = true := by simp; omega
    rw [this]
    simp

set_option maxRecDepth 100000 in
set_option maxHeartbeats 4000000 in
theorem deepC_any : ∀ (t : Tr) (h : TH) (a : Int) (w : World) (gc : Nat), InTree w h t → 0 ≤ a → a ≤ 64 → Var1 w 61 gc (.func (.func 54) #[] #[.pointer (some ⟨gc, 0, none⟩)]) →
    Calls Try.prog 54 #[h.v, .int .i64 a, .pointer (some ⟨gc, 0, none⟩)] w (Says w (.bool (deepT t (64 - a)))) := by
  intro t
  induction t using Tr.ind with
  | h t ih =>
  intro h a w gc ht ha0 ha1 hcl
  unfold TH.v
  obtain ⟨H, hp⟩ := ht.parts
  have htl := hp.len
  have htc := hp.sl.le
  have htm := Nat.le_trans hp.sl.le hp.sl.max
  simp only [maxLen] at htm
  have HP := Lib.hid hp
  have HTT := Lib.hid ht
  have IH := Lib.hid ih
  have HCL := Lib.hid hcl
  clear hp ht ih hcl
  have hbox := Box.new w 33 h
  have HX := Lib.hid hbox
  obtain ⟨x0, x1, x2, x3, x4⟩ := hbox.cells
  clear hbox
  have hw1 : Below w.heap.size w (w.alloc (.cells #[.int .i64 h.k, .slice h.ka h.kn h.kc, .slice h.va h.vn h.vc, .slice h.da h.dn h.dc, .slice h.ta h.tn h.tc] 33)) := (Below.refl _ _).alloc (Nat.le_refl _) _
  have HB := Lib.hid hw1
  clear hw1
  go_enter Try.func54, Try.ntmps54
  cases hr : nodeK t
  · have HR := Lib.hid hr
    clear hr
    cases ftn : ((h.tn : Int) == 0)
    · have HNI : Hid (nodeK t = true ∨ t.kids.length ≠ 0) := Lib.hid (Or.inr (by rw [beq_eq_false_iff_ne] at ftn; omega))
      go_upto_if 18 with (first
        | (go_at_call 40
           refine (isNode_any t h _ (HTT.out.lower HB.out)).mono ?_
           rintro _ w1 ⟨rfl, hb1⟩
           rw [HR.out]
           have HB1 : Hid (Below w.heap.size w w1) := Lib.hid (HB.out.trans (hb1.mono HB.out.size))
           have hx1 := HX.out.below hb1 HX.out.lt
           obtain ⟨y0, y1, y2, y3, y4⟩ := hx1.cells
           have HX1 := Lib.hid hx1
           clear hb1 hx1 x0 x1 x2 x3 x4))
      have HN : Hid (isNode t = true) := Lib.hid (node_is HNI.out)
      by_cases fa : ¬ a = 64
      · have HNB : Hid ((isNode t && (64 - a == 0)) = false) := Lib.hid (by rw [Bool.and_eq_false_iff]; right; rw [beq_eq_false_iff_ne]; omega)
        have ha2 : a ≤ 63 := by omega
        have fb : (a == 64) = false := by simp [fa]
        rw [fb]
        have HCL1 := Lib.hid (HCL.out.below HB1.out HCL.out.lt)
        go_wp2_with fail
        clear y0 y1 y2 y3 y4 fa fb
        go_loopw [22] (fun s22 wx => ∃ i : Nat, i ≤ h.tn ∧ s22 = .int .i64 i ∧ Var1 wx 61 gc (.func (.func 54) #[] #[.pointer (some ⟨gc, 0, none⟩)]) ∧ Below w.heap.size w wx ∧ (t.kids.take i).any (fun x => deepT x (64 - (a + 1))) = false) (fun s22 _ => h.tn - (intOf s22).toNat)
        case atStart => exact ⟨0, by omega, rfl, HCL1.out, HB1.out, by simp⟩
        case round =>
          clear HCL1 HB1 HX1
          obtain ⟨i, hi, rfl, hcl, hbw, hall⟩ := hrel
          have hcc := hcl.cell
          have HC := Lib.hid hcl
          have HBW := Lib.hid hbw
          have HA := Lib.hid hall
          clear hcl hbw hall
          by_cases hlt : i < h.tn
          · have q1 : (i : Int) < (h.tn : Int) := by omega
            obtain ⟨g, off, hta, hg, hcs⟩ := (HP.out.below HBW.out).place (by omega)
            obtain ⟨k0, k1, k2, k3, k4⟩ := hcs i hlt
            have him : i < t.kids.length := by omega
            clear hcs
            rw [hta]
            go_upto_region 8 with fail
            have b2 : Below wr.heap.size wr (wr.alloc (.cells #[.int .i64 (H i).k, .slice (H i).ka (H i).kn (H i).kc, .slice (H i).va (H i).vn (H i).vc, .slice (H i).da (H i).dn (H i).dc, .slice (H i).ta (H i).tn (H i).tc] 33)) := (Below.refl _ _).alloc (Nat.le_refl _) _
            have bx := Box.new wr 33 (H i)
            generalize (wr.alloc (.cells #[.int .i64 (H i).k, .slice (H i).ka (H i).kn (H i).kc, .slice (H i).va (H i).vn (H i).vc, .slice (H i).da (H i).dn (H i).dc, .slice (H i).ta (H i).tn (H i).tc] 33)) = w2 at *
            have HB2 : Hid (Below w.heap.size w w2) := Lib.hid (HBW.out.trans (b2.mono HBW.out.size))
            have HC2 := Lib.hid (HC.out.below b2 HC.out.lt)
            have hc2 := HC2.out.cell
            obtain ⟨y0, y1, y2, y3, y4⟩ := bx.cells
            clear b2 bx k0 k1 k2 k3 k4 hcc
            go_upto_if 30 with (first
              | (go_at_call 54
                 refine (IH.out _ (List.getElem_mem him) (H i) (a + 1) _ gc ((HP.out.below HB2.out).kids i him) (by omega) (by omega) HC2.out).mono ?_
                 rintro _ w3 ⟨rfl, hb3⟩
                 have HB3 : Hid (Below w.heap.size w w3) := Lib.hid (HB2.out.trans (hb3.mono HB2.out.size))
                 have HC3 := Lib.hid (HC2.out.below hb3 HC2.out.lt)
                 generalize hr : deepT t.kids[i] (64 - (a + 1)) = q
                 have HQ := Lib.hid hr
                 clear hb3 hr))
            clear y0 y1 y2 y3 y4 hc2
            cases q
            · clear hta
              go_wp2_with fail
              exact ⟨⟨i + 1, by omega, by go_num, HC3.out, HB3.out, by rw [any_take _ _ i him, HA.out, HQ.out]; rfl⟩, by simp [intOf]; omega⟩
            · go_wp2_with fail
              go_ret
              have e : deepT t (64 - a) = true := by
                rw [deepT_eq, show (64 : Int) - a - 1 = 64 - (a + 1) by omega, any_at (p := fun x => deepT x (64 - (a + 1))) i him HQ.out, Bool.or_true]
              exact ⟨by rw [e]; rfl, HB3.out⟩
          · obtain rfl : i = h.tn := by omega
            have q1 : ¬ (h.tn : Int) < (h.tn : Int) := by omega
            go_wp2_with fail
            go_ret
            have hA := HA.out
            rw [List.take_of_length_le (by omega)] at hA
            have e : deepT t (64 - a) = false := by
              rw [deepT_eq, HNB.out, show (64 : Int) - a - 1 = 64 - (a + 1) by omega, hA]
              rfl
            exact ⟨by rw [e]; rfl, HBW.out⟩
      · obtain rfl : a = 64 := by omega
        go_wp2_with fail
        go_ret
        have e : deepT t 0 = true := by
          rw [deepT_eq, HN.out]
          rfl
        exact ⟨by rw [e]; rfl, HB1.out⟩
    · have HT0 : Hid (t.kids.length = 0) := Lib.hid (by rw [beq_iff_eq] at ftn; omega)
      go_upto_if 16 with (first
        | (go_at_call 40
           refine (isNode_any t h _ (HTT.out.lower HB.out)).mono ?_
           rintro _ w1 ⟨rfl, hb1⟩
           rw [HR.out]
           have HB1 : Hid (Below w.heap.size w w1) := Lib.hid (HB.out.trans (hb1.mono HB.out.size))
           have hx1 := HX.out.below hb1 HX.out.lt
           obtain ⟨y0, y1, y2, y3, y4⟩ := hx1.cells
           have HX1 := Lib.hid hx1
           clear hb1 hx1 x0 x1 x2 x3 x4))
      go_wp2_with fail
      go_ret
      exact ⟨by rw [deep_node HR.out HT0.out]; rfl, HB1.out⟩
  · have HR := Lib.hid hr
    have HNI : Hid (nodeK t = true ∨ t.kids.length ≠ 0) := Lib.hid (Or.inl hr)
    clear hr
    go_upto_if 18 with (first
      | (go_at_call 40
         refine (isNode_any t h _ (HTT.out.lower HB.out)).mono ?_
         rintro _ w1 ⟨rfl, hb1⟩
         rw [HR.out]
         have HB1 : Hid (Below w.heap.size w w1) := Lib.hid (HB.out.trans (hb1.mono HB.out.size))
         have hx1 := HX.out.below hb1 HX.out.lt
         obtain ⟨y0, y1, y2, y3, y4⟩ := hx1.cells
         have HX1 := Lib.hid hx1
         clear hb1 hx1 x0 x1 x2 x3 x4))
    have HN : Hid (isNode t = true) := Lib.hid (node_is HNI.out)
    by_cases fa : ¬ a = 64
    · have HNB : Hid ((isNode t && (64 - a == 0)) = false) := Lib.hid (by rw [Bool.and_eq_false_iff]; right; rw [beq_eq_false_iff_ne]; omega)
      have ha2 : a ≤ 63 := by omega
      have fb : (a == 64) = false := by simp [fa]
      rw [fb]
      have HCL1 := Lib.hid (HCL.out.below HB1.out HCL.out.lt)
      go_wp2_with fail
      clear y0 y1 y2 y3 y4 fa fb
      go_loopw [22] (fun s22 wx => ∃ i : Nat, i ≤ h.tn ∧ s22 = .int .i64 i ∧ Var1 wx 61 gc (.func (.func 54) #[] #[.pointer (some ⟨gc, 0, none⟩)]) ∧ Below w.heap.size w wx ∧ (t.kids.take i).any (fun x => deepT x (64 - (a + 1))) = false) (fun s22 _ => h.tn - (intOf s22).toNat)
      case atStart => exact ⟨0, by omega, rfl, HCL1.out, HB1.out, by simp⟩
      case round =>
        clear HCL1 HB1 HX1
        obtain ⟨i, hi, rfl, hcl, hbw, hall⟩ := hrel
        have hcc := hcl.cell
        have HC := Lib.hid hcl
        have HBW := Lib.hid hbw
        have HA := Lib.hid hall
        clear hcl hbw hall
        by_cases hlt : i < h.tn
        · have q1 : (i : Int) < (h.tn : Int) := by omega
          obtain ⟨g, off, hta, hg, hcs⟩ := (HP.out.below HBW.out).place (by omega)
          obtain ⟨k0, k1, k2, k3, k4⟩ := hcs i hlt
          have him : i < t.kids.length := by omega
          clear hcs
          rw [hta]
          go_upto_region 8 with fail
          have b2 : Below wr.heap.size wr (wr.alloc (.cells #[.int .i64 (H i).k, .slice (H i).ka (H i).kn (H i).kc, .slice (H i).va (H i).vn (H i).vc, .slice (H i).da (H i).dn (H i).dc, .slice (H i).ta (H i).tn (H i).tc] 33)) := (Below.refl _ _).alloc (Nat.le_refl _) _
          have bx := Box.new wr 33 (H i)
          generalize (wr.alloc (.cells #[.int .i64 (H i).k, .slice (H i).ka (H i).kn (H i).kc, .slice (H i).va (H i).vn (H i).vc, .slice (H i).da (H i).dn (H i).dc, .slice (H i).ta (H i).tn (H i).tc] 33)) = w2 at *
          have HB2 : Hid (Below w.heap.size w w2) := Lib.hid (HBW.out.trans (b2.mono HBW.out.size))
          have HC2 := Lib.hid (HC.out.below b2 HC.out.lt)
          have hc2 := HC2.out.cell
          obtain ⟨y0, y1, y2, y3, y4⟩ := bx.cells
          clear b2 bx k0 k1 k2 k3 k4 hcc
          go_upto_if 30 with (first
            | (go_at_call 54
               refine (IH.out _ (List.getElem_mem him) (H i) (a + 1) _ gc ((HP.out.below HB2.out).kids i him) (by omega) (by omega) HC2.out).mono ?_
               rintro _ w3 ⟨rfl, hb3⟩
               have HB3 : Hid (Below w.heap.size w w3) := Lib.hid (HB2.out.trans (hb3.mono HB2.out.size))
               have HC3 := Lib.hid (HC2.out.below hb3 HC2.out.lt)
               generalize hr : deepT t.kids[i] (64 - (a + 1)) = q
               have HQ := Lib.hid hr
               clear hb3 hr))
          clear y0 y1 y2 y3 y4 hc2
          cases q
          · clear hta
            go_wp2_with fail
            exact ⟨⟨i + 1, by omega, by go_num, HC3.out, HB3.out, by rw [any_take _ _ i him, HA.out, HQ.out]; rfl⟩, by simp [intOf]; omega⟩
          · go_wp2_with fail
            go_ret
            have e : deepT t (64 - a) = true := by
              rw [deepT_eq, show (64 : Int) - a - 1 = 64 - (a + 1) by omega, any_at (p := fun x => deepT x (64 - (a + 1))) i him HQ.out, Bool.or_true]
            exact ⟨by rw [e]; rfl, HB3.out⟩
        · obtain rfl : i = h.tn := by omega
          have q1 : ¬ (h.tn : Int) < (h.tn : Int) := by omega
          go_wp2_with fail
          go_ret
          have hA := HA.out
          rw [List.take_of_length_le (by omega)] at hA
          have e : deepT t (64 - a) = false := by
            rw [deepT_eq, HNB.out, show (64 : Int) - a - 1 = 64 - (a + 1) by omega, hA]
            rfl
          exact ⟨by rw [e]; rfl, HBW.out⟩
    · obtain rfl : a = 64 := by omega
      go_wp2_with fail
      go_ret
      have e : deepT t 0 = true := by
        rw [deepT_eq, HN.out]
        rfl
      exact ⟨by rw [e]; rfl, HB1.out⟩

set_option maxRecDepth 100000 in
set_option maxHeartbeats 4000000 in
theorem tooDeep_any (t : Tr) (h : TH) (w : World) (ht : InTree w h t) : Calls Try.prog 48 #[h.v] w (Says w (.bool (deepT t 64))) := by
  have hmf : ∀ (fn : Fn) (first cap : Array Value) (w : World), (Instr.makeFunc fn first cap).run Try.prog w = .ok (.func fn first cap) w := fun _ _ _ _ => rfl
  unfold TH.v
  have HTT := Lib.hid ht
  clear ht
  go_enter Try.func48, Try.ntmps48
  have hnf : Var1 ((w.alloc (.cells #[.int .i64 h.k, .slice h.ka h.kn h.kc, .slice h.va h.vn h.vc, .slice h.da h.dn h.dc, .slice h.ta h.tn h.tc] 33)).alloc (.cells #[.nilFunc] 61)) 61 (w.heap.size + 1) .nilFunc := by
    have := Var1.new (w.alloc (.cells #[.int .i64 h.k, .slice h.ka h.kn h.kc, .slice h.va h.vn h.vc, .slice h.da h.dn h.dc, .slice h.ta h.tn h.tc] 33)) 61 .nilFunc
    simpa using this
  have hbx : Box ((w.alloc (.cells #[.int .i64 h.k, .slice h.ka h.kn h.kc, .slice h.va h.vn h.vc, .slice h.da h.dn h.dc, .slice h.ta h.tn h.tc] 33)).alloc (.cells #[.nilFunc] 61)) 33 w.heap.size h := (Box.new w 33 h).below ((Below.refl _ _).alloc (Nat.le_refl _) _) (by simp)
  have hb2 : Below w.heap.size w ((w.alloc (.cells #[.int .i64 h.k, .slice h.ka h.kn h.kc, .slice h.va h.vn h.vc, .slice h.da h.dn h.dc, .slice h.ta h.tn h.tc] 33)).alloc (.cells #[.nilFunc] 61)) := ((Below.refl w.heap.size w).alloc (Nat.le_refl _) _).alloc (by simp) _
  go_upto_region 2 with fail
  generalize (w.alloc (.cells #[.int .i64 h.k, .slice h.ka h.kn h.kc, .slice h.va h.vn h.vc, .slice h.da h.dn h.dc, .slice h.ta h.tn h.tc] 33)).alloc (.cells #[.nilFunc] 61) = w2 at *
  have c0 := hnf.cell
  have c1 := hnf.frozen 0
  have HN := Lib.hid (hnf.set (.func (.func 54) #[] #[.pointer (some ⟨w.heap.size + 1, 0, none⟩)]))
  have hbx3 : Box (w2.setCell ⟨w.heap.size + 1, 0, none⟩ (.func (.func 54) #[] #[.pointer (some ⟨w.heap.size + 1, 0, none⟩)])) 33 w.heap.size h := (Below.heap_setCell w2 ⟨w.heap.size + 1, 0, none⟩ _ w.heap.size (by simp)).trans hbx
  have hb3 : Below w.heap.size w (w2.setCell ⟨w.heap.size + 1, 0, none⟩ (.func (.func 54) #[] #[.pointer (some ⟨w.heap.size + 1, 0, none⟩)])) := hb2.setCell (by simp) _
  clear hnf hbx hb2
  go_upto_region 3 with fail
  generalize (w2.setCell ⟨w.heap.size + 1, 0, none⟩ (.func (.func 54) #[] #[.pointer (some ⟨w.heap.size + 1, 0, none⟩)])) = w3 at *
  obtain ⟨x0, x1, x2, x3, x4⟩ := hbx3.cells
  have c2 := HN.out.cell
  have HB3 := Lib.hid hb3
  clear c0 c1 hbx3 hb3
  go_wp2_with (first
    | (go_at_call 54
       refine (deepC_any t h 0 _ (w.heap.size + 1) (HTT.out.lower HB3.out) (by omega) (by omega) HN.out).mono ?_
       rintro _ w4 ⟨rfl, hb4⟩
       have HB4 : Hid (Below w.heap.size w w4) := Lib.hid (HB3.out.trans (hb4.mono HB3.out.size))
       clear hb4))
  go_ret
  exact ⟨rfl, HB4.out⟩

set_option maxRecDepth 100000 in
set_option maxHeartbeats 4000000 in
theorem everyPartC : ∀ (t : Tr) (h : TH) (w : World) (gp ga : Nat), InTree w h t → Var1 w 40 gp (.func (.func 49) #[] #[]) → Var1 w 40 ga (.func (.func 53) #[] #[.pointer (some ⟨gp, 0, none⟩), .pointer (some ⟨ga, 0, none⟩)]) →
    Calls Try.prog 53 #[h.v, .pointer (some ⟨gp, 0, none⟩), .pointer (some ⟨ga, 0, none⟩)] w (Says w (.bool (allT partB t))) := by
  intro t
  induction t using Tr.ind with
  | h t ih =>
  intro h w gp ga ht hpv hcl
  unfold TH.v
  obtain ⟨H, hp⟩ := ht.parts
  have htl := hp.len
  have htc := hp.sl.le
  have htm := Nat.le_trans hp.sl.le hp.sl.max
  simp only [maxLen] at htm
  have HP := Lib.hid hp
  have HTT := Lib.hid ht
  have IH := Lib.hid ih
  have hbox := Box.new w 33 h
  have HX := Lib.hid hbox
  obtain ⟨x0, x1, x2, x3, x4⟩ := hbox.cells
  have hw1 : Below w.heap.size w (w.alloc (.cells #[.int .i64 h.k, .slice h.ka h.kn h.kc, .slice h.va h.vn h.vc, .slice h.da h.dn h.dc, .slice h.ta h.tn h.tc] 33)) := (Below.refl _ _).alloc (Nat.le_refl _) _
  have HB := Lib.hid hw1
  have hpv1 := hpv.below hw1 hpv.lt
  have HCL1 := Lib.hid (hcl.below hw1 hcl.lt)
  have HPV1 := Lib.hid hpv1
  have xp := hpv1.cell
  skip
  clear hp ht ih hcl hpv hpv1 hw1 hbox
  go_enter Try.func53, Try.ntmps53
  go_upto_if 10 with (first
    | (go_at_call 49
       refine (wellFormed_any t h _ (HTT.out.lower HB.out)).mono ?_
       rintro _ w1 ⟨rfl, hb1⟩
       have HB1 : Hid (Below w.heap.size w w1) := Lib.hid (HB.out.trans (hb1.mono HB.out.size))
       have HX1 := Lib.hid (HX.out.below hb1 HX.out.lt)
       have HCL2 := Lib.hid (HCL1.out.below hb1 HCL1.out.lt)
       have HPV2 := Lib.hid (HPV1.out.below hb1 HPV1.out.lt)
       skip
       generalize hr : partB t = r
       have HR := Lib.hid hr
       clear hb1 hr))
  clear x0 x1 x2 x3 x4 xp HX HB HCL1 HPV1
  cases r
  · go_wp2_with fail
    go_ret
    have e : allT partB t = false := by rw [allT_eq, HR.out]; rfl
    exact ⟨by rw [e]; rfl, HB1.out⟩
  simp only [Bool.not_true]
  have x4 := HX1.out.cells.2.2.2.2
  go_wp2_with fail
  clear x4 HX1
  go_loopw [14] (fun s14 wx => ∃ i : Nat, i ≤ h.tn ∧ s14 = .int .i64 i ∧ Var1 wx 40 gp (.func (.func 49) #[] #[]) ∧ Var1 wx 40 ga (.func (.func 53) #[] #[.pointer (some ⟨gp, 0, none⟩), .pointer (some ⟨ga, 0, none⟩)]) ∧ Below w.heap.size w wx ∧ (t.kids.take i).all (allT partB) = true) (fun s14 _ => h.tn - (intOf s14).toNat)
  case atStart => exact ⟨0, by omega, rfl, HPV2.out, HCL2.out, HB1.out, by simp⟩
  case round =>
    clear HCL2 HB1 HPV2
    obtain ⟨i, hi, rfl, hpv, hcl, hbw, hall⟩ := hrel
    have hcc := hcl.cell
    have HC := Lib.hid hcl
    have HV := Lib.hid hpv
    have HBW := Lib.hid hbw
    have HA := Lib.hid hall
    skip
    clear hcl hbw hall hpv
    by_cases hlt : i < h.tn
    · have q1 : (i : Int) < (h.tn : Int) := by omega
      obtain ⟨g, off, hta, hg, hcs⟩ := (HP.out.below HBW.out).place (by omega)
      obtain ⟨k0, k1, k2, k3, k4⟩ := hcs i hlt
      have him : i < t.kids.length := by omega
      clear hcs
      rw [hta]
      go_upto_region 6 with fail
      have b2 : Below wr.heap.size wr (wr.alloc (.cells #[.int .i64 (H i).k, .slice (H i).ka (H i).kn (H i).kc, .slice (H i).va (H i).vn (H i).vc, .slice (H i).da (H i).dn (H i).dc, .slice (H i).ta (H i).tn (H i).tc] 33)) := (Below.refl _ _).alloc (Nat.le_refl _) _
      have bx := Box.new wr 33 (H i)
      generalize (wr.alloc (.cells #[.int .i64 (H i).k, .slice (H i).ka (H i).kn (H i).kc, .slice (H i).va (H i).vn (H i).vc, .slice (H i).da (H i).dn (H i).dc, .slice (H i).ta (H i).tn (H i).tc] 33)) = w2 at *
      have HB2 : Hid (Below w.heap.size w w2) := Lib.hid (HBW.out.trans (b2.mono HBW.out.size))
      have HC2 := Lib.hid (HC.out.below b2 HC.out.lt)
      have HV2 := Lib.hid (HV.out.below b2 HV.out.lt)
      skip
      have hc2 := HC2.out.cell
      obtain ⟨y0, y1, y2, y3, y4⟩ := bx.cells
      clear b2 bx k0 k1 k2 k3 k4 hcc
      go_upto_if 21 with (first
        | (go_at_call 53
           refine (IH.out _ (List.getElem_mem him) (H i) _ gp ga ((HP.out.below HB2.out).kids i him) HV2.out HC2.out).mono ?_
           rintro _ w3 ⟨rfl, hb3⟩
           have HB3 : Hid (Below w.heap.size w w3) := Lib.hid (HB2.out.trans (hb3.mono HB2.out.size))
           have HC3 := Lib.hid (HC2.out.below hb3 HC2.out.lt)
           have HV3 := Lib.hid (HV2.out.below hb3 HV2.out.lt)
           skip
           generalize hr : allT partB t.kids[i] = q
           have HQ := Lib.hid hr
           clear hb3 hr))
      clear y0 y1 y2 y3 y4 hc2
      cases q
      · go_wp2_with fail
        go_ret
        have e : allT partB t = false := by rw [allT_eq, all_not i him HQ.out, Bool.and_false]
        exact ⟨by rw [e]; rfl, HB3.out⟩
      · clear hta
        go_wp2_with fail
        exact ⟨⟨i + 1, by omega, by go_num, HV3.out, HC3.out, HB3.out, by rw [all_take _ _ i him, HA.out, HQ.out]; rfl⟩, by simp [intOf]; omega⟩
    · obtain rfl : i = h.tn := by omega
      have q1 : ¬ (h.tn : Int) < (h.tn : Int) := by omega
      go_wp2_with fail
      go_ret
      have hA := HA.out
      rw [List.take_of_length_le (by omega)] at hA
      have e : allT partB t = true := by rw [allT_eq, HR.out, hA]; rfl
      exact ⟨by rw [e]; rfl, HBW.out⟩
set_option maxRecDepth 100000 in
set_option maxHeartbeats 4000000 in
theorem everyPart (t : Tr) (h : TH) (w : World) (ht : InTree w h t) : Calls Try.prog 45 #[h.v, .func (.func 49) #[] #[]] w (Says w (.bool (allT partB t))) := by
  have hmf : ∀ (fn : Fn) (first cap : Array Value) (w : World), (Instr.makeFunc fn first cap).run Try.prog w = .ok (.func fn first cap) w := fun _ _ _ _ => rfl
  unfold TH.v
  have HTT := Lib.hid ht
  clear ht
  go_enter Try.func45, Try.ntmps45
  have hbw1 : Below w.heap.size w (w.alloc (.cells #[.int .i64 h.k, .slice h.ka h.kn h.kc, .slice h.va h.vn h.vc, .slice h.da h.dn h.dc, .slice h.ta h.tn h.tc] 33)) := (Below.refl _ _).alloc (Nat.le_refl _) _
  have hbx1 := Box.new w 33 h
  have e1 : (w.alloc (.cells #[.int .i64 h.k, .slice h.ka h.kn h.kc, .slice h.va h.vn h.vc, .slice h.da h.dn h.dc, .slice h.ta h.tn h.tc] 33)).heap.size = w.heap.size + 1 := by simp
  have hbw2 : Below w.heap.size w ((w.alloc (.cells #[.int .i64 h.k, .slice h.ka h.kn h.kc, .slice h.va h.vn h.vc, .slice h.da h.dn h.dc, .slice h.ta h.tn h.tc] 33)).alloc (.cells #[.func (.func 49) #[] #[]] 40)) := hbw1.alloc (by rw [e1]; omega) _
  have hbx2 := hbx1.below ((Below.refl _ _).alloc (Nat.le_refl _) (.cells #[.func (.func 49) #[] #[]] 40)) hbx1.lt
  have hpv2 := Var1.new (w.alloc (.cells #[.int .i64 h.k, .slice h.ka h.kn h.kc, .slice h.va h.vn h.vc, .slice h.da h.dn h.dc, .slice h.ta h.tn h.tc] 33)) 40 (.func (.func 49) #[] #[])
  have e2 : ((w.alloc (.cells #[.int .i64 h.k, .slice h.ka h.kn h.kc, .slice h.va h.vn h.vc, .slice h.da h.dn h.dc, .slice h.ta h.tn h.tc] 33)).alloc (.cells #[.func (.func 49) #[] #[]] 40)).heap.size = w.heap.size + 2 := by simp
  have hbw3 : Below w.heap.size w (((w.alloc (.cells #[.int .i64 h.k, .slice h.ka h.kn h.kc, .slice h.va h.vn h.vc, .slice h.da h.dn h.dc, .slice h.ta h.tn h.tc] 33)).alloc (.cells #[.func (.func 49) #[] #[]] 40)).alloc (.cells #[.nilFunc] 40)) := hbw2.alloc (by rw [e2]; omega) _
  have hbx3 := hbx2.below ((Below.refl _ _).alloc (Nat.le_refl _) (.cells #[.nilFunc] 40)) hbx2.lt
  have hpv3 := hpv2.below ((Below.refl _ _).alloc (Nat.le_refl _) (.cells #[.nilFunc] 40)) hpv2.lt
  have hnf := Var1.new ((w.alloc (.cells #[.int .i64 h.k, .slice h.ka h.kn h.kc, .slice h.va h.vn h.vc, .slice h.da h.dn h.dc, .slice h.ta h.tn h.tc] 33)).alloc (.cells #[.func (.func 49) #[] #[]] 40)) 40 .nilFunc
  rw [e2] at hnf
  rw [e1] at hpv3
  clear hbw1 hbx1 e1 hbw2 hbx2 hpv2 e2
  go_upto_region 2 with fail
  generalize (((w.alloc (.cells #[.int .i64 h.k, .slice h.ka h.kn h.kc, .slice h.va h.vn h.vc, .slice h.da h.dn h.dc, .slice h.ta h.tn h.tc] 33)).alloc (.cells #[.func (.func 49) #[] #[]] 40)).alloc (.cells #[.nilFunc] 40)) = w2 at *
  have c0 := hnf.cell
  have c1 := hnf.frozen 0
  have hn4 := hnf.set (.func (.func 53) #[] #[.pointer (some ⟨w.heap.size + 1, 0, none⟩), .pointer (some ⟨w.heap.size + 2, 0, none⟩)])
  have hbx4 : Box (w2.setCell ⟨w.heap.size + 2, 0, none⟩ (.func (.func 53) #[] #[.pointer (some ⟨w.heap.size + 1, 0, none⟩), .pointer (some ⟨w.heap.size + 2, 0, none⟩)])) 33 w.heap.size h := (Below.heap_setCell w2 ⟨w.heap.size + 2, 0, none⟩ _ w.heap.size (by simp)).trans hbx3
  have hpv4 := hpv3.far (p := ⟨w.heap.size + 2, 0, none⟩) (by simp) (.func (.func 53) #[] #[.pointer (some ⟨w.heap.size + 1, 0, none⟩), .pointer (some ⟨w.heap.size + 2, 0, none⟩)])
  have hb4 : Below w.heap.size w (w2.setCell ⟨w.heap.size + 2, 0, none⟩ (.func (.func 53) #[] #[.pointer (some ⟨w.heap.size + 1, 0, none⟩), .pointer (some ⟨w.heap.size + 2, 0, none⟩)])) := hbw3.setCell (by simp) _
  clear hnf hbx3 hpv3 hbw3
  go_upto_region 3 with fail
  generalize (w2.setCell ⟨w.heap.size + 2, 0, none⟩ (.func (.func 53) #[] #[.pointer (some ⟨w.heap.size + 1, 0, none⟩), .pointer (some ⟨w.heap.size + 2, 0, none⟩)])) = w3 at *
  obtain ⟨x0, x1, x2, x3, x4⟩ := hbx4.cells
  have c2 := hn4.cell
  have HN := Lib.hid hn4
  have HPV := Lib.hid hpv4
  have HB3 := Lib.hid hb4
  skip
  clear c0 c1 hbx4 hb4 hpv4 hn4
  go_wp2_with (first
    | (go_at_call 53
       refine (everyPartC t h _ (w.heap.size + 1) (w.heap.size + 2) (HTT.out.lower HB3.out) HPV.out HN.out).mono ?_
       rintro _ w4 ⟨rfl, hb4⟩
       have HB4 : Hid (Below w.heap.size w w4) := Lib.hid (HB3.out.trans (hb4.mono HB3.out.size))
       clear hb4))
  go_ret
  exact ⟨rfl, HB4.out⟩

set_option maxRecDepth 100000 in
set_option maxHeartbeats 4000000 in
theorem everyToldC : ∀ (t : Tr) (h : TH) (w : World) (gp ga : Nat), InTree w h t → Var1 w 40 gp (.func (.func 46) #[] #[]) → Var1 w 40 ga (.func (.func 53) #[] #[.pointer (some ⟨gp, 0, none⟩), .pointer (some ⟨ga, 0, none⟩)]) →
    Calls Try.prog 53 #[h.v, .pointer (some ⟨gp, 0, none⟩), .pointer (some ⟨ga, 0, none⟩)] w (Says w (.bool (allT toldK t))) := by
  intro t
  induction t using Tr.ind with
  | h t ih =>
  intro h w gp ga ht hpv hcl
  unfold TH.v
  obtain ⟨H, hp⟩ := ht.parts
  have htl := hp.len
  have htc := hp.sl.le
  have htm := Nat.le_trans hp.sl.le hp.sl.max
  simp only [maxLen] at htm
  have HP := Lib.hid hp
  have HTT := Lib.hid ht
  have IH := Lib.hid ih
  have hbox := Box.new w 33 h
  have HX := Lib.hid hbox
  obtain ⟨x0, x1, x2, x3, x4⟩ := hbox.cells
  have hw1 : Below w.heap.size w (w.alloc (.cells #[.int .i64 h.k, .slice h.ka h.kn h.kc, .slice h.va h.vn h.vc, .slice h.da h.dn h.dc, .slice h.ta h.tn h.tc] 33)) := (Below.refl _ _).alloc (Nat.le_refl _) _
  have HB := Lib.hid hw1
  have hpv1 := hpv.below hw1 hpv.lt
  have HCL1 := Lib.hid (hcl.below hw1 hcl.lt)
  have HPV1 := Lib.hid hpv1
  have xp := hpv1.cell
  skip
  clear hp ht ih hcl hpv hpv1 hw1 hbox
  go_enter Try.func53, Try.ntmps53
  go_upto_if 10 with (first
    | (go_at_call 46
       refine (isTold_any t h _ (HTT.out.lower HB.out)).mono ?_
       rintro _ w1 ⟨rfl, hb1⟩
       have HB1 : Hid (Below w.heap.size w w1) := Lib.hid (HB.out.trans (hb1.mono HB.out.size))
       have HX1 := Lib.hid (HX.out.below hb1 HX.out.lt)
       have HCL2 := Lib.hid (HCL1.out.below hb1 HCL1.out.lt)
       have HPV2 := Lib.hid (HPV1.out.below hb1 HPV1.out.lt)
       skip
       generalize hr : toldK t = r
       have HR := Lib.hid hr
       clear hb1 hr))
  clear x0 x1 x2 x3 x4 xp HX HB HCL1 HPV1
  cases r
  · go_wp2_with fail
    go_ret
    have e : allT toldK t = false := by rw [allT_eq, HR.out]; rfl
    exact ⟨by rw [e]; rfl, HB1.out⟩
  simp only [Bool.not_true]
  have x4 := HX1.out.cells.2.2.2.2
  go_wp2_with fail
  clear x4 HX1
  go_loopw [14] (fun s14 wx => ∃ i : Nat, i ≤ h.tn ∧ s14 = .int .i64 i ∧ Var1 wx 40 gp (.func (.func 46) #[] #[]) ∧ Var1 wx 40 ga (.func (.func 53) #[] #[.pointer (some ⟨gp, 0, none⟩), .pointer (some ⟨ga, 0, none⟩)]) ∧ Below w.heap.size w wx ∧ (t.kids.take i).all (allT toldK) = true) (fun s14 _ => h.tn - (intOf s14).toNat)
  case atStart => exact ⟨0, by omega, rfl, HPV2.out, HCL2.out, HB1.out, by simp⟩
  case round =>
    clear HCL2 HB1 HPV2
    obtain ⟨i, hi, rfl, hpv, hcl, hbw, hall⟩ := hrel
    have hcc := hcl.cell
    have HC := Lib.hid hcl
    have HV := Lib.hid hpv
    have HBW := Lib.hid hbw
    have HA := Lib.hid hall
    skip
    clear hcl hbw hall hpv
    by_cases hlt : i < h.tn
    · have q1 : (i : Int) < (h.tn : Int) := by omega
      obtain ⟨g, off, hta, hg, hcs⟩ := (HP.out.below HBW.out).place (by omega)
      obtain ⟨k0, k1, k2, k3, k4⟩ := hcs i hlt
      have him : i < t.kids.length := by omega
      clear hcs
      rw [hta]
      go_upto_region 6 with fail
      have b2 : Below wr.heap.size wr (wr.alloc (.cells #[.int .i64 (H i).k, .slice (H i).ka (H i).kn (H i).kc, .slice (H i).va (H i).vn (H i).vc, .slice (H i).da (H i).dn (H i).dc, .slice (H i).ta (H i).tn (H i).tc] 33)) := (Below.refl _ _).alloc (Nat.le_refl _) _
      have bx := Box.new wr 33 (H i)
      generalize (wr.alloc (.cells #[.int .i64 (H i).k, .slice (H i).ka (H i).kn (H i).kc, .slice (H i).va (H i).vn (H i).vc, .slice (H i).da (H i).dn (H i).dc, .slice (H i).ta (H i).tn (H i).tc] 33)) = w2 at *
      have HB2 : Hid (Below w.heap.size w w2) := Lib.hid (HBW.out.trans (b2.mono HBW.out.size))
      have HC2 := Lib.hid (HC.out.below b2 HC.out.lt)
      have HV2 := Lib.hid (HV.out.below b2 HV.out.lt)
      skip
      have hc2 := HC2.out.cell
      obtain ⟨y0, y1, y2, y3, y4⟩ := bx.cells
      clear b2 bx k0 k1 k2 k3 k4 hcc
      go_upto_if 21 with (first
        | (go_at_call 53
           refine (IH.out _ (List.getElem_mem him) (H i) _ gp ga ((HP.out.below HB2.out).kids i him) HV2.out HC2.out).mono ?_
           rintro _ w3 ⟨rfl, hb3⟩
           have HB3 : Hid (Below w.heap.size w w3) := Lib.hid (HB2.out.trans (hb3.mono HB2.out.size))
           have HC3 := Lib.hid (HC2.out.below hb3 HC2.out.lt)
           have HV3 := Lib.hid (HV2.out.below hb3 HV2.out.lt)
           skip
           generalize hr : allT toldK t.kids[i] = q
           have HQ := Lib.hid hr
           clear hb3 hr))
      clear y0 y1 y2 y3 y4 hc2
      cases q
      · go_wp2_with fail
        go_ret
        have e : allT toldK t = false := by rw [allT_eq, all_not i him HQ.out, Bool.and_false]
        exact ⟨by rw [e]; rfl, HB3.out⟩
      · clear hta
        go_wp2_with fail
        exact ⟨⟨i + 1, by omega, by go_num, HV3.out, HC3.out, HB3.out, by rw [all_take _ _ i him, HA.out, HQ.out]; rfl⟩, by simp [intOf]; omega⟩
    · obtain rfl : i = h.tn := by omega
      have q1 : ¬ (h.tn : Int) < (h.tn : Int) := by omega
      go_wp2_with fail
      go_ret
      have hA := HA.out
      rw [List.take_of_length_le (by omega)] at hA
      have e : allT toldK t = true := by rw [allT_eq, HR.out, hA]; rfl
      exact ⟨by rw [e]; rfl, HBW.out⟩
set_option maxRecDepth 100000 in
set_option maxHeartbeats 4000000 in
theorem everyTold (t : Tr) (h : TH) (w : World) (ht : InTree w h t) : Calls Try.prog 45 #[h.v, .func (.func 46) #[] #[]] w (Says w (.bool (allT toldK t))) := by
  have hmf : ∀ (fn : Fn) (first cap : Array Value) (w : World), (Instr.makeFunc fn first cap).run Try.prog w = .ok (.func fn first cap) w := fun _ _ _ _ => rfl
  unfold TH.v
  have HTT := Lib.hid ht
  clear ht
  go_enter Try.func45, Try.ntmps45
  have hbw1 : Below w.heap.size w (w.alloc (.cells #[.int .i64 h.k, .slice h.ka h.kn h.kc, .slice h.va h.vn h.vc, .slice h.da h.dn h.dc, .slice h.ta h.tn h.tc] 33)) := (Below.refl _ _).alloc (Nat.le_refl _) _
  have hbx1 := Box.new w 33 h
  have e1 : (w.alloc (.cells #[.int .i64 h.k, .slice h.ka h.kn h.kc, .slice h.va h.vn h.vc, .slice h.da h.dn h.dc, .slice h.ta h.tn h.tc] 33)).heap.size = w.heap.size + 1 := by simp
  have hbw2 : Below w.heap.size w ((w.alloc (.cells #[.int .i64 h.k, .slice h.ka h.kn h.kc, .slice h.va h.vn h.vc, .slice h.da h.dn h.dc, .slice h.ta h.tn h.tc] 33)).alloc (.cells #[.func (.func 46) #[] #[]] 40)) := hbw1.alloc (by rw [e1]; omega) _
  have hbx2 := hbx1.below ((Below.refl _ _).alloc (Nat.le_refl _) (.cells #[.func (.func 46) #[] #[]] 40)) hbx1.lt
  have hpv2 := Var1.new (w.alloc (.cells #[.int .i64 h.k, .slice h.ka h.kn h.kc, .slice h.va h.vn h.vc, .slice h.da h.dn h.dc, .slice h.ta h.tn h.tc] 33)) 40 (.func (.func 46) #[] #[])
  have e2 : ((w.alloc (.cells #[.int .i64 h.k, .slice h.ka h.kn h.kc, .slice h.va h.vn h.vc, .slice h.da h.dn h.dc, .slice h.ta h.tn h.tc] 33)).alloc (.cells #[.func (.func 46) #[] #[]] 40)).heap.size = w.heap.size + 2 := by simp
  have hbw3 : Below w.heap.size w (((w.alloc (.cells #[.int .i64 h.k, .slice h.ka h.kn h.kc, .slice h.va h.vn h.vc, .slice h.da h.dn h.dc, .slice h.ta h.tn h.tc] 33)).alloc (.cells #[.func (.func 46) #[] #[]] 40)).alloc (.cells #[.nilFunc] 40)) := hbw2.alloc (by rw [e2]; omega) _
  have hbx3 := hbx2.below ((Below.refl _ _).alloc (Nat.le_refl _) (.cells #[.nilFunc] 40)) hbx2.lt
  have hpv3 := hpv2.below ((Below.refl _ _).alloc (Nat.le_refl _) (.cells #[.nilFunc] 40)) hpv2.lt
  have hnf := Var1.new ((w.alloc (.cells #[.int .i64 h.k, .slice h.ka h.kn h.kc, .slice h.va h.vn h.vc, .slice h.da h.dn h.dc, .slice h.ta h.tn h.tc] 33)).alloc (.cells #[.func (.func 46) #[] #[]] 40)) 40 .nilFunc
  rw [e2] at hnf
  rw [e1] at hpv3
  clear hbw1 hbx1 e1 hbw2 hbx2 hpv2 e2
  go_upto_region 2 with fail
  generalize (((w.alloc (.cells #[.int .i64 h.k, .slice h.ka h.kn h.kc, .slice h.va h.vn h.vc, .slice h.da h.dn h.dc, .slice h.ta h.tn h.tc] 33)).alloc (.cells #[.func (.func 46) #[] #[]] 40)).alloc (.cells #[.nilFunc] 40)) = w2 at *
  have c0 := hnf.cell
  have c1 := hnf.frozen 0
  have hn4 := hnf.set (.func (.func 53) #[] #[.pointer (some ⟨w.heap.size + 1, 0, none⟩), .pointer (some ⟨w.heap.size + 2, 0, none⟩)])
  have hbx4 : Box (w2.setCell ⟨w.heap.size + 2, 0, none⟩ (.func (.func 53) #[] #[.pointer (some ⟨w.heap.size + 1, 0, none⟩), .pointer (some ⟨w.heap.size + 2, 0, none⟩)])) 33 w.heap.size h := (Below.heap_setCell w2 ⟨w.heap.size + 2, 0, none⟩ _ w.heap.size (by simp)).trans hbx3
  have hpv4 := hpv3.far (p := ⟨w.heap.size + 2, 0, none⟩) (by simp) (.func (.func 53) #[] #[.pointer (some ⟨w.heap.size + 1, 0, none⟩), .pointer (some ⟨w.heap.size + 2, 0, none⟩)])
  have hb4 : Below w.heap.size w (w2.setCell ⟨w.heap.size + 2, 0, none⟩ (.func (.func 53) #[] #[.pointer (some ⟨w.heap.size + 1, 0, none⟩), .pointer (some ⟨w.heap.size + 2, 0, none⟩)])) := hbw3.setCell (by simp) _
  clear hnf hbx3 hpv3 hbw3
  go_upto_region 3 with fail
  generalize (w2.setCell ⟨w.heap.size + 2, 0, none⟩ (.func (.func 53) #[] #[.pointer (some ⟨w.heap.size + 1, 0, none⟩), .pointer (some ⟨w.heap.size + 2, 0, none⟩)])) = w3 at *
  obtain ⟨x0, x1, x2, x3, x4⟩ := hbx4.cells
  have c2 := hn4.cell
  have HN := Lib.hid hn4
  have HPV := Lib.hid hpv4
  have HB3 := Lib.hid hb4
  skip
  clear c0 c1 hbx4 hb4 hpv4 hn4
  go_wp2_with (first
    | (go_at_call 53
       refine (everyToldC t h _ (w.heap.size + 1) (w.heap.size + 2) (HTT.out.lower HB3.out) HPV.out HN.out).mono ?_
       rintro _ w4 ⟨rfl, hb4⟩
       have HB4 : Hid (Below w.heap.size w w4) := Lib.hid (HB3.out.trans (hb4.mono HB3.out.size))
       clear hb4))
  go_ret
  exact ⟨rfl, HB4.out⟩
end Go.Proofs.Ytpjojhmdgeejmaa
