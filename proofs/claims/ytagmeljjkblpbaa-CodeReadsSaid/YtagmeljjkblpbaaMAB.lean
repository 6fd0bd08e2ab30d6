/- The contracts of the program's checks of trees. In a region that draws its order: what may be taken first. No program is named here. The contract of the program's check of a tree. The contract of the document's look for a digest that is too long. The contracts of the document's Number and Bytes. The contracts of the document's reader. The contract of the document's reader of bytes. The contract of the document's bytes of a tree, and of its Write. The contract of the program's Write of trees. What is written into a reader leaves bytes and trees as they are; the tree that stands next, as a reader's state tells it. Boxes of trees, results that are trees, strings of bytes: the types alone are named. The boxes and the reader of the document's read of layer 10. What the statements ask of errors: which Code one is. The contract of bytes.Clone. The contracts of the program's reader: fail, Byte, Number, End. The contract of the program's reader of numbers. The contracts of the program's reader: NewReader, Bytes. What lies there in a call of Read's closure: its variables, the reader, its boxes. The contract of Read's closure, of what has no kids. -/
import Derived.Test.YtagmeljjkblpbaaMAA
import Derived.Deep.RegionHeld3
import Derived.Test.YtagmeljjkblpbaaProg
import Derived.Lib.SliceRun
/- The contracts of the program's checks of trees. -/
namespace Go.Proofs.Ytagmeljjkblpbaa
open Go.RowKit
set_option linter.unusedVariables false

/-- A pointer to a variable. -/
def ptrV (g : Nat) : Value := .pointer (some ⟨g, 0, none⟩)
/-- Counts a part as a node by its kind? -/
def nodeK (t : Tr) : Bool := t.k == 1 || t.k == 2
/-- Is a part told itself? -/
def toldK (t : Tr) : Bool := t.k != 2 && t.k != 3
/-- Is a part told itself, or has its digest the width? -/
def fitsK (k : Nat) (t : Tr) : Bool := toldK t || decide (t.dig.length = k)
/-- All parts of a tree. -/
def allT (p : Tr → Bool) (t : Tr) : Bool := t.fold fun t rs => p t && rs.all id
theorem allT_eq (p : Tr → Bool) (t : Tr) : allT p t = (p t && t.kids.all (allT p)) := by
  unfold allT
  rw [Tr.fold_eq]
  simp [List.all_map, Function.comp_def]
theorem allT_part (t : Tr) : allT partB t = formedT t := rfl
set_option maxRecDepth 100000 in
set_option maxHeartbeats 4000000 in
theorem isNode_any (t : Tr) (h : TH) (w : World) (ht : InTree w h t) : Calls Try.prog 43 #[h.v] w (Says w (.bool (nodeK t))) := by
  unfold TH.v
  obtain ⟨H, hp⟩ := ht.parts
  have HK := Lib.hid hp.hk
  have hk1 := hp.hk1
  have hk2 := hp.hk2
  clear hp ht
  have hbox := Box.new w 25 h
  obtain ⟨x0, x1, x2, x3, x4⟩ := hbox.cells
  clear hbox
  have hw1 : Below w.heap.size w (w.alloc (.cells #[.int .i64 h.k, .slice h.ka h.kn h.kc, .slice h.va h.vn h.vc, .slice h.da h.dn h.dc, .slice h.ta h.tn h.tc] 25)) := (Below.refl _ _).alloc (Nat.le_refl _) _
  have HB := Lib.hid hw1
  clear hw1
  go_enter Try.func43, Try.ntmps43
  cases f1 : (h.k == 1)
  · go_wp2_with fail
    go_ret
    refine ⟨?_, HB.out⟩
    unfold nodeK
    rw [← HK.out, f1]
    rfl
  · go_wp2_with fail
    go_ret
    refine ⟨?_, HB.out⟩
    unfold nodeK
    rw [← HK.out, f1]
    rfl

set_option maxRecDepth 100000 in
set_option maxHeartbeats 4000000 in
theorem wellFormed_any (t : Tr) (h : TH) (w : World) (ht : InTree w h t) : Calls Try.prog 32 #[h.v] w (Says w (.bool (partB t))) := by
  unfold TH.v
  obtain ⟨H, hp⟩ := ht.parts
  have hk1 := hp.hk1
  have hk2 := hp.hk2
  have HI := Lib.hid (partB_head hp)
  clear hp ht
  have hbox := Box.new w 25 h
  obtain ⟨x0, x1, x2, x3, x4⟩ := hbox.cells
  clear hbox
  have hw1 : Below w.heap.size w (w.alloc (.cells #[.int .i64 h.k, .slice h.ka h.kn h.kc, .slice h.va h.vn h.vc, .slice h.da h.dn h.dc, .slice h.ta h.tn h.tc] 25)) := (Below.refl _ _).alloc (Nat.le_refl _) _
  have HB := Lib.hid (fun m => below_drewN hw1 m)
  clear hw1
  go_enter Try.func32, Try.ntmps32
  go_upto_region 1 with fail
  go_quiet (fail)
  cases k0 : (h.k == 0)
  · cases k1 : (h.k == 1)
    · cases k2 : (h.k == 2)
      · cases k3 : (h.k == 3)
        · go_wp2_with fail
          go_ret
          refine ⟨?_, HB.out _⟩
          rw [HI.out]
          simp [k0, k1, k2, k3]
        · cases f5 : ((h.kn : Int) == 0)
          · go_wp2_with fail
            go_ret
            refine ⟨?_, HB.out _⟩
            rw [HI.out]
            simp [k0, k1, k2, k3, f5]
          · cases f6 : ((h.vn : Int) == 0)
            · go_wp2_with fail
              go_ret
              refine ⟨?_, HB.out _⟩
              rw [HI.out]
              simp [k0, k1, k2, k3, f6]
            · cases f7 : ((h.tn : Int) == 0)
              · go_wp2_with fail
                go_ret
                refine ⟨?_, HB.out _⟩
                rw [HI.out]
                simp [k0, k1, k2, k3, f7]
              · go_wp2_with fail
                go_ret
                refine ⟨?_, HB.out _⟩
                rw [HI.out]
                simp [k0, k1, k2, k3, f5, f6, f7]
      · by_cases f5 : (h.kn : Int) ≤ 80
        · cases f6 : ((h.vn : Int) == 0)
          · go_wp2_with fail
            go_ret
            refine ⟨?_, HB.out _⟩
            rw [HI.out]
            simp [k0, k1, k2, f6]
          · cases f7 : ((h.tn : Int) == 2)
            · go_wp2_with fail
              go_ret
              refine ⟨?_, HB.out _⟩
              rw [HI.out]
              simp [k0, k1, k2, f7]
            · go_wp2_with fail
              go_ret
              refine ⟨?_, HB.out _⟩
              rw [HI.out]
              simp [k0, k1, k2, f5, f6, f7]
        · go_wp2_with fail
          go_ret
          refine ⟨?_, HB.out _⟩
          rw [HI.out]
          simp [k0, k1, k2, show ¬ (h.kn : Int) ≤ 80 by omega]
    · by_cases f5 : (h.kn : Int) ≤ 80
      · by_cases f6 : (h.vn : Int) ≤ 1024
        · cases f7 : ((h.dn : Int) == 0)
          · go_wp2_with fail
            go_ret
            refine ⟨?_, HB.out _⟩
            rw [HI.out]
            simp [k0, k1, f7]
          · cases f8 : ((h.tn : Int) == 2)
            · go_wp2_with fail
              go_ret
              refine ⟨?_, HB.out _⟩
              rw [HI.out]
              simp [k0, k1, f8]
            · go_wp2_with fail
              go_ret
              refine ⟨?_, HB.out _⟩
              rw [HI.out]
              simp [k0, k1, f5, f6, f7, f8]
        · go_wp2_with fail
          go_ret
          refine ⟨?_, HB.out _⟩
          rw [HI.out]
          simp [k0, k1, show ¬ (h.vn : Int) ≤ 1024 by omega]
      · go_wp2_with fail
        go_ret
        refine ⟨?_, HB.out _⟩
        rw [HI.out]
        simp [k0, k1, show ¬ (h.kn : Int) ≤ 80 by omega]
  · cases f5 : ((h.kn : Int) == 0)
    · go_wp2_with fail
      go_ret
      refine ⟨?_, HB.out _⟩
      rw [HI.out]
      simp [k0, f5]
    · cases f6 : ((h.vn : Int) == 0)
      · go_wp2_with fail
        go_ret
        refine ⟨?_, HB.out _⟩
        rw [HI.out]
        simp [k0, f6]
      · cases f7 : ((h.dn : Int) == 0)
        · go_wp2_with fail
          go_ret
          refine ⟨?_, HB.out _⟩
          rw [HI.out]
          simp [k0, f7]
        · cases f8 : ((h.tn : Int) == 0)
          · go_wp2_with fail
            go_ret
            refine ⟨?_, HB.out _⟩
            rw [HI.out]
            simp [k0, f8]
          · go_wp2_with fail
            go_ret
            refine ⟨?_, HB.out _⟩
            rw [HI.out]
            simp [k0, f5, f6, f7, f8]

/-- A variable that holds the closure of a function which calls itself, and has pointers to variables. -/
def CloV (fn : Nat) (caps : Array Value) : Value := .func (.func fn) #[] caps
theorem deep_node {t : Tr} (hn : nodeK t = false) (h0 : t.kids.length = 0) (b : Int) : deepT t b = false := by
  have hk : t.kids = [] := List.length_eq_zero_iff.1 h0
  have e : isNode t = false := by
    unfold nodeK at hn
    unfold isNode
    rw [Bool.or_eq_false_iff] at hn
    rw [hn.1, hn.2, hk]
    rfl
  rw [deepT_eq, e, hk]
  rfl
theorem node_is {t : Tr} (h : nodeK t = true ∨ t.kids.length ≠ 0) : isNode t = true := by
  unfold isNode
  rcases h with h | h
  · unfold nodeK at h
    rw [← Bool.or_assoc, h]
    rfl
  · have : decide (0 < t.kids.length) = true := by simp; omega
    rw [this]
    simp

set_option maxRecDepth 100000 in
set_option maxHeartbeats 4000000 in
theorem deepC_any : ∀ (t : Tr) (h : TH) (a : Int) (w : World) (gc : Nat), InTree w h t → 0 ≤ a → a ≤ 64 → Var1 w 64 gc (.func (.func 42) #[] #[.pointer (some ⟨gc, 0, none⟩)]) →
    Calls Try.prog 42 #[h.v, .int .i64 a, .pointer (some ⟨gc, 0, none⟩)] w (Says w (.bool (deepT t (64 - a)))) := by
  intro t
  induction t using Tr.ind with
  | h t ih =>
  intro h a w gc ht ha0 ha1 hcl
  unfold TH.v
  obtain ⟨H, hp⟩ := ht.parts
  have htl := hp.len
  have htc := hp.sl.le
  have htm := Nat.le_trans hp.sl.le hp.sl.max
  simp only [maxLen] at htm
  have HP := Lib.hid hp
  have HTT := Lib.hid ht
  have IH := Lib.hid ih
  have HCL := Lib.hid hcl
  clear hp ht ih hcl
  have hbox := Box.new w 25 h
  have HX := Lib.hid hbox
  obtain ⟨x0, x1, x2, x3, x4⟩ := hbox.cells
  clear hbox
  have hw1 : Below w.heap.size w (w.alloc (.cells #[.int .i64 h.k, .slice h.ka h.kn h.kc, .slice h.va h.vn h.vc, .slice h.da h.dn h.dc, .slice h.ta h.tn h.tc] 25)) := (Below.refl _ _).alloc (Nat.le_refl _) _
  have HB := Lib.hid hw1
  clear hw1
  go_enter Try.func42, Try.ntmps42
  cases hr : nodeK t
  · have HR := Lib.hid hr
    clear hr
    cases ftn : ((h.tn : Int) == 0)
    · have HNI : Hid (nodeK t = true ∨ t.kids.length ≠ 0) := Lib.hid (Or.inr (by rw [beq_eq_false_iff_ne] at ftn; omega))
      go_upto_if 18 with (first
        | (go_at_call 43
           refine (isNode_any t h _ (HTT.out.lower HB.out)).mono ?_
           rintro _ w1 ⟨rfl, hb1⟩
           rw [HR.out]
           have HB1 : Hid (Below w.heap.size w w1) := Lib.hid (HB.out.trans (hb1.mono HB.out.size))
           have hx1 := HX.out.below hb1 HX.out.lt
           obtain ⟨y0, y1, y2, y3, y4⟩ := hx1.cells
           have HX1 := Lib.hid hx1
           clear hb1 hx1 x0 x1 x2 x3 x4))
      have HN : Hid (isNode t = true) := Lib.hid (node_is HNI.out)
      by_cases fa : ¬ a = 64
      · have HNB : Hid ((isNode t && (64 - a == 0)) = false) := Lib.hid (by rw [Bool.and_eq_false_iff]; right; rw [beq_eq_false_iff_ne]; omega)
        have ha2 : a ≤ 63 := by omega
        have fb : (a == 64) = false := by simp [fa]
        rw [fb]
        have HCL1 := Lib.hid (HCL.out.below HB1.out HCL.out.lt)
        go_wp2_with fail
        clear y0 y1 y2 y3 y4 fa fb
        go_loopw [22] (fun s22 wx => ∃ i : Nat, i ≤ h.tn ∧ s22 = .int .i64 i ∧ Var1 wx 64 gc (.func (.func 42) #[] #[.pointer (some ⟨gc, 0, none⟩)]) ∧ Below w.heap.size w wx ∧ (t.kids.take i).any (fun x => deepT x (64 - (a + 1))) = false) (fun s22 _ => h.tn - (intOf s22).toNat)
        case atStart => exact ⟨0, by omega, rfl, HCL1.out, HB1.out, by simp⟩
        case round =>
          clear HCL1 HB1 HX1
          obtain ⟨i, hi, rfl, hcl, hbw, hall⟩ := hrel
          have hcc := hcl.cell
          have HC := Lib.hid hcl
          have HBW := Lib.hid hbw
          have HA := Lib.hid hall
          clear hcl hbw hall
          by_cases hlt : i < h.tn
          · have q1 : (i : Int) < (h.tn : Int) := by omega
            obtain ⟨g, off, hta, hg, hcs⟩ := (HP.out.below HBW.out).place (by omega)
            obtain ⟨k0, k1, k2, k3, k4⟩ := hcs i hlt
            have him : i < t.kids.length := by omega
            clear hcs
            rw [hta]
            go_upto_region 8 with fail
            have b2 : Below wr.heap.size wr (wr.alloc (.cells #[.int .i64 (H i).k, .slice (H i).ka (H i).kn (H i).kc, .slice (H i).va (H i).vn (H i).vc, .slice (H i).da (H i).dn (H i).dc, .slice (H i).ta (H i).tn (H i).tc] 25)) := (Below.refl _ _).alloc (Nat.le_refl _) _
            have bx := Box.new wr 25 (H i)
            generalize (wr.alloc (.cells #[.int .i64 (H i).k, .slice (H i).ka (H i).kn (H i).kc, .slice (H i).va (H i).vn (H i).vc, .slice (H i).da (H i).dn (H i).dc, .slice (H i).ta (H i).tn (H i).tc] 25)) = w2 at *
            have HB2 : Hid (Below w.heap.size w w2) := Lib.hid (HBW.out.trans (b2.mono HBW.out.size))
            have HC2 := Lib.hid (HC.out.below b2 HC.out.lt)
            have hc2 := HC2.out.cell
            obtain ⟨y0, y1, y2, y3, y4⟩ := bx.cells
            clear b2 bx k0 k1 k2 k3 k4 hcc
            go_upto_if 30 with (first
              | (go_at_call 42
                 refine (IH.out _ (List.getElem_mem him) (H i) (a + 1) _ gc ((HP.out.below HB2.out).kids i him) (by omega) (by omega) HC2.out).mono ?_
                 rintro _ w3 ⟨rfl, hb3⟩
                 have HB3 : Hid (Below w.heap.size w w3) := Lib.hid (HB2.out.trans (hb3.mono HB2.out.size))
                 have HC3 := Lib.hid (HC2.out.below hb3 HC2.out.lt)
                 generalize hr : deepT t.kids[i] (64 - (a + 1)) = q
                 have HQ := Lib.hid hr
                 clear hb3 hr))
            clear y0 y1 y2 y3 y4 hc2
            cases q
            · clear hta
              go_wp2_with fail
              exact ⟨⟨i + 1, by omega, by go_num, HC3.out, HB3.out, by rw [any_take _ _ i him, HA.out, HQ.out]; rfl⟩, by simp [intOf]; omega⟩
            · go_wp2_with fail
              go_ret
              have e : deepT t (64 - a) = true := by
                rw [deepT_eq, show (64 : Int) - a - 1 = 64 - (a + 1) by omega, any_at (p := fun x => deepT x (64 - (a + 1))) i him HQ.out, Bool.or_true]
              exact ⟨by rw [e]; rfl, HB3.out⟩
          · obtain rfl : i = h.tn := by omega
            have q1 : ¬ (h.tn : Int) < (h.tn : Int) := by omega
            go_wp2_with fail
            go_ret
            have hA := HA.out
            rw [List.take_of_length_le (by omega)] at hA
            have e : deepT t (64 - a) = false := by
              rw [deepT_eq, HNB.out, show (64 : Int) - a - 1 = 64 - (a + 1) by omega, hA]
              rfl
            exact ⟨by rw [e]; rfl, HBW.out⟩
      · obtain rfl : a = 64 := by omega
        go_wp2_with fail
        go_ret
        have e : deepT t 0 = true := by
          rw [deepT_eq, HN.out]
          rfl
        exact ⟨by rw [e]; rfl, HB1.out⟩
    · have HT0 : Hid (t.kids.length = 0) := Lib.hid (by rw [beq_iff_eq] at ftn; omega)
      go_upto_if 16 with (first
        | (go_at_call 43
           refine (isNode_any t h _ (HTT.out.lower HB.out)).mono ?_
           rintro _ w1 ⟨rfl, hb1⟩
           rw [HR.out]
           have HB1 : Hid (Below w.heap.size w w1) := Lib.hid (HB.out.trans (hb1.mono HB.out.size))
           have hx1 := HX.out.below hb1 HX.out.lt
           obtain ⟨y0, y1, y2, y3, y4⟩ := hx1.cells
           have HX1 := Lib.hid hx1
           clear hb1 hx1 x0 x1 x2 x3 x4))
      go_wp2_with fail
      go_ret
      exact ⟨by rw [deep_node HR.out HT0.out]; rfl, HB1.out⟩
  · have HR := Lib.hid hr
    have HNI : Hid (nodeK t = true ∨ t.kids.length ≠ 0) := Lib.hid (Or.inl hr)
    clear hr
    go_upto_if 18 with (first
      | (go_at_call 43
         refine (isNode_any t h _ (HTT.out.lower HB.out)).mono ?_
         rintro _ w1 ⟨rfl, hb1⟩
         rw [HR.out]
         have HB1 : Hid (Below w.heap.size w w1) := Lib.hid (HB.out.trans (hb1.mono HB.out.size))
         have hx1 := HX.out.below hb1 HX.out.lt
         obtain ⟨y0, y1, y2, y3, y4⟩ := hx1.cells
         have HX1 := Lib.hid hx1
         clear hb1 hx1 x0 x1 x2 x3 x4))
    have HN : Hid (isNode t = true) := Lib.hid (node_is HNI.out)
    by_cases fa : ¬ a = 64
    · have HNB : Hid ((isNode t && (64 - a == 0)) = false) := Lib.hid (by rw [Bool.and_eq_false_iff]; right; rw [beq_eq_false_iff_ne]; omega)
      have ha2 : a ≤ 63 := by omega
      have fb : (a == 64) = false := by simp [fa]
      rw [fb]
      have HCL1 := Lib.hid (HCL.out.below HB1.out HCL.out.lt)
      go_wp2_with fail
      clear y0 y1 y2 y3 y4 fa fb
      go_loopw [22] (fun s22 wx => ∃ i : Nat, i ≤ h.tn ∧ s22 = .int .i64 i ∧ Var1 wx 64 gc (.func (.func 42) #[] #[.pointer (some ⟨gc, 0, none⟩)]) ∧ Below w.heap.size w wx ∧ (t.kids.take i).any (fun x => deepT x (64 - (a + 1))) = false) (fun s22 _ => h.tn - (intOf s22).toNat)
      case atStart => exact ⟨0, by omega, rfl, HCL1.out, HB1.out, by simp⟩
      case round =>
        clear HCL1 HB1 HX1
        obtain ⟨i, hi, rfl, hcl, hbw, hall⟩ := hrel
        have hcc := hcl.cell
        have HC := Lib.hid hcl
        have HBW := Lib.hid hbw
        have HA := Lib.hid hall
        clear hcl hbw hall
        by_cases hlt : i < h.tn
        · have q1 : (i : Int) < (h.tn : Int) := by omega
          obtain ⟨g, off, hta, hg, hcs⟩ := (HP.out.below HBW.out).place (by omega)
          obtain ⟨k0, k1, k2, k3, k4⟩ := hcs i hlt
          have him : i < t.kids.length := by omega
          clear hcs
          rw [hta]
          go_upto_region 8 with fail
          have b2 : Below wr.heap.size wr (wr.alloc (.cells #[.int .i64 (H i).k, .slice (H i).ka (H i).kn (H i).kc, .slice (H i).va (H i).vn (H i).vc, .slice (H i).da (H i).dn (H i).dc, .slice (H i).ta (H i).tn (H i).tc] 25)) := (Below.refl _ _).alloc (Nat.le_refl _) _
          have bx := Box.new wr 25 (H i)
          generalize (wr.alloc (.cells #[.int .i64 (H i).k, .slice (H i).ka (H i).kn (H i).kc, .slice (H i).va (H i).vn (H i).vc, .slice (H i).da (H i).dn (H i).dc, .slice (H i).ta (H i).tn (H i).tc] 25)) = w2 at *
          have HB2 : Hid (Below w.heap.size w w2) := Lib.hid (HBW.out.trans (b2.mono HBW.out.size))
          have HC2 := Lib.hid (HC.out.below b2 HC.out.lt)
          have hc2 := HC2.out.cell
          obtain ⟨y0, y1, y2, y3, y4⟩ := bx.cells
          clear b2 bx k0 k1 k2 k3 k4 hcc
          go_upto_if 30 with (first
            | (go_at_call 42
               refine (IH.out _ (List.getElem_mem him) (H i) (a + 1) _ gc ((HP.out.below HB2.out).kids i him) (by omega) (by omega) HC2.out).mono ?_
               rintro _ w3 ⟨rfl, hb3⟩
               have HB3 : Hid (Below w.heap.size w w3) := Lib.hid (HB2.out.trans (hb3.mono HB2.out.size))
               have HC3 := Lib.hid (HC2.out.below hb3 HC2.out.lt)
               generalize hr : deepT t.kids[i] (64 - (a + 1)) = q
               have HQ := Lib.hid hr
               clear hb3 hr))
          clear y0 y1 y2 y3 y4 hc2
          cases q
          · clear hta
            go_wp2_with fail
            exact ⟨⟨i + 1, by omega, by go_num, HC3.out, HB3.out, by rw [any_take _ _ i him, HA.out, HQ.out]; rfl⟩, by simp [intOf]; omega⟩
          · go_wp2_with fail
            go_ret
            have e : deepT t (64 - a) = true := by
              rw [deepT_eq, show (64 : Int) - a - 1 = 64 - (a + 1) by omega, any_at (p := fun x => deepT x (64 - (a + 1))) i him HQ.out, Bool.or_true]
            exact ⟨by rw [e]; rfl, HB3.out⟩
        · obtain rfl : i = h.tn := by omega
          have q1 : ¬ (h.tn : Int) < (h.tn : Int) := by omega
          go_wp2_with fail
          go_ret
          have hA := HA.out
          rw [List.take_of_length_le (by omega)] at hA
          have e : deepT t (64 - a) = false := by
            rw [deepT_eq, HNB.out, show (64 : Int) - a - 1 = 64 - (a + 1) by omega, hA]
            rfl
          exact ⟨by rw [e]; rfl, HBW.out⟩
    · obtain rfl : a = 64 := by omega
      go_wp2_with fail
      go_ret
      have e : deepT t 0 = true := by
        rw [deepT_eq, HN.out]
        rfl
      exact ⟨by rw [e]; rfl, HB1.out⟩

set_option maxRecDepth 100000 in
set_option maxHeartbeats 4000000 in
theorem tooDeep_any (t : Tr) (h : TH) (w : World) (ht : InTree w h t) : Calls Try.prog 30 #[h.v] w (Says w (.bool (deepT t 64))) := by
  have hmf : ∀ (fn : Fn) (first cap : Array Value) (w : World), (Instr.makeFunc fn first cap).run Try.prog w = .ok (.func fn first cap) w := fun _ _ _ _ => rfl
  unfold TH.v
  have HTT := Lib.hid ht
  clear ht
  go_enter Try.func30, Try.ntmps30
  have hnf : Var1 ((w.alloc (.cells #[.int .i64 h.k, .slice h.ka h.kn h.kc, .slice h.va h.vn h.vc, .slice h.da h.dn h.dc, .slice h.ta h.tn h.tc] 25)).alloc (.cells #[.nilFunc] 64)) 64 (w.heap.size + 1) .nilFunc := by
    have := Var1.new (w.alloc (.cells #[.int .i64 h.k, .slice h.ka h.kn h.kc, .slice h.va h.vn h.vc, .slice h.da h.dn h.dc, .slice h.ta h.tn h.tc] 25)) 64 .nilFunc
    simpa using this
  have hbx : Box ((w.alloc (.cells #[.int .i64 h.k, .slice h.ka h.kn h.kc, .slice h.va h.vn h.vc, .slice h.da h.dn h.dc, .slice h.ta h.tn h.tc] 25)).alloc (.cells #[.nilFunc] 64)) 25 w.heap.size h := (Box.new w 25 h).below ((Below.refl _ _).alloc (Nat.le_refl _) _) (by simp)
  have hb2 : Below w.heap.size w ((w.alloc (.cells #[.int .i64 h.k, .slice h.ka h.kn h.kc, .slice h.va h.vn h.vc, .slice h.da h.dn h.dc, .slice h.ta h.tn h.tc] 25)).alloc (.cells #[.nilFunc] 64)) := ((Below.refl w.heap.size w).alloc (Nat.le_refl _) _).alloc (by simp) _
  go_upto_region 2 with fail
  generalize (w.alloc (.cells #[.int .i64 h.k, .slice h.ka h.kn h.kc, .slice h.va h.vn h.vc, .slice h.da h.dn h.dc, .slice h.ta h.tn h.tc] 25)).alloc (.cells #[.nilFunc] 64) = w2 at *
  have c0 := hnf.cell
  have c1 := hnf.frozen 0
  have HN := Lib.hid (hnf.set (.func (.func 42) #[] #[.pointer (some ⟨w.heap.size + 1, 0, none⟩)]))
  have hbx3 : Box (w2.setCell ⟨w.heap.size + 1, 0, none⟩ (.func (.func 42) #[] #[.pointer (some ⟨w.heap.size + 1, 0, none⟩)])) 25 w.heap.size h := (Below.heap_setCell w2 ⟨w.heap.size + 1, 0, none⟩ _ w.heap.size (by simp)).trans hbx
  have hb3 : Below w.heap.size w (w2.setCell ⟨w.heap.size + 1, 0, none⟩ (.func (.func 42) #[] #[.pointer (some ⟨w.heap.size + 1, 0, none⟩)])) := hb2.setCell (by simp) _
  clear hnf hbx hb2
  go_upto_region 3 with fail
  generalize (w2.setCell ⟨w.heap.size + 1, 0, none⟩ (.func (.func 42) #[] #[.pointer (some ⟨w.heap.size + 1, 0, none⟩)])) = w3 at *
  obtain ⟨x0, x1, x2, x3, x4⟩ := hbx3.cells
  have c2 := HN.out.cell
  have HB3 := Lib.hid hb3
  clear c0 c1 hbx3 hb3
  go_wp2_with (first
    | (go_at_call 42
       refine (deepC_any t h 0 _ (w.heap.size + 1) (HTT.out.lower HB3.out) (by omega) (by omega) HN.out).mono ?_
       rintro _ w4 ⟨rfl, hb4⟩
       have HB4 : Hid (Below w.heap.size w w4) := Lib.hid (HB3.out.trans (hb4.mono HB3.out.size))
       clear hb4))
  go_ret
  exact ⟨rfl, HB4.out⟩

set_option maxRecDepth 100000 in
set_option maxHeartbeats 4000000 in
theorem everyPartC : ∀ (t : Tr) (h : TH) (w : World) (gp ga : Nat), InTree w h t → Var1 w 27 gp (.func (.func 32) #[] #[]) → Var1 w 27 ga (.func (.func 44) #[] #[.pointer (some ⟨gp, 0, none⟩), .pointer (some ⟨ga, 0, none⟩)]) →
    Calls Try.prog 44 #[h.v, .pointer (some ⟨gp, 0, none⟩), .pointer (some ⟨ga, 0, none⟩)] w (Says w (.bool (allT partB t))) := by
  intro t
  induction t using Tr.ind with
  | h t ih =>
  intro h w gp ga ht hpv hcl
  unfold TH.v
  obtain ⟨H, hp⟩ := ht.parts
  have htl := hp.len
  have htc := hp.sl.le
  have htm := Nat.le_trans hp.sl.le hp.sl.max
  simp only [maxLen] at htm
  have HP := Lib.hid hp
  have HTT := Lib.hid ht
  have IH := Lib.hid ih
  have hbox := Box.new w 25 h
  have HX := Lib.hid hbox
  obtain ⟨x0, x1, x2, x3, x4⟩ := hbox.cells
  have hw1 : Below w.heap.size w (w.alloc (.cells #[.int .i64 h.k, .slice h.ka h.kn h.kc, .slice h.va h.vn h.vc, .slice h.da h.dn h.dc, .slice h.ta h.tn h.tc] 25)) := (Below.refl _ _).alloc (Nat.le_refl _) _
  have HB := Lib.hid hw1
  have hpv1 := hpv.below hw1 hpv.lt
  have HCL1 := Lib.hid (hcl.below hw1 hcl.lt)
  have HPV1 := Lib.hid hpv1
  have xp := hpv1.cell
  skip
  clear hp ht ih hcl hpv hpv1 hw1 hbox
  go_enter Try.func44, Try.ntmps44
  go_upto_if 10 with (first
    | (go_at_call 32
       refine (wellFormed_any t h _ (HTT.out.lower HB.out)).mono ?_
       rintro _ w1 ⟨rfl, hb1⟩
       have HB1 : Hid (Below w.heap.size w w1) := Lib.hid (HB.out.trans (hb1.mono HB.out.size))
       have HX1 := Lib.hid (HX.out.below hb1 HX.out.lt)
       have HCL2 := Lib.hid (HCL1.out.below hb1 HCL1.out.lt)
       have HPV2 := Lib.hid (HPV1.out.below hb1 HPV1.out.lt)
       skip
       generalize hr : partB t = r
       have HR := Lib.hid hr
       clear hb1 hr))
  clear x0 x1 x2 x3 x4 xp HX HB HCL1 HPV1
  cases r
  · go_wp2_with fail
    go_ret
    have e : allT partB t = false := by rw [allT_eq, HR.out]; rfl
    exact ⟨by rw [e]; rfl, HB1.out⟩
  simp only [Bool.not_true]
  have x4 := HX1.out.cells.2.2.2.2
  go_wp2_with fail
  clear x4 HX1
  go_loopw [14] (fun s14 wx => ∃ i : Nat, i ≤ h.tn ∧ s14 = .int .i64 i ∧ Var1 wx 27 gp (.func (.func 32) #[] #[]) ∧ Var1 wx 27 ga (.func (.func 44) #[] #[.pointer (some ⟨gp, 0, none⟩), .pointer (some ⟨ga, 0, none⟩)]) ∧ Below w.heap.size w wx ∧ (t.kids.take i).all (allT partB) = true) (fun s14 _ => h.tn - (intOf s14).toNat)
  case atStart => exact ⟨0, by omega, rfl, HPV2.out, HCL2.out, HB1.out, by simp⟩
  case round =>
    clear HCL2 HB1 HPV2
    obtain ⟨i, hi, rfl, hpv, hcl, hbw, hall⟩ := hrel
    have hcc := hcl.cell
    have HC := Lib.hid hcl
    have HV := Lib.hid hpv
    have HBW := Lib.hid hbw
    have HA := Lib.hid hall
    skip
    clear hcl hbw hall hpv
    by_cases hlt : i < h.tn
    · have q1 : (i : Int) < (h.tn : Int) := by omega
      obtain ⟨g, off, hta, hg, hcs⟩ := (HP.out.below HBW.out).place (by omega)
      obtain ⟨k0, k1, k2, k3, k4⟩ := hcs i hlt
      have him : i < t.kids.length := by omega
      clear hcs
      rw [hta]
      go_upto_region 6 with fail
      have b2 : Below wr.heap.size wr (wr.alloc (.cells #[.int .i64 (H i).k, .slice (H i).ka (H i).kn (H i).kc, .slice (H i).va (H i).vn (H i).vc, .slice (H i).da (H i).dn (H i).dc, .slice (H i).ta (H i).tn (H i).tc] 25)) := (Below.refl _ _).alloc (Nat.le_refl _) _
      have bx := Box.new wr 25 (H i)
      generalize (wr.alloc (.cells #[.int .i64 (H i).k, .slice (H i).ka (H i).kn (H i).kc, .slice (H i).va (H i).vn (H i).vc, .slice (H i).da (H i).dn (H i).dc, .slice (H i).ta (H i).tn (H i).tc] 25)) = w2 at *
      have HB2 : Hid (Below w.heap.size w w2) := Lib.hid (HBW.out.trans (b2.mono HBW.out.size))
      have HC2 := Lib.hid (HC.out.below b2 HC.out.lt)
      have HV2 := Lib.hid (HV.out.below b2 HV.out.lt)
      skip
      have hc2 := HC2.out.cell
      obtain ⟨y0, y1, y2, y3, y4⟩ := bx.cells
      clear b2 bx k0 k1 k2 k3 k4 hcc
      go_upto_if 21 with (first
        | (go_at_call 44
           refine (IH.out _ (List.getElem_mem him) (H i) _ gp ga ((HP.out.below HB2.out).kids i him) HV2.out HC2.out).mono ?_
           rintro _ w3 ⟨rfl, hb3⟩
           have HB3 : Hid (Below w.heap.size w w3) := Lib.hid (HB2.out.trans (hb3.mono HB2.out.size))
           have HC3 := Lib.hid (HC2.out.below hb3 HC2.out.lt)
           have HV3 := Lib.hid (HV2.out.below hb3 HV2.out.lt)
           skip
           generalize hr : allT partB t.kids[i] = q
           have HQ := Lib.hid hr
           clear hb3 hr))
      clear y0 y1 y2 y3 y4 hc2
      cases q
      · go_wp2_with fail
        go_ret
        have e : allT partB t = false := by rw [allT_eq, all_not i him HQ.out, Bool.and_false]
        exact ⟨by rw [e]; rfl, HB3.out⟩
      · clear hta
        go_wp2_with fail
        exact ⟨⟨i + 1, by omega, by go_num, HV3.out, HC3.out, HB3.out, by rw [all_take _ _ i him, HA.out, HQ.out]; rfl⟩, by simp [intOf]; omega⟩
    · obtain rfl : i = h.tn := by omega
      have q1 : ¬ (h.tn : Int) < (h.tn : Int) := by omega
      go_wp2_with fail
      go_ret
      have hA := HA.out
      rw [List.take_of_length_le (by omega)] at hA
      have e : allT partB t = true := by rw [allT_eq, HR.out, hA]; rfl
      exact ⟨by rw [e]; rfl, HBW.out⟩
set_option maxRecDepth 100000 in
set_option maxHeartbeats 4000000 in
theorem everyPart (t : Tr) (h : TH) (w : World) (ht : InTree w h t) : Calls Try.prog 31 #[h.v, .func (.func 32) #[] #[]] w (Says w (.bool (allT partB t))) := by
  have hmf : ∀ (fn : Fn) (first cap : Array Value) (w : World), (Instr.makeFunc fn first cap).run Try.prog w = .ok (.func fn first cap) w := fun _ _ _ _ => rfl
  unfold TH.v
  have HTT := Lib.hid ht
  clear ht
  go_enter Try.func31, Try.ntmps31
  have hbw1 : Below w.heap.size w (w.alloc (.cells #[.int .i64 h.k, .slice h.ka h.kn h.kc, .slice h.va h.vn h.vc, .slice h.da h.dn h.dc, .slice h.ta h.tn h.tc] 25)) := (Below.refl _ _).alloc (Nat.le_refl _) _
  have hbx1 := Box.new w 25 h
  have e1 : (w.alloc (.cells #[.int .i64 h.k, .slice h.ka h.kn h.kc, .slice h.va h.vn h.vc, .slice h.da h.dn h.dc, .slice h.ta h.tn h.tc] 25)).heap.size = w.heap.size + 1 := by simp
  have hbw2 : Below w.heap.size w ((w.alloc (.cells #[.int .i64 h.k, .slice h.ka h.kn h.kc, .slice h.va h.vn h.vc, .slice h.da h.dn h.dc, .slice h.ta h.tn h.tc] 25)).alloc (.cells #[.func (.func 32) #[] #[]] 27)) := hbw1.alloc (by rw [e1]; omega) _
  have hbx2 := hbx1.below ((Below.refl _ _).alloc (Nat.le_refl _) (.cells #[.func (.func 32) #[] #[]] 27)) hbx1.lt
  have hpv2 := Var1.new (w.alloc (.cells #[.int .i64 h.k, .slice h.ka h.kn h.kc, .slice h.va h.vn h.vc, .slice h.da h.dn h.dc, .slice h.ta h.tn h.tc] 25)) 27 (.func (.func 32) #[] #[])
  have e2 : ((w.alloc (.cells #[.int .i64 h.k, .slice h.ka h.kn h.kc, .slice h.va h.vn h.vc, .slice h.da h.dn h.dc, .slice h.ta h.tn h.tc] 25)).alloc (.cells #[.func (.func 32) #[] #[]] 27)).heap.size = w.heap.size + 2 := by simp
  have hbw3 : Below w.heap.size w (((w.alloc (.cells #[.int .i64 h.k, .slice h.ka h.kn h.kc, .slice h.va h.vn h.vc, .slice h.da h.dn h.dc, .slice h.ta h.tn h.tc] 25)).alloc (.cells #[.func (.func 32) #[] #[]] 27)).alloc (.cells #[.nilFunc] 27)) := hbw2.alloc (by rw [e2]; omega) _
  have hbx3 := hbx2.below ((Below.refl _ _).alloc (Nat.le_refl _) (.cells #[.nilFunc] 27)) hbx2.lt
  have hpv3 := hpv2.below ((Below.refl _ _).alloc (Nat.le_refl _) (.cells #[.nilFunc] 27)) hpv2.lt
  have hnf := Var1.new ((w.alloc (.cells #[.int .i64 h.k, .slice h.ka h.kn h.kc, .slice h.va h.vn h.vc, .slice h.da h.dn h.dc, .slice h.ta h.tn h.tc] 25)).alloc (.cells #[.func (.func 32) #[] #[]] 27)) 27 .nilFunc
  rw [e2] at hnf
  rw [e1] at hpv3
  clear hbw1 hbx1 e1 hbw2 hbx2 hpv2 e2
  go_upto_region 2 with fail
  generalize (((w.alloc (.cells #[.int .i64 h.k, .slice h.ka h.kn h.kc, .slice h.va h.vn h.vc, .slice h.da h.dn h.dc, .slice h.ta h.tn h.tc] 25)).alloc (.cells #[.func (.func 32) #[] #[]] 27)).alloc (.cells #[.nilFunc] 27)) = w2 at *
  have c0 := hnf.cell
  have c1 := hnf.frozen 0
  have hn4 := hnf.set (.func (.func 44) #[] #[.pointer (some ⟨w.heap.size + 1, 0, none⟩), .pointer (some ⟨w.heap.size + 2, 0, none⟩)])
  have hbx4 : Box (w2.setCell ⟨w.heap.size + 2, 0, none⟩ (.func (.func 44) #[] #[.pointer (some ⟨w.heap.size + 1, 0, none⟩), .pointer (some ⟨w.heap.size + 2, 0, none⟩)])) 25 w.heap.size h := (Below.heap_setCell w2 ⟨w.heap.size + 2, 0, none⟩ _ w.heap.size (by simp)).trans hbx3
  have hpv4 := hpv3.far (p := ⟨w.heap.size + 2, 0, none⟩) (by simp) (.func (.func 44) #[] #[.pointer (some ⟨w.heap.size + 1, 0, none⟩), .pointer (some ⟨w.heap.size + 2, 0, none⟩)])
  have hb4 : Below w.heap.size w (w2.setCell ⟨w.heap.size + 2, 0, none⟩ (.func (.func 44) #[] #[.pointer (some ⟨w.heap.size + 1, 0, none⟩), .pointer (some ⟨w.heap.size + 2, 0, none⟩)])) := hbw3.setCell (by simp) _
  clear hnf hbx3 hpv3 hbw3
  go_upto_region 3 with fail
  generalize (w2.setCell ⟨w.heap.size + 2, 0, none⟩ (.func (.func 44) #[] #[.pointer (some ⟨w.heap.size + 1, 0, none⟩), .pointer (some ⟨w.heap.size + 2, 0, none⟩)])) = w3 at *
  obtain ⟨x0, x1, x2, x3, x4⟩ := hbx4.cells
  have c2 := hn4.cell
  have HN := Lib.hid hn4
  have HPV := Lib.hid hpv4
  have HB3 := Lib.hid hb4
  skip
  clear c0 c1 hbx4 hb4 hpv4 hn4
  go_wp2_with (first
    | (go_at_call 44
       refine (everyPartC t h _ (w.heap.size + 1) (w.heap.size + 2) (HTT.out.lower HB3.out) HPV.out HN.out).mono ?_
       rintro _ w4 ⟨rfl, hb4⟩
       have HB4 : Hid (Below w.heap.size w w4) := Lib.hid (HB3.out.trans (hb4.mono HB3.out.size))
       clear hb4))
  go_ret
  exact ⟨rfl, HB4.out⟩

end Go.Proofs.Ytagmeljjkblpbaa

/- In a region that draws its order: what may be taken first. No program is named here. -/
namespace Go.Proofs.Ytagmeljjkblpbaa
open Go.RowKit
set_option linter.unusedVariables false

section
variable {P : Program} {md : Region.Mode} {ops : Array Oper} {Q : Exit → Act → World → Prop} {S : World → Prop}
/-- In a region that draws its order: an operation that yields v in every world that meets S is taken first. -/
theorem take_w {i : Nat} {oi : Oper} {v : Value} {fuel : Nat} {listed : Array Bool} {a : Act} {w : World} (hi : ops[i]? = some oi)
    (hs : Region.noSelect ops = true) (hf : Region.free md ops listed i = true) (hr : (Region.ready md ops listed).contains i = true)
    (hQ : ∀ c a w, Q (.panic c) (a.put oi.dst v) w → Q (.panic c) a w) (hw : Region.wanted oi (yielded ops a.tmps) = true) (hy : ∀ w, S w → (execOp a.eval oi).run P w = .ok (.value v) w) (hS : S w)
    (h : wpAnyH P md ops Q S fuel (listed.setIfInBounds i true) (a.put oi.dst v) w) : wpAnyH P md ops Q S (fuel + 1) listed a w :=
  wpAnyH_take hi hs hf hr hQ (.inl ⟨hw, hy⟩) hS h
end
end Go.Proofs.Ytagmeljjkblpbaa

/- The contract of the program's check of a tree. -/
namespace Go.Proofs.Ytagmeljjkblpbaa
open Go.RowKit
set_option linter.unusedVariables false

set_option maxRecDepth 100000 in
set_option maxHeartbeats 4000000 in
theorem check_any (t : Tr) (h : TH) (w : World) (ht : InTree w h t) : Calls Try.prog 17 #[h.v] w (Says w (codeV (checkT t))) := by
  unfold TH.v
  have hbox := Box.new w 25 h
  have HX := Lib.hid hbox
  have HT := Lib.hid ht
  obtain ⟨x0, x1, x2, x3, x4⟩ := hbox.cells
  clear hbox ht
  go_enter Try.func17, Try.ntmps17
  go_upto_if 4 with (first
    | (go_at_call 30
       refine (tooDeep_any t h _ ?_).mono ?_
       · exact HT.out.lower ((Below.refl _ _).alloc (Nat.le_refl _) _)
       rintro _ w1 ⟨rfl, hb1⟩
       have HB1 : Hid (Below w.heap.size w w1) := Lib.hid (((Below.refl w.heap.size w).alloc (Nat.le_refl _) _).trans (hb1.mono (by simp)))
       obtain ⟨y0, y1, y2, y3, y4⟩ := (HX.out.below hb1 HX.out.lt).cells
       generalize hr : deepT t 64 = r
       have HR := Lib.hid hr
       clear hb1 hr x0 x1 x2 x3 x4))
  cases r
  · go_upto_if 8 with (first
      | (go_at_call 31
         refine (everyPart t h _ ?_).mono ?_
         · exact HT.out.lower HB1.out
         rintro _ w2 ⟨rfl, hb2⟩
         have HB2 : Hid (Below w.heap.size w w2) := Lib.hid (HB1.out.trans (hb2.mono HB1.out.size))
         rw [allT_part]
         generalize hq : formedT t = q
         have HQ := Lib.hid hq
         clear hb2 hq y0 y1 y2 y3 y4))
    cases q
    · go_wp2_with fail
      go_ret
      have e : checkT t = 3 := by unfold checkT; rw [HR.out, HQ.out]; rfl
      exact ⟨by rw [e]; rfl, HB2.out⟩
    · simp only [Bool.not_true]
      go_wp2_with fail
      go_ret
      have e : checkT t = 0 := by unfold checkT; rw [HR.out, HQ.out]; rfl
      exact ⟨by rw [e]; rfl, HB2.out⟩
  · go_wp2_with fail
    go_ret
    have e : checkT t = 5 := by unfold checkT; rw [HR.out]; rfl
    exact ⟨by rw [e]; rfl, HB1.out⟩
theorem check_zero {t : Tr} (h : checkT t = 0) : formedT t = true ∧ deepT t 64 = false := by
  unfold checkT at h
  split at h
  · cases h
  · split at h
    · exact ⟨by assumption, by rename_i q _; simpa using q⟩
    · cases h
theorem codeV_pos {k : Nat} (h : k ≠ 0) : codeV k = .iface 41 (.int .i64 k) := by
  unfold codeV
  rw [if_neg h]
end Go.Proofs.Ytagmeljjkblpbaa

/- The contract of the document's look for a digest that is too long. -/
namespace Go.Proofs.Ytagmeljjkblpbaa
open Go.RowKit
set_option linter.unusedVariables false

set_option maxRecDepth 100000 in
set_option maxHeartbeats 4000000 in
theorem refLong_any : ∀ (t : Tr) (h : TH) (w : World), InTree w h t → Calls Try.prog 21 #[h.v] w (Says w (.bool (longT t))) := by
  intro t
  induction t using Tr.ind with
  | h t ih =>
  intro h w ht
  unfold TH.v
  obtain ⟨H, hp⟩ := ht.parts
  have hdl := hp.dig.len
  have htl := hp.len
  have htm := Nat.le_trans hp.sl.le hp.sl.max
  have htc := hp.sl.le
  simp only [maxLen] at htm
  have HP := Lib.hid hp
  have IH := Lib.hid ih
  have HBX := Lib.hid (Box.new w 25 h)
  have HBW : Hid (Below w.heap.size w (w.alloc (.cells #[.int .i64 h.k, .slice h.ka h.kn h.kc, .slice h.va h.vn h.vc, .slice h.da h.dn h.dc, .slice h.ta h.tn h.tc] 25))) := Lib.hid ((Below.refl _ _).alloc (Nat.le_refl _) _)
  have HLE := Lib.hid (longT_eq t)
  clear hp ht ih
  go_enter Try.func21, Try.ntmps21
  go_upto_region 1 with fail
  generalize (w.alloc (.cells #[.int .i64 h.k, .slice h.ka h.kn h.kc, .slice h.va h.vn h.vc, .slice h.da h.dn h.dc, .slice h.ta h.tn h.tc] 25)) = w0 at *
  obtain ⟨x0, x1, x2, x3, x4⟩ := HBX.out.cells
  by_cases hd : 32 < t.dig.length
  · have q0 : (32 : Int) < (h.dn : Int) := by omega
    have E : Hid (longT t = true) := Lib.hid (by rw [HLE.out, decide_eq_true hd, Bool.true_or])
    clear hd hdl
    go_wp2_with fail
    go_ret
    exact ⟨by rw [E.out]; rfl, HBW.out⟩
  have q0 : ¬ (32 : Int) < (h.dn : Int) := by omega
  have HD : Hid (decide (32 < t.dig.length) = false) := Lib.hid (decide_eq_false hd)
  clear hd hdl
  go_wp2_with fail
  clear x0 x1 x2 x3 x4 q0
  go_loopw [3] (fun s3 wx => ∃ i : Nat, i ≤ h.tn ∧ s3 = .int .i64 i ∧ Box wx 25 w.heap.size h ∧ Below w.heap.size w wx ∧ (t.kids.take i).any longT = false) (fun s3 _ => h.tn - (intOf s3).toNat)
  case atStart => exact ⟨0, by omega, rfl, HBX.out, HBW.out, by simp⟩
  case round =>
    clear HBX HBW
    obtain ⟨i, hi, rfl, hbx, hbw, hany⟩ := hrel
    have hx4 := hbx.cells.2.2.2.2
    have HBX := Lib.hid hbx
    have HBW := Lib.hid hbw
    have HA := Lib.hid hany
    clear hbx hbw hany
    by_cases hlt : i < h.tn
    · have q1 : (i : Int) < (h.tn : Int) := by omega
      obtain ⟨g, off, hta, hg, hcs⟩ := (HP.out.below HBW.out).place (by omega)
      rw [hta] at hx4
      obtain ⟨k0, k1, k2, k3, k4⟩ := hcs i hlt
      have him : i < t.kids.length := by omega
      clear hcs hta
      go_upto_region 7 with (first
        | (go_at_call 21
           refine (IH.out _ (List.getElem_mem him) (H i) _ ((HP.out.below HBW.out).kids i him)).mono ?_
           rintro _ w1 ⟨rfl, hb1⟩
           have HB1 : Hid (Below w.heap.size w w1) := Lib.hid (HBW.out.trans (hb1.mono HBW.out.size))
           have HX1 := Lib.hid (HBX.out.below hb1 HBX.out.lt)
           generalize hr : longT t.kids[i] = r
           have HR := Lib.hid hr
           clear hb1 hr))
      clear hx4 k0 k1 k2 k3 k4
      cases r
      · go_wp2_with fail
        exact ⟨⟨i + 1, by omega, by go_num, HX1.out, HB1.out, by rw [any_take _ _ i him, HA.out, HR.out]; rfl⟩, by simp [intOf]; omega⟩
      · go_wp2_with fail
        go_ret
        have hd : longT t = true := by rw [HLE.out, any_at i him HR.out, Bool.or_true]
        exact ⟨by rw [hd]; rfl, HB1.out⟩
    · obtain rfl : i = h.tn := by omega
      have q1 : ¬ (h.tn : Int) < (h.tn : Int) := by omega
      go_wp2_with fail
      go_ret
      have hA := HA.out
      rw [List.take_of_length_le (by omega)] at hA
      have hd : longT t = false := by rw [HLE.out, HD.out, hA]; rfl
      exact ⟨by rw [hd]; rfl, HBW.out⟩
end Go.Proofs.Ytagmeljjkblpbaa

/- The contracts of the document's Number and Bytes. -/
namespace Go.Proofs.Ytagmeljjkblpbaa
open Go.RowKit
set_option linter.unusedVariables false

set_option maxRecDepth 100000 in
set_option maxHeartbeats 2000000 in
theorem refNumber_any (v : Nat) (w : World) (hv : v < 18446744073709551616) :
    Calls Try.prog 46 #[.int .u64 v] w (OwnPost w (numL v)) := by
  obtain ⟨i0, hi0, hz0, hz1, hz2⟩ := info_parts infoU8
  go_enter Try.func46, Try.ntmps46
  by_cases h : v < 248
  · have hb : (v : Int) < 248 := by omega
    go_wp2_with fail
    go_ret
    have e : numL v = [(v : Int)] := by unfold numL; rw [if_pos h]
    rw [e]
    exact ⟨w.heap.size, 1, rfl, own_new w 5 .u8 [(v : Int)] w.heap.size (Nat.le_refl _) (by simp [maxLen]), (Below.refl _ _).alloc (Nat.le_refl _) _⟩
  · have hb : ¬ (v : Int) < 248 := by omega
    go_wp2_with fail
    go_loopw [0, 3] (fun s0 s3 wx => ∃ (k : Nat) (a : Option Addr) (cap : Nat), s0 = .int .u64 ((v / 256 ^ k : Nat) : Int) ∧ s3 = .slice a k cap ∧ (k = 0 ∨ v / 256 ^ (k - 1) ≠ 0) ∧ InBytes wx a k cap (be k v) ∧ Below w.heap.size w wx) (fun s0 _ _ => (intOf s0).toNat)
    case atStart => exact ⟨0, none, 0, by simp, rfl, .inl rfl, ⟨rfl, (fun z hz => by cases hz), Nat.le_refl _, by simp [maxLen], fun _ => rfl, (fun h => by omega)⟩, Below.refl _ _⟩
    case round =>
      obtain ⟨k, a, cap, rfl, rfl, hk, hin, hbel⟩ := hrel
      have hk8 : k ≤ nd v := by
        rcases hk with rfl | hk
        · omega
        · rcases Nat.lt_or_ge (nd v) k with h6 | h6
          · exfalso
            apply hk
            apply Nat.div_eq_of_lt
            exact Nat.lt_of_lt_of_le (nd_lt v) (Nat.pow_le_pow_right (by omega) (by omega))
          · exact h6
      have hn8 := nd_64 hv
      have hle := Nat.div_le_self v (256 ^ k)
      have hds := div_step v k
      obtain ⟨q, hq⟩ : ∃ q, q = v / 256 ^ k := ⟨_, rfl⟩
      rw [← hq] at hle hds ⊢
      have HQ := Lib.hid hq
      have HIN := Lib.hid hin
      have HB := Lib.hid hbel
      have HDS := Lib.hid hds
      have HK := Lib.hid hk
      clear hin hbel hds hk hq
      by_cases hz : q = 0
      · have hkn : k = nd v := nd_unique (by rw [← HQ.out]; exact hz) HK.out
        subst hkn
        have hfin : numL v = ((247 + nd v : Nat) : Int) :: be (nd v) v := by unfold numL; rw [if_neg h]
        subst hz
        have HFIN := Lib.hid hfin
        clear hfin hle
        go_wp2_with (first
          | (at_builtin
             refine wpList_append_bytes' _ rfl (.tmp 23) (.tmp 24) 22 rfl w.heap.size 5 i0 _ 1 Try.underlying22 hi0 hz0 hz1 hz2 rfl wr.heap.size 1 1 [.int .u8 (247 + (nd v : Int))] rfl (own_new wr 5 .u8 [247 + (nd v : Int)] w.heap.size HB.out.size (by simp [maxLen])) a (nd v) cap (be (nd v) v) rfl (HIN.out.below ((Below.refl _ _).alloc (Nat.le_refl _) _)) (by simp only [maxLen]; omega) (by omega) (by have := HB.out.size; simp; omega) ?_
             intro g1 c1 w1 hown1 hg1
             have HO1 := Lib.hid hown1
             have HB1 : Hid (Below w.heap.size w w1) := Lib.hid (below_only (HB.out.alloc HB.out.size _) hg1 (by have := HB.out.size; simp; omega) HB.out.size)
             clear hown1 hg1))
        go_ret
        have hfin := HFIN.out
        have hc : ((247 + nd v : Nat) : Int) = 247 + (nd v : Int) := by omega
        rw [hc] at hfin
        have hl : (numL v).length = 1 + nd v := by rw [hfin, List.length_cons, be_length]; omega
        have ho := HO1.out
        refine ⟨g1, c1, by rw [hl]; rfl, ?_, HB1.out⟩
        rw [hl, hfin]
        exact ho
      · have hz2' : (0 : Int) < (q : Int) := by omega
        go_wp2_with (first
          | (at_builtin
             refine wpList_append_bytes' _ rfl (.tmp 14) (.tmp 15) 22 rfl w.heap.size 5 i0 _ 1 Try.underlying22 hi0 hz0 hz1 hz2 rfl wr.heap.size 1 1 [.int .u8 ((q : Int) % 256)] rfl (own_new wr 5 .u8 [(q : Int) % 256] w.heap.size HB.out.size (by simp [maxLen])) a k cap (be k v) rfl (HIN.out.below ((Below.refl _ _).alloc (Nat.le_refl _) _)) (by simp only [maxLen]; omega) (by omega) (by have := HB.out.size; simp; omega) ?_
             intro g1 c1 w1 hown1 hg1
             have HO1 := Lib.hid hown1
             have HB1 : Hid (Below w.heap.size w w1) := Lib.hid (below_only (HB.out.alloc HB.out.size _) hg1 (by have := HB.out.size; simp; omega) HB.out.size)
             clear hown1 hg1))
        have hq := HQ.out
        have hb8 : [(q : Int) % 256] ++ be k v = be (k + 1) v := by simp [be, hq]
        have ho := HO1.out
        rw [show [Value.int IntKind.u8 ((q : Int) % 256)] = [(q : Int) % 256].map (Value.int .u8) from rfl, ← List.map_append, hb8, Nat.add_comm 1 k] at ho
        rw [Nat.add_comm 1 k]
        refine ⟨⟨k + 1, some ⟨g1, 0, none⟩, c1, ?_, rfl, .inr ?_, InBytes.of_own ho (be_bytes _ _), HB1.out⟩, ?_⟩
        · congr 1
          rw [← HDS.out]
          omega
        · rw [Nat.add_sub_cancel, ← hq]; omega
        · simp only [intOf]; omega

set_option maxRecDepth 100000 in
set_option maxHeartbeats 2000000 in
theorem refBytes_any (a : Option Addr) (n cap : Nat) (bs : List Int) (w : World) (hin : InBytes w a n cap bs) (hn : n ≤ 140737488351232) :
    Calls Try.prog 36 #[.slice a n cap] w (OwnPost w (bytL bs)) := by
  obtain ⟨i0, hi0, hz0, hz1, hz2⟩ := info_parts infoU8
  have hbl := hin.len
  have h9 := numL_le (v := n) (by omega)
  have hle := hin.le
  have HIN := Lib.hid hin
  clear hin
  go_enter Try.func36, Try.ntmps36
  go_wp2_with (first
    | (go_at_call 46
       (with_reducible refine (refNumber_any n _ (by omega)).mono ?_)
       rintro _ w1 ⟨g1, c1, rfl, hown1, hb1⟩
       have HO1 := Lib.hid hown1
       have HB1 := Lib.hid hb1
       clear hown1 hb1)
    | (at_builtin
       refine wpList_append_bytes' _ rfl (.tmp 6) (.tmp 7) 22 rfl w.heap.size 5 i0 _ 1 Try.underlying22 hi0 hz0 hz1 hz2 rfl g1 (numL n).length c1 _ rfl HO1.out a n cap bs rfl (HIN.out.below HB1.out) (by simp only [maxLen]; omega) (by omega) HB1.out.size ?_
       intro g2 c2 w2 hown2 hg2
       have HO2 := Lib.hid hown2
       have HB2 : Hid (Below w.heap.size w w2) := Lib.hid (below_only HB1.out hg2 HB1.out.size (HO1.out.lt g1 rfl).1)
       clear hown2 hg2))
  go_ret
  have ho := HO2.out
  rw [← List.map_append] at ho
  have e : bytL bs = numL n ++ bs := by unfold bytL; rw [hbl]
  have hl : (bytL bs).length = (numL n).length + n := by rw [e, List.length_append, hbl]
  refine ⟨g2, c2, by rw [hl]; rfl, ?_, HB2.out⟩
  rw [hl, e]
  exact ho
end Go.Proofs.Ytagmeljjkblpbaa

/- The contracts of the document's reader. -/
namespace Go.Proofs.Ytagmeljjkblpbaa
open Go.RowKit
set_option linter.unusedVariables false

/-- The document's reader lies at block g: its bytes, its place, its flag. -/
def RD (w : World) (g : Nat) (a : Option Addr) (n cap at' : Nat) (bad : Bool) : Prop := w.heap[g]? = some (.cells #[.slice a n cap, .int .i64 at', .bool bad] 59 (0, 0))
section
variable {w w' : World} {g : Nat} {a : Option Addr} {n cap at' : Nat} {bad : Bool}
theorem RD.lt (h : RD w g a n cap at' bad) : g < w.heap.size := by
  rcases Nat.lt_or_ge g w.heap.size with hlt | hge
  · exact hlt
  · unfold RD at h; rw [Array.getElem?_eq_none hge] at h; cases h
theorem RD.cell0 (h : RD w g a n cap at' bad) : w.cell? ⟨g, 0, none⟩ = some (.slice a n cap) := by rw [cell_of_row w g 0 _ _ (0, 0) h]; simp
theorem RD.cell1 (h : RD w g a n cap at' bad) : w.cell? ⟨g, 1, none⟩ = some (.int .i64 at') := by rw [cell_of_row w g 1 _ _ (0, 0) h]; simp
theorem RD.cell2 (h : RD w g a n cap at' bad) : w.cell? ⟨g, 2, none⟩ = some (.bool bad) := by rw [cell_of_row w g 2 _ _ (0, 0) h]; simp
theorem RD.frozen (h : RD w g a n cap at' bad) (i : Nat) : w.frozen? ⟨g, i, none⟩ = false := by
  unfold RD at h
  simp [World.frozen?, h]
theorem RD.set1 (h : RD w g a n cap at' bad) (m : Nat) : RD (w.setCell ⟨g, 1, none⟩ (.int .i64 m)) g a n cap m bad := by
  unfold RD at h ⊢
  simp [World.setCell, Array.getElem?_modify, h]
theorem RD.set2 (h : RD w g a n cap at' bad) (b : Bool) : RD (w.setCell ⟨g, 2, none⟩ (.bool b)) g a n cap at' b := by
  unfold RD at h ⊢
  simp [World.setCell, Array.getElem?_modify, h]
theorem RD.drewN (h : RD w g a n cap at' bad) (m : Nat) : RD (w.drewN m) g a n cap at' bad := h
theorem RD.alloc (h : RD w g a n cap at' bad) (o : Obj) : RD (w.alloc o) g a n cap at' bad := (Below.heap_alloc w o g h.lt).trans h
theorem RD.grown {row : Option Nat} (h : RD w g a n cap at' bad) (hb : w.grownBy w' row) (hg : some g ≠ row) : RD w' g a n cap at' bad := (hb.block g h.lt hg).trans h
end
theorem InBytes.grownP {w w' : World} {a : Option Addr} {n cap : Nat} {bs : List Int} {row : Option Nat} (h : InBytes w a n cap bs) (hg : w.grownBy w' row) (hne : 0 < n → ∀ ad, a = some ad → some ad.block ≠ row) : InBytes w' a n cap bs :=
  ⟨h.len, h.bytes, h.le, h.max, h.nil, fun h0 => by
    obtain ⟨g, off, e, hlt, hs⟩ := h.place h0
    exact ⟨g, off, e, Nat.lt_of_lt_of_le hlt hg.size, hs.keep fun o => World.cell?_of_block (hg.block g hlt (hne h0 _ e))⟩⟩
/-- What a reader at the state s looks like in memory. -/
def RefRd (w : World) (g : Nat) (a : Option Addr) (n cap : Nat) (bs : List Int) (s : Option (List Int)) : Prop :=
  ∃ at' bad, RD w g a n cap at' bad ∧ at' ≤ n ∧ (s = none → bad = true) ∧ (∀ r, s = some r → bad = false ∧ r = bs.drop at')
theorem RefRd.grown {w w' : World} {g : Nat} {a : Option Addr} {n cap : Nat} {bs : List Int} {s : Option (List Int)} {row : Option Nat} (h : RefRd w g a n cap bs s) (hg : w.grownBy w' row) (hne : some g ≠ row) : RefRd w' g a n cap bs s := by
  obtain ⟨at', bad, hd, h1, h2, h3⟩ := h
  exact ⟨at', bad, hd.grown hg hne, h1, h2, h3⟩
def RefRdPost (w : World) (g : Nat) (a : Option Addr) (n cap : Nat) (bs : List Int) (v : Value) (s : Option (List Int)) (e : Ending) (w' : World) : Prop :=
  e = .returned v ∧ RefRd w' g a n cap bs s ∧ w.grownBy w' (some g)

set_option maxRecDepth 100000 in
set_option maxHeartbeats 2000000 in
theorem refByte_any (g : Nat) (a : Option Addr) (n cap : Nat) (bs : List Int) (s : Option (List Int)) (w : World) (hin : InBytes w a n cap bs) (hag : 0 < n → ∀ ad, a = some ad → ad.block ≠ g) (hr : RefRd w g a n cap bs s) :
    Calls Try.prog 40 #[.pointer (some ⟨g, 0, none⟩)] w (RefRdPost w g a n cap bs (.int .u8 (rdByte s).1) (rdByte s).2) := by
  obtain ⟨at', bad, hd, hat, hnone, hsome⟩ := hr
  have hbl := hin.len
  have hle := hin.le
  have hmax := hin.max
  simp only [maxLen] at hmax
  have c0 := hd.cell0
  have c1 := hd.cell1
  have c2 := hd.cell2
  have f1 := hd.frozen 1
  have f2 := hd.frozen 2
  have HD := Lib.hid hd
  have HIN := Lib.hid hin
  clear hd hin
  cases s with
  | none =>
    obtain rfl := hnone rfl
    clear hnone hsome
    go_enter Try.func40, Try.ntmps40
    go_wp2_with fail
    go_quiet (fail)
    go_wp2_with fail
    go_ret
    exact ⟨rfl, ⟨at', true, (HD.out.drewN nq).set2 true, hat, fun _ => rfl, fun r h => by cases h⟩, only_set (only_drawn (only_refl w _) nq) 2 _⟩
  | some r =>
    obtain ⟨rfl, hr⟩ := hsome r rfl
    clear hnone hsome
    by_cases hlt : at' < n
    · obtain ⟨ga, off, rfl, hga, hseg⟩ := HIN.out.place (by omega)
      have hne := hag (by omega) _ rfl
      have cb := hseg.cellD at' (by omega)
      have hrr : r = bs.getD at' 0 :: bs.drop (at' + 1) := by rw [hr, List.drop_eq_getElem_cons (by omega)]; simp [List.getD, show at' < bs.length by omega]
      have h1 : ¬ (n : Int) ≤ (at' : Int) := by omega
      have h2 : IntKind.i64.wrap ((at' : Int) + 1) = (at' : Int) + 1 := IntWalk.i64_in _ (by omega)
      subst hrr
      clear hr
      generalize bs.getD at' 0 = c at *
      go_enter Try.func40, Try.ntmps40
      go_wp2_with fail
      go_quiet (fail)
      go_wp2_with fail
      have HD2 := Lib.hid ((HD.out.drewN nq).set1 (at' + 1))
      obtain ⟨w2, hw2⟩ : ∃ w2, w2 = (w.drewN nq).setCell ⟨g, 1, none⟩ (.int .i64 ((at' : Int) + 1)) := ⟨_, rfl⟩
      rw [← hw2]
      have HD3 : Hid (RD w2 g (some ⟨ga, off, none⟩) n cap (at' + 1) false) := Lib.hid (by rw [hw2]; exact HD2.out)
      have hg2 : w.grownBy w2 (some g) := by rw [hw2]; exact only_set (only_drawn (only_refl w _) nq) 1 _
      have cb2 : w2.cell? ⟨ga, off + at', none⟩ = some (.int .u8 c) := by rw [World.cell?_of_block (hg2.block ga hga (by simp; omega))]; exact cb
      have d0 := HD3.out.cell0
      have d1 := HD3.out.cell1
      have h3 : IntKind.i64.wrap ((at' : Int) + 1 - 1) = (at' : Int) := by rw [show (at' : Int) + 1 - 1 = at' by omega]; exact IntWalk.i64_in _ (by omega)
      have h4 : (0 : Int) ≤ (at' : Int) := by omega
      have HG2 := Lib.hid hg2
      rw [show ((at' + 1 : Nat) : Int) = (at' : Int) + 1 by omega] at d1
      clear hw2 hg2 c0 c1 c2 cb HD2
      go_quiet (fail)
      go_wp2_with fail
      go_ret
      exact ⟨rfl, ⟨at' + 1, false, HD3.out.drewN _, by omega, (fun h => by cases h), fun r h => ⟨rfl, by injection h with h; exact h.symm⟩⟩, only_drawn HG2.out _⟩
    · have h1 : (n : Int) ≤ (at' : Int) := by omega
      have hrr : r = [] := by rw [hr]; exact List.drop_eq_nil_of_le (by omega)
      subst hrr
      clear hr
      go_enter Try.func40, Try.ntmps40
      go_wp2_with fail
      go_quiet (fail)
      go_wp2_with fail
      go_ret
      exact ⟨rfl, ⟨at', true, (HD.out.drewN nq).set2 true, hat, fun _ => rfl, fun r h => by cases h⟩, only_set (only_drawn (only_refl w _) nq) 2 _⟩

theorem rdNum_of_byte (s : Option (List Int)) (h : (rdByte s).2 = none) : rdNum s = (0, none) ∧ (rdByte s).1 = 0 := by
  cases s with
  | none => exact ⟨rfl, rfl⟩
  | some r => cases r with
    | nil => exact ⟨rfl, rfl⟩
    | cons c r => simp [rdByte] at h
theorem rdNum_big (c : Int) (k : Nat) (r : List Int) (hc : c - 247 = (k : Int)) (hk : 1 ≤ k) :
    rdNum (some (c :: r)) = if r.length < k then (0, none) else if r.getD 0 0 = 0 ∨ val (r.take k) < 248 then (0, none) else (val (r.take k), some (r.drop k)) := by
  have e : (c - 247).toNat = k := by omega
  have e2 : ¬ c < 248 := by omega
  simp only [rdNum, getNum, e, e2, if_false]
  split
  · rename_i h
    split at h
    · rename_i h1; rw [if_pos h1]
    · rename_i h1
      split at h
      · rename_i h2; rw [if_neg h1, if_pos h2]
      · cases h
  · rename_i v r' h
    split at h
    · cases h
    · rename_i h1
      split at h
      · cases h
      · rename_i h2
        injection h with h
        injection h with h3 h4
        rw [if_neg h1, if_neg h2, h3, h4]
theorem rdByte_some {s : Option (List Int)} {r : List Int} (h : (rdByte s).2 = some r) : s = some ((rdByte s).1 :: r) := by
  cases s with
  | none => simp [rdByte] at h
  | some l => cases l with
    | nil => simp [rdByte] at h
    | cons c t => simp [rdByte] at h ⊢; exact h

set_option maxRecDepth 100000 in
set_option maxHeartbeats 2000000 in
theorem refRdNumber_any (g : Nat) (a : Option Addr) (n cap : Nat) (bs : List Int) (s : Option (List Int)) (w : World) (hin : InBytes w a n cap bs) (hag : 0 < n → ∀ ad, a = some ad → ad.block ≠ g) (hr : RefRd w g a n cap bs s) (hb8 : ∀ r, s = some r → Bytes8 r) :
    Calls Try.prog 47 #[.pointer (some ⟨g, 0, none⟩)] w (RefRdPost w g a n cap bs (.int .u64 (rdNum s).1) (rdNum s).2) := by
  have hbl := hin.len
  have hle := hin.le
  have hmax := hin.max
  simp only [maxLen] at hmax
  have HIN := Lib.hid hin
  have HR := Lib.hid hr
  have HB8 := Lib.hid hb8
  clear hin hr hb8
  go_enter Try.func47, Try.ntmps47
  go_wp2_with fail
  refine (refByte_any g a n cap bs s _ HIN.out hag HR.out).mono ?_
  rintro _ w1 ⟨rfl, ⟨at', bad, hd, hat, hnone, hsome⟩, hg1⟩
  have hin1 := HIN.out.grownP hg1 (fun h0 ad h => by simp; exact hag h0 ad h)
  have c0 := hd.cell0
  have c1 := hd.cell1
  have c2 := hd.cell2
  have f1 := hd.frozen 1
  have f2 := hd.frozen 2
  have HD := Lib.hid hd
  have HIN1 := Lib.hid hin1
  have HG1 := Lib.hid hg1
  clear hd hin1 hg1
  cases hs : (rdByte s).2 with
  | none =>
    obtain ⟨e1, e2⟩ := rdNum_of_byte s hs
    obtain rfl := hnone hs
    rw [e1, e2]
    clear hnone hsome
    go_wp2_with fail
    go_ret
    rw [e1]
    exact ⟨rfl, ⟨at', true, HD.out, hat, fun _ => rfl, fun r h => by cases h⟩, HG1.out⟩
  | some r =>
    have e1 := rdByte_some hs
    obtain ⟨rfl, hr⟩ := hsome r hs
    have hc := HB8.out _ e1 (rdByte s).1 (by simp)
    have hr8 : Bytes8 r := fun z hz => HB8.out _ e1 z (List.mem_cons_of_mem _ hz)
    generalize (rdByte s).1 = c at *
    subst e1
    clear hnone hsome hs
    have hrl : r.length = n - at' := by rw [hr, List.length_drop, hbl]
    by_cases h1 : c < 248
    · have e2 : rdNum (some (c :: r)) = (c.toNat, some r) := by simp [rdNum, getNum, h1]
      go_wp2_with fail
      go_ret
      rw [e2]
      exact ⟨by rw [show ((c.toNat : Nat) : Int) = c by omega]; rfl, ⟨at', false, HD.out, hat, (fun h => by cases h), fun r' h => ⟨rfl, by injection h with h; rw [← h]; exact hr⟩⟩, HG1.out⟩
    · obtain ⟨k, hk, hk1, hk8⟩ : ∃ k : Nat, c - 247 = (k : Int) ∧ 1 ≤ k ∧ k ≤ 8 := ⟨(c - 247).toNat, by omega, by omega, by omega⟩
      have e2 := rdNum_big c k r hk hk1
      have h1' : ¬ c < 248 := h1
      have HBA := Lib.hid e2
      have ek : IntKind.i64.wrap (c - 247) = (k : Int) := by rw [hk]; exact IntWalk.i64_in _ (by omega)
      clear hk e2
      by_cases h2 : r.length < k
      · have h3 : (n : Int) - (at' : Int) < (k : Int) := by omega
        go_wp2_with fail
        go_quiet (fail)
        go_wp2_with fail
        go_ret
        rw [HBA.out, if_pos h2]
        exact ⟨rfl, ⟨at', true, (HD.out.drewN nq).set2 true, hat, fun _ => rfl, fun r h => by cases h⟩, only_set (only_drawn HG1.out nq) 2 _⟩
      · have h3 : ¬ (n : Int) - (at' : Int) < (k : Int) := by omega
        obtain ⟨ga, off, rfl, hga, hseg⟩ := HIN1.out.place (by omega)
        have hcell : ∀ i, i < k → w1.cell? ⟨ga, off + (at' + i), none⟩ = some (.int .u8 (r.getD i 0)) := fun i hi => by
          have h := hseg.cellD (at' + i) (by omega)
          rw [h, hr]
          simp [List.getD, List.getElem?_drop]
        have hne := hag (by omega) _ rfl
        have HCE := Lib.hid hcell
        clear hcell hseg
        go_wp2_with fail
        go_quiet (fail)
        go_wp2_with fail
        go_loopw [5, 6] (fun s5 s6 wx => ∃ i m : Nat, i ≤ k ∧ s5 = .int .u64 (val (r.take i)) ∧ s6 = .int .i64 i ∧ wx = w1.drewN m) (fun _ s6 _ => k - (intOf s6).toNat)
        case atStart => exact ⟨0, nq, by omega, rfl, rfl, rfl⟩
        case round =>
          obtain ⟨i, m, hi, rfl, rfl, rfl⟩ := hrel
          have hv1 := val_lt (l := r.take i) (fun z hz => hr8 z (List.mem_of_mem_take hz))
          have hv2 : 256 ^ (r.take i).length = 256 ^ i := by rw [List.length_take, Nat.min_eq_left (by omega)]
          rw [hv2] at hv1
          by_cases hlt : i < k
          · have cb := HCE.out i hlt
            have hx := byte_at hr8 i
            have hv3 : 256 ^ i ≤ 256 ^ 7 := Nat.pow_le_pow_right (by omega) (by omega)
            have hnx : val (r.take (i + 1)) = 256 * val (r.take i) + (r.getD i 0).toNat := by
              rw [List.take_succ_eq_append_getElem (by omega), val_snoc]
              simp [List.getD, show i < r.length by omega]
            have HNX := Lib.hid hnx
            have e5 : (256 : Nat) ^ 7 = 72057594037927936 := by decide
            generalize val (r.take i) = v at *
            generalize r.getD i 0 = x at *
            have q1 : IntKind.u64.wrap (256 * (v : Int)) = 256 * (v : Int) := IntWalk.u64_in _ (by omega)
            have q2 : IntKind.u64.wrap (256 * (v : Int) + x) = 256 * (v : Int) + x := IntWalk.u64_in _ (by omega)
            have q3 : IntKind.i64.wrap ((at' : Int) + (i : Int)) = (at' : Int) + (i : Int) := IntWalk.i64_in _ (by omega)
            have q4 : ((at' : Int) + (i : Int)).toNat = at' + i := by omega
            have q5 : (at' : Int) + (i : Int) < (n : Int) := by omega
            have q6 : (0 : Int) ≤ (at' : Int) + (i : Int) := by omega
            have q7 : IntKind.u64.wrap x = x := IntWalk.u64_in _ (by omega)
            have q8 : (i : Int) < (k : Int) := by omega
            have hxx : ((256 * v + x.toNat : Nat) : Int) = 256 * (v : Int) + x := by omega
            have HXX := Lib.hid hxx
            clear hnx hv1 hv2 hv3 e5 hxx
            go_wp2_with fail
            go_quiet (fail)
            go_wp2_with fail
            refine ⟨⟨i + 1, m + nq, by omega, ?_, by go_num, rfl⟩, by simp [intOf]; omega⟩
            rw [HNX.out, HXX.out]
          · obtain rfl : i = k := by omega
            have cb := HCE.out 0 (by omega)
            rw [Nat.add_zero] at cb
            have hx := byte_at hr8 0
            have hnd : r.drop i = bs.drop (at' + i) := by rw [hr, List.drop_drop]
            have hv9 : 256 ^ i ≤ 256 ^ 8 := Nat.pow_le_pow_right (by omega) (by omega)
            have e8 : (256 : Nat) ^ 8 = 18446744073709551616 := by decide
            have hba := HBA.out
            rw [if_neg h2] at hba
            generalize val (r.take i) = v at *
            generalize r.getD 0 0 = x at *
            have HBA2 := Lib.hid hba
            have q1 : IntKind.i64.wrap ((at' : Int) + (i : Int)) = (at' : Int) + (i : Int) := IntWalk.i64_in _ (by omega)
            have q2 : (at' : Int) < (n : Int) := by omega
            have q3 : (0 : Int) ≤ (at' : Int) := by omega
            have q5 : ¬ (i : Int) < (i : Int) := by omega
            have HND := Lib.hid hnd
            clear hba HBA hnd hv1 hv2 hv9 e8 HCE
            by_cases hx0 : x = 0
            · subst hx0
              go_wp2_with fail
              go_quiet (fail)
              go_wp2_with fail
              go_ret
              rw [HBA2.out, if_pos (by simp)]
              exact ⟨rfl, ⟨at', true, (HD.out.drewN _).set2 true, hat, fun _ => rfl, fun r h => by cases h⟩, only_set (only_drawn HG1.out _) 2 _⟩
            · have hx1 : (x == 0) = false := by simpa using hx0
              by_cases hv0 : v < 248
              · have hv1 : (v : Int) < 248 := by omega
                go_wp2_with fail
                go_quiet (fail)
                go_wp2_with fail
                · go_ret
                  rw [HBA2.out, if_pos (.inr hv0)]
                  exact ⟨rfl, ⟨at', true, (HD.out.drewN _).set2 true, hat, fun _ => rfl, fun r h => by cases h⟩, only_set (only_drawn HG1.out _) 2 _⟩
              · have hv1 : ¬ (v : Int) < 248 := by omega
                go_wp2_with fail
                go_quiet (fail)
                go_wp2_with fail
                · go_ret
                  rw [HBA2.out, if_neg (by omega)]
                  refine ⟨rfl, ⟨at' + i, false, ?_, by omega, (fun h => by cases h), fun r' h => ⟨rfl, by injection h with h; rw [← h]; exact HND.out⟩⟩, only_set (only_drawn HG1.out _) 1 _⟩
                  have h := (HD.out.drewN (m + nq)).set1 (at' + i)
                  rw [show ((at' + i : Nat) : Int) = (at' : Int) + (i : Int) by omega] at h
                  exact h

set_option maxRecDepth 100000 in
set_option maxHeartbeats 2000000 in
theorem refEnd_any (g : Nat) (a : Option Addr) (n cap : Nat) (bs : List Int) (s : Option (List Int)) (w : World) (hbl : bs.length = n) (hr : RefRd w g a n cap bs s) :
    Calls Try.prog 29 #[.pointer (some ⟨g, 0, none⟩)] w (fun e w' => e = .returned (.int .i64 (rdEnd s)) ∧ ∃ m, w' = w.drewN m) := by
  obtain ⟨at', bad, hd, hat, hnone, hsome⟩ := hr
  have c0 := hd.cell0
  have c1 := hd.cell1
  have c2 := hd.cell2
  clear hd
  go_enter Try.func29, Try.ntmps29
  cases s with
  | none =>
    obtain rfl := hnone rfl
    clear hnone hsome
    go_wp2_with fail
    go_ret
    exact ⟨rfl, 0, rfl⟩
  | some r =>
    obtain ⟨rfl, hr⟩ := hsome r rfl
    clear hnone hsome
    by_cases hlt : at' < n
    · have h1 : (at' : Int) < (n : Int) := by omega
      have e : rdEnd (some r) = 4 := by
        cases r with
        | nil => have := congrArg List.length hr; simp at this; omega
        | cons c t => rfl
      rw [e]
      go_wp2_with fail
      go_quiet (fail)
      go_wp2_with fail
      go_ret
      exact ⟨rfl, nq, rfl⟩
    · have h1 : ¬ (at' : Int) < (n : Int) := by omega
      have e : rdEnd (some r) = 0 := by rw [hr, List.drop_eq_nil_of_le (by omega)]; rfl
      rw [e]
      go_wp2_with fail
      go_quiet (fail)
      go_wp2_with fail
      go_ret
      exact ⟨rfl, nq, rfl⟩
end Go.Proofs.Ytagmeljjkblpbaa

/- The contract of the document's reader of bytes. -/
namespace Go.Proofs.Ytagmeljjkblpbaa
open Go.RowKit
set_option linter.unusedVariables false

theorem rdNum_lt {s : Option (List Int)} {r : List Int} (h : (rdNum s).2 = some r) (hb : ∀ r, s = some r → Bytes8 r) : (rdNum s).1 < 18446744073709551616 := by
  cases s with
  | none => simp [rdNum] at h
  | some l =>
    simp only [rdNum] at h ⊢
    split at h
    · cases h
    · rename_i v r' e
      exact getNum_lt (hb l rfl) e
def RefBytesPost (w : World) (g : Nat) (a : Option Addr) (n cap : Nat) (bs l : List Int) (s : Option (List Int)) (e : Ending) (w' : World) : Prop :=
  ∃ a2 c2, e = .returned (.slice a2 l.length c2) ∧ InBytes w' a2 l.length c2 l ∧ RefRd w' g a n cap bs s ∧ w.grownBy w' (some g)
theorem nil_in (w : World) : InBytes w none 0 0 [] := ⟨rfl, (fun z hz => by cases hz), Nat.le_refl _, by simp [maxLen], fun _ => rfl, (fun h => by omega)⟩

set_option maxRecDepth 100000 in
set_option maxHeartbeats 2000000 in
theorem refRdBytes_any (g : Nat) (a : Option Addr) (n cap : Nat) (bs : List Int) (s : Option (List Int)) (most : Int) (w : World) (hin : InBytes w a n cap bs) (hag : 0 < n → ∀ ad, a = some ad → ad.block ≠ g) (hr : RefRd w g a n cap bs s) (hb8 : ∀ r, s = some r → Bytes8 r) (hm1 : -9223372036854775808 ≤ most) (hm2 : most ≤ 9223372036854775807) (hn : n ≤ 140737488355328) :
    Calls Try.prog 41 #[.pointer (some ⟨g, 0, none⟩), .int .i64 most] w (RefBytesPost w g a n cap bs (rdBytes most s).1 (rdBytes most s).2) := by
  obtain ⟨i0, hi0, hz0, hz1, hz2⟩ := info_parts infoU8
  have hbl := hin.len
  have hle := hin.le
  have hmax := hin.max
  simp only [maxLen] at hmax
  have HIN := Lib.hid hin
  have HR := Lib.hid hr
  have HB8 := Lib.hid hb8
  clear hin hr hb8
  go_enter Try.func41, Try.ntmps41
  go_wp2_with fail
  refine (refRdNumber_any g a n cap bs s _ HIN.out hag HR.out HB8.out).mono ?_
  rintro _ w1 ⟨rfl, ⟨at', bad, hd, hat, hnone, hsome⟩, hg1⟩
  have hin1 := HIN.out.grownP hg1 (fun h0 ad h => by simp; exact hag h0 ad h)
  have c0 := hd.cell0
  have c1 := hd.cell1
  have c2 := hd.cell2
  have f1 := hd.frozen 1
  have f2 := hd.frozen 2
  have HD := Lib.hid hd
  have HIN1 := Lib.hid hin1
  have HG1 := Lib.hid hg1
  clear hd hin1 hg1
  cases hs : (rdNum s).2 with
  | none =>
    have e1 : rdBytes most s = ([], none) := by simp only [rdBytes, hs]
    obtain rfl := hnone hs
    clear hnone hsome
    generalize (rdNum s).1 = v at *
    have HE := Lib.hid e1
    clear hs e1
    go_wp2_with fail
    go_quiet (fail)
    go_wp2_with fail
    go_ret
    rw [HE.out]
    exact ⟨none, 0, rfl, nil_in _, ⟨at', true, (HD.out.drewN nq).set2 true, hat, fun _ => rfl, fun r h => by cases h⟩, only_set (only_drawn HG1.out nq) 2 _⟩
  | some r =>
    have hv := rdNum_lt hs HB8.out
    obtain ⟨rfl, hr⟩ := hsome r hs
    have e1 : rdBytes most s = if most < 0 ∨ most < ((rdNum s).1 : Int) ∨ r.length < (rdNum s).1 then ([], none) else (r.take (rdNum s).1, some (r.drop (rdNum s).1)) := by simp only [rdBytes, hs]
    generalize (rdNum s).1 = v at *
    have HE := Lib.hid e1
    have hrl : r.length = n - at' := by rw [hr, List.length_drop, hbl]
    clear hnone hsome hs e1
    have u1 : IntKind.u64.wrap ((n : Int) - (at' : Int)) = (n : Int) - (at' : Int) := IntWalk.u64_in _ (by omega)
    have u0 : IntKind.i64.wrap ((n : Int) - (at' : Int)) = (n : Int) - (at' : Int) := IntWalk.i64_in _ (by omega)
    by_cases h1 : most < 0
    · go_wp2_with fail
      go_quiet (fail)
      go_wp2_with fail
      go_ret
      rw [HE.out, if_pos (.inl h1)]
      exact ⟨none, 0, rfl, nil_in _, ⟨at', true, (HD.out.drewN nq).set2 true, hat, fun _ => rfl, fun r h => by cases h⟩, only_set (only_drawn HG1.out nq) 2 _⟩
    · have h1' : decide (most < 0) = false := by simpa using h1
      have u2 : IntKind.u64.wrap most = most := IntWalk.u64_in _ (by omega)
      by_cases h2 : most < (v : Int)
      · go_wp2_with fail
        go_quiet (fail)
        go_wp2_with fail
        go_ret
        rw [HE.out, if_pos (.inr (.inl h2))]
        exact ⟨none, 0, rfl, nil_in _, ⟨at', true, (HD.out.drewN nq).set2 true, hat, fun _ => rfl, fun r h => by cases h⟩, only_set (only_drawn HG1.out nq) 2 _⟩
      · have h2' : decide (most < (v : Int)) = false := by simpa using h2
        by_cases h3 : r.length < v
        · have h3' : (n : Int) - (at' : Int) < (v : Int) := by omega
          go_wp2_with fail
          go_quiet (fail)
          go_wp2_with fail
          go_ret
          rw [HE.out, if_pos (.inr (.inr h3))]
          exact ⟨none, 0, rfl, nil_in _, ⟨at', true, (HD.out.drewN nq).set2 true, hat, fun _ => rfl, fun r h => by cases h⟩, only_set (only_drawn HG1.out nq) 2 _⟩
        · have h3' : decide ((n : Int) - (at' : Int) < (v : Int)) = false := by simp; omega
          go_wp2_with fail
          go_quiet (fail)
          go_wp2_with fail
          have hvn : (v : Int) ≤ (n : Int) - (at' : Int) := by omega
          have u3 : IntKind.i64.wrap (v : Int) = (v : Int) := IntWalk.i64_in _ (by omega)
          have u4 : IntKind.i64.wrap ((at' : Int) + (v : Int)) = (at' : Int) + (v : Int) := IntWalk.i64_in _ (by omega)
          have u5 : (0 : Int) ≤ (at' : Int) := by omega
          have u6 : (at' : Int) ≤ (at' : Int) + (v : Int) := by omega
          have u7 : (at' : Int) + (v : Int) ≤ (cap : Int) := by omega
          have u8 : ((at' : Int) + (v : Int)).toNat = at' + v := by omega
          have u9 : at' + v - at' = v := by omega
          have HD2 : Hid (RD (w1.drewN nq) g a n cap at' false) := Lib.hid (HD.out.drewN nq)
          have HG2 : Hid (w.grownBy (w1.drewN nq) (some g)) := Lib.hid (only_drawn HG1.out nq)
          have hin2 : InBytes (w1.drewN nq) a n cap bs := HIN1.out.grown (only_drawn (only_refl _ none) nq) (fun _ _ => by simp)
          have HIN2 := Lib.hid hin2
          clear hin2
          generalize w1.drewN nq = w2 at *
          have d0 := HD2.out.cell0
          have d1 := HD2.out.cell1
          have g1 := HD2.out.frozen 1
          have m1 : g < w2.heap.size := HD2.out.lt
          have m2 : ¬ g = w2.heap.size := by omega
          clear c0 c1 c2 f1 f2
          go_region_law (first
            | (refine step_append_in rfl (.tmp 41) (.tmp 57) 22 rfl w2.heap.size 5 i0 _ 1 Try.underlying22 hi0 hz0 hz1 hz2 rfl (.slice (some ⟨w2.heap.size, 0, none⟩) 0 0) 0 [] rfl ?_ (if cap = at' then a else a.map (·.add at')) v (cap - at') ((bs.drop at').take v) rfl ?_ ?_ ?_ ?_ ?_
               · exact own_new w2 5 .u8 [] w2.heap.size (Nat.le_refl _) (by simp [maxLen])
               · exact ((HIN2.out.behind at' hat).upto v (by omega)).below ((Below.refl _ _).alloc (Nat.le_refl _) _).drew
               · simp only [maxLen]; omega
               · omega
               · simp
               intro v3 w3 hown3 hg3 hiff
               rw [List.nil_append, Nat.zero_add] at hown3
               obtain ⟨g3, c3, rfl⟩ := own_form hown3 (fun e => by have := (hiff.1 e).1; cases this)
               have HO3 := Lib.hid hown3
               have hgg : (w2.alloc (.cells #[] 5)).grownBy w3 (some w2.heap.size) := ⟨hg3.os, hg3.tape, hg3.output, hg3.size, hg3.block⟩
               have HD3 : Hid (RD w3 g a n cap at' false) := Lib.hid ((HD2.out.alloc _).grown hgg (by simp; omega))
               have hb3 : Below w2.heap.size w2 w3 := below_only ((Below.refl _ _).alloc (Nat.le_refl _) _) hgg (by simp) (Nat.le_refl _)
               have HB3 := Lib.hid hb3
               have e1 := HD3.out.cell1
               have y1 := HD3.out.frozen 1
               clear hown3 hg3 hiff hgg hb3
               generalize (if cap = at' then a else a.map (·.add at')) = sl))
          all_goals
            go_wp2_with fail
          all_goals
            go_ret
            rw [HE.out, if_neg (by omega)]
            have hl : (r.take v).length = v := by rw [List.length_take]; omega
            have hg3 := (HO3.out.lt g3 rfl).1
            refine ⟨some ⟨g3, 0, none⟩, c3, by rw [hl]; rfl, ?_, ⟨at' + v, false, ?_, by omega, (fun h => by cases h), fun r' h => ⟨rfl, ?_⟩⟩, ?_⟩
            · rw [hl, hr]
              exact InBytes.of_own (HO3.out.kept (only_set (only_refl w3 (some g)) 1 _) (.inr (by simp [Value.ownBlock]; omega))) (fun z hz => HIN2.out.bytes z (List.mem_of_mem_drop (List.mem_of_mem_take hz)))
            · have h := HD3.out.set1 (at' + v)
              rw [show ((at' + v : Nat) : Int) = (at' : Int) + (v : Int) by omega] at h
              exact h
            · injection h with h
              rw [← h, hr, List.drop_drop]
            · exact only_set (only_trans HG2.out (only_below HB3.out (some g))) 1 _
end Go.Proofs.Ytagmeljjkblpbaa

/- The contract of the document's bytes of a tree, and of its Write. -/
namespace Go.Proofs.Ytagmeljjkblpbaa
open Go.RowKit
set_option linter.unusedVariables false

theorem own_app2 {w : World} {base g n k c : Nat} {t : TypeId} {xs ys : List Int} (h : w.ownsRow base t 1 (.slice (some ⟨g, 0, none⟩) (n + k) c) (n + k) (xs.map (Value.int .u8) ++ ys.map (Value.int .u8))) :
    w.ownsRow base t 1 (.slice (some ⟨g, 0, none⟩) (n + k) c) (n + k) ((xs ++ ys).map (Value.int .u8)) := by
  rw [List.map_append]
  exact h
theorem codeT_bytes : ∀ (t : Tr) (h : TH) (w : World), InTree w h t → formedT t = true → Bytes8 (codeT t) := by
  intro t
  induction t using Tr.ind with
  | h t ih =>
  intro h w ht hf
  obtain ⟨hpb, hfk⟩ := formed_kids hf
  obtain ⟨H, hp⟩ := ht.parts
  have hl := part_lens80 hpb
  have k1 := bytL_bytes hp.key.bytes (by omega)
  have k2 := bytL_bytes hp.val.bytes (by omega)
  have k3 := bytL_bytes hp.dig.bytes (by have q1 := hp.dig.len; have q2 := hp.dig.le; have q3 := hp.dig.max; simp only [maxLen] at q3; omega)
  have hk := part_kids hpb
  rw [codeT_eq]
  intro z hz
  rw [List.mem_append] at hz
  rcases hz with hz | hz
  · unfold hdT at hz
    rw [List.mem_cons, List.mem_append, List.mem_append] at hz
    rcases hz with rfl | hz | hz | hz
    · omega
    · split at hz
      · exact k1 z hz
      · cases hz
    · split at hz
      · exact k2 z hz
      · cases hz
    · split at hz
      · exact k3 z hz
      · cases hz
  · rw [List.mem_flatten] at hz
    obtain ⟨l, hl, hzl⟩ := hz
    rw [List.mem_map] at hl
    obtain ⟨x, hx, rfl⟩ := hl
    obtain ⟨i, hi, rfl⟩ := List.mem_iff_getElem.1 hx
    exact ih _ hx (H i) w (hp.kids i hi) (hfk i hi) z hzl
/-- Bytes that are a row of one's own. -/
def Bytes10 (w : World) (bs : List Int) (e : Ending) (w' : World) : Prop := ∃ g m c, e = .returned (.slice (some ⟨g, 0, none⟩) m c) ∧ m = bs.length ∧ w'.ownsRow w.heap.size 5 1 (.slice (some ⟨g, 0, none⟩) m c) m (bs.map (Value.int .u8)) ∧ Below w.heap.size w w'

set_option maxRecDepth 100000 in
set_option maxHeartbeats 4000000 in
theorem refBytes10_any : ∀ (t : Tr) (h : TH) (w : World), InTree w h t → formedT t = true → longT t = false → countT t ≤ 500 → Calls Try.prog 22 #[h.v] w (Bytes10 w (codeT t)) := by
  intro t
  induction t using Tr.ind with
  | h t ih =>
  intro h w ht hf hlg hcn
  unfold TH.v
  obtain ⟨i0, hi0, hz0, hz1, hz2⟩ := info_parts infoU8
  obtain ⟨hpb, hfk⟩ := formed_kids hf
  obtain ⟨H, hp⟩ := ht.parts
  have hl := part_lens80 hpb
  have htl := hp.len
  have hkn : h.kn ≤ 80 := by rw [← hp.key.len]; exact hl.1
  have hvn : h.vn ≤ 1024 := by rw [← hp.val.len]; exact hl.2
  have hdn : h.dn ≤ 32 := by
    have q := hlg
    rw [longT_eq, Bool.or_eq_false_iff, decide_eq_false_iff_not] at q
    rw [← hp.dig.len]
    omega
  have htm := Nat.le_trans hp.sl.le hp.sl.max
  simp only [maxLen] at htm
  have bl9 : ∀ bs : List Int, bs.length ≤ 2000 → (bytL bs).length ≤ bs.length + 9 := fun bs hb => by
    have q := numL_le (v := bs.length) (by omega)
    unfold bytL
    rw [List.length_append]
    omega
  obtain ⟨blk, hlk⟩ : ∃ b, b = (bytL t.key).length := ⟨_, rfl⟩
  obtain ⟨blv, hlv⟩ : ∃ b, b = (bytL t.val).length := ⟨_, rfl⟩
  obtain ⟨bld, hld⟩ : ∃ b, b = (bytL t.dig).length := ⟨_, rfl⟩
  have hbk : blk ≤ 100 := by have q := bl9 t.key (by omega); omega
  have hbv : blv ≤ 1100 := by have q := bl9 t.val (by omega); omega
  have hbd : bld ≤ 100 := by have q := bl9 t.dig (by have := hp.dig.len; omega); have := hp.dig.len; omega
  have HLK := Lib.hid hlk
  have HLV := Lib.hid hlv
  have HLD := Lib.hid hld
  have HCL : Hid ((codeT t).length ≤ 600000) := Lib.hid (Nat.le_trans (codeT_len hf hlg) (by omega))
  have HCN := Lib.hid hcn
  have HLG := Lib.hid hlg
  have HFK := Lib.hid hfk
  have HP := Lib.hid hp
  have IH := Lib.hid ih
  have HKK := Lib.hid hp.hk
  have hkind : t.k = 0 ∨ t.k = 1 ∨ t.k = 2 ∨ t.k = 3 := by rcases part_kids hpb with ⟨-, q | q⟩ | ⟨-, q | q⟩ <;> omega
  have HX0 := Lib.hid (Box.new w 25 h)
  have HB0 : Hid (Below w.heap.size w (w.alloc (.cells #[.int .i64 h.k, .slice h.ka h.kn h.kc, .slice h.va h.vn h.vc, .slice h.da h.dn h.dc, .slice h.ta h.tn h.tc] 25))) := Lib.hid ((Below.refl _ _).alloc (Nat.le_refl _) _)
  clear hp ht ih hl hlk hlv hld hcn hlg hfk hf hpb bl9
  go_enter Try.func22, Try.ntmps22
  go_upto_region 1 with fail
  generalize (w.alloc (.cells #[.int .i64 h.k, .slice h.ka h.kn h.kc, .slice h.va h.vn h.vc, .slice h.da h.dn h.dc, .slice h.ta h.tn h.tc] 25)) = w0 at *
  obtain ⟨x0, x1, x2, x3, x4⟩ := HX0.out.cells
  rcases hkind with hk | hk | hk | hk
  · have HKT := Lib.hid hk
    clear hk
    have hk0 : h.k = 0 := HKK.out.trans HKT.out
    rw [hk0] at x0
    go_upto_region 2 with fail
    have hb1 : Below w0.heap.size w0 (w0.alloc (.cells #[.int .u8 0] 5)) := (Below.refl _ _).alloc (Nat.le_refl _) _
    have HR1 : Hid ((w0.alloc (.cells #[.int .u8 0] 5)).ownsRow (w.heap.size + 1) 5 1 (.slice (some ⟨w0.heap.size, 0, none⟩) 1 1) 1 (([0] : List Int).map (Value.int .u8))) := Lib.hid (own_new w0 5 .u8 [0] (w.heap.size + 1) HX0.out.lt (by simp [maxLen]))
    have HX1 := Lib.hid (HX0.out.below hb1 HX0.out.lt)
    have HB1 : Hid (Below w.heap.size w (w0.alloc (.cells #[.int .u8 0] 5))) := Lib.hid (HB0.out.trans (hb1.mono HB0.out.size))
    generalize (w0.alloc (.cells #[.int .u8 0] 5)) = w1 at *
    generalize w0.heap.size = g1 at *
    clear hb1 x0 x1 x2 x3 x4 HX0 HB0
    obtain ⟨x0, x1, x2, x3, x4⟩ := HX1.out.cells
    rw [hk0] at x0
    go_wp2_with fail
    clear x0 x1 x2 x3 x4 hk0
    have HTL := Lib.hid htl
    clear htl
    go_loopw [3, 4] (fun s3 s4 wx => ∃ (i g m c : Nat), i ≤ h.tn ∧ s3 = .slice (some ⟨g, 0, none⟩) m c ∧ s4 = .int .i64 i ∧ m = (accT t i).length ∧ wx.ownsRow (w.heap.size + 1) 5 1 (.slice (some ⟨g, 0, none⟩) m c) m ((accT t i).map (Value.int .u8)) ∧ Box wx 25 w.heap.size h ∧ Below w.heap.size w wx) (fun _ s4 _ => h.tn - (intOf s4).toNat)
    case atStart => exact ⟨0, g1, 1, 1, by omega, rfl, rfl, by rw [accT_zero, hdT_0 HKT.out]; rfl, by rw [accT_zero, hdT_0 HKT.out]; exact HR1.out, HX1.out, HB1.out⟩
    case round =>
      clear HR1 HX1 HB1
      obtain ⟨i, g, m, c, hi, rfl, rfl, hm, hrow, hbx, hbw⟩ := hrel
      have hx4 := hbx.cells.2.2.2.2
      have HM := Lib.hid hm
      have HR := Lib.hid hrow
      have HBX := Lib.hid hbx
      have HBW := Lib.hid hbw
      have hm6 : m ≤ 600000 := by have q1 := accT_len t i; have q2 := HCL.out; omega
      clear hrow hbx hbw hm
      by_cases hlt : i < h.tn
      · have q1 : (i : Int) < (h.tn : Int) := by omega
        obtain ⟨gq, off, hta, hg, hcs⟩ := (HP.out.below HBW.out).place (by omega)
        rw [hta] at hx4
        obtain ⟨k0, k1, k2, k3, k4⟩ := hcs i hlt
        have him : i < t.kids.length := by rw [HTL.out]; exact hlt
        have HQL : Hid ((codeT t.kids[i]).length ≤ 600000) := Lib.hid (by
          have q2 := accT_len t (i + 1)
          rw [accT_succ t i him, List.length_append] at q2
          have q3 := HCL.out
          omega)
        clear hcs hta
        go_upto_region 10 with (first
          | (go_at_call 22
             refine (IH.out _ (List.getElem_mem him) (H i) _ ((HP.out.below HBW.out).kids i him) (HFK.out i him) (long_kid HLG.out i him) (Nat.le_trans (count_kid t i him) HCN.out)).mono ?_
             rintro _ wa ⟨ga, ma, ca, rfl, hma, hoa, hba⟩
             have HMA := Lib.hid hma
             have hma6 : ma ≤ 600000 := by have q2 := HQL.out; omega
             have HOA := Lib.hid (own_in hoa (codeT_bytes t.kids[i] (H i) _ ((HP.out.below HBW.out).kids i him) (HFK.out i him)))
             have HRA := Lib.hid (own_keep HR.out hba)
             have HXA := Lib.hid (HBX.out.below hba HBX.out.lt)
             have HBA : Hid (Below w.heap.size w wa) := Lib.hid (HBW.out.trans (hba.mono HBW.out.size))
             clear hma hoa hba)
          | (at_builtin
             refine wpList_append_bytes' _ rfl (.tmp 45) (.tmp 51) 22 rfl (w.heap.size + 1) 5 i0 _ 1 Try.underlying22 hi0 hz0 hz1 hz2 rfl g m c ((accT t i).map (Value.int .u8)) rfl HRA.out (some ⟨ga, 0, none⟩) ma ca (codeT t.kids[i]) rfl HOA.out (by simp only [maxLen]; omega) (by omega) HXA.out.lt ?_
             intro gb cb wb hownb hgb
             have HRB := Lib.hid (own_app2 (xs := accT t i) (ys := codeT t.kids[i]) hownb)
             have HXB := Lib.hid (HXA.out.grown hgb (fun e => by injection e with e; have q1 := (HRA.out.lt g rfl).1; omega))
             have HBB : Hid (Below w.heap.size w wb) := Lib.hid (below_only HBA.out hgb HBA.out.size (Nat.le_of_succ_le (HRA.out.lt g rfl).1))
             clear hownb hgb))
        clear hx4 k0 k1 k2 k3 k4
        go_wp2_with fail
        exact ⟨⟨i + 1, gb, m + ma, cb, by omega, rfl, by go_num, by rw [accT_succ t i him, List.length_append, HM.out, HMA.out], by rw [accT_succ t i him]; exact HRB.out, HXB.out, HBB.out⟩, by simp [intOf]; omega⟩
      · obtain rfl : i = h.tn := by omega
        have q1 : ¬ (h.tn : Int) < (h.tn : Int) := by omega
        have e := accT_all t h.tn (Nat.le_of_eq HTL.out)
        have HE := Lib.hid e
        clear e
        go_wp2_with fail
        go_ret
        refine ⟨g, m, c, rfl, by rw [← HE.out]; exact HM.out, ?_, HBW.out⟩
        rw [← HE.out]
        exact own_weak HR.out (Nat.le_succ _)
  · have HKT := Lib.hid hk
    clear hk
    have hk0 : h.k = 1 := HKK.out.trans HKT.out
    rw [hk0] at x0
    go_upto_region 2 with fail
    have hb1 : Below w0.heap.size w0 (w0.alloc (.cells #[.int .u8 1] 5)) := (Below.refl _ _).alloc (Nat.le_refl _) _
    have HR1 : Hid ((w0.alloc (.cells #[.int .u8 1] 5)).ownsRow (w.heap.size + 1) 5 1 (.slice (some ⟨w0.heap.size, 0, none⟩) 1 1) 1 (([1] : List Int).map (Value.int .u8))) := Lib.hid (own_new w0 5 .u8 [1] (w.heap.size + 1) HX0.out.lt (by simp [maxLen]))
    have HX1 := Lib.hid (HX0.out.below hb1 HX0.out.lt)
    have HB1 : Hid (Below w.heap.size w (w0.alloc (.cells #[.int .u8 1] 5))) := Lib.hid (HB0.out.trans (hb1.mono HB0.out.size))
    generalize (w0.alloc (.cells #[.int .u8 1] 5)) = w1 at *
    generalize w0.heap.size = g1 at *
    clear hb1 x0 x1 x2 x3 x4 HX0 HB0
    obtain ⟨x0, x1, x2, x3, x4⟩ := HX1.out.cells
    rw [hk0] at x0
    go_wp2_with (first
      | (go_at_call 36
         (with_reducible refine (refBytes_any h.ka h.kn h.kc (t.key) _ ?_ (by omega)).mono ?_)
         · exact HP.out.key.below HB1.out
         rintro _ w2 ⟨g2, c2, rfl, ho2, hb2⟩
         rw [← HLK.out] at ho2 ⊢
         have HI2 := Lib.hid (InBytes.of_own ho2 (bytL_bytes HP.out.key.bytes (by have q1 := HP.out.key.len; omega)))
         have HR2 := Lib.hid (own_keep HR1.out hb2)
         have HX2 := Lib.hid (HX1.out.below hb2 HX1.out.lt)
         have HB2 : Hid (Below w.heap.size w w2) := Lib.hid (HB1.out.trans (hb2.mono HB1.out.size))
         clear ho2 hb2 x0 x1 x2 x3 x4
         obtain ⟨x0, x1, x2, x3, x4⟩ := HX2.out.cells
         rw [hk0] at x0)
      | (at_builtin
         refine wpList_append_bytes' _ rfl (.tmp 17) (.tmp 20) 22 rfl (w.heap.size + 1) 5 i0 _ 1 Try.underlying22 hi0 hz0 hz1 hz2 rfl g1 1 1 (([1]).map (Value.int .u8)) rfl HR2.out (some ⟨g2, 0, none⟩) blk c2 (bytL t.key) rfl HI2.out (by simp only [maxLen]; omega) (by omega) HX2.out.lt ?_
         intro g3 c3 w3 hown3 hg3
         have HR3 := Lib.hid (own_app2 (xs := [1]) (ys := bytL t.key) hown3)
         have HX3 := Lib.hid (HX2.out.grown hg3 (fun e => by injection e with e; have q1 := (HR2.out.lt g1 rfl).1; omega))
         have HB3 : Hid (Below w.heap.size w w3) := Lib.hid (below_only HB2.out hg3 HB2.out.size (Nat.le_of_succ_le (HR2.out.lt g1 rfl).1))
         clear hown3 hg3 x0 x1 x2 x3 x4
         obtain ⟨x0, x1, x2, x3, x4⟩ := HX3.out.cells
         rw [hk0] at x0)
      | (go_at_call 36
         (with_reducible refine (refBytes_any h.va h.vn h.vc (t.val) _ ?_ (by omega)).mono ?_)
         · exact HP.out.val.below HB3.out
         rintro _ w4 ⟨g4, c4, rfl, ho4, hb4⟩
         rw [← HLV.out] at ho4 ⊢
         have HI4 := Lib.hid (InBytes.of_own ho4 (bytL_bytes HP.out.val.bytes (by have q1 := HP.out.val.len; omega)))
         have HR4 := Lib.hid (own_keep HR3.out hb4)
         have HX4 := Lib.hid (HX3.out.below hb4 HX3.out.lt)
         have HB4 : Hid (Below w.heap.size w w4) := Lib.hid (HB3.out.trans (hb4.mono HB3.out.size))
         clear ho4 hb4 x0 x1 x2 x3 x4
         obtain ⟨x0, x1, x2, x3, x4⟩ := HX4.out.cells
         rw [hk0] at x0)
      | (at_builtin
         refine wpList_append_bytes' _ rfl (.tmp 25) (.tmp 28) 22 rfl (w.heap.size + 1) 5 i0 _ 1 Try.underlying22 hi0 hz0 hz1 hz2 rfl g3 (1 + blk) c3 (([1] ++ bytL t.key).map (Value.int .u8)) rfl HR4.out (some ⟨g4, 0, none⟩) blv c4 (bytL t.val) rfl HI4.out (by simp only [maxLen]; omega) (by omega) HX4.out.lt ?_
         intro g5 c5 w5 hown5 hg5
         have HR5 := Lib.hid (own_app2 (xs := [1] ++ bytL t.key) (ys := bytL t.val) hown5)
         have HX5 := Lib.hid (HX4.out.grown hg5 (fun e => by injection e with e; have q1 := (HR4.out.lt g3 rfl).1; omega))
         have HB5 : Hid (Below w.heap.size w w5) := Lib.hid (below_only HB4.out hg5 HB4.out.size (Nat.le_of_succ_le (HR4.out.lt g3 rfl).1))
         clear hown5 hg5 x0 x1 x2 x3 x4
         obtain ⟨x0, x1, x2, x3, x4⟩ := HX5.out.cells
         rw [hk0] at x0))
    clear x0 x1 x2 x3 x4 hk0
    have HTL := Lib.hid htl
    clear htl
    go_loopw [3, 4] (fun s3 s4 wx => ∃ (i g m c : Nat), i ≤ h.tn ∧ s3 = .slice (some ⟨g, 0, none⟩) m c ∧ s4 = .int .i64 i ∧ m = (accT t i).length ∧ wx.ownsRow (w.heap.size + 1) 5 1 (.slice (some ⟨g, 0, none⟩) m c) m ((accT t i).map (Value.int .u8)) ∧ Box wx 25 w.heap.size h ∧ Below w.heap.size w wx) (fun _ s4 _ => h.tn - (intOf s4).toNat)
    case atStart => exact ⟨0, g5, ((1 + blk) + blv), c5, by omega, rfl, rfl, by rw [accT_zero, hdT_1 HKT.out]; simp only [List.length_append, List.length_cons, List.length_nil, ← HLK.out, ← HLV.out], by rw [accT_zero, hdT_1 HKT.out]; exact HR5.out, HX5.out, HB5.out⟩
    case round =>
      clear HR5 HX5 HB5
      obtain ⟨i, g, m, c, hi, rfl, rfl, hm, hrow, hbx, hbw⟩ := hrel
      have hx4 := hbx.cells.2.2.2.2
      have HM := Lib.hid hm
      have HR := Lib.hid hrow
      have HBX := Lib.hid hbx
      have HBW := Lib.hid hbw
      have hm6 : m ≤ 600000 := by have q1 := accT_len t i; have q2 := HCL.out; omega
      clear hrow hbx hbw hm
      by_cases hlt : i < h.tn
      · have q1 : (i : Int) < (h.tn : Int) := by omega
        obtain ⟨gq, off, hta, hg, hcs⟩ := (HP.out.below HBW.out).place (by omega)
        rw [hta] at hx4
        obtain ⟨k0, k1, k2, k3, k4⟩ := hcs i hlt
        have him : i < t.kids.length := by rw [HTL.out]; exact hlt
        have HQL : Hid ((codeT t.kids[i]).length ≤ 600000) := Lib.hid (by
          have q2 := accT_len t (i + 1)
          rw [accT_succ t i him, List.length_append] at q2
          have q3 := HCL.out
          omega)
        clear hcs hta
        go_upto_region 10 with (first
          | (go_at_call 22
             refine (IH.out _ (List.getElem_mem him) (H i) _ ((HP.out.below HBW.out).kids i him) (HFK.out i him) (long_kid HLG.out i him) (Nat.le_trans (count_kid t i him) HCN.out)).mono ?_
             rintro _ wa ⟨ga, ma, ca, rfl, hma, hoa, hba⟩
             have HMA := Lib.hid hma
             have hma6 : ma ≤ 600000 := by have q2 := HQL.out; omega
             have HOA := Lib.hid (own_in hoa (codeT_bytes t.kids[i] (H i) _ ((HP.out.below HBW.out).kids i him) (HFK.out i him)))
             have HRA := Lib.hid (own_keep HR.out hba)
             have HXA := Lib.hid (HBX.out.below hba HBX.out.lt)
             have HBA : Hid (Below w.heap.size w wa) := Lib.hid (HBW.out.trans (hba.mono HBW.out.size))
             clear hma hoa hba)
          | (at_builtin
             refine wpList_append_bytes' _ rfl (.tmp 45) (.tmp 51) 22 rfl (w.heap.size + 1) 5 i0 _ 1 Try.underlying22 hi0 hz0 hz1 hz2 rfl g m c ((accT t i).map (Value.int .u8)) rfl HRA.out (some ⟨ga, 0, none⟩) ma ca (codeT t.kids[i]) rfl HOA.out (by simp only [maxLen]; omega) (by omega) HXA.out.lt ?_
             intro gb cb wb hownb hgb
             have HRB := Lib.hid (own_app2 (xs := accT t i) (ys := codeT t.kids[i]) hownb)
             have HXB := Lib.hid (HXA.out.grown hgb (fun e => by injection e with e; have q1 := (HRA.out.lt g rfl).1; omega))
             have HBB : Hid (Below w.heap.size w wb) := Lib.hid (below_only HBA.out hgb HBA.out.size (Nat.le_of_succ_le (HRA.out.lt g rfl).1))
             clear hownb hgb))
        clear hx4 k0 k1 k2 k3 k4
        go_wp2_with fail
        exact ⟨⟨i + 1, gb, m + ma, cb, by omega, rfl, by go_num, by rw [accT_succ t i him, List.length_append, HM.out, HMA.out], by rw [accT_succ t i him]; exact HRB.out, HXB.out, HBB.out⟩, by simp [intOf]; omega⟩
      · obtain rfl : i = h.tn := by omega
        have q1 : ¬ (h.tn : Int) < (h.tn : Int) := by omega
        have e := accT_all t h.tn (Nat.le_of_eq HTL.out)
        have HE := Lib.hid e
        clear e
        go_wp2_with fail
        go_ret
        refine ⟨g, m, c, rfl, by rw [← HE.out]; exact HM.out, ?_, HBW.out⟩
        rw [← HE.out]
        exact own_weak HR.out (Nat.le_succ _)
  · have HKT := Lib.hid hk
    clear hk
    have hk0 : h.k = 2 := HKK.out.trans HKT.out
    rw [hk0] at x0
    go_upto_region 2 with fail
    have hb1 : Below w0.heap.size w0 (w0.alloc (.cells #[.int .u8 2] 5)) := (Below.refl _ _).alloc (Nat.le_refl _) _
    have HR1 : Hid ((w0.alloc (.cells #[.int .u8 2] 5)).ownsRow (w.heap.size + 1) 5 1 (.slice (some ⟨w0.heap.size, 0, none⟩) 1 1) 1 (([2] : List Int).map (Value.int .u8))) := Lib.hid (own_new w0 5 .u8 [2] (w.heap.size + 1) HX0.out.lt (by simp [maxLen]))
    have HX1 := Lib.hid (HX0.out.below hb1 HX0.out.lt)
    have HB1 : Hid (Below w.heap.size w (w0.alloc (.cells #[.int .u8 2] 5))) := Lib.hid (HB0.out.trans (hb1.mono HB0.out.size))
    generalize (w0.alloc (.cells #[.int .u8 2] 5)) = w1 at *
    generalize w0.heap.size = g1 at *
    clear hb1 x0 x1 x2 x3 x4 HX0 HB0
    obtain ⟨x0, x1, x2, x3, x4⟩ := HX1.out.cells
    rw [hk0] at x0
    go_wp2_with (first
      | (go_at_call 36
         (with_reducible refine (refBytes_any h.ka h.kn h.kc (t.key) _ ?_ (by omega)).mono ?_)
         · exact HP.out.key.below HB1.out
         rintro _ w2 ⟨g2, c2, rfl, ho2, hb2⟩
         rw [← HLK.out] at ho2 ⊢
         have HI2 := Lib.hid (InBytes.of_own ho2 (bytL_bytes HP.out.key.bytes (by have q1 := HP.out.key.len; omega)))
         have HR2 := Lib.hid (own_keep HR1.out hb2)
         have HX2 := Lib.hid (HX1.out.below hb2 HX1.out.lt)
         have HB2 : Hid (Below w.heap.size w w2) := Lib.hid (HB1.out.trans (hb2.mono HB1.out.size))
         clear ho2 hb2 x0 x1 x2 x3 x4
         obtain ⟨x0, x1, x2, x3, x4⟩ := HX2.out.cells
         rw [hk0] at x0)
      | (at_builtin
         refine wpList_append_bytes' _ rfl (.tmp 17) (.tmp 20) 22 rfl (w.heap.size + 1) 5 i0 _ 1 Try.underlying22 hi0 hz0 hz1 hz2 rfl g1 1 1 (([2]).map (Value.int .u8)) rfl HR2.out (some ⟨g2, 0, none⟩) blk c2 (bytL t.key) rfl HI2.out (by simp only [maxLen]; omega) (by omega) HX2.out.lt ?_
         intro g3 c3 w3 hown3 hg3
         have HR3 := Lib.hid (own_app2 (xs := [2]) (ys := bytL t.key) hown3)
         have HX3 := Lib.hid (HX2.out.grown hg3 (fun e => by injection e with e; have q1 := (HR2.out.lt g1 rfl).1; omega))
         have HB3 : Hid (Below w.heap.size w w3) := Lib.hid (below_only HB2.out hg3 HB2.out.size (Nat.le_of_succ_le (HR2.out.lt g1 rfl).1))
         clear hown3 hg3 x0 x1 x2 x3 x4
         obtain ⟨x0, x1, x2, x3, x4⟩ := HX3.out.cells
         rw [hk0] at x0)
      | (go_at_call 36
         (with_reducible refine (refBytes_any h.da h.dn h.dc (t.dig) _ ?_ (by omega)).mono ?_)
         · exact HP.out.dig.below HB3.out
         rintro _ w4 ⟨g4, c4, rfl, ho4, hb4⟩
         rw [← HLD.out] at ho4 ⊢
         have HI4 := Lib.hid (InBytes.of_own ho4 (bytL_bytes HP.out.dig.bytes (by have q1 := HP.out.dig.len; omega)))
         have HR4 := Lib.hid (own_keep HR3.out hb4)
         have HX4 := Lib.hid (HX3.out.below hb4 HX3.out.lt)
         have HB4 : Hid (Below w.heap.size w w4) := Lib.hid (HB3.out.trans (hb4.mono HB3.out.size))
         clear ho4 hb4 x0 x1 x2 x3 x4
         obtain ⟨x0, x1, x2, x3, x4⟩ := HX4.out.cells
         rw [hk0] at x0)
      | (at_builtin
         refine wpList_append_bytes' _ rfl (.tmp 33) (.tmp 36) 22 rfl (w.heap.size + 1) 5 i0 _ 1 Try.underlying22 hi0 hz0 hz1 hz2 rfl g3 (1 + blk) c3 (([2] ++ bytL t.key).map (Value.int .u8)) rfl HR4.out (some ⟨g4, 0, none⟩) bld c4 (bytL t.dig) rfl HI4.out (by simp only [maxLen]; omega) (by omega) HX4.out.lt ?_
         intro g5 c5 w5 hown5 hg5
         have HR5 := Lib.hid (own_app2 (xs := [2] ++ bytL t.key) (ys := bytL t.dig) hown5)
         have HX5 := Lib.hid (HX4.out.grown hg5 (fun e => by injection e with e; have q1 := (HR4.out.lt g3 rfl).1; omega))
         have HB5 : Hid (Below w.heap.size w w5) := Lib.hid (below_only HB4.out hg5 HB4.out.size (Nat.le_of_succ_le (HR4.out.lt g3 rfl).1))
         clear hown5 hg5 x0 x1 x2 x3 x4
         obtain ⟨x0, x1, x2, x3, x4⟩ := HX5.out.cells
         rw [hk0] at x0))
    clear x0 x1 x2 x3 x4 hk0
    have HTL := Lib.hid htl
    clear htl
    go_loopw [3, 4] (fun s3 s4 wx => ∃ (i g m c : Nat), i ≤ h.tn ∧ s3 = .slice (some ⟨g, 0, none⟩) m c ∧ s4 = .int .i64 i ∧ m = (accT t i).length ∧ wx.ownsRow (w.heap.size + 1) 5 1 (.slice (some ⟨g, 0, none⟩) m c) m ((accT t i).map (Value.int .u8)) ∧ Box wx 25 w.heap.size h ∧ Below w.heap.size w wx) (fun _ s4 _ => h.tn - (intOf s4).toNat)
    case atStart => exact ⟨0, g5, ((1 + blk) + bld), c5, by omega, rfl, rfl, by rw [accT_zero, hdT_2 HKT.out]; simp only [List.length_append, List.length_cons, List.length_nil, ← HLK.out, ← HLD.out], by rw [accT_zero, hdT_2 HKT.out]; exact HR5.out, HX5.out, HB5.out⟩
    case round =>
      clear HR5 HX5 HB5
      obtain ⟨i, g, m, c, hi, rfl, rfl, hm, hrow, hbx, hbw⟩ := hrel
      have hx4 := hbx.cells.2.2.2.2
      have HM := Lib.hid hm
      have HR := Lib.hid hrow
      have HBX := Lib.hid hbx
      have HBW := Lib.hid hbw
      have hm6 : m ≤ 600000 := by have q1 := accT_len t i; have q2 := HCL.out; omega
      clear hrow hbx hbw hm
      by_cases hlt : i < h.tn
      · have q1 : (i : Int) < (h.tn : Int) := by omega
        obtain ⟨gq, off, hta, hg, hcs⟩ := (HP.out.below HBW.out).place (by omega)
        rw [hta] at hx4
        obtain ⟨k0, k1, k2, k3, k4⟩ := hcs i hlt
        have him : i < t.kids.length := by rw [HTL.out]; exact hlt
        have HQL : Hid ((codeT t.kids[i]).length ≤ 600000) := Lib.hid (by
          have q2 := accT_len t (i + 1)
          rw [accT_succ t i him, List.length_append] at q2
          have q3 := HCL.out
          omega)
        clear hcs hta
        go_upto_region 10 with (first
          | (go_at_call 22
             refine (IH.out _ (List.getElem_mem him) (H i) _ ((HP.out.below HBW.out).kids i him) (HFK.out i him) (long_kid HLG.out i him) (Nat.le_trans (count_kid t i him) HCN.out)).mono ?_
             rintro _ wa ⟨ga, ma, ca, rfl, hma, hoa, hba⟩
             have HMA := Lib.hid hma
             have hma6 : ma ≤ 600000 := by have q2 := HQL.out; omega
             have HOA := Lib.hid (own_in hoa (codeT_bytes t.kids[i] (H i) _ ((HP.out.below HBW.out).kids i him) (HFK.out i him)))
             have HRA := Lib.hid (own_keep HR.out hba)
             have HXA := Lib.hid (HBX.out.below hba HBX.out.lt)
             have HBA : Hid (Below w.heap.size w wa) := Lib.hid (HBW.out.trans (hba.mono HBW.out.size))
             clear hma hoa hba)
          | (at_builtin
             refine wpList_append_bytes' _ rfl (.tmp 45) (.tmp 51) 22 rfl (w.heap.size + 1) 5 i0 _ 1 Try.underlying22 hi0 hz0 hz1 hz2 rfl g m c ((accT t i).map (Value.int .u8)) rfl HRA.out (some ⟨ga, 0, none⟩) ma ca (codeT t.kids[i]) rfl HOA.out (by simp only [maxLen]; omega) (by omega) HXA.out.lt ?_
             intro gb cb wb hownb hgb
             have HRB := Lib.hid (own_app2 (xs := accT t i) (ys := codeT t.kids[i]) hownb)
             have HXB := Lib.hid (HXA.out.grown hgb (fun e => by injection e with e; have q1 := (HRA.out.lt g rfl).1; omega))
             have HBB : Hid (Below w.heap.size w wb) := Lib.hid (below_only HBA.out hgb HBA.out.size (Nat.le_of_succ_le (HRA.out.lt g rfl).1))
             clear hownb hgb))
        clear hx4 k0 k1 k2 k3 k4
        go_wp2_with fail
        exact ⟨⟨i + 1, gb, m + ma, cb, by omega, rfl, by go_num, by rw [accT_succ t i him, List.length_append, HM.out, HMA.out], by rw [accT_succ t i him]; exact HRB.out, HXB.out, HBB.out⟩, by simp [intOf]; omega⟩
      · obtain rfl : i = h.tn := by omega
        have q1 : ¬ (h.tn : Int) < (h.tn : Int) := by omega
        have e := accT_all t h.tn (Nat.le_of_eq HTL.out)
        have HE := Lib.hid e
        clear e
        go_wp2_with fail
        go_ret
        refine ⟨g, m, c, rfl, by rw [← HE.out]; exact HM.out, ?_, HBW.out⟩
        rw [← HE.out]
        exact own_weak HR.out (Nat.le_succ _)
  · have HKT := Lib.hid hk
    clear hk
    have hk0 : h.k = 3 := HKK.out.trans HKT.out
    rw [hk0] at x0
    go_upto_region 2 with fail
    have hb1 : Below w0.heap.size w0 (w0.alloc (.cells #[.int .u8 3] 5)) := (Below.refl _ _).alloc (Nat.le_refl _) _
    have HR1 : Hid ((w0.alloc (.cells #[.int .u8 3] 5)).ownsRow (w.heap.size + 1) 5 1 (.slice (some ⟨w0.heap.size, 0, none⟩) 1 1) 1 (([3] : List Int).map (Value.int .u8))) := Lib.hid (own_new w0 5 .u8 [3] (w.heap.size + 1) HX0.out.lt (by simp [maxLen]))
    have HX1 := Lib.hid (HX0.out.below hb1 HX0.out.lt)
    have HB1 : Hid (Below w.heap.size w (w0.alloc (.cells #[.int .u8 3] 5))) := Lib.hid (HB0.out.trans (hb1.mono HB0.out.size))
    generalize (w0.alloc (.cells #[.int .u8 3] 5)) = w1 at *
    generalize w0.heap.size = g1 at *
    clear hb1 x0 x1 x2 x3 x4 HX0 HB0
    obtain ⟨x0, x1, x2, x3, x4⟩ := HX1.out.cells
    rw [hk0] at x0
    go_wp2_with (first
      | (go_at_call 36
         (with_reducible refine (refBytes_any h.da h.dn h.dc (t.dig) _ ?_ (by omega)).mono ?_)
         · exact HP.out.dig.below HB1.out
         rintro _ w2 ⟨g2, c2, rfl, ho2, hb2⟩
         rw [← HLD.out] at ho2 ⊢
         have HI2 := Lib.hid (InBytes.of_own ho2 (bytL_bytes HP.out.dig.bytes (by have q1 := HP.out.dig.len; omega)))
         have HR2 := Lib.hid (own_keep HR1.out hb2)
         have HX2 := Lib.hid (HX1.out.below hb2 HX1.out.lt)
         have HB2 : Hid (Below w.heap.size w w2) := Lib.hid (HB1.out.trans (hb2.mono HB1.out.size))
         clear ho2 hb2 x0 x1 x2 x3 x4
         obtain ⟨x0, x1, x2, x3, x4⟩ := HX2.out.cells
         rw [hk0] at x0)
      | (at_builtin
         refine wpList_append_bytes' _ rfl (.tmp 33) (.tmp 36) 22 rfl (w.heap.size + 1) 5 i0 _ 1 Try.underlying22 hi0 hz0 hz1 hz2 rfl g1 1 1 (([3]).map (Value.int .u8)) rfl HR2.out (some ⟨g2, 0, none⟩) bld c2 (bytL t.dig) rfl HI2.out (by simp only [maxLen]; omega) (by omega) HX2.out.lt ?_
         intro g3 c3 w3 hown3 hg3
         have HR3 := Lib.hid (own_app2 (xs := [3]) (ys := bytL t.dig) hown3)
         have HX3 := Lib.hid (HX2.out.grown hg3 (fun e => by injection e with e; have q1 := (HR2.out.lt g1 rfl).1; omega))
         have HB3 : Hid (Below w.heap.size w w3) := Lib.hid (below_only HB2.out hg3 HB2.out.size (Nat.le_of_succ_le (HR2.out.lt g1 rfl).1))
         clear hown3 hg3 x0 x1 x2 x3 x4
         obtain ⟨x0, x1, x2, x3, x4⟩ := HX3.out.cells
         rw [hk0] at x0))
    clear x0 x1 x2 x3 x4 hk0
    have HTL := Lib.hid htl
    clear htl
    go_loopw [3, 4] (fun s3 s4 wx => ∃ (i g m c : Nat), i ≤ h.tn ∧ s3 = .slice (some ⟨g, 0, none⟩) m c ∧ s4 = .int .i64 i ∧ m = (accT t i).length ∧ wx.ownsRow (w.heap.size + 1) 5 1 (.slice (some ⟨g, 0, none⟩) m c) m ((accT t i).map (Value.int .u8)) ∧ Box wx 25 w.heap.size h ∧ Below w.heap.size w wx) (fun _ s4 _ => h.tn - (intOf s4).toNat)
    case atStart => exact ⟨0, g3, (1 + bld), c3, by omega, rfl, rfl, by rw [accT_zero, hdT_3 HKT.out]; simp only [List.length_append, List.length_cons, List.length_nil, ← HLD.out], by rw [accT_zero, hdT_3 HKT.out]; exact HR3.out, HX3.out, HB3.out⟩
    case round =>
      clear HR3 HX3 HB3
      obtain ⟨i, g, m, c, hi, rfl, rfl, hm, hrow, hbx, hbw⟩ := hrel
      have hx4 := hbx.cells.2.2.2.2
      have HM := Lib.hid hm
      have HR := Lib.hid hrow
      have HBX := Lib.hid hbx
      have HBW := Lib.hid hbw
      have hm6 : m ≤ 600000 := by have q1 := accT_len t i; have q2 := HCL.out; omega
      clear hrow hbx hbw hm
      by_cases hlt : i < h.tn
      · have q1 : (i : Int) < (h.tn : Int) := by omega
        obtain ⟨gq, off, hta, hg, hcs⟩ := (HP.out.below HBW.out).place (by omega)
        rw [hta] at hx4
        obtain ⟨k0, k1, k2, k3, k4⟩ := hcs i hlt
        have him : i < t.kids.length := by rw [HTL.out]; exact hlt
        have HQL : Hid ((codeT t.kids[i]).length ≤ 600000) := Lib.hid (by
          have q2 := accT_len t (i + 1)
          rw [accT_succ t i him, List.length_append] at q2
          have q3 := HCL.out
          omega)
        clear hcs hta
        go_upto_region 10 with (first
          | (go_at_call 22
             refine (IH.out _ (List.getElem_mem him) (H i) _ ((HP.out.below HBW.out).kids i him) (HFK.out i him) (long_kid HLG.out i him) (Nat.le_trans (count_kid t i him) HCN.out)).mono ?_
             rintro _ wa ⟨ga, ma, ca, rfl, hma, hoa, hba⟩
             have HMA := Lib.hid hma
             have hma6 : ma ≤ 600000 := by have q2 := HQL.out; omega
             have HOA := Lib.hid (own_in hoa (codeT_bytes t.kids[i] (H i) _ ((HP.out.below HBW.out).kids i him) (HFK.out i him)))
             have HRA := Lib.hid (own_keep HR.out hba)
             have HXA := Lib.hid (HBX.out.below hba HBX.out.lt)
             have HBA : Hid (Below w.heap.size w wa) := Lib.hid (HBW.out.trans (hba.mono HBW.out.size))
             clear hma hoa hba)
          | (at_builtin
             refine wpList_append_bytes' _ rfl (.tmp 45) (.tmp 51) 22 rfl (w.heap.size + 1) 5 i0 _ 1 Try.underlying22 hi0 hz0 hz1 hz2 rfl g m c ((accT t i).map (Value.int .u8)) rfl HRA.out (some ⟨ga, 0, none⟩) ma ca (codeT t.kids[i]) rfl HOA.out (by simp only [maxLen]; omega) (by omega) HXA.out.lt ?_
             intro gb cb wb hownb hgb
             have HRB := Lib.hid (own_app2 (xs := accT t i) (ys := codeT t.kids[i]) hownb)
             have HXB := Lib.hid (HXA.out.grown hgb (fun e => by injection e with e; have q1 := (HRA.out.lt g rfl).1; omega))
             have HBB : Hid (Below w.heap.size w wb) := Lib.hid (below_only HBA.out hgb HBA.out.size (Nat.le_of_succ_le (HRA.out.lt g rfl).1))
             clear hownb hgb))
        clear hx4 k0 k1 k2 k3 k4
        go_wp2_with fail
        exact ⟨⟨i + 1, gb, m + ma, cb, by omega, rfl, by go_num, by rw [accT_succ t i him, List.length_append, HM.out, HMA.out], by rw [accT_succ t i him]; exact HRB.out, HXB.out, HBB.out⟩, by simp [intOf]; omega⟩
      · obtain rfl : i = h.tn := by omega
        have q1 : ¬ (h.tn : Int) < (h.tn : Int) := by omega
        have e := accT_all t h.tn (Nat.le_of_eq HTL.out)
        have HE := Lib.hid e
        clear e
        go_wp2_with fail
        go_ret
        refine ⟨g, m, c, rfl, by rw [← HE.out]; exact HM.out, ?_, HBW.out⟩
        rw [← HE.out]
        exact own_weak HR.out (Nat.le_succ _)
end Go.Proofs.Ytagmeljjkblpbaa

/- The contract of the program's Write of trees. -/
namespace Go.Proofs.Ytagmeljjkblpbaa
open Go.RowKit
set_option linter.unusedVariables false

set_option maxRecDepth 100000 in
set_option maxHeartbeats 4000000 in
theorem cwrite_any (t : Tr) (h : TH) (w : World) (ht : InTree w h t) (hcn : countT t ≤ 6000) : Calls Try.prog 9 #[h.v] w (WriteTold w (writeX t)) := by
  unfold TH.v
  have HT := Lib.hid ht
  have HCN := Lib.hid hcn
  have HX0 := Lib.hid (Box.new w 25 h)
  have HB0 : Hid (Below w.heap.size w (w.alloc (.cells #[.int .i64 h.k, .slice h.ka h.kn h.kc, .slice h.va h.vn h.vc, .slice h.da h.dn h.dc, .slice h.ta h.tn h.tc] 25))) := Lib.hid ((Below.refl _ _).alloc (Nat.le_refl _) _)
  clear ht hcn
  go_enter Try.func9, Try.ntmps9
  go_upto_region 1 with fail
  generalize (w.alloc (.cells #[.int .i64 h.k, .slice h.ka h.kn h.kc, .slice h.va h.vn h.vc, .slice h.da h.dn h.dc, .slice h.ta h.tn h.tc] 25)) = w0 at *
  obtain ⟨x0, x1, x2, x3, x4⟩ := HX0.out.cells
  by_cases hck : checkT t = 0
  · have HCK := Lib.hid hck
    have HF := Lib.hid (check_zero hck).1
    clear hck
    cases hlg : longT t with
    | true =>
      have HLG := Lib.hid hlg
      clear hlg
      go_wp2_with (first
        | (go_at_call 17
           refine (check_any t h _ (HT.out.lower HB0.out)).mono ?_
           rintro _ w1 ⟨rfl, hb1⟩
           have HX1 := Lib.hid (HX0.out.below hb1 HX0.out.lt)
           have HB1 : Hid (Below w.heap.size w w1) := Lib.hid (HB0.out.trans (hb1.mono HB0.out.size))
           have hcv : codeV (checkT t) = .nilIface := by rw [HCK.out]; rfl
           rw [hcv]
           clear hcv
           obtain ⟨y0, y1, y2, y3, y4⟩ := HX1.out.cells
           clear hb1 x0 x1 x2 x3 x4)
        | (go_at_call 18
           refine (hasLong_any t h _ (HT.out.lower HB1.out)).mono ?_
           rintro _ w2 ⟨rfl, hb2⟩
           rw [HLG.out]
           have HX2 := Lib.hid (HX1.out.below hb2 HX1.out.lt)
           have HB2 : Hid (Below w.heap.size w w2) := Lib.hid (HB1.out.trans (hb2.mono HB1.out.size))
           clear hb2 y0 y1 y2 y3 y4
           obtain ⟨x0, x1, x2, x3, x4⟩ := HX2.out.cells))
      go_ret2
      have e : writeX t = (2, []) := by unfold writeX; rw [if_neg (by rw [HCK.out]; decide), HLG.out]; rfl
      rw [e]
      exact ⟨none, 0, 0, rfl, FreshB.none _ _ _, HB2.out⟩
    | false =>
      have HLG := Lib.hid hlg
      clear hlg
      go_wp2_with (first
        | (go_at_call 17
           refine (check_any t h _ (HT.out.lower HB0.out)).mono ?_
           rintro _ w1 ⟨rfl, hb1⟩
           have HX1 := Lib.hid (HX0.out.below hb1 HX0.out.lt)
           have HB1 : Hid (Below w.heap.size w w1) := Lib.hid (HB0.out.trans (hb1.mono HB0.out.size))
           have hcv : codeV (checkT t) = .nilIface := by rw [HCK.out]; rfl
           rw [hcv]
           clear hcv
           obtain ⟨y0, y1, y2, y3, y4⟩ := HX1.out.cells
           clear hb1 x0 x1 x2 x3 x4)
        | (go_at_call 18
           refine (hasLong_any t h _ (HT.out.lower HB1.out)).mono ?_
           rintro _ w2 ⟨rfl, hb2⟩
           rw [HLG.out]
           have HX2 := Lib.hid (HX1.out.below hb2 HX1.out.lt)
           have HB2 : Hid (Below w.heap.size w w2) := Lib.hid (HB1.out.trans (hb2.mono HB1.out.size))
           clear hb2 y0 y1 y2 y3 y4
           obtain ⟨x0, x1, x2, x3, x4⟩ := HX2.out.cells)
        | (go_at_call 19
           refine (appended_any w2 t h w2 (.slice none 0 0) 0 [] (HT.out.lower HB2.out) HF.out HLG.out ?_ (Below.refl _ _) ⟨rfl, .inl ⟨rfl, rfl⟩⟩).mono ?_
           · have q1 := codeT_len HF.out HLG.out
             have q2 := HCN.out
             simp only [List.length_nil]
             omega
           rintro _ w3 ⟨g, n, c, rfl, hl, ho, hk⟩
           have HL := Lib.hid hl
           have HO := Lib.hid ho
           have HK := Lib.hid hk
           clear hl ho hk))
      go_ret2
      have e : writeX t = (0, codeT t) := by
        obtain ⟨p, rfl⟩ := PT.of t HF.out
        unfold writeX
        rw [if_neg (by rw [HCK.out]; decide), HLG.out, if_neg (by decide), codeT_tr, toP_tr]
      rw [e]
      have ho := HO.out
      rw [List.nil_append] at ho
      have q := ho.lt g rfl
      have hs := HB2.out.size
      refine ⟨_, _, _, rfl, FreshB.of (InBytes.of_own ho (codeT_bytes t h _ (HT.out.lower HB2.out) HF.out)) (fun y hy => ?_), HB2.out.grown HK.out.grown hs (fun j hj => by cases hj)⟩
      injection hy with hy
      subst hy
      exact ⟨Nat.le_trans hs q.1, q.2⟩
  · have HCK := Lib.hid hck
    clear hck
    go_wp2_with (first
      | (go_at_call 17
         refine (check_any t h _ (HT.out.lower HB0.out)).mono ?_
         rintro _ w1 ⟨rfl, hb1⟩
         have HX1 := Lib.hid (HX0.out.below hb1 HX0.out.lt)
         have HB1 : Hid (Below w.heap.size w w1) := Lib.hid (HB0.out.trans (hb1.mono HB0.out.size))
         rw [codeV_pos HCK.out]
         clear hb1 x0 x1 x2 x3 x4))
    go_ret2
    have e : writeX t = (checkT t, []) := by unfold writeX; rw [if_pos HCK.out]
    rw [e]
    exact ⟨none, 0, 0, by rw [codeV_pos HCK.out]; rfl, FreshB.none _ _ _, HB1.out⟩
end Go.Proofs.Ytagmeljjkblpbaa

/- What is written into a reader leaves bytes and trees as they are; the tree that stands next, as a reader's state tells it. -/
namespace Go.Proofs.Ytagmeljjkblpbaa
open Go.RowKit
set_option linter.unusedVariables false

theorem RD.noBytes {W : World} {g n c at' off : Nat} {a : Option Addr} {bad : Bool} {zs : List Int} (hd : RD W g a n c at' bad) (hs : Seg .u8 W g off zs) (h0 : 0 < zs.length) : False := by
  have h1 := hs 0 h0
  rw [cell_of_row W g (off + 0) _ _ (0, 0) hd] at h1
  rcases (by omega : off = 0 ∨ off = 1 ∨ off = 2 ∨ 3 ≤ off) with rfl | rfl | rfl | h5
  · simp at h1
  · simp at h1
  · simp at h1
  · rw [Array.getElem?_eq_none (by simp; omega)] at h1
    cases h1
theorem InBytes.outRD {W W' : World} {g rn rc at' : Nat} {ra a : Option Addr} {bad : Bool} {n c : Nat} {zs : List Int} (h : InBytes W a n c zs) (hd : RD W g ra rn rc at' bad) (hg : W.grownBy W' (some g)) : InBytes W' a n c zs :=
  ⟨h.len, h.bytes, h.le, h.max, h.nil, fun h0 => by
    obtain ⟨g', off, e, hlt, hc⟩ := h.place h0
    have hne : some g' ≠ some g := fun q => by
      injection q with q
      subst q
      exact hd.noBytes hc (by rw [h.len]; exact h0)
    exact ⟨g', off, e, Nat.lt_of_lt_of_le hlt hg.size, hc.keep fun o => World.cell?_of_block (a := ⟨g', o, none⟩) (hg.block g' hlt hne)⟩⟩
theorem InTree.outRD {W W' : World} {g rn rc at' : Nat} {ra : Option Addr} {bad : Bool} (hd : RD W g ra rn rc at' bad) (hg : W.grownBy W' (some g)) : ∀ (t : Tr) (h : TH), InTree W h t → InTree W' h t := by
  intro t
  induction t using Tr.ind with
  | h t ih =>
  intro h ht
  obtain ⟨H, hp2⟩ := ht.parts
  refine .mk h _ H hp2.hk hp2.hk1 hp2.hk2 (hp2.key.outRD hd hg) (hp2.val.outRD hd hg) (hp2.dig.outRD hd hg) ⟨hp2.sl.le, hp2.sl.max, hp2.sl.nil, fun q => ?_⟩ hp2.len (fun i hi => ih _ (List.getElem_mem hi) (H i) (hp2.kids i hi))
  obtain ⟨g', off, e, hlt, hc⟩ := hp2.sl.place q
  have hne : some g' ≠ some g := fun q => by
    injection q with q
    subst q
    have h4 := hc 4 (by omega)
    rw [cell_of_row W g' (off + 4) _ _ (0, 0) hd, Array.getElem?_eq_none (by simp)] at h4
    cases h4
  exact ⟨g', off, e, Nat.lt_of_lt_of_le hlt hg.size, fun i hi => (World.cell?_of_block (a := ⟨g', off + i, none⟩) (hg.block g' hlt hne)).trans (hc i hi)⟩

/-- The tree that stands next in a reader's state. -/
def rdP (n : Nat) (s : Option (List Int)) : Option (PT × List Int) := s.bind (readP n)
/-- What is left of the state. -/
def rdPs (n : Nat) (s : Option (List Int)) : Option (List Int) := (rdP n s).map (·.2)
theorem rdByte_none {s : Option (List Int)} (h : (rdByte s).2 = none) (n : Nat) : rdP n s = none := by
  cases s with
  | none => rfl
  | some r => cases r with
    | nil => cases n <;> rfl
    | cons c l => cases h
theorem rdP_0 (n : Nat) (l : List Int) : rdP n (some (0 :: l)) = some (.nil, l) := by cases n <;> rfl
theorem rdP_3 (n : Nat) (l : List Int) : rdP n (some (3 :: l)) = (rdBytes 32 (some l)).2.map fun r => (.cut (rdBytes 32 (some l)).1, r) := by
  have e : rdP n (some (3 :: l)) = (takeBy 32 l).map fun x => (.cut x.1, x.2) := by cases n <;> rfl
  rw [e]
  unfold takeBy
  rcases hb : rdBytes 32 (some l) with ⟨b, _ | r⟩ <;> rfl
theorem rdP_big (n : Nat) {c : Int} (l : List Int) (h : 3 < c) : rdP n (some (c :: l)) = none := by
  show readP n (c :: l) = none
  cases n with
  | zero => rw [readP, if_neg (by omega), if_neg (by omega)]
  | succ n => rw [readP, if_neg (by omega), if_neg (by omega)]; exact if_neg (by omega)
theorem rdP_deep {c : Int} (l : List Int) (h : c = 1 ∨ c = 2) : rdP 0 (some (c :: l)) = none := by
  show readP 0 (c :: l) = none
  rw [readP, if_neg (by omega), if_neg (by omega)]
/-- A node: its key, its value or digest, its subtrees. -/
theorem rdP_node (n : Nat) {c : Int} (l : List Int) (h : c = 1 ∨ c = 2) :
    rdP (n + 1) (some (c :: l)) =
      let k := rdBytes 80 (some l)
      let z := rdBytes (if c = 1 then 1024 else 32) k.2
      (rdP n z.2).bind fun a => (rdP n (some a.2)).map fun b => (if c = 1 then .shown a.1 k.1 z.1 b.1 else .dark a.1 k.1 z.1 b.1, b.2) := by
  show readP (n + 1) (c :: l) = _
  have hn : ∀ m : Int, rdBytes m none = ([], none) := fun m => by simp [rdBytes, rdNum]
  rw [readP, if_neg (by omega), if_neg (by omega)]
  simp only [if_pos h]
  unfold takeBy
  rcases hk : rdBytes 80 (some l) with ⟨k, _ | s1⟩
  · simp only [hn]
    rfl
  · simp only
    rcases hz : rdBytes (if c = 1 then 1024 else 32) (some s1) with ⟨z, _ | s2⟩
    · rfl
    · simp only [rdP, Option.bind_some]
      cases readP n s2 with
      | none => rfl
      | some a =>
        obtain ⟨a, s3⟩ := a
        simp only [Option.bind_some]
        cases readP n s3 with
        | none => rfl
        | some b => rfl
end Go.Proofs.Ytagmeljjkblpbaa

/- Boxes of trees, results that are trees, strings of bytes: the types alone are named. -/
namespace Go.Proofs.Ytagmeljjkblpbaa
open Go.RowKit
set_option linter.unusedVariables false

theorem infoTree2 : (Try.prog.info? 25).map (fun i => (i.zero, i.size, i.bytes)) = some (some (.agg #[.int .i64 0, .slice none 0 0, .slice none 0 0, .slice none 0 0, .slice none 0 0]), 5, 104) := by kernel_rfl
theorem infoTree5 : (Try.prog.info? 25).map (·.size) = some 5 := by kernel_rfl
/-- It answers a full tree; what was there stays. -/
def Tells (w : World) (a : AT) (e : Ending) (w' : World) : Prop := ∃ h', e = .returned h'.v ∧ InTree w' h' a.tr ∧ Below w.heap.size w w'
theorem result_tree {P : Program} {fn : Func} {p : Tmp} {ty : TypeId} (h : fn.results = #[.cell p ty]) (tmps : Array Value) {w : World} {g : Nat} {t : TypeId} {hh : TH} {fs : Array Field} (hx : Box w t g hh)
    (hp : tmps.getD p undef = .pointer (some ⟨g, 0, none⟩)) (hu : P.underlying ty = some (.struct fs)) (hi : (P.info? ty).map (·.size) = some 5) : (results fn tmps).run P w = .ok hh.v w := by
  have hp' : tmps[p]?.getD undef = .pointer (some ⟨g, 0, none⟩) := by simpa using hp
  have hl := run_loadVar_row (P := P) w g t ty _ _ (.struct fs) hx hu rfl (by simpa using hi)
  simp [results, h, hp', asAddr, hl, TH.v]

/-- A tree's box, and the tree. -/
structure BW (w W : World) (h : TH) (t : Tr) : Prop where
  box : Box W 25 w.heap.size h
  ti : InTree W h t
  b : Below w.heap.size w W
theorem BW.below {w W W' : World} {h : TH} {t : Tr} (d : BW w W h t) (hb : Below W.heap.size W W') : BW w W' h t := ⟨d.box.below hb d.box.lt, d.ti.lower hb, d.b.trans (hb.mono d.b.size)⟩
theorem BW.new (w : World) {h : TH} {t : Tr} (ht : InTree w h t) : BW w (w.alloc (.cells #[.int .i64 h.k, .slice h.ka h.kn h.kc, .slice h.va h.vn h.vc, .slice h.da h.dn h.dc, .slice h.ta h.tn h.tc] 25)) h t := ⟨Box.new w _ h, ht.lower ((Below.refl _ _).alloc (Nat.le_refl _) _), (Below.refl _ _).alloc (Nat.le_refl _) _⟩
/-- What lies there while a tree is turned: its box, the result's box, the kid's box. -/
structure RX (w W : World) (h hk : TH) : Prop where
  box : Box W 25 w.heap.size h
  res : Box W 25 (w.heap.size + 1) hZ
  kb : Box W 25 (w.heap.size + 2) hk
  b : Below w.heap.size w W
/-- A tree's box, the result's box, and the tree. -/
structure LX (w W : World) (h : TH) (t : Tr) : Prop where
  box : Box W 25 w.heap.size h
  res : Box W 25 (w.heap.size + 1) hZ
  ti : InTree W h t
  b : Below w.heap.size w W
theorem conv_key {w : World} {a : Option Addr} {n cap : Nat} {bs : List Int} (h : InBytes w a n cap bs) :
    (convert 22 9 (.slice a n cap)).run Try.prog w = .ok (.string (strOfNums bs)) w :=
  conv_in (P := Try.prog) h 22 5 9 Try.underlying22 Try.underlying5 Try.underlying9
end Go.Proofs.Ytagmeljjkblpbaa

/- The boxes and the reader of the document's read of layer 10. -/
namespace Go.Proofs.Ytagmeljjkblpbaa
open Go.RowKit
set_option linter.unusedVariables false

section
variable {w w' : World} {ty : TypeId} {g : Nat} {h : TH}
theorem Box.frozen (hx : Box w ty g h) (i : Nat) : w.frozen? ⟨g, i, none⟩ = false := by
  unfold Box at hx
  simp [World.frozen?, hx]
theorem Box.set1 (hx : Box w ty g h) (a : Option Addr) (n c : Nat) : Box (w.setCell ⟨g, 1, none⟩ (.slice a n c)) ty g { h with ka := a, kn := n, kc := c } := by
  unfold Box at hx ⊢
  simp [World.setCell, Array.getElem?_modify, hx]
theorem Box.set2 (hx : Box w ty g h) (a : Option Addr) (n c : Nat) : Box (w.setCell ⟨g, 2, none⟩ (.slice a n c)) ty g { h with va := a, vn := n, vc := c } := by
  unfold Box at hx ⊢
  simp [World.setCell, Array.getElem?_modify, hx]
theorem Box.set3 (hx : Box w ty g h) (a : Option Addr) (n c : Nat) : Box (w.setCell ⟨g, 3, none⟩ (.slice a n c)) ty g { h with da := a, dn := n, dc := c } := by
  unfold Box at hx ⊢
  simp [World.setCell, Array.getElem?_modify, hx]
theorem Box.set4 (hx : Box w ty g h) (a : Option Addr) (n c : Nat) : Box (w.setCell ⟨g, 4, none⟩ (.slice a n c)) ty g { h with ta := a, tn := n, tc := c } := by
  unfold Box at hx ⊢
  simp [World.setCell, Array.getElem?_modify, hx]
end
/-- What read of the document answers: a tree, if one stands next. -/
def Rd10 (w : World) (g : Nat) (a : Option Addr) (n c : Nat) (bs : List Int) (o : Option (PT × List Int)) (e : Ending) (w' : World) : Prop :=
  ∃ h' : TH, e = .returned h'.v ∧ RefRd w' g a n c bs (o.map (·.2)) ∧ w.grownBy w' (some g) ∧ ∀ p r, o = some (p, r) → InTree w' h' p.tr
/-- The result's box, the tree's box and the reader, in a call of read. -/
structure RS (w W : World) (g : Nat) (a : Option Addr) (n c : Nat) (bs : List Int) (s : Option (List Int)) (hk : TH) (B : Nat) : Prop where
  res : Box W 25 w.heap.size hZ
  tb : Box W 25 B hk
  lt : w.heap.size < B
  gl : g < w.heap.size
  rd : RefRd W g a n c bs s
  inb : InBytes W a n c bs
  ag : 0 < n → ∀ ad, a = some ad → ad.block ≠ g
  up : w.grownBy W (some g)
section
variable {w W W' : World} {g n c B : Nat} {a : Option Addr} {bs : List Int} {s s' : Option (List Int)} {hk hk' : TH}
theorem RS.rdr (x : RS w W g a n c bs s hk B) (hg : W.grownBy W' (some g)) (hr : RefRd W' g a n c bs s') : RS w W' g a n c bs s' hk B :=
  have q1 := x.gl
  have q2 := x.lt
  ⟨x.res.grown hg (fun e => by injection e; omega), x.tb.grown hg (fun e => by injection e; omega), x.lt, x.gl, hr, x.inb.grownP hg (fun h0 ad h => by simp; exact x.ag h0 ad h), x.ag, only_trans x.up hg⟩
theorem up_new (hu : w.grownBy W (some g)) {G : Nat} (hg : W.grownBy W' (some G)) (hG : w.heap.size ≤ G) : w.grownBy W' (some g) :=
  have q0 := hu.size
  ⟨hg.os.trans hu.os, hg.tape.trans hu.tape, hg.output.trans hu.output, Nat.le_trans hu.size hg.size, fun j hj hne => (hg.block j (by omega) (fun e => by injection e; omega)).trans (hu.block j hj hne)⟩
theorem RS.wr (x : RS w W g a n c bs s hk B) (hg : W.grownBy W' (some B)) (hb : Box W' 25 B hk') : RS w W' g a n c bs s hk' B :=
  have q1 := x.gl
  have q2 := x.lt
  ⟨x.res.grown hg (fun e => by injection e; omega), hb, x.lt, x.gl, x.rd.grown hg (fun e => by injection e; omega), x.inb.outBox x.tb hg, x.ag, up_new x.up hg (by omega)⟩
theorem RS.b8 (x : RS w W g a n c bs s hk B) : ∀ r, s = some r → Bytes8 r := fun r e => by
  obtain ⟨at', bad, -, -, -, h3⟩ := x.rd
  rw [(h3 r e).2]
  exact fun z hz => x.inb.bytes z (List.mem_of_mem_drop hz)
/-- A new block. -/
theorem RS.alloc (x : RS w W g a n c bs s hk B) (o : Obj) : RS w (W.alloc o) g a n c bs s hk B :=
  have b1 : Below W.heap.size W (W.alloc o) := (Below.refl _ _).alloc (Nat.le_refl _) _
  ⟨x.res.below b1 x.res.lt, x.tb.below b1 x.tb.lt, x.lt, x.gl, x.rd.grown (only_below b1 none) (fun e => by cases e), x.inb.below b1, x.ag, only_trans x.up (only_below b1 _)⟩
/-- What a reader's call leaves as it is. -/
theorem RS.keepB (x : RS w W g a n c bs s hk B) (hg : W.grownBy W' (some g)) {ka : Option Addr} {kn kc : Nat} {zs : List Int} (h : InBytes W ka kn kc zs) : InBytes W' ka kn kc zs := by
  obtain ⟨at', bad, hd, -⟩ := x.rd
  exact h.outRD hd hg
theorem RS.keepT (x : RS w W g a n c bs s hk B) (hg : W.grownBy W' (some g)) {t : Tr} {ht : TH} (h : InTree W ht t) : InTree W' ht t := by
  obtain ⟨at', bad, hd, -⟩ := x.rd
  exact InTree.outRD hd hg t ht h
/-- The result's box is written last. -/
theorem RS.ret (x : RS w W g a n c bs s hk B) (hg : W.grownBy W' (some w.heap.size)) : RefRd W' g a n c bs s ∧ w.grownBy W' (some g) :=
  ⟨x.rd.grown hg (fun e => by have q1 := x.gl; injection e; omega), up_new x.up hg (Nat.le_refl _)⟩
theorem RS.enter {w0 w1 : World} (h0 : w0 = w.alloc (.cells #[.int .i64 hZ.k, .slice hZ.ka hZ.kn hZ.kc, .slice hZ.va hZ.vn hZ.vc, .slice hZ.da hZ.dn hZ.dc, .slice hZ.ta hZ.tn hZ.tc] 25)) (gl : g < w.heap.size) (ag : 0 < n → ∀ ad, a = some ad → ad.block ≠ g) (hin : InBytes w0 a n c bs) (hg : w0.grownBy w1 (some g)) (hr : RefRd w1 g a n c bs s) (hk : TH) :
    RS w (w1.alloc (.cells #[.int .i64 hk.k, .slice hk.ka hk.kn hk.kc, .slice hk.va hk.vn hk.vc, .slice hk.da hk.dn hk.dc, .slice hk.ta hk.tn hk.tc] 25)) g a n c bs s hk w1.heap.size := by
  have x0 : Box w0 25 w.heap.size hZ := by rw [h0]; exact Box.new w 25 hZ
  have b0 : Below w.heap.size w w0 := by rw [h0]; exact (Below.refl _ _).alloc (Nat.le_refl _) _
  have b1 : Below w1.heap.size w1 (w1.alloc (.cells #[.int .i64 hk.k, .slice hk.ka hk.kn hk.kc, .slice hk.va hk.vn hk.vc, .slice hk.da hk.dn hk.dc, .slice hk.ta hk.tn hk.tc] 25)) := (Below.refl _ _).alloc (Nat.le_refl _) _
  have q1 := x0.lt
  have q2 := hg.size
  have x1 := x0.grown hg (fun e => by injection e; omega)
  exact ⟨x1.below b1 x1.lt, Box.new w1 25 hk, by omega, gl, hr.grown (only_below b1 none) (fun e => by cases e), (hin.grownP hg (fun h0 ad h => by simp; exact ag h0 ad h)).below b1, ag, only_trans (only_trans (only_below b0 _) hg) (only_below b1 _)⟩
theorem RS.drew (x : RS w W g a n c bs s hk B) : RS w W.drew g a n c bs s hk B :=
  ⟨x.res, x.tb, x.lt, x.gl, x.rd.grown (row := none) ⟨rfl, rfl, rfl, Nat.le_refl _, fun _ _ _ => rfl⟩ (fun e => by cases e), x.inb.below (Below.refl _ _).drew, x.ag, ⟨x.up.os, x.up.tape, x.up.output, x.up.size, x.up.block⟩⟩
end
theorem rdP_formed {n : Nat} {s : Option (List Int)} {p : PT} {r : List Int} (hb : ∀ r, s = some r → Bytes8 r) (h : rdP n s = some (p, r)) : formedT p.tr = true := by
  cases s with
  | none => cases h
  | some l => exact (fits_formed p (read_inv n l p r (hb l rfl) h).2.1).1
/-- A node's row of two, its key, and what stands behind it. -/
structure NX (W : World) (G : Nat) (hl hr : TH) (ka : Option Addr) (kn kc : Nat) (key : List Int) (za : Option Addr) (zn zc : Nat) (z : List Int) (o1 o2 : Option (PT × List Int)) : Prop where
  two : Two5 W 25 G hl hr
  key : InBytes W ka kn kc key
  z : InBytes W za zn zc z
  tl : ∀ p r, o1 = some (p, r) → formedT p.tr = true ∧ InTree W hl p.tr
  tr : ∀ p r, o2 = some (p, r) → formedT p.tr = true ∧ InTree W hr p.tr
theorem NX.out {W W' : World} {G : Nat} {hl hr : TH} {ka za : Option Addr} {kn kc zn zc : Nat} {key z : List Int} {o1 o2 : Option (PT × List Int)} {X : Nat} {h0 : TH} (x : NX W G hl hr ka kn kc key za zn zc z o1 o2) (hb : Box W 25 X h0) (hg : W.grownBy W' (some X)) (hne : X < G) : NX W' G hl hr ka kn kc key za zn zc z o1 o2 :=
  ⟨(hg.block G x.two.lt (fun e => by injection e; omega)).trans x.two, x.key.outBox hb hg, x.z.outBox hb hg, fun p r e => ⟨(x.tl p r e).1, InTree.outBox hb hg _ _ (x.tl p r e).1 (x.tl p r e).2⟩, fun p r e => ⟨(x.tr p r e).1, InTree.outBox hb hg _ _ (x.tr p r e).1 (x.tr p r e).2⟩⟩
/-- What is left behind two subtrees. -/
theorem node_left {d : Nat} {o1 : Option (PT × List Int)} (f : PT → PT → PT) : ((o1.bind fun x => (rdP d (some x.2)).map fun y => (f x.1 y.1, y.2)).map (·.2)) = (rdP d (o1.map (·.2))).map (·.2) := by
  cases o1 with
  | none => rfl
  | some x =>
    show ((rdP d (some x.2)).map fun y => (f x.1 y.1, y.2)).map (·.2) = (rdP d (some x.2)).map (·.2)
    cases rdP d (some x.2) <;> rfl
theorem node_some {d : Nat} {o1 : Option (PT × List Int)} {f : PT → PT → PT} {p : PT} {r : List Int} (h : (o1.bind fun x => (rdP d (some x.2)).map fun y => (f x.1 y.1, y.2)) = some (p, r)) : ∃ p1 r1 p2, o1 = some (p1, r1) ∧ rdP d (o1.map (·.2)) = some (p2, r) ∧ p = f p1 p2 := by
  cases o1 with
  | none => cases h
  | some x =>
    obtain ⟨p1, r1⟩ := x
    have h' : ((rdP d (some r1)).map fun y => (f p1 y.1, y.2)) = some (p, r) := h
    cases hq : rdP d (some r1) with
    | none => rw [hq] at h'; cases h'
    | some y =>
      rw [hq] at h'
      obtain ⟨p2, r2⟩ := y
      injection h' with h'
      injection h' with e1 e2
      subst e1 e2
      exact ⟨p1, r1, p2, rfl, hq, rfl⟩
end Go.Proofs.Ytagmeljjkblpbaa

/- What the statements ask of errors: which Code one is. -/
namespace Go.Proofs.Ytagmeljjkblpbaa
open Go.RowKit
set_option linter.unusedVariables false

set_option maxRecDepth 100000 in
set_option maxHeartbeats 1000000 in
theorem code_any (k : Nat) (hk : k ≤ 13) (w : World) :
    Calls Try.prog 11 #[codeV k] w (fun e w' => e = .returned (.int .i64 k) ∧ ∃ m, w' = w.drewN m) := by
  have hq := eql_code
  unfold codeV
  go_enter Try.func11, Try.ntmps11
  by_cases h0 : k = 0
  · subst h0
    rw [if_pos rfl]
    go_wp2_with fail
    go_ret
    exact ⟨rfl, 0, rfl⟩
  · rw [if_neg h0]
    go_wp2_with fail
    go_loopw [3] (fun c wx => ∃ j : Nat, 1 ≤ j ∧ j ≤ k ∧ c = .int .i64 j ∧ wx = w) (fun c _ => 14 - (intOf c).toNat)
    case atStart => exact ⟨1, by omega, by omega, rfl, rfl⟩
    case round =>
      obtain ⟨j, hj1, hjk, rfl, rfl⟩ := hrel
      have h13 : (j : Int) ≤ 13 := by omega
      by_cases he : j = k
      · subst he
        have hb : ((j : Int) == (j : Int)) = true := by simp
        go_wp2_with fail
        go_ret
        exact ⟨rfl, 0, rfl⟩
      · have hb : ((k : Int) == (j : Int)) = false := by simp; omega
        go_wp2_with fail
        exact ⟨⟨j + 1, by omega, by omega, by go_num, trivial⟩, by simp [intOf]; omega⟩
end Go.Proofs.Ytagmeljjkblpbaa

/- The contract of bytes.Clone. -/
namespace Go.Proofs.Ytagmeljjkblpbaa
open Go.RowKit
set_option linter.unusedVariables false

/-- A slice of new memory, or nil, that holds the bytes bs. -/
def NewBytes (w : World) (bs : List Int) (e : Ending) (w' : World) : Prop :=
  ∃ a2 c2, e = .returned (.slice a2 bs.length c2) ∧ InBytes w' a2 bs.length c2 bs ∧ (∀ ad, a2 = some ad → w.heap.size ≤ ad.block ∧ ad.block < w'.heap.size) ∧ Below w.heap.size w w'
set_option maxRecDepth 100000 in
set_option maxHeartbeats 2000000 in
theorem clone_any (a : Option Addr) (n cap : Nat) (bs : List Int) (w : World) (hin : InBytes w a n cap bs) (hn : n ≤ 140737488355328) :
    Calls Try.prog 37 #[.slice a n cap] w (NewBytes w bs) := by
  obtain ⟨i0, hi0, hz0, hz1, hz2⟩ := info_parts infoU8
  have hq : ∀ (w : World) (a : Option Addr) (n c n' c' : Nat), (binOp .eql 22 (.slice a n c) (.slice none n' c')).run Try.prog w = .ok (.bool a.isNone) w := fun w a n c n' c' => Lib.run_eql_slice_nil w _ _ a n c n' c' Try.underlying22
  have HIN := Lib.hid hin
  clear hin
  go_enter Try.func37, Try.ntmps37
  cases a with
  | none =>
    have hc := HIN.out.nil rfl
    have hk : n = 0 := by have := HIN.out.le; omega
    subst hc
    subst hk
    have hr : bs = [] := List.eq_nil_of_length_eq_zero HIN.out.len
    subst hr
    have e : (none : Option Addr).isNone = true := rfl
    go_wp2_with fail
    go_ret
    exact ⟨none, 0, rfl, none_in _, (fun ad h => by cases h), Below.refl _ _⟩
  | some ad =>
    have e : (some ad : Option Addr).isNone = false := rfl
    have hl := HIN.out.len
    go_wp2_with (first
      | (at_builtin
         refine wpList_append_bytes' _ rfl (.tmp 5) (.tmp 6) 22 rfl w.heap.size 5 i0 _ 1 Try.underlying22 hi0 hz0 hz1 hz2 rfl w.heap.size 0 0 [] rfl (own_new w 5 .u8 [] w.heap.size (Nat.le_refl _) (by simp [maxLen])) (some ad) n cap bs rfl (HIN.out.below ((Below.refl _ _).alloc (Nat.le_refl _) _)) (by simp only [maxLen]; omega) (by omega) (by simp) ?_
         intro g1 c1 w1 hown1 hg1
         have HO1 := Lib.hid hown1
         have HB1 : Hid (Below w.heap.size w w1) := Lib.hid (below_only ((Below.refl _ _).alloc (Nat.le_refl _) _) hg1 (by simp) (Nat.le_refl _))
         clear hown1 hg1))
    go_ret
    have ho := HO1.out
    rw [List.nil_append, Nat.zero_add] at ho
    refine ⟨some ⟨g1, 0, none⟩, c1, by rw [hl]; rfl, by rw [hl]; exact InBytes.of_own ho HIN.out.bytes, fun ad h => ?_, HB1.out⟩
    injection h with h
    rw [← h]
    exact ho.lt g1 rfl
end Go.Proofs.Ytagmeljjkblpbaa

/- The contracts of the program's reader: fail, Byte, Number, End. -/
namespace Go.Proofs.Ytagmeljjkblpbaa
open Go.RowKit
set_option linter.unusedVariables false

/-- The program's reader, as it lies at block g. -/
def PD (w : World) (g : Nat) (a : Option Addr) (n cap : Nat) (bad : Bool) : Prop :=
  w.heap[g]? = some (.cells #[.slice a n cap, .bool bad] 66 (0, 0))
section
variable {w w' : World} {g : Nat} {a : Option Addr} {n cap : Nat} {bad : Bool}
theorem PD.lt (h : PD w g a n cap bad) : g < w.heap.size := by
  rcases Nat.lt_or_ge g w.heap.size with hlt | hge
  · exact hlt
  · unfold PD at h; rw [Array.getElem?_eq_none hge] at h; cases h
theorem PD.cell0 (h : PD w g a n cap bad) : w.cell? ⟨g, 0, none⟩ = some (.slice a n cap) := by
  have := cell_of_row w g 0 _ _ _ h; rw [this]; rfl
theorem PD.cell1 (h : PD w g a n cap bad) : w.cell? ⟨g, 1, none⟩ = some (.bool bad) := by
  have := cell_of_row w g 1 _ _ _ h; rw [this]; rfl
theorem PD.frozen (h : PD w g a n cap bad) (i : Nat) : w.frozen? ⟨g, i, none⟩ = false := by
  unfold PD at h
  simp [World.frozen?, h]
theorem PD.set0 (h : PD w g a n cap bad) (a' : Option Addr) (n' cap' : Nat) : PD (w.setCell ⟨g, 0, none⟩ (.slice a' n' cap')) g a' n' cap' bad := by
  unfold PD at h ⊢
  simp [World.setCell, Array.getElem?_modify, h]
theorem PD.set1 (h : PD w g a n cap bad) (b : Bool) : PD (w.setCell ⟨g, 1, none⟩ (.bool b)) g a n cap b := by
  unfold PD at h ⊢
  simp [World.setCell, Array.getElem?_modify, h]
theorem PD.grown {row : Option Nat} (h : PD w g a n cap bad) (hg : w.grownBy w' row) (hne : some g ≠ row) : PD w' g a n cap bad := (hg.block g h.lt hne).trans h
end

/-- The program's reader lies at block g, its bytes, if it has any, at block gb; s: what is left, or that its flag is set. -/
def PR (w : World) (g : Nat) (gb : Option Nat) (s : Option (List Int)) : Prop :=
  ∃ (a : Option Addr) (n cap : Nat) (bad : Bool), PD w g a n cap bad ∧ (∀ ad, a = some ad → gb = some ad.block) ∧ gb ≠ some g ∧ (s = none → bad = true ∧ a = none ∧ n = 0 ∧ cap = 0) ∧ (∀ r, s = some r → bad = false ∧ InBytes w a n cap r ∧ n ≤ 140737488355328)
theorem PR.lt {w : World} {g : Nat} {gb : Option Nat} {s : Option (List Int)} (h : PR w g gb s) : g < w.heap.size := by
  obtain ⟨a, n, cap, bad, h, _⟩ := h
  exact h.lt
theorem PR.grown {w w' : World} {g : Nat} {gb : Option Nat} {s : Option (List Int)} {row : Option Nat} (h : PR w g gb s) (hg : w.grownBy w' row) (hne : some g ≠ row) (hnb : ∀ b, gb = some b → some b ≠ row) : PR w' g gb s := by
  obtain ⟨a, n, cap, bad, h, h1, h2, h3, h4⟩ := h
  exact ⟨a, n, cap, bad, h.grown hg hne, h1, h2, h3, fun r hr => ⟨(h4 r hr).1, (h4 r hr).2.1.grown hg (fun ad e => hnb _ (h1 ad e)), (h4 r hr).2.2⟩⟩
def NewPost (w : World) (bs : List Int) (e : Ending) (w' : World) : Prop :=
  ∃ g gb, e = .returned (.pointer (some ⟨g, 0, none⟩)) ∧ w.heap.size ≤ g ∧ (∀ b, gb = some b → w.heap.size ≤ b ∧ b < w'.heap.size) ∧ PR w' g gb (some bs) ∧ Below w.heap.size w w'
def PRPost (w : World) (g : Nat) (gb : Option Nat) (v : Value) (s : Option (List Int)) (e : Ending) (w' : World) : Prop :=
  e = .returned v ∧ PR w' g gb s ∧ w.grownBy w' (some g)
def PRBytesPost (w : World) (g : Nat) (gb : Option Nat) (l : List Int) (s : Option (List Int)) (e : Ending) (w' : World) : Prop :=
  ∃ a2 c2, e = .returned (.slice a2 l.length c2) ∧ InBytes w' a2 l.length c2 l ∧ PR w' g gb s ∧ w.grownBy w' (some g) ∧ (∀ ad, a2 = some ad → w.heap.size ≤ ad.block)

theorem PR.move {w : World} {g ga off n cap : Nat} {gb : Option Nat} {l : List Int} (hd : PD w g (some ⟨ga, off, none⟩) n cap false) (hgb : gb = some ga) (hne : gb ≠ some g) (hin : InBytes w (some ⟨ga, off, none⟩) n cap l) (j : Nat) (hj : j ≤ n) (hmx : n ≤ 140737488355328) :
    PR (w.setCell ⟨g, 0, none⟩ (.slice (if cap = j then some ⟨ga, off, none⟩ else some ⟨ga, off + j, none⟩) (n - j) (cap - j))) g gb (some (l.drop j)) := by
  have hb := hin.behind j hj
  have e : (Option.map (fun x : Addr => x.add j) (some ⟨ga, off, none⟩)) = some ⟨ga, off + j, none⟩ := by simp [Addr.add]
  rw [e] at hb
  refine ⟨_, _, _, false, hd.set0 _ _ _, fun ad h => ?_, hne, (fun h => by cases h), fun r h => ⟨rfl, ?_, by omega⟩⟩
  · rw [hgb]
    split at h
    all_goals (injection h with h; rw [← h])
  · injection h with h
    rw [← h]
    refine hb.grown (only_set (only_refl w (some g)) 0 _) (fun ad h => ?_)
    have : ad.block = ga := by
      split at h
      all_goals (injection h with h; rw [← h])
    rw [this, ← hgb]
    exact hne
set_option maxRecDepth 100000 in
set_option maxHeartbeats 2000000 in
theorem fail_any (g : Nat) (a : Option Addr) (n cap : Nat) (bad : Bool) (w : World) (hd : PD w g a n cap bad) :
    Calls Try.prog 38 #[.pointer (some ⟨g, 0, none⟩)] w (fun e w' => e = .returned (.tuple #[]) ∧ PD w' g none 0 0 true ∧ w.grownBy w' (some g)) := by
  have c0 := hd.cell0
  have c1 := hd.cell1
  have f0 := hd.frozen 0
  have f1 := hd.frozen 1
  have HD := Lib.hid hd
  clear hd
  go_enter Try.func38, Try.ntmps38
  go_wp2_with fail
  refine bodyPost_end (results_none rfl _ _ _) rfl ?_
  exact ⟨rfl, (HD.out.set0 none 0 0).set1 true, only_set (only_set (only_refl w _) 0 _) 1 _⟩

set_option maxRecDepth 100000 in
set_option maxHeartbeats 2000000 in
theorem rdByte_any (g : Nat) (gb : Option Nat) (s : Option (List Int)) (w : World) (hr : PR w g gb s) :
    Calls Try.prog 25 #[.pointer (some ⟨g, 0, none⟩)] w (PRPost w g gb (.int .u8 (rdByte s).1) (rdByte s).2) := by
  obtain ⟨a, n, cap, bad, hd, hgb, hne, hnone, hsome⟩ := hr
  have c0 := hd.cell0
  have f0 := hd.frozen 0
  have HF := Lib.hid (fun W h => fail_any g a n cap bad W h)
  have HD := Lib.hid hd
  clear hd
  go_enter Try.func25, Try.ntmps25
  by_cases hn : n = 0
  · subst hn
    have e : rdByte s = (0, none) := by
      cases s with
      | none => rfl
      | some r =>
        obtain ⟨_, hin, _⟩ := hsome r rfl
        have := List.eq_nil_of_length_eq_zero hin.len
        subst this
        rfl
    rw [e]
    go_wp2_with (first
      | (go_at_call 38
         (with_reducible refine (HF.out _ HD.out).mono ?_)
         rintro _ w1 ⟨rfl, hd1, hg1⟩
         have HD1 := Lib.hid hd1
         have HG1 := Lib.hid hg1
         clear hd1 hg1))
    go_ret
    exact ⟨rfl, ⟨none, 0, 0, true, HD1.out, (fun ad h => by cases h), hne, fun _ => ⟨rfl, rfl, rfl, rfl⟩, (fun r h => by cases h)⟩, HG1.out⟩
  · cases s with
    | none => exact absurd (hnone rfl).2.2.1 hn
    | some r =>
      obtain ⟨rfl, hin, hmx⟩ := hsome r rfl
      have hl := hin.len
      cases r with
      | nil => exact absurd hl.symm hn
      | cons c r =>
        obtain ⟨ga, off, rfl, hga, hseg⟩ := hin.place (by omega)
        have cb := hseg.cellD 0 (by simp)
        rw [Nat.add_zero] at cb
        have e : (c :: r).getD 0 0 = c := rfl
        rw [e] at cb
        have hle := hin.le
        have hb := hin.behind 1 (by omega)
        have HIN := Lib.hid hin
        have HBE := Lib.hid hb
        have q1 : ((n : Int) == 0) = false := by simp; omega
        have q2 : (0 : Int) < (n : Int) := by omega
        have q3 : (1 : Int) ≤ (n : Int) := by omega
        obtain rfl : gb = some ga := hgb _ rfl
        clear hin hseg hb hnone hsome e hgb
        go_wp2_with fail
        all_goals
          go_ret
          have hpr := PR.move HD.out rfl hne HIN.out 1 (by omega) hmx
        · subst h
          rw [if_pos rfl] at hpr
          exact ⟨rfl, hpr, only_set (only_refl w _) 0 _⟩
        · rw [if_neg (by assumption)] at hpr
          exact ⟨rfl, hpr, only_set (only_refl w _) 0 _⟩

set_option maxRecDepth 100000 in
set_option maxHeartbeats 2000000 in
theorem rdEnd_any (g : Nat) (gb : Option Nat) (s : Option (List Int)) (w : World) (hr : PR w g gb s) :
    Calls Try.prog 27 #[.pointer (some ⟨g, 0, none⟩)] w (fun e w' => e = .returned (codeV (rdEnd s).toNat) ∧ ∃ m, w' = w.drewN m) := by
  obtain ⟨a, n, cap, bad, hd, hgb, hne, hnone, hsome⟩ := hr
  have c0 := hd.cell0
  have c1 := hd.cell1
  clear hd
  go_enter Try.func27, Try.ntmps27
  cases s with
  | none =>
    obtain ⟨rfl, _⟩ := hnone rfl
    go_wp2_with fail
    go_ret
    exact ⟨rfl, 0, rfl⟩
  | some r =>
    obtain ⟨rfl, hin, _⟩ := hsome r rfl
    have hl := hin.len
    cases r with
    | nil =>
      have hn : n = 0 := hl.symm
      subst hn
      go_wp2_with fail
      go_ret
      exact ⟨rfl, 0, rfl⟩
    | cons c r =>
      have hn : (0 : Int) < (n : Int) := by simp at hl; omega
      go_wp2_with fail
      go_ret
      exact ⟨rfl, 0, rfl⟩
end Go.Proofs.Ytagmeljjkblpbaa

/- The contract of the program's reader of numbers. -/
namespace Go.Proofs.Ytagmeljjkblpbaa
open Go.RowKit
set_option linter.unusedVariables false

theorem val_first (k : Nat) (r : List Int) (hk : 1 ≤ k) (hl : k ≤ r.length) (hb : Bytes8 r) : val (r.take k) / 256 ^ (k - 1) = (r.getD 0 0).toNat := by
  cases r with
  | nil => simp at hl; omega
  | cons x t =>
    obtain ⟨j, rfl⟩ : ∃ j, k = j + 1 := ⟨k - 1, by omega⟩
    have ht : Bytes8 (t.take j) := fun z hz => hb z (List.mem_cons_of_mem _ (List.mem_of_mem_take hz))
    have h1 := val_lt ht
    simp only [List.length_cons] at hl
    have h2 : (t.take j).length = j := by rw [List.length_take]; omega
    rw [List.take_succ_cons, val_cons, h2, Nat.add_sub_cancel]
    rw [h2] at h1
    rw [Nat.mul_add_div (Nat.pow_pos (by omega)), Nat.div_eq_of_lt h1]
    simp
theorem or_low (v : Nat) (x : Int) (hv : v < 72057594037927936) (h0 : 0 ≤ x) (h1 : x ≤ 255) : bits .or .u64 ((v : Int) * 256) x = 256 * (v : Int) + x := by
  rw [bits_join .u64 64 (by decide) (fun n h0 h1 => IntWalk.u64_in n (by omega)) 8 ((v : Int) * 256) x (by omega) (by omega) (by omega) h0 (by omega) (by omega)]
  omega

set_option maxRecDepth 100000 in
set_option maxHeartbeats 4000000 in
theorem rdNumber_any (g : Nat) (gb : Option Nat) (s : Option (List Int)) (w : World) (hr : PR w g gb s) :
    Calls Try.prog 39 #[.pointer (some ⟨g, 0, none⟩)] w (PRPost w g gb (.int .u64 (rdNum s).1) (rdNum s).2) := by
  have HR := Lib.hid hr
  have hb8 : ∀ r, s = some r → Bytes8 r := by
    obtain ⟨a, n, cap, bad, hd, hgb, hne, hnone, hsome⟩ := hr
    exact fun r h => (hsome r h).2.1.bytes
  have HB8 := Lib.hid hb8
  clear hr hb8
  go_enter Try.func39, Try.ntmps39
  go_wp2_with fail
  refine (rdByte_any g gb s _ HR.out).mono ?_
  rintro _ w1 ⟨rfl, hpr, hg1⟩
  have HG1 := Lib.hid hg1
  clear hg1
  cases hs : (rdByte s).2 with
  | none =>
    obtain ⟨e1, e2⟩ := rdNum_of_byte s hs
    rw [e1, e2]
    rw [hs] at hpr
    have HPR := Lib.hid hpr
    clear hpr
    go_wp2_with fail
    go_ret
    rw [e1]
    exact ⟨rfl, HPR.out, HG1.out⟩
  | some r =>
    have e1 := rdByte_some hs
    rw [hs] at hpr
    have hc := HB8.out _ e1 (rdByte s).1 (by simp)
    generalize (rdByte s).1 = c at *
    subst e1
    have hr8 : Bytes8 r := fun z hz => HB8.out _ rfl z (List.mem_cons_of_mem _ hz)
    clear hs
    by_cases h1 : c ≤ 247
    · have e2 : rdNum (some (c :: r)) = (c.toNat, some r) := by simp [rdNum, getNum, show c < 248 by omega]
      have HPR := Lib.hid hpr
      clear hpr
      go_wp2_with fail
      go_ret
      rw [e2]
      exact ⟨by rw [show ((c.toNat : Nat) : Int) = c by omega]; rfl, HPR.out, HG1.out⟩
    · obtain ⟨k, hk, hk1, hk8⟩ : ∃ k : Nat, c - 247 = (k : Int) ∧ 1 ≤ k ∧ k ≤ 8 := ⟨(c - 247).toNat, by omega, by omega, by omega⟩
      have e2 := rdNum_big c k r hk hk1
      have HBA := Lib.hid e2
      have ek : IntKind.i64.wrap (c - 247) = (k : Int) := by rw [hk]; exact IntWalk.i64_in _ (by omega)
      obtain ⟨a, n, cap, bad, hd, hgb, hne, hnone, hsome⟩ := hpr
      obtain ⟨rfl, hin, hmx⟩ := hsome r rfl
      have hl := hin.len
      have c0 := hd.cell0
      have f0 := hd.frozen 0
      have HD := Lib.hid hd
      have HIN := Lib.hid hin
      have HF := Lib.hid (fun W h => fail_any g a n cap false W h)
      clear hk e2 hd hin hnone hsome HR
      by_cases h2 : r.length < k
      · have h3 : (n : Int) < (k : Int) := by omega
        go_wp2_with (first
          | (go_at_call 38
             (with_reducible refine (HF.out _ HD.out).mono ?_)
             rintro _ w2 ⟨rfl, hd2, hg2⟩
             have HD2 := Lib.hid hd2
             have HG2 := Lib.hid hg2
             clear hd2 hg2))
        go_ret
        rw [HBA.out, if_pos h2]
        exact ⟨rfl, ⟨none, 0, 0, true, HD2.out, (fun ad h => by cases h), hne, fun _ => ⟨rfl, rfl, rfl, rfl⟩, (fun r h => by cases h)⟩, only_trans HG1.out HG2.out⟩
      · have h3 : ¬ (n : Int) < (k : Int) := by omega
        obtain ⟨ga, off, rfl, hga, hseg⟩ := HIN.out.place (by omega)
        obtain rfl : gb = some ga := hgb _ rfl
        have hcell : ∀ i, i < k → w1.cell? ⟨ga, off + i, none⟩ = some (.int .u8 (r.getD i 0)) := fun i hi => hseg.cellD i (by omega)
        have HCE := Lib.hid hcell
        clear hcell hseg hgb
        go_wp2_with fail
        go_loopw [5, 26] (fun s5 s26 wx => ∃ i : Nat, i ≤ k ∧ s5 = .int .u64 (val (r.take i)) ∧ s26 = .int .i64 i ∧ wx = w1) (fun _ s26 _ => k - (intOf s26).toNat)
        case atStart => exact ⟨0, by omega, rfl, rfl, rfl⟩
        case round =>
          obtain ⟨i, hi, rfl, rfl, rfl⟩ := hrel
          have hv1 := val_lt (l := r.take i) (fun z hz => hr8 z (List.mem_of_mem_take hz))
          have hv2 : 256 ^ (r.take i).length = 256 ^ i := by rw [List.length_take, Nat.min_eq_left (by omega)]
          rw [hv2] at hv1
          by_cases hlt : i < k
          · have cb := HCE.out i hlt
            have hx := byte_at hr8 i
            have hv3 : 256 ^ i ≤ 256 ^ 7 := Nat.pow_le_pow_right (by omega) (by omega)
            have hnx : val (r.take (i + 1)) = 256 * val (r.take i) + (r.getD i 0).toNat := by
              rw [List.take_succ_eq_append_getElem (by omega), val_snoc]
              simp [List.getD, show i < r.length by omega]
            have HNX := Lib.hid hnx
            have e5 : (256 : Nat) ^ 7 = 72057594037927936 := by decide
            generalize val (r.take i) = v at *
            generalize r.getD i 0 = x at *
            have hor := or_low v x (by omega) hx.1 hx.2
            have q8 : (i : Int) < (k : Int) := by omega
            have q9 : (i : Int) < (n : Int) := by omega
            have q7 : IntKind.u64.wrap x = x := IntWalk.u64_in _ (by omega)
            have hv4 : (v : Int) < 72057594037927936 := by omega
            clear hnx hv1 hv2 hv3 e5
            go_wp2_with fail
            refine ⟨⟨i + 1, by omega, ?_, by go_num, trivial⟩, by simp [intOf]; omega⟩
            rw [HNX.out]
            go_num
          · obtain rfl : i = k := by omega
            have hx := byte_at hr8 0
            have hfi := val_first i r hk1 (by omega) hr8
            have hba := HBA.out
            rw [if_neg h2] at hba
            have hv9 : 256 ^ i ≤ 256 ^ 8 := Nat.pow_le_pow_right (by omega) (by omega)
            have e8 : (256 : Nat) ^ 8 = 18446744073709551616 := by decide
            generalize val (r.take i) = v at *
            generalize r.getD 0 0 = x at *
            have hsh : (v : Int) / 2 ^ (8 * ((i : Int) - 1)).toNat = x := by
              have h := shr_is v (i - 1)
              rw [show ((i - 1 : Nat) : Int) = (i : Int) - 1 by omega, hfi] at h
              rw [h]; omega
            have q1 : (0 : Int) ≤ 8 * ((i : Int) - 1) := by omega
            have q2 : 8 * ((i : Int) - 1) ≤ 64 := by omega
            have q5 : ¬ (i : Int) < (i : Int) := by omega
            have q6 : (i : Int) ≤ (n : Int) := by omega
            have q3 : (0 : Int) ≤ (i : Int) := by omega
            have HBA2 := Lib.hid hba
            clear hba HBA hv1 hv2 hv9 e8 HCE hfi
            by_cases hv0 : v < 248
            · have hv1 : (v : Int) ≤ 247 := by omega
              go_wp2_with (first
                | (go_at_call 38
                   (with_reducible refine (HF.out _ HD.out).mono ?_)
                   rintro _ w2 ⟨rfl, hd2, hg2⟩
                   have HD2 := Lib.hid hd2
                   have HG2 := Lib.hid hg2
                   clear hd2 hg2))
              go_ret
              rw [HBA2.out, if_pos (.inr hv0)]
              exact ⟨rfl, ⟨none, 0, 0, true, HD2.out, (fun ad h => by cases h), hne, fun _ => ⟨rfl, rfl, rfl, rfl⟩, (fun r h => by cases h)⟩, only_trans HG1.out HG2.out⟩
            · have hv1 : ¬ (v : Int) ≤ 247 := by omega
              have hv2 : decide ((v : Int) ≤ 247) = false := by simpa using hv1
              by_cases hx0 : x = 0
              · subst hx0
                go_wp2_with (first
                  | (go_at_call 38
                     (with_reducible refine (HF.out _ HD.out).mono ?_)
                     rintro _ w2 ⟨rfl, hd2, hg2⟩
                     have HD2 := Lib.hid hd2
                     have HG2 := Lib.hid hg2
                     clear hd2 hg2))
                go_ret
                rw [HBA2.out, if_pos (by simp)]
                exact ⟨rfl, ⟨none, 0, 0, true, HD2.out, (fun ad h => by cases h), hne, fun _ => ⟨rfl, rfl, rfl, rfl⟩, (fun r h => by cases h)⟩, only_trans HG1.out HG2.out⟩
              · have hx1 : (x == 0) = false := by simpa using hx0
                go_wp2_with fail
                all_goals
                  go_ret
                  have hpr := PR.move HD.out rfl hne HIN.out i (by omega) hmx
                  rw [HBA2.out, if_neg (by omega)]
                · rw [if_pos h, h, Nat.sub_self] at hpr
                  exact ⟨rfl, hpr, only_set HG1.out 0 _⟩
                · rw [if_neg h] at hpr
                  exact ⟨rfl, hpr, only_set HG1.out 0 _⟩
end Go.Proofs.Ytagmeljjkblpbaa

/- The contracts of the program's reader: NewReader, Bytes. -/
namespace Go.Proofs.Ytagmeljjkblpbaa
open Go.RowKit
set_option linter.unusedVariables false

set_option maxRecDepth 100000 in
set_option maxHeartbeats 2000000 in
theorem newReader_any (a : Option Addr) (n cap : Nat) (bs : List Int) (w : World) (hin : InBytes w a n cap bs) (hn : n ≤ 140737488355328) :
    Calls Try.prog 23 #[.slice a n cap] w (NewPost w bs) := by
  have hl := hin.len
  have HC := Lib.hid (clone_any a n cap bs w hin hn)
  clear hin
  go_enter Try.func23, Try.ntmps23
  go_wp2_with (first
    | (go_at_call 37
       (with_reducible refine HC.out.mono ?_)
       rintro _ w1 ⟨a2, c2, rfl, hin2, hf2, hb2⟩
       have HI := Lib.hid (And.intro hin2 (And.intro hf2 hb2))
       clear hin2 hf2 hb2))
  go_ret
  obtain ⟨hin2, hf2, hb2⟩ := HI.out
  rw [hl] at hin2
  refine ⟨w1.heap.size, a2.map (·.block), rfl, hb2.size, ?_, ⟨a2, n, c2, false, heap_alloc_new w1 _, ?_, ?_, (fun h => by cases h), fun r h => ⟨rfl, ?_, hn⟩⟩, hb2.alloc hb2.size _⟩
  · intro b hb
    cases a2 with
    | none => cases hb
    | some ad => injection hb with hb; rw [← hb]; exact ⟨(hf2 ad rfl).1, by have := (hf2 ad rfl).2; simp; omega⟩
  · rintro ad rfl
    rfl
  · intro h
    cases a2 with
    | none => cases h
    | some ad =>
      injection h with h
      have h9 := (hf2 ad rfl).2
      rw [show ad.block = w1.heap.size from h] at h9
      omega
  · injection h with h
    rw [← h]
    exact hin2.below ((Below.refl _ _).alloc (Nat.le_refl _) _)

theorem PR.moveO {w : World} {g n cap : Nat} {a : Option Addr} {gb : Option Nat} {l : List Int} (hd : PD w g a n cap false) (hgb : ∀ ad, a = some ad → gb = some ad.block) (hne : gb ≠ some g) (hin : InBytes w a n cap l) (j : Nat) (hj : j ≤ n) (hmx : n ≤ 140737488355328) :
    PR (w.setCell ⟨g, 0, none⟩ (.slice (if cap = j then a else a.map (·.add j)) (n - j) (cap - j))) g gb (some (l.drop j)) := by
  have hb := hin.behind j hj
  have hk : ∀ ad, (if cap = j then a else a.map (·.add j)) = some ad → gb = some ad.block := by
    intro ad h
    split at h
    · exact hgb ad h
    · cases a with
      | none => cases h
      | some x =>
        injection h with h
        rw [hgb x rfl, ← h]
        unfold Addr.add
        split <;> rfl
  refine ⟨_, _, _, false, hd.set0 _ _ _, hk, hne, (fun h => by cases h), fun r h => ⟨rfl, ?_, by omega⟩⟩
  injection h with h
  rw [← h]
  refine hb.grown (only_set (only_refl w (some g)) 0 _) (fun ad h => ?_)
  rw [← hk ad h]
  exact hne
set_option maxRecDepth 100000 in
set_option maxHeartbeats 4000000 in
theorem rdBytes_any (g : Nat) (gb : Option Nat) (s : Option (List Int)) (most : Int) (w : World) (hr : PR w g gb s) (hm1 : -9223372036854775808 ≤ most) (hm2 : most ≤ 9223372036854775807) :
    Calls Try.prog 26 #[.pointer (some ⟨g, 0, none⟩), .int .i64 most] w (PRBytesPost w g gb (rdBytes most s).1 (rdBytes most s).2) := by
  have HR := Lib.hid hr
  have hb8 : ∀ r, s = some r → Bytes8 r := by
    obtain ⟨a, n, cap, bad, hd, hgb, hne, hnone, hsome⟩ := hr
    exact fun r h => (hsome r h).2.1.bytes
  have HB8 := Lib.hid hb8
  clear hr hb8
  go_enter Try.func26, Try.ntmps26
  go_wp2_with fail
  refine (rdNumber_any g gb s _ HR.out).mono ?_
  rintro _ w1 ⟨rfl, ⟨a, n, cap, bad, hd, hgb, hne, hnone, hsome⟩, hg1⟩
  have c0 := hd.cell0
  have c1 := hd.cell1
  have f0 := hd.frozen 0
  have HD := Lib.hid hd
  have HG1 := Lib.hid hg1
  have HF := Lib.hid (fun W h => fail_any g a n cap bad W h)
  clear hd hg1
  cases hs : (rdNum s).2 with
  | none =>
    have e1 : rdBytes most s = ([], none) := by simp only [rdBytes, hs]
    obtain ⟨rfl, rfl, rfl, rfl⟩ := hnone hs
    clear hnone hsome
    generalize (rdNum s).1 = v at *
    have HE := Lib.hid e1
    clear hs e1
    go_wp2_with (first
      | (go_at_call 38
         (with_reducible refine (HF.out _ HD.out).mono ?_)
         rintro _ w2 ⟨rfl, hd2, hg2⟩
         have HD2 := Lib.hid hd2
         have HG2 := Lib.hid hg2
         clear hd2 hg2))
    go_ret
    rw [HE.out]
    exact ⟨none, 0, rfl, none_in _, ⟨none, 0, 0, true, HD2.out, (fun ad h => by cases h), hne, fun _ => ⟨rfl, rfl, rfl, rfl⟩, (fun r h => by cases h)⟩, only_trans HG1.out HG2.out, (fun ad h => by cases h)⟩
  | some r =>
    have hv := rdNum_lt hs HB8.out
    obtain ⟨rfl, hin, hmx⟩ := hsome r hs
    have hl := hin.len
    have hle := hin.le
    have HIN := Lib.hid hin
    have e1 : rdBytes most s = if most < 0 ∨ most < ((rdNum s).1 : Int) ∨ r.length < (rdNum s).1 then ([], none) else (r.take (rdNum s).1, some (r.drop (rdNum s).1)) := by simp only [rdBytes, hs]
    generalize (rdNum s).1 = v at *
    have HE := Lib.hid e1
    clear hnone hsome hs e1 hin
    by_cases h1 : most < 0
    · go_wp2_with (first
        | (go_at_call 38
           (with_reducible refine (HF.out _ HD.out).mono ?_)
           rintro _ w2 ⟨rfl, hd2, hg2⟩
           have HD2 := Lib.hid hd2
           have HG2 := Lib.hid hg2
           clear hd2 hg2))
      go_ret
      rw [HE.out, if_pos (.inl h1)]
      exact ⟨none, 0, rfl, none_in _, ⟨none, 0, 0, true, HD2.out, (fun ad h => by cases h), hne, fun _ => ⟨rfl, rfl, rfl, rfl⟩, (fun r h => by cases h)⟩, only_trans HG1.out HG2.out, (fun ad h => by cases h)⟩
    · have h1' : decide (most < 0) = false := by simpa using h1
      have u2 : IntKind.u64.wrap most = most := IntWalk.u64_in _ (by omega)
      by_cases h2 : most < (v : Int)
      · go_wp2_with (first
          | (go_at_call 38
             (with_reducible refine (HF.out _ HD.out).mono ?_)
             rintro _ w2 ⟨rfl, hd2, hg2⟩
             have HD2 := Lib.hid hd2
             have HG2 := Lib.hid hg2
             clear hd2 hg2))
        go_ret
        rw [HE.out, if_pos (.inr (.inl h2))]
        exact ⟨none, 0, rfl, none_in _, ⟨none, 0, 0, true, HD2.out, (fun ad h => by cases h), hne, fun _ => ⟨rfl, rfl, rfl, rfl⟩, (fun r h => by cases h)⟩, only_trans HG1.out HG2.out, (fun ad h => by cases h)⟩
      · have h2' : decide (most < (v : Int)) = false := by simpa using h2
        have u1 : IntKind.u64.wrap (n : Int) = (n : Int) := IntWalk.u64_in _ (by omega)
        by_cases h3 : n < v
        · have h3' : (n : Int) < (v : Int) := by omega
          go_wp2_with (first
            | (go_at_call 38
               (with_reducible refine (HF.out _ HD.out).mono ?_)
               rintro _ w2 ⟨rfl, hd2, hg2⟩
               have HD2 := Lib.hid hd2
               have HG2 := Lib.hid hg2
               clear hd2 hg2))
          go_ret
          rw [HE.out, if_pos (.inr (.inr (by omega)))]
          exact ⟨none, 0, rfl, none_in _, ⟨none, 0, 0, true, HD2.out, (fun ad h => by cases h), hne, fun _ => ⟨rfl, rfl, rfl, rfl⟩, (fun r h => by cases h)⟩, only_trans HG1.out HG2.out, (fun ad h => by cases h)⟩
        · have h3' : decide ((n : Int) < (v : Int)) = false := by simp; omega
          have hvn : (v : Int) ≤ (n : Int) := by omega
          have hvc : (v : Int) ≤ (cap : Int) := by omega
          have HC := Lib.hid (clone_any a v cap (r.take v) w1 (HIN.out.upto v (by omega)) (by omega))
          have hm : g < w1.heap.size := HD.out.lt
          have htl : (r.take v).length = v := by rw [List.length_take]; omega
          go_wp2_with (first
            | (go_at_call 37
               (with_reducible refine HC.out.mono ?_)
               rintro _ w2 ⟨a2, c2, rfl, hin2, hf2, hb2⟩
               have d0 := (HD.out.grown (only_below hb2 none) (by simp)).cell0
               have y0 := (HD.out.grown (only_below hb2 none) (by simp)).frozen 0
               have HI := Lib.hid (And.intro hin2 (And.intro hf2 hb2))
               clear hin2 hf2 hb2))
          all_goals
            go_ret
            obtain ⟨hin2, hf2, hb2⟩ := HI.out
            have hpr := PR.moveO (HD.out.grown (only_below hb2 none) (by simp)) hgb hne (HIN.out.below hb2) v (by omega) hmx
            have hi3 : InBytes (w2.setCell ⟨g, 0, none⟩ (.slice (if cap = v then a else a.map (·.add v)) (n - v) (cap - v))) a2 (r.take v).length c2 (r.take v) :=
              hin2.grown (only_set (only_refl w2 (some g)) 0 _) (fun ad e he => by have := (hf2 ad e).1; injection he with he; omega)
            rw [HE.out, if_neg (by omega)]
          · rw [if_pos h, h, Nat.sub_self] at hpr hi3
            exact ⟨a2, c2, by rw [htl]; rfl, hi3, hpr, only_set (only_trans HG1.out (only_below hb2 (some g))) 0 _, fun ad e => Nat.le_trans HG1.out.size (hf2 ad e).1⟩
          · rw [if_neg h] at hpr hi3
            exact ⟨a2, c2, by rw [htl]; rfl, hi3, hpr, only_set (only_trans HG1.out (only_below hb2 (some g))) 0 _, fun ad e => Nat.le_trans HG1.out.size (hf2 ad e).1⟩
end Go.Proofs.Ytagmeljjkblpbaa

/- What lies there in a call of Read's closure: its variables, the reader, its boxes. -/
namespace Go.Proofs.Ytagmeljjkblpbaa
open Go.RowKit
set_option linter.unusedVariables false

/-- The reader and the variables that lead to it and to the closure. -/
structure EV (W : World) (g gr gf : Nat) (gb : Option Nat) (s : Option (List Int)) : Prop where
  rd : PR W g gb s
  gbl : ∀ b, gb = some b → b < W.heap.size
  vr : Var1 W 50 gr (.pointer (some ⟨g, 0, none⟩))
  vf : Var1 W 52 gf (.func (.func 24) #[] #[.pointer (some ⟨gr, 0, none⟩), .pointer (some ⟨gf, 0, none⟩)])
theorem PD.apart {W : World} {g n cap x : Nat} {a : Option Addr} {bad : Bool} {ty : TypeId} {v : Value} (h : PD W g a n cap bad) (h' : Var1 W ty x v) : x ≠ g := fun e => by
  subst e
  unfold PD at h
  unfold Var1 at h'
  rw [h] at h'
  injection h' with q
  injection q with q
  have q2 := congrArg Array.size q
  simp at q2
section
variable {W W' : World} {g gr gf : Nat} {gb : Option Nat} {s s' : Option (List Int)}
theorem EV.ne (d : EV W g gr gf gb s) : gr ≠ g ∧ gf ≠ g := by
  obtain ⟨a, n, cap, bad, h, -⟩ := d.rd
  exact ⟨h.apart d.vr, h.apart d.vf⟩
theorem EV.rdr (d : EV W g gr gf gb s) (hg : W.grownBy W' (some g)) (hr : PR W' g gb s') : EV W' g gr gf gb s' :=
  have q := d.ne
  ⟨hr, fun b e => Nat.lt_of_lt_of_le (d.gbl b e) hg.size, d.vr.grown hg (fun e => by injection e with e; exact q.1 e), d.vf.grown hg (fun e => by injection e with e; exact q.2 e)⟩
theorem EV.off (d : EV W g gr gf gb s) {x : Nat} (hg : W.grownBy W' (some x)) (h1 : x ≠ g) (h2 : x ≠ gr) (h3 : x ≠ gf) (h4 : ∀ b, gb = some b → x ≠ b) : EV W' g gr gf gb s :=
  ⟨d.rd.grown hg (fun e => by injection e with e; exact h1 e.symm) (fun b e q => by injection q with q; exact h4 b e q.symm), fun b e => Nat.lt_of_lt_of_le (d.gbl b e) hg.size, d.vr.grown hg (fun e => by injection e with e; exact h2 e.symm), d.vf.grown hg (fun e => by injection e with e; exact h3 e.symm)⟩
theorem EV.below (d : EV W g gr gf gb s) (hb : Below W.heap.size W W') : EV W' g gr gf gb s :=
  ⟨d.rd.grown (only_below hb none) (fun e => by cases e) (fun _ _ e => by cases e), fun b e => Nat.lt_of_lt_of_le (d.gbl b e) hb.size, d.vr.below hb d.vr.lt, d.vf.below hb d.vf.lt⟩
theorem EV.b8 (d : EV W g gr gf gb s) : ∀ r, s = some r → Bytes8 r := fun r e => by
  obtain ⟨a, n, cap, bad, h, h1, h2, h3, h4⟩ := d.rd
  exact (h4 r e).2.1.bytes
end
/-- All that lay from lo on stays. -/
def Upon (lo : Nat) (W W' : World) : Prop := W.heap.size ≤ W'.heap.size ∧ ∀ j, lo ≤ j → j < W.heap.size → W'.heap[j]? = W.heap[j]?
theorem Upon.grown {lo x : Nat} {W W' : World} (hg : W.grownBy W' (some x)) (hx : x < lo) : Upon lo W W' := ⟨hg.size, fun j h1 h2 => hg.block j h2 (fun e => by injection e; omega)⟩
theorem Upon.below {lo : Nat} {W W' : World} (hb : Below W.heap.size W W') : Upon lo W W' := ⟨hb.size, fun j _ h2 => hb.block j h2⟩
theorem FreshB.upon {lo n c : Nat} {W W' : World} {a : Option Addr} {zs : List Int} (f : FreshB lo W.heap.size W a n c zs) (h : Upon lo W W') : FreshB lo W'.heap.size W' a n c zs := (f.agree h.2).wide (Nat.le_refl _) h.1
theorem FreshT.upon {lo : Nat} {W W' : World} {h : TH} {t : Tr} (f : FreshT lo W.heap.size W h t) (hu : Upon lo W W') : FreshT lo W'.heap.size W' h t := (f.agree hu.2).wide (Nat.le_refl _) hu.1
theorem FreshB.ofLo {lo : Nat} {w : World} {a : Option Addr} {n c : Nat} {zs : List Int} (h : InBytes w a n c zs) (hp : ∀ y, a = some y → lo ≤ y.block) : FreshB lo w.heap.size w a n c zs := fun W h1 h2 =>
  ⟨h.len, h.bytes, h.le, h.max, h.nil, fun h0 => by
    obtain ⟨g, off, e, hlt, hc⟩ := h.place h0
    have q := hp _ e
    exact ⟨g, off, e, Nat.lt_of_lt_of_le hlt h1, hc.keep fun o => World.cell?_of_block (a := ⟨g, o, Option.none⟩) (h2 g q hlt)⟩⟩
/-- The result's box, the tree's box, and the reader with its variables. -/
structure PS (w W : World) (g gr gf : Nat) (gb : Option Nat) (s : Option (List Int)) (hk : TH) (B : Nat) : Prop where
  res : Box W 25 w.heap.size hZ
  tb : Box W 25 B hk
  lt : w.heap.size < B
  lo : g < w.heap.size ∧ gr < w.heap.size ∧ gf < w.heap.size ∧ ∀ b, gb = some b → b < w.heap.size
  ev : EV W g gr gf gb s
  up : w.grownBy W (some g)
section
variable {w W W' : World} {g gr gf B : Nat} {gb : Option Nat} {s s' : Option (List Int)} {hk hk' : TH}
theorem PS.rdr (x : PS w W g gr gf gb s hk B) (hg : W.grownBy W' (some g)) (hr : PR W' g gb s') : PS w W' g gr gf gb s' hk B :=
  have q1 := x.lo.1
  have q2 := x.lt
  ⟨x.res.grown hg (fun e => by injection e; omega), x.tb.grown hg (fun e => by injection e; omega), x.lt, x.lo, x.ev.rdr hg hr, only_trans x.up hg⟩
theorem PS.wr (x : PS w W g gr gf gb s hk B) (hg : W.grownBy W' (some B)) (hb : Box W' 25 B hk') : PS w W' g gr gf gb s hk' B :=
  have q1 := x.lo
  have q2 := x.lt
  ⟨x.res.grown hg (fun e => by injection e; omega), hb, x.lt, x.lo, x.ev.off hg (by omega) (by omega) (by omega) (fun b e => by have := q1.2.2.2 b e; omega), up_new x.up hg (by omega)⟩
theorem PS.below (x : PS w W g gr gf gb s hk B) (b1 : Below W.heap.size W W') : PS w W' g gr gf gb s hk B :=
  ⟨x.res.below b1 x.res.lt, x.tb.below b1 x.tb.lt, x.lt, x.lo, x.ev.below b1, only_trans x.up (only_below b1 _)⟩
theorem PS.alloc (x : PS w W g gr gf gb s hk B) (o : Obj) : PS w (W.alloc o) g gr gf gb s hk B := x.below ((Below.refl _ _).alloc (Nat.le_refl _) _)
theorem PS.ret (x : PS w W g gr gf gb s hk B) (hg : W.grownBy W' (some w.heap.size)) : PR W' g gb s ∧ w.grownBy W' (some g) :=
  have q1 := x.lo
  ⟨(x.ev.off hg (by omega) (by omega) (by omega) (fun b e => by have := q1.2.2.2 b e; omega)).rd, up_new x.up hg (Nat.le_refl _)⟩
theorem PS.enter {w0 w1 : World} (h0 : w0 = w.alloc (.cells #[.int .i64 hZ.k, .slice hZ.ka hZ.kn hZ.kc, .slice hZ.va hZ.vn hZ.vc, .slice hZ.da hZ.dn hZ.dc, .slice hZ.ta hZ.tn hZ.tc] 25)) (e : EV w g gr gf gb s') (e1 : EV w1 g gr gf gb s) (hg : w0.grownBy w1 (some g)) (hk : TH) :
    PS w (w1.alloc (.cells #[.int .i64 hk.k, .slice hk.ka hk.kn hk.kc, .slice hk.va hk.vn hk.vc, .slice hk.da hk.dn hk.dc, .slice hk.ta hk.tn hk.tc] 25)) g gr gf gb s hk w1.heap.size := by
  have x0 : Box w0 25 w.heap.size hZ := by rw [h0]; exact Box.new w 25 hZ
  have b0 : Below w.heap.size w w0 := by rw [h0]; exact (Below.refl _ _).alloc (Nat.le_refl _) _
  have b1 : Below w1.heap.size w1 (w1.alloc (.cells #[.int .i64 hk.k, .slice hk.ka hk.kn hk.kc, .slice hk.va hk.vn hk.vc, .slice hk.da hk.dn hk.dc, .slice hk.ta hk.tn hk.tc] 25)) := (Below.refl _ _).alloc (Nat.le_refl _) _
  have q0 := e.rd.lt
  have q1 := x0.lt
  have q2 := hg.size
  have x1 := x0.grown hg (fun e => by injection e; omega)
  exact ⟨x1.below b1 x1.lt, Box.new w1 25 hk, by omega, ⟨q0, e.vr.lt, e.vf.lt, e.gbl⟩, e1.below b1, only_trans (only_trans (only_below b0 _) hg) (only_below b1 _)⟩
end
/-- What the closure answers: a tree in new memory, if one stands next; else it says no, or the reader has failed. -/
def Got (w w' : World) (h' : TH) (ok : Bool) (s' : Option (List Int)) (o : Option (PT × List Int)) : Prop := (o = none ∧ (ok = false ∨ s' = none)) ∨ ∃ p r, o = some (p, r) ∧ ok = true ∧ s' = some r ∧ FreshT w.heap.size w'.heap.size w' h' p.tr
def PtPost (w : World) (g : Nat) (gb : Option Nat) (o : Option (PT × List Int)) (e : Ending) (w' : World) : Prop :=
  ∃ (h' : TH) (ok : Bool) (s' : Option (List Int)), e = .returned (.tuple #[h'.v, .bool ok]) ∧ PR w' g gb s' ∧ w.grownBy w' (some g) ∧ Got w w' h' ok s' o
end Go.Proofs.Ytagmeljjkblpbaa

/- The contract of Read's closure, of what has no kids. -/
namespace Go.Proofs.Ytagmeljjkblpbaa
open Go.RowKit
set_option linter.unusedVariables false

set_option maxRecDepth 100000 in
set_option maxHeartbeats 8000000 in
theorem ptFlat_any (d : Nat) (hd : d ≤ 64) (g gr gf : Nat) (gb : Option Nat) (s : Option (List Int)) (w : World) (hev : EV w g gr gf gb s)
    (hflat : ∀ k l, s = some (k :: l) → k = 1 ∨ k = 2 → d = 0) : Calls Try.prog 24 #[.int .i64 d, .pointer (some ⟨gr, 0, none⟩), .pointer (some ⟨gf, 0, none⟩)] w (PtPost w g gb (rdP d s)) := by
  obtain ⟨o, ho⟩ : ∃ o, rdP d s = o := ⟨_, rfl⟩
  rw [ho]
  have HRO := Lib.hid ho
  clear ho
  have HZ0 : Hid ((w.alloc (.cells #[.int .i64 hZ.k, .slice hZ.ka hZ.kn hZ.kc, .slice hZ.va hZ.vn hZ.vc, .slice hZ.da hZ.dn hZ.dc, .slice hZ.ta hZ.tn hZ.tc] 25)) = w.alloc (.cells #[.int .i64 hZ.k, .slice hZ.ka hZ.kn hZ.kc, .slice hZ.va hZ.vn hZ.vc, .slice hZ.da hZ.dn hZ.dc, .slice hZ.ta hZ.tn hZ.tc] 25)) := Lib.hid rfl
  have hb0 : Below w.heap.size w (w.alloc (.cells #[.int .i64 hZ.k, .slice hZ.ka hZ.kn hZ.kc, .slice hZ.va hZ.vn hZ.vc, .slice hZ.da hZ.dn hZ.dc, .slice hZ.ta hZ.tn hZ.tc] 25)) := (Below.refl _ _).alloc (Nat.le_refl _) _
  have HE0 := Lib.hid (hev.below hb0)
  have HB8 := Lib.hid hev.b8
  have HFL := Lib.hid hflat
  have HEV := Lib.hid hev
  clear hb0 hev hflat
  go_enter Try.func24, Try.ntmps24
  go_upto_region 1 with fail
  have HQ0 : Hid ((w.alloc (.cells #[.int .i64 0, .slice none 0 0, .slice none 0 0, .slice none 0 0, .slice none 0 0] 25)) = w.alloc (.cells #[.int .i64 hZ.k, .slice hZ.ka hZ.kn hZ.kc, .slice hZ.va hZ.vn hZ.vc, .slice hZ.da hZ.dn hZ.dc, .slice hZ.ta hZ.tn hZ.tc] 25)) := Lib.hid rfl
  change Hid (EV (w.alloc (.cells #[.int .i64 0, .slice none 0 0, .slice none 0 0, .slice none 0 0, .slice none 0 0] 25)) g gr gf gb s) at HE0
  clear HZ0
  generalize (w.alloc (.cells #[.int .i64 0, .slice none 0 0, .slice none 0 0, .slice none 0 0, .slice none 0 0] 25)) = w0 at *
  have xr := HE0.out.vr.cell
  obtain ⟨k, hk⟩ : ∃ k, (rdByte s).1 = k := ⟨_, rfl⟩
  have hk255 : 0 ≤ k ∧ k ≤ 255 := by
    rw [← hk]
    cases s with
    | none => exact ⟨by decide, by decide⟩
    | some l => cases l with
      | nil => exact ⟨by decide, by decide⟩
      | cons x l => exact HB8.out _ rfl x (by simp)
  have HK := Lib.hid hk
  have e64 : IntKind.i64.wrap k = k := IntWalk.i64_in _ (by omega)
  clear hk
  go_upto_region 2 with (first
    | (go_at_call 25
       refine (rdByte_any g gb s _ HE0.out.rd).mono ?_
       rw [HK.out]
       rintro _ w1 ⟨rfl, hr1, hg1⟩
       have HS := Lib.hid (PS.enter HQ0.out HEV.out (HE0.out.rdr hg1 hr1) hg1 ⟨k, none, 0, 0, none, 0, 0, none, 0, 0, none, 0, 0⟩)
       clear hr1 hg1 xr))
  generalize (w1.alloc (.cells #[.int .i64 k, .slice none 0 0, .slice none 0 0, .slice none 0 0, .slice none 0 0] 25)) = w2 at *
  generalize w1.heap.size = B at *
  clear HQ0 HE0
  obtain ⟨x0, x1, x2, x3, x4⟩ := HS.out.tb.cells
  have xr := HS.out.ev.vr.cell
  cases hs : (rdByte s).2 with
  | none =>
    have hk0 : k = 0 := by rw [← HK.out]; exact (rdNum_of_byte s hs).2
    subst hk0
    have HO : Hid (o = none) := Lib.hid (by rw [← HRO.out]; exact rdByte_none hs d)
    rw [hs] at HS
    clear hs
    go_wp2_with (first
      | (refine wpList_store_box rfl 25 (.tmp 4) (.tmp 19) rfl w.heap.size hZ ⟨0, none, 0, 0, none, 0, 0, none, 0, 0, none, 0, 0⟩ rfl rfl 25 HS.out.res infoTree5 ?_
         intro w9 hbx9 hg9
         have HX9 := Lib.hid hbx9
         have HG9 := Lib.hid hg9
         clear hbx9 hg9))
    all_goals
      obtain ⟨hr9, hu9⟩ := HS.out.ret HG9.out
      exact bodyPost_ret (v := .tuple #[TH.v ⟨0, none, 0, 0, none, 0, 0, none, 0, 0, none, 0, 0⟩, .bool true]) (Box.result Try.results24 _ HX9.out rfl Try.underlying25 infoTree5) rfl ⟨⟨0, none, 0, 0, none, 0, 0, none, 0, 0, none, 0, 0⟩, true, _, rfl, hr9, hu9, .inl ⟨HO.out, .inr rfl⟩⟩
  | some l =>
    have hsl := rdByte_some hs
    rw [HK.out] at hsl
    rw [hs] at HS
    clear hs
    have HSL := Lib.hid hsl
    clear hsl
    by_cases k0 : k = 0
    · subst k0
      have HO : Hid (o = some (.nil, l)) := Lib.hid (by rw [← HRO.out, HSL.out]; exact rdP_0 d l)
      go_wp2_with (first
        | (refine wpList_store_box rfl 25 (.tmp 4) (.tmp 19) rfl w.heap.size hZ ⟨0, none, 0, 0, none, 0, 0, none, 0, 0, none, 0, 0⟩ rfl rfl 25 HS.out.res infoTree5 ?_
           intro w9 hbx9 hg9
           have HX9 := Lib.hid hbx9
           have HG9 := Lib.hid hg9
           clear hbx9 hg9))
      all_goals
        obtain ⟨hr9, hu9⟩ := HS.out.ret HG9.out
        exact bodyPost_ret (v := .tuple #[TH.v ⟨0, none, 0, 0, none, 0, 0, none, 0, 0, none, 0, 0⟩, .bool true]) (Box.result Try.results24 _ HX9.out rfl Try.underlying25 infoTree5) rfl ⟨⟨0, none, 0, 0, none, 0, 0, none, 0, 0, none, 0, 0⟩, true, _, rfl, hr9, hu9, .inr ⟨_, _, HO.out, rfl, rfl, FreshT.nil _ _ _⟩⟩
    by_cases k3 : k = 3
    · subst k3
      have HO : Hid (o = (rdBytes 32 (some l)).2.map fun r => (.cut (rdBytes 32 (some l)).1, r)) := Lib.hid (by rw [← HRO.out, HSL.out]; exact rdP_3 d l)
      have f3 := HS.out.tb.frozen 3
      go_upto_region 8 with (first
        | (go_at_call 26
           refine (rdBytes_any g gb (some l) 32 _ HS.out.ev.rd (by omega) (by omega)).mono ?_
           rintro _ w4 ⟨a4, c4, rfl, hi4, hr4, hg4, hf4⟩
           have HS4 := Lib.hid (HS.out.rdr hg4 hr4)
           have HI4 : Hid (FreshB (B + 1) w4.heap.size w4 a4 _ c4 _) := Lib.hid (FreshB.ofLo hi4 (fun y hy => by have q1 := hf4 y hy; have q2 := HS.out.tb.lt; omega))
           
           clear hi4 hr4 hg4 hf4 x0 x1 x2 x3 x4 xr
           obtain ⟨x0, x1, x2, x3, x4⟩ := HS4.out.tb.cells
           have xr := HS4.out.ev.vr.cell
           clear f3
           have f3 := HS4.out.tb.frozen 3))
      all_goals
        have HX5 : Hid (Box (w4.setCell ⟨B, 3, none⟩ (.slice a4 (rdBytes 32 (some l)).1.length c4)) 25 B ⟨3, none, 0, 0, none, 0, 0, a4, (rdBytes 32 (some l)).1.length, c4, none, 0, 0⟩) := Lib.hid (HS4.out.tb.set3 a4 (rdBytes 32 (some l)).1.length c4)
        have HG5 := Lib.hid (only_set (only_refl w4 (some B)) 3 (.slice a4 (rdBytes 32 (some l)).1.length c4))
        have HI5 := Lib.hid (HI4.out.upon (Upon.grown HG5.out (Nat.lt_succ_self _)))
        have HS5 := Lib.hid (HS4.out.wr HG5.out HX5.out)
        clear x0 x1 x2 x3 x4 f3 xr HX5 HG5
        generalize (w4.setCell ⟨B, 3, none⟩ (.slice a4 (rdBytes 32 (some l)).1.length c4)) = w5 at *
        obtain ⟨x0, x1, x2, x3, x4⟩ := HS5.out.tb.cells
        go_wp2_with (first
          | (refine wpList_store_box rfl 25 (.tmp 4) (.tmp 25) rfl w.heap.size hZ ⟨3, none, 0, 0, none, 0, 0, a4, (rdBytes 32 (some l)).1.length, c4, none, 0, 0⟩ rfl rfl 25 HS5.out.res infoTree5 ?_
             intro w9 hbx9 hg9
             have HX9 := Lib.hid hbx9
             have HG9 := Lib.hid hg9
             clear hbx9 hg9))
        obtain ⟨hr9, hu9⟩ := HS5.out.ret HG9.out
        have HI9 := HI5.out.upon (Upon.grown HG9.out (Nat.lt_succ_of_lt HS5.out.lt))
        have hlo : w.heap.size ≤ B + 1 := Nat.le_of_lt (Nat.lt_succ_of_lt HS5.out.lt)
        generalize rdBytes 32 (some l) = z at *
        obtain ⟨z1, z2⟩ := z
        exact bodyPost_ret (v := .tuple #[TH.v ⟨3, none, 0, 0, none, 0, 0, a4, z1.length, c4, none, 0, 0⟩, .bool true]) (Box.result Try.results24 _ HX9.out rfl Try.underlying25 infoTree5) rfl ⟨⟨3, none, 0, 0, none, 0, 0, a4, z1.length, c4, none, 0, 0⟩, true, _, rfl, hr9, hu9, by rw [HO.out]; cases z2 with | none => exact .inl ⟨rfl, .inr rfl⟩ | some q => exact .inr ⟨_, _, rfl, rfl, rfl, FreshT.leaf (by omega) (by omega) (HI9.wide hlo (Nat.le_refl _))⟩⟩
    by_cases k4 : 3 < k
    · have HO : Hid (o = none) := Lib.hid (by rw [← HRO.out, HSL.out]; exact rdP_big d l k4)
      go_wp2_with (first
        | (refine wpList_store_box rfl 25 (.tmp 4) (.tmp 16) rfl w.heap.size hZ hZ rfl rfl 25 HS.out.res infoTree5 ?_
           intro w9 hbx9 hg9
           have HX9 := Lib.hid hbx9
           have HG9 := Lib.hid hg9
           clear hbx9 hg9))
      obtain ⟨hr9, hu9⟩ := HS.out.ret HG9.out
      exact bodyPost_ret (v := .tuple #[TH.v hZ, .bool false]) (Box.result Try.results24 _ HX9.out rfl Try.underlying25 infoTree5) rfl ⟨hZ, false, _, rfl, hr9, hu9, .inl ⟨HO.out, .inl rfl⟩⟩
    have k12 : k = 1 ∨ k = 2 := by omega
    have hd0 := HFL.out k l HSL.out k12
    subst hd0
    have HO : Hid (o = none) := Lib.hid (by rw [← HRO.out, HSL.out]; exact rdP_deep l k12)
    clear k0 k3 k4
    rcases k12 with rfl | rfl
    · have f1 := HS.out.tb.frozen 1
      go_upto_region 11 with (first
        | (go_at_call 26
           refine (rdBytes_any g gb (some l) 80 _ HS.out.ev.rd (by omega) (by omega)).mono ?_
           rintro _ w4 ⟨a4, c4, rfl, hi4, hr4, hg4, hf4⟩
           have HS4 := Lib.hid (HS.out.rdr hg4 hr4)
           have HI4 : Hid (FreshB (B + 1) w4.heap.size w4 a4 _ c4 _) := Lib.hid (FreshB.ofLo hi4 (fun y hy => by have q1 := hf4 y hy; have q2 := HS.out.tb.lt; omega))
           
           clear hi4 hr4 hg4 hf4 x0 x1 x2 x3 x4 xr
           obtain ⟨x0, x1, x2, x3, x4⟩ := HS4.out.tb.cells
           have xr := HS4.out.ev.vr.cell
           clear f1
           have f1 := HS4.out.tb.frozen 1))
      have HX5 : Hid (Box (w4.setCell ⟨B, 1, none⟩ (.slice a4 (rdBytes 80 (some l)).1.length c4)) 25 B ⟨1, a4, (rdBytes 80 (some l)).1.length, c4, none, 0, 0, none, 0, 0, none, 0, 0⟩) := Lib.hid (HS4.out.tb.set1 a4 (rdBytes 80 (some l)).1.length c4)
      have HG5 := Lib.hid (only_set (only_refl w4 (some B)) 1 (.slice a4 (rdBytes 80 (some l)).1.length c4))
      have HI5 := Lib.hid (HI4.out.upon (Upon.grown HG5.out (Nat.lt_succ_self _)))
      have HS5 := Lib.hid (HS4.out.wr HG5.out HX5.out)
      clear x0 x1 x2 x3 x4 f1 xr HX5 HG5 HI4 HS4 HS
      generalize (w4.setCell ⟨B, 1, none⟩ (.slice a4 (rdBytes 80 (some l)).1.length c4)) = w5 at *
      obtain ⟨x0, x1, x2, x3, x4⟩ := HS5.out.tb.cells
      have xr := HS5.out.ev.vr.cell
      have f2 := HS5.out.tb.frozen 2
      go_upto_region 15 with (first
        | (go_at_call 26
           refine (rdBytes_any g gb (rdBytes 80 (some l)).2 1024 _ HS5.out.ev.rd (by omega) (by omega)).mono ?_
           rintro _ w6 ⟨a6, c6, rfl, hi6, hr6, hg6, hf6⟩
           have HS6 := Lib.hid (HS5.out.rdr hg6 hr6)
           have HS5G := Lib.hid hg6
           have HI6 : Hid (FreshB (B + 1) w6.heap.size w6 a6 _ c6 _) := Lib.hid (FreshB.ofLo hi6 (fun y hy => by have q1 := hf6 y hy; have q2 := HS5.out.tb.lt; omega))
           
           clear hi6 hr6 hg6 hf6 x0 x1 x2 x3 x4 xr
           obtain ⟨x0, x1, x2, x3, x4⟩ := HS6.out.tb.cells
           have xr := HS6.out.ev.vr.cell
           have HJ6 := Lib.hid (HI5.out.upon (Upon.grown HS5G.out (Nat.lt_succ_of_lt (Nat.lt_trans HS5.out.lo.1 HS5.out.lt))))
           clear f2
           have f2 := HS6.out.tb.frozen 2))
      have HX7 : Hid (Box (w6.setCell ⟨B, 2, none⟩ (.slice a6 (rdBytes 1024 (rdBytes 80 (some l)).2).1.length c6)) 25 B ⟨1, a4, (rdBytes 80 (some l)).1.length, c4, a6, (rdBytes 1024 (rdBytes 80 (some l)).2).1.length, c6, none, 0, 0, none, 0, 0⟩) := Lib.hid (HS6.out.tb.set2 a6 (rdBytes 1024 (rdBytes 80 (some l)).2).1.length c6)
      have HG7 := Lib.hid (only_set (only_refl w6 (some B)) 2 (.slice a6 (rdBytes 1024 (rdBytes 80 (some l)).2).1.length c6))
      have HI7 := Lib.hid (HI6.out.upon (Upon.grown HG7.out (Nat.lt_succ_self _)))
      have HJ7 := Lib.hid (HJ6.out.upon (Upon.grown HG7.out (Nat.lt_succ_self _)))
      have HS7 := Lib.hid (HS6.out.wr HG7.out HX7.out)
      clear x0 x1 x2 x3 x4 f2 xr HX7 HG7 HI6 HJ6 HS6 HS5 HI5
      generalize (w6.setCell ⟨B, 2, none⟩ (.slice a6 (rdBytes 1024 (rdBytes 80 (some l)).2).1.length c6)) = w7 at *
      generalize rdBytes 1024 (rdBytes 80 (some l)).2 = zz at *
      generalize rdBytes 80 (some l) = kk at *
      obtain ⟨z, zs⟩ := zz
      obtain ⟨key, ks⟩ := kk
      obtain ⟨x0, x1, x2, x3, x4⟩ := HS7.out.tb.cells
      go_wp2_with (first
        | (refine wpList_store_box rfl 25 (.tmp 4) (.tmp 44) rfl w.heap.size hZ hZ rfl rfl 25 HS7.out.res infoTree5 ?_
           intro w9 hbx9 hg9
           have HX9 := Lib.hid hbx9
           have HG9 := Lib.hid hg9
           clear hbx9 hg9))
      obtain ⟨hr9, hu9⟩ := HS7.out.ret HG9.out
      exact bodyPost_ret (v := .tuple #[TH.v hZ, .bool false]) (Box.result Try.results24 _ HX9.out rfl Try.underlying25 infoTree5) rfl ⟨hZ, false, _, rfl, hr9, hu9, .inl ⟨HO.out, .inl rfl⟩⟩
    · have f1 := HS.out.tb.frozen 1
      go_upto_region 14 with (first
        | (go_at_call 26
           refine (rdBytes_any g gb (some l) 80 _ HS.out.ev.rd (by omega) (by omega)).mono ?_
           rintro _ w4 ⟨a4, c4, rfl, hi4, hr4, hg4, hf4⟩
           have HS4 := Lib.hid (HS.out.rdr hg4 hr4)
           have HI4 : Hid (FreshB (B + 1) w4.heap.size w4 a4 _ c4 _) := Lib.hid (FreshB.ofLo hi4 (fun y hy => by have q1 := hf4 y hy; have q2 := HS.out.tb.lt; omega))
           
           clear hi4 hr4 hg4 hf4 x0 x1 x2 x3 x4 xr
           obtain ⟨x0, x1, x2, x3, x4⟩ := HS4.out.tb.cells
           have xr := HS4.out.ev.vr.cell
           clear f1
           have f1 := HS4.out.tb.frozen 1))
      have HX5 : Hid (Box (w4.setCell ⟨B, 1, none⟩ (.slice a4 (rdBytes 80 (some l)).1.length c4)) 25 B ⟨2, a4, (rdBytes 80 (some l)).1.length, c4, none, 0, 0, none, 0, 0, none, 0, 0⟩) := Lib.hid (HS4.out.tb.set1 a4 (rdBytes 80 (some l)).1.length c4)
      have HG5 := Lib.hid (only_set (only_refl w4 (some B)) 1 (.slice a4 (rdBytes 80 (some l)).1.length c4))
      have HI5 := Lib.hid (HI4.out.upon (Upon.grown HG5.out (Nat.lt_succ_self _)))
      have HS5 := Lib.hid (HS4.out.wr HG5.out HX5.out)
      clear x0 x1 x2 x3 x4 f1 xr HX5 HG5 HI4 HS4 HS
      generalize (w4.setCell ⟨B, 1, none⟩ (.slice a4 (rdBytes 80 (some l)).1.length c4)) = w5 at *
      obtain ⟨x0, x1, x2, x3, x4⟩ := HS5.out.tb.cells
      have xr := HS5.out.ev.vr.cell
      have f2 := HS5.out.tb.frozen 3
      go_upto_region 15 with (first
        | (go_at_call 26
           refine (rdBytes_any g gb (rdBytes 80 (some l)).2 32 _ HS5.out.ev.rd (by omega) (by omega)).mono ?_
           rintro _ w6 ⟨a6, c6, rfl, hi6, hr6, hg6, hf6⟩
           have HS6 := Lib.hid (HS5.out.rdr hg6 hr6)
           have HS5G := Lib.hid hg6
           have HI6 : Hid (FreshB (B + 1) w6.heap.size w6 a6 _ c6 _) := Lib.hid (FreshB.ofLo hi6 (fun y hy => by have q1 := hf6 y hy; have q2 := HS5.out.tb.lt; omega))
           
           clear hi6 hr6 hg6 hf6 x0 x1 x2 x3 x4 xr
           obtain ⟨x0, x1, x2, x3, x4⟩ := HS6.out.tb.cells
           have xr := HS6.out.ev.vr.cell
           have HJ6 := Lib.hid (HI5.out.upon (Upon.grown HS5G.out (Nat.lt_succ_of_lt (Nat.lt_trans HS5.out.lo.1 HS5.out.lt))))
           clear f2
           have f2 := HS6.out.tb.frozen 3))
      have HX7 : Hid (Box (w6.setCell ⟨B, 3, none⟩ (.slice a6 (rdBytes 32 (rdBytes 80 (some l)).2).1.length c6)) 25 B ⟨2, a4, (rdBytes 80 (some l)).1.length, c4, none, 0, 0, a6, (rdBytes 32 (rdBytes 80 (some l)).2).1.length, c6, none, 0, 0⟩) := Lib.hid (HS6.out.tb.set3 a6 (rdBytes 32 (rdBytes 80 (some l)).2).1.length c6)
      have HG7 := Lib.hid (only_set (only_refl w6 (some B)) 3 (.slice a6 (rdBytes 32 (rdBytes 80 (some l)).2).1.length c6))
      have HI7 := Lib.hid (HI6.out.upon (Upon.grown HG7.out (Nat.lt_succ_self _)))
      have HJ7 := Lib.hid (HJ6.out.upon (Upon.grown HG7.out (Nat.lt_succ_self _)))
      have HS7 := Lib.hid (HS6.out.wr HG7.out HX7.out)
      clear x0 x1 x2 x3 x4 f2 xr HX7 HG7 HI6 HJ6 HS6 HS5 HI5
      generalize (w6.setCell ⟨B, 3, none⟩ (.slice a6 (rdBytes 32 (rdBytes 80 (some l)).2).1.length c6)) = w7 at *
      generalize rdBytes 32 (rdBytes 80 (some l)).2 = zz at *
      generalize rdBytes 80 (some l) = kk at *
      obtain ⟨z, zs⟩ := zz
      obtain ⟨key, ks⟩ := kk
      obtain ⟨x0, x1, x2, x3, x4⟩ := HS7.out.tb.cells
      go_wp2_with (first
        | (refine wpList_store_box rfl 25 (.tmp 4) (.tmp 44) rfl w.heap.size hZ hZ rfl rfl 25 HS7.out.res infoTree5 ?_
           intro w9 hbx9 hg9
           have HX9 := Lib.hid hbx9
           have HG9 := Lib.hid hg9
           clear hbx9 hg9))
      obtain ⟨hr9, hu9⟩ := HS7.out.ret HG9.out
      exact bodyPost_ret (v := .tuple #[TH.v hZ, .bool false]) (Box.result Try.results24 _ HX9.out rfl Try.underlying25 infoTree5) rfl ⟨hZ, false, _, rfl, hr9, hu9, .inl ⟨HO.out, .inl rfl⟩⟩
end Go.Proofs.Ytagmeljjkblpbaa
