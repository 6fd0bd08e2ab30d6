/- The contract of the document's digest of a tree. The contracts of the document's preimages of a tree. The document's measure of a tree: has it few enough parts? One byte in a block of its own. No program is named here. The heads of the statements of layer 9: the document's examples; whether a tree is small; what is amiss with a tree. The contract of the document's search in two trees. What the statements ask of errors: which Code one is. The walk of the law ClashFinds. -/
import Derived.Test.YtioifkbkllnkgaaDoorMAA
import Derived.Test.YtioifkbkllnkgaaDoorMAD
import Derived.Test.YtioifkbkllnkgaaDoorMAB
import Derived.Test.YtioifkbkllnkgaaDoorMAC
import Derived.Lib.SlBytesConst
/- The contract of the document's digest of a tree. -/
namespace Go.Proofs.YtioifkbkllnkgaaDoor
open Go.RowKit
set_option linter.unusedVariables false

/-- What the document's digest needs of a world: the tables' box, the tree's box, the constants. -/
structure DW (w W : World) (gk ck : Nat) (h : TH) : Prop where
  tab : TB W w.heap.size (.slice (some ⟨gk, 0, none⟩) 64 ck) hTab
  box : Box W 25 (w.heap.size + 1) h
  ks : Seg .u32 W gk 0 kTab
  b : Below w.heap.size w W
  gk : gk < w.heap.size
theorem DW.below {w W W' : World} {gk ck : Nat} {h : TH} (d : DW w W gk ck h) (hb : Below W.heap.size W W') : DW w W' gk ck h :=
  ⟨d.tab.below hb d.tab.lt, d.box.below hb d.box.lt, d.ks.below hb (Nat.lt_of_lt_of_le d.gk d.b.size), d.b.trans (hb.mono d.b.size), d.gk⟩
theorem DW.drew {w W : World} {gk ck : Nat} {h : TH} (d : DW w W gk ck h) : DW w W.drew gk ck h := d.below (Below.refl _ _).drew
theorem DW.nine {w W : World} {gk ck : Nat} {h : TH} (d : DW w W gk ck h) : W.cell? ⟨w.heap.size, 0, none⟩ = some (.slice (some ⟨gk, 0, none⟩) 64 ck) ∧ W.cell? ⟨w.heap.size, 1, none⟩ = some (.int .u32 1779033703) ∧ W.cell? ⟨w.heap.size, 2, none⟩ = some (.int .u32 3144134277) ∧ W.cell? ⟨w.heap.size, 3, none⟩ = some (.int .u32 1013904242) ∧ W.cell? ⟨w.heap.size, 4, none⟩ = some (.int .u32 2773480762) ∧ W.cell? ⟨w.heap.size, 5, none⟩ = some (.int .u32 1359893119) ∧ W.cell? ⟨w.heap.size, 6, none⟩ = some (.int .u32 2600822924) ∧ W.cell? ⟨w.heap.size, 7, none⟩ = some (.int .u32 528734635) ∧ W.cell? ⟨w.heap.size, 8, none⟩ = some (.int .u32 1541459225) := ⟨d.tab.cell0, tb_cells d.tab⟩
theorem DW.of {w W : World} {gk ck : Nat} {h : TH} (d : DW w W gk ck h) {k : Nat} (hk1 : 1 ≤ k) (hk2 : k ≤ 32) {a : Option Addr} {n cap : Nat} {bs : List Int} (hin : InBytes W a n cap bs) (hn : n ≤ 20000) :
    Calls Tryd.prog 29 #[.agg #[.slice (some ⟨gk, 0, none⟩) 64 ck, .int .u32 1779033703, .int .u32 3144134277, .int .u32 1013904242, .int .u32 2773480762, .int .u32 1359893119, .int .u32 2600822924, .int .u32 528734635, .int .u32 1541459225], .int .i64 k, .slice a n cap] W (OfPost W k bs) :=
  refOf_any k hk1 hk2 a n cap gk ck bs W hin hn d.ks (Nat.lt_of_lt_of_le d.gk d.b.size)

/-- The digest and true, or something and false. -/
def DigPost (w : World) (k : Nat) (t : Tr) (e : Ending) (w' : World) : Prop :=
  ∃ a n c is, e = .returned (.tuple #[.slice a n c, .bool is]) ∧ ((is = true ∧ ∃ zs, digT k t = some zs ∧ InBytes w' a n c zs) ∨ (is = false ∧ digT k t = none)) ∧ Below w.heap.size w w'
set_option maxRecDepth 100000 in
set_option maxHeartbeats 8000000 in
theorem refDigest_any (k : Nat) (hk1 : 1 ≤ k) (hk2 : k ≤ 32) (gk ck : Nat) : ∀ (t : Tr) (h : TH) (w : World), InTree w h t → formedT t = true → Seg .u32 w gk 0 kTab → gk < w.heap.size →
    Calls Tryd.prog 14 #[tabV gk ck, .int .i64 k, h.v] w (DigPost w k t) := by
  intro t
  induction t using Tr.ind with
  | h t ih =>
  intro h w ht hf hks hgk
  obtain ⟨hpb, hfk⟩ := formed_kids hf
  unfold TH.v tabV
  obtain ⟨H, hp⟩ := ht.parts
  have hkl := hp.key.len
  have hvl := hp.val.len
  have hdl := hp.dig.len
  have htl := hp.len
  have HK := Lib.hid hp.hk
  have htc := hp.sl.le
  have HP := Lib.hid hp
  have IH := Lib.hid ih
  clear hp ht ih
  have HPB := Lib.hid (partB_head HP.out)
  have HF := Lib.hid (And.intro hpb hfk)
  have hd0 : DW w ((w.alloc (.cells (Value.slice (some ⟨gk, 0, none⟩) 64 ck :: hTab.map (Value.int .u32)).toArray 36)).alloc (.cells #[.int .i64 h.k, .slice h.ka h.kn h.kc, .slice h.va h.vn h.vc, .slice h.da h.dn h.dc, .slice h.ta h.tn h.tc] 25)) gk ck h := by
    have b1 : Below w.heap.size w (w.alloc (.cells (Value.slice (some ⟨gk, 0, none⟩) 64 ck :: hTab.map (Value.int .u32)).toArray 36)) := (Below.refl _ _).alloc (Nat.le_refl _) _
    have b2 := b1.alloc b1.size (.cells #[.int .i64 h.k, .slice h.ka h.kn h.kc, .slice h.va h.vn h.vc, .slice h.da h.dn h.dc, .slice h.ta h.tn h.tc] 25)
    refine ⟨?_, ?_, hks.below b2 hgk, b2, hgk⟩
    · exact TB.below (heap_alloc_new w _) ((Below.refl _ _).alloc (Nat.le_refl _) _) (by simp)
    · have := Box.new (w.alloc (.cells (Value.slice (some ⟨gk, 0, none⟩) 64 ck :: hTab.map (Value.int .u32)).toArray 36)) 25 h
      simpa using this
  have HD := Lib.hid hd0
  have c1 : 1 ≤ (k : Int) := by omega
  clear hd0 hks hf hpb hfk
  go_enter Tryd.func14, Tryd.ntmps14
  go_upto_region 1 with fail
  generalize (w.alloc (.cells (Value.slice (some ⟨gk, 0, none⟩) 64 ck :: hTab.map (Value.int .u32)).toArray 36)).alloc (.cells #[.int .i64 h.k, .slice h.ka h.kn h.kc, .slice h.va h.vn h.vc, .slice h.da h.dn h.dc, .slice h.ta h.tn h.tc] 25) = w0 at *
  obtain ⟨x0, x1, x2, x3, x4⟩ := HD.out.box.cells
  have hnine := HD.out.nine
  obtain ⟨t0, t1, t2, t3, t4, t5, t6, t7, t8⟩ := hnine
  have hk := HK.out
  have HPK := Lib.hid (part_kids HF.out.1)
  cases e0 : (h.k == 0)
  rotate_left
  · have HE : Hid (t.k = 0) := Lib.hid (by rw [← HK.out]; simpa using e0)
    clear hk
    have hin3 : InBytes (w0.alloc (.cells #[.int .u8 3] 5)) (some ⟨w0.heap.size, 0, none⟩) 1 1 [3] := InBytes.of_own (own_new w0 5 .u8 [3] w0.heap.size (Nat.le_refl _) (by simp [maxLen])) (fun z hz => by simp at hz; omega)
    have HI3 := Lib.hid hin3
    clear hin3
    go_wp2_with (first
      | (go_at_call 29
         (with_reducible refine ((HD.out.below ((Below.refl _ _).alloc (Nat.le_refl _) _)).of hk1 hk2 HI3.out (by omega)).mono ?_)
         rintro _ w1 ⟨g1, hg1, rfl, hr1, hb1⟩
         have HB1 : Hid (Below w.heap.size w w1) := Lib.hid ((HD.out.below ((Below.refl _ _).alloc (Nat.le_refl _) _)).below hb1).b
         have HR1 := Lib.hid (of_in32 hr1 hk2)
         clear hg1 hr1 hb1))
    go_ret2
    exact ⟨_, _, _, true, rfl, .inl ⟨rfl, _, digT_0 HE.out, HR1.out⟩, HB1.out⟩
  cases e3 : (h.k == 3)
  rotate_left
  · have HE : Hid (t.k = 3) := Lib.hid (by rw [← HK.out]; simpa using e3)
    clear hk
    go_upto_region 5 with fail
    refine wp_region_held_drew (S := (fun W => W.cell? ⟨w.heap.size + 1, 3, none⟩ = some (.slice h.da h.dn h.dc))) (by kernel_rfl) x3 (fun hHeld => ?_)
    refine take_w (i := 0) (oi := ?oZ1) (v := ?vZ1) ?hiZ1 (by kernel_rfl) (by kernel_rfl) (by kernel_rfl) ?hQZ1 ?hwZ1 ?hyZ1 (by assumption) ?restZ1
    case hiZ1 => (simp only [List.getElem?_toArray, List.getElem?_cons_zero] <;> rfl)
    case hQZ1 => exact (fun _ _ _ h => h)
    case hwZ1 => rfl
    case hyZ1 => (intro w hSw; (try dsimp only at hSw); go_simp; try with_reducible rfl)
    (try simp only [Act.put, List.setIfInBounds_toArray, List.set_cons_zero, List.set_cons_succ])
    refine take_w (i := 1) (oi := ?oZ2) (v := ?vZ2) ?hiZ2 (by kernel_rfl) (by kernel_rfl) (by kernel_rfl) ?hQZ2 ?hwZ2 ?hyZ2 (by assumption) ?restZ2
    case hiZ2 => (simp only [List.getElem?_toArray, List.getElem?_cons_succ, List.getElem?_cons_zero] <;> rfl)
    case hQZ2 => exact (fun _ _ _ h => h)
    case hwZ2 => rfl
    case hyZ2 => (intro w hSw; (try dsimp only at hSw); go_simp; try with_reducible rfl)
    (try simp only [Act.put, List.setIfInBounds_toArray, List.set_cons_zero, List.set_cons_succ])
    refine take_w (i := 2) (oi := ?oZ3) (v := ?vZ3) ?hiZ3 (by kernel_rfl) (by kernel_rfl) (by kernel_rfl) ?hQZ3 ?hwZ3 ?hyZ3 (by assumption) ?restZ3
    case hiZ3 => (simp only [List.getElem?_toArray, List.getElem?_cons_succ, List.getElem?_cons_zero] <;> rfl)
    case hQZ3 => exact (fun _ _ _ h => h)
    case hwZ3 => rfl
    case hyZ3 => (intro w hSw; (try dsimp only at hSw); go_simp; try with_reducible rfl)
    (try simp only [Act.put, List.setIfInBounds_toArray, List.set_cons_zero, List.set_cons_succ])
    refine take_w (i := 3) (oi := ?oZ4) (v := ?vZ4) ?hiZ4 (by kernel_rfl) (by kernel_rfl) (by kernel_rfl) ?hQZ4 ?hwZ4 ?hyZ4 (by assumption) ?restZ4
    case hiZ4 => (simp only [List.getElem?_toArray, List.getElem?_cons_succ, List.getElem?_cons_zero] <;> rfl)
    case hQZ4 => exact (fun _ _ _ h => h)
    case hwZ4 => rfl
    case hyZ4 => (intro w hSw; (try dsimp only at hSw); go_simp; try with_reducible rfl)
    (try simp only [Act.put, List.setIfInBounds_toArray, List.set_cons_zero, List.set_cons_succ])
    refine take_w (i := 4) (oi := ?oZ5) (v := ?vZ5) ?hiZ5 (by kernel_rfl) (by kernel_rfl) (by kernel_rfl) ?hQZ5 ?hwZ5 ?hyZ5 (by assumption) ?restZ5
    case hiZ5 => (simp only [List.getElem?_toArray, List.getElem?_cons_succ, List.getElem?_cons_zero] <;> rfl)
    case hQZ5 => exact (fun _ _ _ h => h)
    case hwZ5 => rfl
    case hyZ5 => (intro w hSw; (try dsimp only at hSw); go_simp; try with_reducible rfl)
    (try simp only [Act.put, List.setIfInBounds_toArray, List.set_cons_zero, List.set_cons_succ])
    refine take_w (i := 5) (oi := ?oZ6) (v := ?vZ6) ?hiZ6 (by kernel_rfl) (by kernel_rfl) (by kernel_rfl) ?hQZ6 ?hwZ6 ?hyZ6 (by assumption) ?restZ6
    case hiZ6 => (simp only [List.getElem?_toArray, List.getElem?_cons_succ, List.getElem?_cons_zero] <;> rfl)
    case hQZ6 => exact (fun _ _ _ h => h)
    case hwZ6 => rfl
    case hyZ6 => (intro w hSw; (try dsimp only at hSw); go_simp; try with_reducible rfl)
    (try simp only [Act.put, List.setIfInBounds_toArray, List.set_cons_zero, List.set_cons_succ])
    refine take_w (i := 6) (oi := ?oZ7) (v := ?vZ7) ?hiZ7 (by kernel_rfl) (by kernel_rfl) (by kernel_rfl) ?hQZ7 ?hwZ7 ?hyZ7 (by assumption) ?restZ7
    case hiZ7 => (simp only [List.getElem?_toArray, List.getElem?_cons_succ, List.getElem?_cons_zero] <;> rfl)
    case hQZ7 => exact (fun _ _ _ h => h)
    case hwZ7 => rfl
    case hyZ7 => (intro w hSw; (try dsimp only at hSw); go_simp; try with_reducible rfl)
    (try simp only [Act.put, List.setIfInBounds_toArray, List.set_cons_zero, List.set_cons_succ])
    refine take_w (i := 7) (oi := ?oZ8) (v := ?vZ8) ?hiZ8 (by kernel_rfl) (by kernel_rfl) (by kernel_rfl) ?hQZ8 ?hwZ8 ?hyZ8 (by assumption) ?restZ8
    case hiZ8 => (simp only [List.getElem?_toArray, List.getElem?_cons_succ, List.getElem?_cons_zero] <;> rfl)
    case hQZ8 => exact (fun _ _ _ h => h)
    case hwZ8 => rfl
    case hyZ8 => (intro w hSw; (try dsimp only at hSw); go_simp; try with_reducible rfl)
    (try simp only [Act.put, List.setIfInBounds_toArray, List.set_cons_zero, List.set_cons_succ])
    refine take_w (i := 8) (oi := ?oZ9) (v := ?vZ9) ?hiZ9 (by kernel_rfl) (by kernel_rfl) (by kernel_rfl) ?hQZ9 ?hwZ9 ?hyZ9 (by assumption) ?restZ9
    case hiZ9 => (simp only [List.getElem?_toArray, List.getElem?_cons_succ, List.getElem?_cons_zero] <;> rfl)
    case hQZ9 => exact (fun _ _ _ h => h)
    case hwZ9 => rfl
    case hyZ9 => (intro w hSw; (try dsimp only at hSw); go_simp; try with_reducible rfl)
    (try simp only [Act.put, List.setIfInBounds_toArray, List.set_cons_zero, List.set_cons_succ])
    refine wpAnyH_done (by kernel_rfl) ?_ _
    
    go_wp2_with fail
    go_ret2
    refine ⟨_, _, _, _, rfl, ?_, HD.out.drew.b⟩
    rw [digT_3 HE.out, hdl]
    by_cases hdk : h.dn = k
    · exact .inl ⟨by simp [hdk], _, by rw [if_pos hdk], HP.out.dig.below HD.out.drew.b⟩
    · exact .inr ⟨by simp; omega, by rw [if_neg hdk]⟩
  have hk0 : t.k ≠ 0 := by rw [← hk]; simpa using e0
  have hk3 : t.k ≠ 3 := by rw [← hk]; simpa using e3
  have hp2 := HPK.out
  have h2 : t.kids.length = 2 := by omega
  have HH := Lib.hid (And.intro hk0 (And.intro hk3 h2))
  have htn : h.tn = 2 := by omega
  have HTN := Lib.hid htn
  clear hk hk0 hk3 hp2 HPK htn
  go_upto_if 35 with fail
  go_cut [8] (fun s8 wx => ∃ a n c, s8 = .slice a n c ∧ InBytes wx a n c (valT k t) ∧ DW w wx gk ck h)
  case first =>
    have hk := HK.out
    cases e1 : (h.k == 1)
    · have HE : Hid (t.k ≠ 1) := Lib.hid (by rw [← hk]; simpa using e1)
      clear hk
      go_wp2_with fail
      go_meet
      exact ⟨_, _, _, rfl, by unfold valT; rw [if_neg HE.out]; exact HP.out.dig.below HD.out.b, HD.out⟩
    · have HE : Hid (t.k = 1) := Lib.hid (by rw [← hk]; simpa using e1)
      have hpb := HPB.out
      rw [HF.out.1, if_neg (by simpa using e0), if_pos (by simpa using e1)] at hpb
      have hvn : h.vn ≤ 1024 := by
        have := hpb.symm
        simp only [Bool.and_eq_true, decide_eq_true_eq] at this
        omega
      clear hk hpb
      go_upto_region 8 with fail
      refine wp_region_held_drew (S := (fun W => W.cell? ⟨w.heap.size, 0, none⟩ = some (.slice (some ⟨gk, 0, none⟩) 64 ck) ∧ W.cell? ⟨w.heap.size, 1, none⟩ = some (.int .u32 1779033703) ∧ W.cell? ⟨w.heap.size, 2, none⟩ = some (.int .u32 3144134277) ∧ W.cell? ⟨w.heap.size, 3, none⟩ = some (.int .u32 1013904242) ∧ W.cell? ⟨w.heap.size, 4, none⟩ = some (.int .u32 2773480762) ∧ W.cell? ⟨w.heap.size, 5, none⟩ = some (.int .u32 1359893119) ∧ W.cell? ⟨w.heap.size, 6, none⟩ = some (.int .u32 2600822924) ∧ W.cell? ⟨w.heap.size, 7, none⟩ = some (.int .u32 528734635) ∧ W.cell? ⟨w.heap.size, 8, none⟩ = some (.int .u32 1541459225) ∧ W.cell? ⟨w.heap.size + 1, 2, none⟩ = some (.slice h.va h.vn h.vc))) (by kernel_rfl) ⟨HD.out.drew.nine.1, HD.out.drew.nine.2.1, HD.out.drew.nine.2.2.1, HD.out.drew.nine.2.2.2.1, HD.out.drew.nine.2.2.2.2.1, HD.out.drew.nine.2.2.2.2.2.1, HD.out.drew.nine.2.2.2.2.2.2.1, HD.out.drew.nine.2.2.2.2.2.2.2.1, HD.out.drew.nine.2.2.2.2.2.2.2.2, HD.out.drew.box.cells.2.2.1⟩ (fun hHeld => ?_)
      refine take_w (i := 0) (oi := ?oZ10) (v := ?vZ10) ?hiZ10 (by kernel_rfl) (by kernel_rfl) (by kernel_rfl) ?hQZ10 ?hwZ10 ?hyZ10 (by assumption) ?restZ10
      case hiZ10 => (simp only [List.getElem?_toArray, List.getElem?_cons_zero] <;> rfl)
      case hQZ10 => exact (fun _ _ _ h => h)
      case hwZ10 => rfl
      case hyZ10 => (intro w hSw; (try dsimp only at hSw); go_simp; try with_reducible rfl)
      (try simp only [Act.put, List.setIfInBounds_toArray, List.set_cons_zero, List.set_cons_succ])
      refine take_w (i := 1) (oi := ?oZ11) (v := ?vZ11) ?hiZ11 (by kernel_rfl) (by kernel_rfl) (by kernel_rfl) ?hQZ11 ?hwZ11 ?hyZ11 (by assumption) ?restZ11
      case hiZ11 => (simp only [List.getElem?_toArray, List.getElem?_cons_succ, List.getElem?_cons_zero] <;> rfl)
      case hQZ11 => exact (fun _ _ _ h => h)
      case hwZ11 => rfl
      case hyZ11 => (intro w hSw; (try dsimp only at hSw); go_simp; try with_reducible rfl)
      (try simp only [Act.put, List.setIfInBounds_toArray, List.set_cons_zero, List.set_cons_succ])
      refine take_w (i := 2) (oi := ?oZ12) (v := ?vZ12) ?hiZ12 (by kernel_rfl) (by kernel_rfl) (by kernel_rfl) ?hQZ12 ?hwZ12 ?hyZ12 (by assumption) ?restZ12
      case hiZ12 => (simp only [List.getElem?_toArray, List.getElem?_cons_succ, List.getElem?_cons_zero] <;> rfl)
      case hQZ12 => exact (fun _ _ _ h => h)
      case hwZ12 => rfl
      case hyZ12 => (intro w hSw; (try dsimp only at hSw); go_simp; try with_reducible rfl)
      (try simp only [Act.put, List.setIfInBounds_toArray, List.set_cons_zero, List.set_cons_succ])
      refine take_w (i := 3) (oi := ?oZ13) (v := ?vZ13) ?hiZ13 (by kernel_rfl) (by kernel_rfl) (by kernel_rfl) ?hQZ13 ?hwZ13 ?hyZ13 (by assumption) ?restZ13
      case hiZ13 => (simp only [List.getElem?_toArray, List.getElem?_cons_succ, List.getElem?_cons_zero] <;> rfl)
      case hQZ13 => exact (fun _ _ _ h => h)
      case hwZ13 => rfl
      case hyZ13 => (intro w hSw; (try dsimp only at hSw); go_simp; try with_reducible rfl)
      (try simp only [Act.put, List.setIfInBounds_toArray, List.set_cons_zero, List.set_cons_succ])
      refine wpAnyH_ready (rs := [4]) (by kernel_rfl) (by simp) ?_
      refine AllReadyH.cons (o := ?oZ14) ?hiZ14 (fun K hK => ?stZ14) AllReadyH.nil
      case hiZ14 => (simp only [List.getElem?_toArray, List.getElem?_cons_succ, List.getElem?_cons_zero] <;> rfl)
      go_simp
      go_at_call 30
      (with_reducible refine (refValue_any h.va h.vn h.vc t.val _ ?_ (by omega)).mono ?_)
      · exact HP.out.val.below HD.out.drew.b
      rintro _ w1 ⟨g1, c1', rfl, ho1, hb1⟩
      have HD1 := Lib.hid (HD.out.drew.below hb1)
      have HV1 := Lib.hid (InBytes.of_own ho1 (valL_bytes HP.out.val.bytes))
      clear ho1 hb1
      go_simp
      refine hK.out _ _ ?_ (fun hHeld => ?_)
      · (first | exact ⟨HD2.out.nine.1, HD2.out.nine.2.1, HD2.out.nine.2.2.1, HD2.out.nine.2.2.2.1, HD2.out.nine.2.2.2.2.1, HD2.out.nine.2.2.2.2.2.1, HD2.out.nine.2.2.2.2.2.2.1, HD2.out.nine.2.2.2.2.2.2.2.1, HD2.out.nine.2.2.2.2.2.2.2.2, HD2.out.box.cells.2.2.1⟩ | exact ⟨HD1.out.nine.1, HD1.out.nine.2.1, HD1.out.nine.2.2.1, HD1.out.nine.2.2.2.1, HD1.out.nine.2.2.2.2.1, HD1.out.nine.2.2.2.2.2.1, HD1.out.nine.2.2.2.2.2.2.1, HD1.out.nine.2.2.2.2.2.2.2.1, HD1.out.nine.2.2.2.2.2.2.2.2, HD1.out.box.cells.2.2.1⟩ | exact ⟨HD.out.drew.nine.1, HD.out.drew.nine.2.1, HD.out.drew.nine.2.2.1, HD.out.drew.nine.2.2.2.1, HD.out.drew.nine.2.2.2.2.1, HD.out.drew.nine.2.2.2.2.2.1, HD.out.drew.nine.2.2.2.2.2.2.1, HD.out.drew.nine.2.2.2.2.2.2.2.1, HD.out.drew.nine.2.2.2.2.2.2.2.2, HD.out.drew.box.cells.2.2.1⟩)
      clear hK K
      (try simp only [Act.put, List.setIfInBounds_toArray, List.set_cons_zero, List.set_cons_succ])
      refine wpAnyH_ready (rs := [5]) (by kernel_rfl) (by simp) ?_
      refine AllReadyH.cons (o := ?oZ15) ?hiZ15 (fun K hK => ?stZ15) AllReadyH.nil
      case hiZ15 => (simp only [List.getElem?_toArray, List.getElem?_cons_succ, List.getElem?_cons_zero] <;> rfl)
      go_simp
      go_at_call 29
      (with_reducible refine (HD1.out.of hk1 hk2 HV1.out ?_).mono ?_)
      · rw [valL_len]; omega
      rintro _ w2 ⟨g2, hg2, rfl, hr2, hb2⟩
      have HD2 := Lib.hid (HD1.out.below hb2)
      have HR2 := Lib.hid (of_in32 hr2 hk2)
      clear hg2 hr2 hb2
      go_simp
      refine hK.out _ _ ?_ (fun hHeld => ?_)
      · (first | exact ⟨HD2.out.nine.1, HD2.out.nine.2.1, HD2.out.nine.2.2.1, HD2.out.nine.2.2.2.1, HD2.out.nine.2.2.2.2.1, HD2.out.nine.2.2.2.2.2.1, HD2.out.nine.2.2.2.2.2.2.1, HD2.out.nine.2.2.2.2.2.2.2.1, HD2.out.nine.2.2.2.2.2.2.2.2, HD2.out.box.cells.2.2.1⟩ | exact ⟨HD1.out.nine.1, HD1.out.nine.2.1, HD1.out.nine.2.2.1, HD1.out.nine.2.2.2.1, HD1.out.nine.2.2.2.2.1, HD1.out.nine.2.2.2.2.2.1, HD1.out.nine.2.2.2.2.2.2.1, HD1.out.nine.2.2.2.2.2.2.2.1, HD1.out.nine.2.2.2.2.2.2.2.2, HD1.out.box.cells.2.2.1⟩ | exact ⟨HD.out.drew.nine.1, HD.out.drew.nine.2.1, HD.out.drew.nine.2.2.1, HD.out.drew.nine.2.2.2.1, HD.out.drew.nine.2.2.2.2.1, HD.out.drew.nine.2.2.2.2.2.1, HD.out.drew.nine.2.2.2.2.2.2.1, HD.out.drew.nine.2.2.2.2.2.2.2.1, HD.out.drew.nine.2.2.2.2.2.2.2.2, HD.out.drew.box.cells.2.2.1⟩)
      clear hK K
      (try simp only [Act.put, List.setIfInBounds_toArray, List.set_cons_zero, List.set_cons_succ])
      refine take_w (i := 6) (oi := ?oZ16) (v := ?vZ16) ?hiZ16 (by kernel_rfl) (by kernel_rfl) (by kernel_rfl) ?hQZ16 ?hwZ16 ?hyZ16 (by assumption) ?restZ16
      case hiZ16 => (simp only [List.getElem?_toArray, List.getElem?_cons_succ, List.getElem?_cons_zero] <;> rfl)
      case hQZ16 => exact (fun _ _ _ h => h)
      case hwZ16 => rfl
      case hyZ16 => (intro w hSw; (try dsimp only at hSw); go_simp; try with_reducible rfl)
      (try simp only [Act.put, List.setIfInBounds_toArray, List.set_cons_zero, List.set_cons_succ])
      refine wpAnyH_done (by kernel_rfl) ?_ _
      
      go_wp2_with fail
      go_meet
      exact ⟨_, _, _, rfl, by unfold valT; rw [if_pos HE.out]; exact HR2.out, HD2.out⟩
  case rest =>
  obtain ⟨av, nv, cv, rfl, hinv, hdw⟩ := hcut
  have HV := Lib.hid hinv
  have hnv := hinv.len
  clear x0 x1 x2 x3 x4 t0 t1 t2 t3 t4 t5 t6 t7 t8 HD hinv
  generalize wc = w3 at *
  have HD := Lib.hid hdw
  clear hdw
  by_cases hnk : nv = k
  rotate_left
  · have hne : ((nv : Int) != (k : Int)) = true := by simp; omega
    clear hnk
    go_wp2_with fail
    go_ret2
    refine ⟨_, _, _, false, rfl, .inr ⟨rfl, digT_bad HH.out.1 HH.out.2.1 ?_⟩, HD.out.b⟩
    intro hc
    rw [hnv] at hc
    simp [hc] at hne
  obtain rfl : nv = k := hnk
  have HNV := Lib.hid hnv
  clear hnv
  have hkn : h.kn ≤ 80 := by
    have hpb := HPB.out
    rw [HF.out.1, if_neg (by simpa using e0)] at hpb
    have hh := hpb.symm
    split at hh
    · simp only [Bool.and_eq_true, decide_eq_true_eq] at hh
      omega
    · split at hh
      · simp only [Bool.and_eq_true, decide_eq_true_eq] at hh
        omega
      · rw [if_neg (by simpa using e3)] at hh
        cases hh
  have hc0 : ((nv : Int) != (nv : Int)) = false := by simp
  have l0 : 0 < t.kids.length := by omega
  have l1 : 1 < t.kids.length := by omega
  have htn := HTN.out
  have ht0 : 0 < h.tn := by omega
  have ht1 : (1 : Int) < (h.tn : Int) := by omega
  clear htn
  obtain ⟨g, off, hta, _, _⟩ := (HP.out.below HD.out.b).place ht0
  have HTA := Lib.hid hta
  clear hta
  go_upto_region 11 with fail
  refine wp_region_held_drew (S := (fun W => W.cell? ⟨w.heap.size, 0, none⟩ = some (.slice (some ⟨gk, 0, none⟩) 64 ck) ∧ W.cell? ⟨w.heap.size, 1, none⟩ = some (.int .u32 1779033703) ∧ W.cell? ⟨w.heap.size, 2, none⟩ = some (.int .u32 3144134277) ∧ W.cell? ⟨w.heap.size, 3, none⟩ = some (.int .u32 1013904242) ∧ W.cell? ⟨w.heap.size, 4, none⟩ = some (.int .u32 2773480762) ∧ W.cell? ⟨w.heap.size, 5, none⟩ = some (.int .u32 1359893119) ∧ W.cell? ⟨w.heap.size, 6, none⟩ = some (.int .u32 2600822924) ∧ W.cell? ⟨w.heap.size, 7, none⟩ = some (.int .u32 528734635) ∧ W.cell? ⟨w.heap.size, 8, none⟩ = some (.int .u32 1541459225) ∧ W.cell? ⟨w.heap.size + 1, 4, none⟩ = some (.slice (some ⟨g, off, none⟩) h.tn h.tc) ∧ W.cell? ⟨g, off, none⟩ = some (.int .i64 (H 0).k) ∧ W.cell? ⟨g, off + 1, none⟩ = some (.slice (H 0).ka (H 0).kn (H 0).kc) ∧ W.cell? ⟨g, off + 2, none⟩ = some (.slice (H 0).va (H 0).vn (H 0).vc) ∧ W.cell? ⟨g, off + 3, none⟩ = some (.slice (H 0).da (H 0).dn (H 0).dc) ∧ W.cell? ⟨g, off + 4, none⟩ = some (.slice (H 0).ta (H 0).tn (H 0).tc))) (by kernel_rfl) ⟨HD.out.drew.nine.1, HD.out.drew.nine.2.1, HD.out.drew.nine.2.2.1, HD.out.drew.nine.2.2.2.1, HD.out.drew.nine.2.2.2.2.1, HD.out.drew.nine.2.2.2.2.2.1, HD.out.drew.nine.2.2.2.2.2.2.1, HD.out.drew.nine.2.2.2.2.2.2.2.1, HD.out.drew.nine.2.2.2.2.2.2.2.2, (HD.out.drew.box.cells.2.2.2.2).trans (by rw [HTA.out]), (HP.out.below HD.out.drew.b).kid0 HTA.out (by omega)⟩ (fun hHeld => ?_)
  refine take_w (i := 0) (oi := ?oZ17) (v := ?vZ17) ?hiZ17 (by kernel_rfl) (by kernel_rfl) (by kernel_rfl) ?hQZ17 ?hwZ17 ?hyZ17 (by assumption) ?restZ17
  case hiZ17 => (simp only [List.getElem?_toArray, List.getElem?_cons_zero] <;> rfl)
  case hQZ17 => exact (fun _ _ _ h => h)
  case hwZ17 => rfl
  case hyZ17 => (intro w hSw; (try dsimp only at hSw); go_simp; try with_reducible rfl)
  (try simp only [Act.put, List.setIfInBounds_toArray, List.set_cons_zero, List.set_cons_succ])
  refine take_w (i := 1) (oi := ?oZ18) (v := ?vZ18) ?hiZ18 (by kernel_rfl) (by kernel_rfl) (by kernel_rfl) ?hQZ18 ?hwZ18 ?hyZ18 (by assumption) ?restZ18
  case hiZ18 => (simp only [List.getElem?_toArray, List.getElem?_cons_succ, List.getElem?_cons_zero] <;> rfl)
  case hQZ18 => exact (fun _ _ _ h => h)
  case hwZ18 => rfl
  case hyZ18 => (intro w hSw; (try dsimp only at hSw); go_simp; try with_reducible rfl)
  (try simp only [Act.put, List.setIfInBounds_toArray, List.set_cons_zero, List.set_cons_succ])
  refine take_w (i := 2) (oi := ?oZ19) (v := ?vZ19) ?hiZ19 (by kernel_rfl) (by kernel_rfl) (by kernel_rfl) ?hQZ19 ?hwZ19 ?hyZ19 (by assumption) ?restZ19
  case hiZ19 => (simp only [List.getElem?_toArray, List.getElem?_cons_succ, List.getElem?_cons_zero] <;> rfl)
  case hQZ19 => exact (fun _ _ _ h => h)
  case hwZ19 => rfl
  case hyZ19 => (intro w hSw; (try dsimp only at hSw); go_simp; try with_reducible rfl)
  (try simp only [Act.put, List.setIfInBounds_toArray, List.set_cons_zero, List.set_cons_succ])
  refine take_w (i := 3) (oi := ?oZ20) (v := ?vZ20) ?hiZ20 (by kernel_rfl) (by kernel_rfl) (by kernel_rfl) ?hQZ20 ?hwZ20 ?hyZ20 (by assumption) ?restZ20
  case hiZ20 => (simp only [List.getElem?_toArray, List.getElem?_cons_succ, List.getElem?_cons_zero] <;> rfl)
  case hQZ20 => exact (fun _ _ _ h => h)
  case hwZ20 => rfl
  case hyZ20 => (intro w hSw; (try dsimp only at hSw); go_simp; try with_reducible rfl)
  (try simp only [Act.put, List.setIfInBounds_toArray, List.set_cons_zero, List.set_cons_succ])
  refine take_w (i := 4) (oi := ?oZ21) (v := ?vZ21) ?hiZ21 (by kernel_rfl) (by kernel_rfl) (by kernel_rfl) ?hQZ21 ?hwZ21 ?hyZ21 (by assumption) ?restZ21
  case hiZ21 => (simp only [List.getElem?_toArray, List.getElem?_cons_succ, List.getElem?_cons_zero] <;> rfl)
  case hQZ21 => exact (fun _ _ _ h => h)
  case hwZ21 => rfl
  case hyZ21 => (intro w hSw; (try dsimp only at hSw); go_simp; try with_reducible rfl)
  (try simp only [Act.put, List.setIfInBounds_toArray, List.set_cons_zero, List.set_cons_succ])
  refine take_w (i := 5) (oi := ?oZ22) (v := ?vZ22) ?hiZ22 (by kernel_rfl) (by kernel_rfl) (by kernel_rfl) ?hQZ22 ?hwZ22 ?hyZ22 (by assumption) ?restZ22
  case hiZ22 => (simp only [List.getElem?_toArray, List.getElem?_cons_succ, List.getElem?_cons_zero] <;> rfl)
  case hQZ22 => exact (fun _ _ _ h => h)
  case hwZ22 => rfl
  case hyZ22 => (intro w hSw; (try dsimp only at hSw); go_simp; try with_reducible rfl)
  (try simp only [Act.put, List.setIfInBounds_toArray, List.set_cons_zero, List.set_cons_succ])
  refine wpAnyH_ready (rs := [6]) (by kernel_rfl) (by simp) ?_
  refine AllReadyH.cons (o := ?oZ23) ?hiZ23 (fun K hK => ?stZ23) AllReadyH.nil
  case hiZ23 => (simp only [List.getElem?_toArray, List.getElem?_cons_succ, List.getElem?_cons_zero] <;> rfl)
  go_simp
  go_at_call 14
  refine (IH.out _ (List.getElem_mem l0) (H 0) _ ((HP.out.below HD.out.drew.b).kids 0 l0) (HF.out.2 0 l0) HD.out.drew.ks (Nat.lt_of_lt_of_le HD.out.drew.gk HD.out.drew.b.size)).mono ?_
  rintro _ w4 ⟨a4, n4, cc4, is4, rfl, hres4, hb4⟩
  have HD4 := Lib.hid (HD.out.drew.below hb4)
  have HRES4 := Lib.hid hres4
  have HV4 := Lib.hid ((HV.out.below (Below.refl _ _).drew).below hb4)
  clear hres4 hb4
  go_simp
  refine hK.out _ _ ?_ (fun hHeld => ?_)
  · (first | exact ⟨HD4.out.nine.1, HD4.out.nine.2.1, HD4.out.nine.2.2.1, HD4.out.nine.2.2.2.1, HD4.out.nine.2.2.2.2.1, HD4.out.nine.2.2.2.2.2.1, HD4.out.nine.2.2.2.2.2.2.1, HD4.out.nine.2.2.2.2.2.2.2.1, HD4.out.nine.2.2.2.2.2.2.2.2, (HD4.out.box.cells.2.2.2.2).trans (by rw [HTA.out]), (HP.out.below HD4.out.b).kid0 HTA.out (by omega)⟩ | exact ⟨HD.out.drew.nine.1, HD.out.drew.nine.2.1, HD.out.drew.nine.2.2.1, HD.out.drew.nine.2.2.2.1, HD.out.drew.nine.2.2.2.2.1, HD.out.drew.nine.2.2.2.2.2.1, HD.out.drew.nine.2.2.2.2.2.2.1, HD.out.drew.nine.2.2.2.2.2.2.2.1, HD.out.drew.nine.2.2.2.2.2.2.2.2, (HD.out.drew.box.cells.2.2.2.2).trans (by rw [HTA.out]), (HP.out.below HD.out.drew.b).kid0 HTA.out (by omega)⟩)
  clear hK K
  (try simp only [Act.put, List.setIfInBounds_toArray, List.set_cons_zero, List.set_cons_succ])
  refine take_w (i := 7) (oi := ?oZ24) (v := ?vZ24) ?hiZ24 (by kernel_rfl) (by kernel_rfl) (by kernel_rfl) ?hQZ24 ?hwZ24 ?hyZ24 (by assumption) ?restZ24
  case hiZ24 => (simp only [List.getElem?_toArray, List.getElem?_cons_succ, List.getElem?_cons_zero] <;> rfl)
  case hQZ24 => exact (fun _ _ _ h => h)
  case hwZ24 => rfl
  case hyZ24 => (intro w hSw; (try dsimp only at hSw); go_simp; try with_reducible rfl)
  (try simp only [Act.put, List.setIfInBounds_toArray, List.set_cons_zero, List.set_cons_succ])
  refine take_w (i := 8) (oi := ?oZ25) (v := ?vZ25) ?hiZ25 (by kernel_rfl) (by kernel_rfl) (by kernel_rfl) ?hQZ25 ?hwZ25 ?hyZ25 (by assumption) ?restZ25
  case hiZ25 => (simp only [List.getElem?_toArray, List.getElem?_cons_succ, List.getElem?_cons_zero] <;> rfl)
  case hQZ25 => exact (fun _ _ _ h => h)
  case hwZ25 => rfl
  case hyZ25 => (intro w hSw; (try dsimp only at hSw); go_simp; try with_reducible rfl)
  (try simp only [Act.put, List.setIfInBounds_toArray, List.set_cons_zero, List.set_cons_succ])
  refine take_w (i := 9) (oi := ?oZ26) (v := ?vZ26) ?hiZ26 (by kernel_rfl) (by kernel_rfl) (by kernel_rfl) ?hQZ26 ?hwZ26 ?hyZ26 (by assumption) ?restZ26
  case hiZ26 => (simp only [List.getElem?_toArray, List.getElem?_cons_succ, List.getElem?_cons_zero] <;> rfl)
  case hQZ26 => exact (fun _ _ _ h => h)
  case hwZ26 => rfl
  case hyZ26 => (intro w hSw; (try dsimp only at hSw); go_simp; try with_reducible rfl)
  (try simp only [Act.put, List.setIfInBounds_toArray, List.set_cons_zero, List.set_cons_succ])
  refine take_w (i := 10) (oi := ?oZ27) (v := ?vZ27) ?hiZ27 (by kernel_rfl) (by kernel_rfl) (by kernel_rfl) ?hQZ27 ?hwZ27 ?hyZ27 (by assumption) ?restZ27
  case hiZ27 => (simp only [List.getElem?_toArray, List.getElem?_cons_succ, List.getElem?_cons_zero] <;> rfl)
  case hQZ27 => exact (fun _ _ _ h => h)
  case hwZ27 => rfl
  case hyZ27 => (intro w hSw; (try dsimp only at hSw); go_simp; try with_reducible rfl)
  (try simp only [Act.put, List.setIfInBounds_toArray, List.set_cons_zero, List.set_cons_succ])
  refine take_w (i := 11) (oi := ?oZ28) (v := ?vZ28) ?hiZ28 (by kernel_rfl) (by kernel_rfl) (by kernel_rfl) ?hQZ28 ?hwZ28 ?hyZ28 (by assumption) ?restZ28
  case hiZ28 => (simp only [List.getElem?_toArray, List.getElem?_cons_succ, List.getElem?_cons_zero] <;> rfl)
  case hQZ28 => exact (fun _ _ _ h => h)
  case hwZ28 => rfl
  case hyZ28 => (intro w hSw; (try dsimp only at hSw); go_simp; try with_reducible rfl)
  (try simp only [Act.put, List.setIfInBounds_toArray, List.set_cons_zero, List.set_cons_succ])
  refine wpAnyH_done (by kernel_rfl) ?_ _
  
  clear hHeld
  go_upto_region 12 with fail
  refine wp_region_held_drew (S := (fun W => W.cell? ⟨w.heap.size, 0, none⟩ = some (.slice (some ⟨gk, 0, none⟩) 64 ck) ∧ W.cell? ⟨w.heap.size, 1, none⟩ = some (.int .u32 1779033703) ∧ W.cell? ⟨w.heap.size, 2, none⟩ = some (.int .u32 3144134277) ∧ W.cell? ⟨w.heap.size, 3, none⟩ = some (.int .u32 1013904242) ∧ W.cell? ⟨w.heap.size, 4, none⟩ = some (.int .u32 2773480762) ∧ W.cell? ⟨w.heap.size, 5, none⟩ = some (.int .u32 1359893119) ∧ W.cell? ⟨w.heap.size, 6, none⟩ = some (.int .u32 2600822924) ∧ W.cell? ⟨w.heap.size, 7, none⟩ = some (.int .u32 528734635) ∧ W.cell? ⟨w.heap.size, 8, none⟩ = some (.int .u32 1541459225) ∧ W.cell? ⟨w.heap.size + 1, 4, none⟩ = some (.slice (some ⟨g, off, none⟩) h.tn h.tc) ∧ W.cell? ⟨g, off + 5, none⟩ = some (.int .i64 (H 1).k) ∧ W.cell? ⟨g, off + 5 + 1, none⟩ = some (.slice (H 1).ka (H 1).kn (H 1).kc) ∧ W.cell? ⟨g, off + 5 + 2, none⟩ = some (.slice (H 1).va (H 1).vn (H 1).vc) ∧ W.cell? ⟨g, off + 5 + 3, none⟩ = some (.slice (H 1).da (H 1).dn (H 1).dc) ∧ W.cell? ⟨g, off + 5 + 4, none⟩ = some (.slice (H 1).ta (H 1).tn (H 1).tc))) (by kernel_rfl) ⟨HD4.out.drew.nine.1, HD4.out.drew.nine.2.1, HD4.out.drew.nine.2.2.1, HD4.out.drew.nine.2.2.2.1, HD4.out.drew.nine.2.2.2.2.1, HD4.out.drew.nine.2.2.2.2.2.1, HD4.out.drew.nine.2.2.2.2.2.2.1, HD4.out.drew.nine.2.2.2.2.2.2.2.1, HD4.out.drew.nine.2.2.2.2.2.2.2.2, (HD4.out.drew.box.cells.2.2.2.2).trans (by rw [HTA.out]), (HP.out.below HD4.out.drew.b).kid1 HTA.out (by omega)⟩ (fun hHeld => ?_)
  refine take_w (i := 0) (oi := ?oZ29) (v := ?vZ29) ?hiZ29 (by kernel_rfl) (by kernel_rfl) (by kernel_rfl) ?hQZ29 ?hwZ29 ?hyZ29 (by assumption) ?restZ29
  case hiZ29 => (simp only [List.getElem?_toArray, List.getElem?_cons_zero] <;> rfl)
  case hQZ29 => exact (fun _ _ _ h => h)
  case hwZ29 => rfl
  case hyZ29 => (intro w hSw; (try dsimp only at hSw); go_simp; try with_reducible rfl)
  (try simp only [Act.put, List.setIfInBounds_toArray, List.set_cons_zero, List.set_cons_succ])
  refine take_w (i := 1) (oi := ?oZ30) (v := ?vZ30) ?hiZ30 (by kernel_rfl) (by kernel_rfl) (by kernel_rfl) ?hQZ30 ?hwZ30 ?hyZ30 (by assumption) ?restZ30
  case hiZ30 => (simp only [List.getElem?_toArray, List.getElem?_cons_succ, List.getElem?_cons_zero] <;> rfl)
  case hQZ30 => exact (fun _ _ _ h => h)
  case hwZ30 => rfl
  case hyZ30 => (intro w hSw; (try dsimp only at hSw); go_simp; try with_reducible rfl)
  (try simp only [Act.put, List.setIfInBounds_toArray, List.set_cons_zero, List.set_cons_succ])
  refine take_w (i := 2) (oi := ?oZ31) (v := ?vZ31) ?hiZ31 (by kernel_rfl) (by kernel_rfl) (by kernel_rfl) ?hQZ31 ?hwZ31 ?hyZ31 (by assumption) ?restZ31
  case hiZ31 => (simp only [List.getElem?_toArray, List.getElem?_cons_succ, List.getElem?_cons_zero] <;> rfl)
  case hQZ31 => exact (fun _ _ _ h => h)
  case hwZ31 => rfl
  case hyZ31 => (intro w hSw; (try dsimp only at hSw); go_simp; try with_reducible rfl)
  (try simp only [Act.put, List.setIfInBounds_toArray, List.set_cons_zero, List.set_cons_succ])
  refine take_w (i := 3) (oi := ?oZ32) (v := ?vZ32) ?hiZ32 (by kernel_rfl) (by kernel_rfl) (by kernel_rfl) ?hQZ32 ?hwZ32 ?hyZ32 (by assumption) ?restZ32
  case hiZ32 => (simp only [List.getElem?_toArray, List.getElem?_cons_succ, List.getElem?_cons_zero] <;> rfl)
  case hQZ32 => exact (fun _ _ _ h => h)
  case hwZ32 => rfl
  case hyZ32 => (intro w hSw; (try dsimp only at hSw); go_simp; try with_reducible rfl)
  (try simp only [Act.put, List.setIfInBounds_toArray, List.set_cons_zero, List.set_cons_succ])
  refine take_w (i := 4) (oi := ?oZ33) (v := ?vZ33) ?hiZ33 (by kernel_rfl) (by kernel_rfl) (by kernel_rfl) ?hQZ33 ?hwZ33 ?hyZ33 (by assumption) ?restZ33
  case hiZ33 => (simp only [List.getElem?_toArray, List.getElem?_cons_succ, List.getElem?_cons_zero] <;> rfl)
  case hQZ33 => exact (fun _ _ _ h => h)
  case hwZ33 => rfl
  case hyZ33 => (intro w hSw; (try dsimp only at hSw); go_simp; try with_reducible rfl)
  (try simp only [Act.put, List.setIfInBounds_toArray, List.set_cons_zero, List.set_cons_succ])
  refine take_w (i := 5) (oi := ?oZ34) (v := ?vZ34) ?hiZ34 (by kernel_rfl) (by kernel_rfl) (by kernel_rfl) ?hQZ34 ?hwZ34 ?hyZ34 (by assumption) ?restZ34
  case hiZ34 => (simp only [List.getElem?_toArray, List.getElem?_cons_succ, List.getElem?_cons_zero] <;> rfl)
  case hQZ34 => exact (fun _ _ _ h => h)
  case hwZ34 => rfl
  case hyZ34 => (intro w hSw; (try dsimp only at hSw); go_simp; try with_reducible rfl)
  (try simp only [Act.put, List.setIfInBounds_toArray, List.set_cons_zero, List.set_cons_succ])
  refine wpAnyH_ready (rs := [6]) (by kernel_rfl) (by simp) ?_
  refine AllReadyH.cons (o := ?oZ35) ?hiZ35 (fun K hK => ?stZ35) AllReadyH.nil
  case hiZ35 => (simp only [List.getElem?_toArray, List.getElem?_cons_succ, List.getElem?_cons_zero] <;> rfl)
  go_simp
  go_at_call 14
  refine (IH.out _ (List.getElem_mem l1) (H 1) _ ((HP.out.below HD4.out.drew.b).kids 1 l1) (HF.out.2 1 l1) HD4.out.drew.ks (Nat.lt_of_lt_of_le HD4.out.drew.gk HD4.out.drew.b.size)).mono ?_
  rintro _ w5 ⟨a5, n5, cc5, is5, rfl, hres5, hb5⟩
  have HD5 := Lib.hid (HD4.out.drew.below hb5)
  have HRES5 := Lib.hid hres5
  have HV5 := Lib.hid ((HV4.out.below (Below.refl _ _).drew).below hb5)
  have HBB5 : Hid (Below w4.heap.size w4 w5) := Lib.hid ((Below.refl w4.heap.size w4).drew.trans hb5)
  clear hres5 hb5
  go_simp
  refine hK.out _ _ ?_ (fun hHeld => ?_)
  · (first | exact ⟨HD5.out.nine.1, HD5.out.nine.2.1, HD5.out.nine.2.2.1, HD5.out.nine.2.2.2.1, HD5.out.nine.2.2.2.2.1, HD5.out.nine.2.2.2.2.2.1, HD5.out.nine.2.2.2.2.2.2.1, HD5.out.nine.2.2.2.2.2.2.2.1, HD5.out.nine.2.2.2.2.2.2.2.2, (HD5.out.box.cells.2.2.2.2).trans (by rw [HTA.out]), (HP.out.below HD5.out.b).kid1 HTA.out (by omega)⟩ | exact ⟨HD4.out.drew.nine.1, HD4.out.drew.nine.2.1, HD4.out.drew.nine.2.2.1, HD4.out.drew.nine.2.2.2.1, HD4.out.drew.nine.2.2.2.2.1, HD4.out.drew.nine.2.2.2.2.2.1, HD4.out.drew.nine.2.2.2.2.2.2.1, HD4.out.drew.nine.2.2.2.2.2.2.2.1, HD4.out.drew.nine.2.2.2.2.2.2.2.2, (HD4.out.drew.box.cells.2.2.2.2).trans (by rw [HTA.out]), (HP.out.below HD4.out.drew.b).kid1 HTA.out (by omega)⟩)
  clear hK K
  (try simp only [Act.put, List.setIfInBounds_toArray, List.set_cons_zero, List.set_cons_succ])
  refine take_w (i := 7) (oi := ?oZ36) (v := ?vZ36) ?hiZ36 (by kernel_rfl) (by kernel_rfl) (by kernel_rfl) ?hQZ36 ?hwZ36 ?hyZ36 (by assumption) ?restZ36
  case hiZ36 => (simp only [List.getElem?_toArray, List.getElem?_cons_succ, List.getElem?_cons_zero] <;> rfl)
  case hQZ36 => exact (fun _ _ _ h => h)
  case hwZ36 => rfl
  case hyZ36 => (intro w hSw; (try dsimp only at hSw); go_simp; try with_reducible rfl)
  (try simp only [Act.put, List.setIfInBounds_toArray, List.set_cons_zero, List.set_cons_succ])
  refine take_w (i := 8) (oi := ?oZ37) (v := ?vZ37) ?hiZ37 (by kernel_rfl) (by kernel_rfl) (by kernel_rfl) ?hQZ37 ?hwZ37 ?hyZ37 (by assumption) ?restZ37
  case hiZ37 => (simp only [List.getElem?_toArray, List.getElem?_cons_succ, List.getElem?_cons_zero] <;> rfl)
  case hQZ37 => exact (fun _ _ _ h => h)
  case hwZ37 => rfl
  case hyZ37 => (intro w hSw; (try dsimp only at hSw); go_simp; try with_reducible rfl)
  (try simp only [Act.put, List.setIfInBounds_toArray, List.set_cons_zero, List.set_cons_succ])
  refine take_w (i := 9) (oi := ?oZ38) (v := ?vZ38) ?hiZ38 (by kernel_rfl) (by kernel_rfl) (by kernel_rfl) ?hQZ38 ?hwZ38 ?hyZ38 (by assumption) ?restZ38
  case hiZ38 => (simp only [List.getElem?_toArray, List.getElem?_cons_succ, List.getElem?_cons_zero] <;> rfl)
  case hQZ38 => exact (fun _ _ _ h => h)
  case hwZ38 => rfl
  case hyZ38 => (intro w hSw; (try dsimp only at hSw); go_simp; try with_reducible rfl)
  (try simp only [Act.put, List.setIfInBounds_toArray, List.set_cons_zero, List.set_cons_succ])
  refine take_w (i := 10) (oi := ?oZ39) (v := ?vZ39) ?hiZ39 (by kernel_rfl) (by kernel_rfl) (by kernel_rfl) ?hQZ39 ?hwZ39 ?hyZ39 (by assumption) ?restZ39
  case hiZ39 => (simp only [List.getElem?_toArray, List.getElem?_cons_succ, List.getElem?_cons_zero] <;> rfl)
  case hQZ39 => exact (fun _ _ _ h => h)
  case hwZ39 => rfl
  case hyZ39 => (intro w hSw; (try dsimp only at hSw); go_simp; try with_reducible rfl)
  (try simp only [Act.put, List.setIfInBounds_toArray, List.set_cons_zero, List.set_cons_succ])
  refine take_w (i := 11) (oi := ?oZ40) (v := ?vZ40) ?hiZ40 (by kernel_rfl) (by kernel_rfl) (by kernel_rfl) ?hQZ40 ?hwZ40 ?hyZ40 (by assumption) ?restZ40
  case hiZ40 => (simp only [List.getElem?_toArray, List.getElem?_cons_succ, List.getElem?_cons_zero] <;> rfl)
  case hQZ40 => exact (fun _ _ _ h => h)
  case hwZ40 => rfl
  case hyZ40 => (intro w hSw; (try dsimp only at hSw); go_simp; try with_reducible rfl)
  (try simp only [Act.put, List.setIfInBounds_toArray, List.set_cons_zero, List.set_cons_succ])
  refine wpAnyH_done (by kernel_rfl) ?_ _
  
  clear hHeld
  rcases HRES4.out with ⟨rfl, zs4, hz4, hin4⟩ | ⟨rfl, hz4⟩
  rotate_left
  · have HZ := Lib.hid hz4
    clear hz4
    go_wp2_with fail
    go_ret2
    exact ⟨_, _, _, false, rfl, .inr ⟨rfl, by rw [digT_node HH.out.1 HH.out.2.1 HNV.out HH.out.2.2, HZ.out]⟩, HD5.out.b⟩
  rcases HRES5.out with ⟨rfl, zs5, hz5, hin5⟩ | ⟨rfl, hz5⟩
  rotate_left
  · have HZ := Lib.hid (And.intro hz4 hz5)
    clear hz4 hz5 hin4
    go_wp2_with fail
    go_ret2
    exact ⟨_, _, _, false, rfl, .inr ⟨rfl, by rw [digT_node HH.out.1 HH.out.2.1 HNV.out HH.out.2.2, HZ.out.1, HZ.out.2]⟩, HD5.out.b⟩
  have hn4 : n4 = nv := by rw [← hin4.len]; exact digT_len hk2 hz4
  have hn5 : n5 = nv := by rw [← hin5.len]; exact digT_len hk2 hz5
  have HI5 : Hid (InBytes w5 a4 n4 cc4 zs4 ∧ InBytes w5 a5 n5 cc5 zs5) := Lib.hid ⟨hin4.below HBB5.out, hin5⟩
  have hn4' : n4 ≤ 32 := by omega
  have hn5' : n5 ≤ 32 := by omega
  have HZ := Lib.hid (And.intro hz4 hz5)
  clear hz4 hz5 hin4 hin5 hn4 hn5 HRES4 HRES5
  go_upto_region 15 with fail
  refine wp_region_held_drew (S := (fun W => W.cell? ⟨w.heap.size, 0, none⟩ = some (.slice (some ⟨gk, 0, none⟩) 64 ck) ∧ W.cell? ⟨w.heap.size, 1, none⟩ = some (.int .u32 1779033703) ∧ W.cell? ⟨w.heap.size, 2, none⟩ = some (.int .u32 3144134277) ∧ W.cell? ⟨w.heap.size, 3, none⟩ = some (.int .u32 1013904242) ∧ W.cell? ⟨w.heap.size, 4, none⟩ = some (.int .u32 2773480762) ∧ W.cell? ⟨w.heap.size, 5, none⟩ = some (.int .u32 1359893119) ∧ W.cell? ⟨w.heap.size, 6, none⟩ = some (.int .u32 2600822924) ∧ W.cell? ⟨w.heap.size, 7, none⟩ = some (.int .u32 528734635) ∧ W.cell? ⟨w.heap.size, 8, none⟩ = some (.int .u32 1541459225) ∧ W.cell? ⟨w.heap.size + 1, 1, none⟩ = some (.slice h.ka h.kn h.kc))) (by kernel_rfl) ⟨HD5.out.drew.nine.1, HD5.out.drew.nine.2.1, HD5.out.drew.nine.2.2.1, HD5.out.drew.nine.2.2.2.1, HD5.out.drew.nine.2.2.2.2.1, HD5.out.drew.nine.2.2.2.2.2.1, HD5.out.drew.nine.2.2.2.2.2.2.1, HD5.out.drew.nine.2.2.2.2.2.2.2.1, HD5.out.drew.nine.2.2.2.2.2.2.2.2, HD5.out.drew.box.cells.2.1⟩ (fun hHeld => ?_)
  refine take_w (i := 0) (oi := ?oZ41) (v := ?vZ41) ?hiZ41 (by kernel_rfl) (by kernel_rfl) (by kernel_rfl) ?hQZ41 ?hwZ41 ?hyZ41 (by assumption) ?restZ41
  case hiZ41 => (simp only [List.getElem?_toArray, List.getElem?_cons_zero] <;> rfl)
  case hQZ41 => exact (fun _ _ _ h => h)
  case hwZ41 => rfl
  case hyZ41 => (intro w hSw; (try dsimp only at hSw); go_simp; try with_reducible rfl)
  (try simp only [Act.put, List.setIfInBounds_toArray, List.set_cons_zero, List.set_cons_succ])
  refine take_w (i := 1) (oi := ?oZ42) (v := ?vZ42) ?hiZ42 (by kernel_rfl) (by kernel_rfl) (by kernel_rfl) ?hQZ42 ?hwZ42 ?hyZ42 (by assumption) ?restZ42
  case hiZ42 => (simp only [List.getElem?_toArray, List.getElem?_cons_succ, List.getElem?_cons_zero] <;> rfl)
  case hQZ42 => exact (fun _ _ _ h => h)
  case hwZ42 => rfl
  case hyZ42 => (intro w hSw; (try dsimp only at hSw); go_simp; try with_reducible rfl)
  (try simp only [Act.put, List.setIfInBounds_toArray, List.set_cons_zero, List.set_cons_succ])
  refine take_w (i := 2) (oi := ?oZ43) (v := ?vZ43) ?hiZ43 (by kernel_rfl) (by kernel_rfl) (by kernel_rfl) ?hQZ43 ?hwZ43 ?hyZ43 (by assumption) ?restZ43
  case hiZ43 => (simp only [List.getElem?_toArray, List.getElem?_cons_succ, List.getElem?_cons_zero] <;> rfl)
  case hQZ43 => exact (fun _ _ _ h => h)
  case hwZ43 => rfl
  case hyZ43 => (intro w hSw; (try dsimp only at hSw); go_simp; try with_reducible rfl)
  (try simp only [Act.put, List.setIfInBounds_toArray, List.set_cons_zero, List.set_cons_succ])
  refine take_w (i := 3) (oi := ?oZ44) (v := ?vZ44) ?hiZ44 (by kernel_rfl) (by kernel_rfl) (by kernel_rfl) ?hQZ44 ?hwZ44 ?hyZ44 (by assumption) ?restZ44
  case hiZ44 => (simp only [List.getElem?_toArray, List.getElem?_cons_succ, List.getElem?_cons_zero] <;> rfl)
  case hQZ44 => exact (fun _ _ _ h => h)
  case hwZ44 => rfl
  case hyZ44 => (intro w hSw; (try dsimp only at hSw); go_simp; try with_reducible rfl)
  (try simp only [Act.put, List.setIfInBounds_toArray, List.set_cons_zero, List.set_cons_succ])
  refine take_w (i := 4) (oi := ?oZ45) (v := ?vZ45) ?hiZ45 (by kernel_rfl) (by kernel_rfl) (by kernel_rfl) ?hQZ45 ?hwZ45 ?hyZ45 (by assumption) ?restZ45
  case hiZ45 => (simp only [List.getElem?_toArray, List.getElem?_cons_succ, List.getElem?_cons_zero] <;> rfl)
  case hQZ45 => exact (fun _ _ _ h => h)
  case hwZ45 => rfl
  case hyZ45 => (intro w hSw; (try dsimp only at hSw); go_simp; try with_reducible rfl)
  (try simp only [Act.put, List.setIfInBounds_toArray, List.set_cons_zero, List.set_cons_succ])
  refine wpAnyH_ready (rs := [5]) (by kernel_rfl) (by simp) ?_
  refine AllReadyH.cons (o := ?oZ46) ?hiZ46 (fun K hK => ?stZ46) AllReadyH.nil
  case hiZ46 => (simp only [List.getElem?_toArray, List.getElem?_cons_succ, List.getElem?_cons_zero] <;> rfl)
  go_simp
  go_at_call 31
  (with_reducible refine (refPair_any h.ka h.kn h.kc t.key av nv cv (valT nv t) _ ?_ ?_ ?_ hk2).mono ?_)
  · exact HP.out.key.below HD5.out.drew.b
  · omega
  · exact HV5.out.below (Below.refl _ _).drew
  rintro _ w6 ⟨g6, c6, rfl, ho6, hb6⟩
  have HD6 := Lib.hid (HD5.out.drew.below hb6)
  have HP6 := Lib.hid (InBytes.of_own ho6 (pairL_bytes HP.out.key.bytes (by omega) HV5.out.bytes))
  have HI6 : Hid (InBytes w6 a4 n4 cc4 zs4 ∧ InBytes w6 a5 n5 cc5 zs5) := Lib.hid ⟨(HI5.out.1.below (Below.refl _ _).drew).below hb6, (HI5.out.2.below (Below.refl _ _).drew).below hb6⟩
  clear ho6 hb6
  go_simp
  refine hK.out _ _ ?_ (fun hHeld => ?_)
  · (first | exact ⟨HD7.out.nine.1, HD7.out.nine.2.1, HD7.out.nine.2.2.1, HD7.out.nine.2.2.2.1, HD7.out.nine.2.2.2.2.1, HD7.out.nine.2.2.2.2.2.1, HD7.out.nine.2.2.2.2.2.2.1, HD7.out.nine.2.2.2.2.2.2.2.1, HD7.out.nine.2.2.2.2.2.2.2.2, HD7.out.box.cells.2.1⟩ | exact ⟨HD6.out.nine.1, HD6.out.nine.2.1, HD6.out.nine.2.2.1, HD6.out.nine.2.2.2.1, HD6.out.nine.2.2.2.2.1, HD6.out.nine.2.2.2.2.2.1, HD6.out.nine.2.2.2.2.2.2.1, HD6.out.nine.2.2.2.2.2.2.2.1, HD6.out.nine.2.2.2.2.2.2.2.2, HD6.out.box.cells.2.1⟩ | exact ⟨HD5.out.drew.nine.1, HD5.out.drew.nine.2.1, HD5.out.drew.nine.2.2.1, HD5.out.drew.nine.2.2.2.1, HD5.out.drew.nine.2.2.2.2.1, HD5.out.drew.nine.2.2.2.2.2.1, HD5.out.drew.nine.2.2.2.2.2.2.1, HD5.out.drew.nine.2.2.2.2.2.2.2.1, HD5.out.drew.nine.2.2.2.2.2.2.2.2, HD5.out.drew.box.cells.2.1⟩)
  clear hK K
  (try simp only [Act.put, List.setIfInBounds_toArray, List.set_cons_zero, List.set_cons_succ])
  refine wpAnyH_ready (rs := [6]) (by kernel_rfl) (by simp) ?_
  refine AllReadyH.cons (o := ?oZ47) ?hiZ47 (fun K hK => ?stZ47) AllReadyH.nil
  case hiZ47 => (simp only [List.getElem?_toArray, List.getElem?_cons_succ, List.getElem?_cons_zero] <;> rfl)
  go_simp
  go_at_call 29
  (with_reducible refine (HD6.out.of hk1 hk2 HP6.out ?_).mono ?_)
  · have hq := pairL_len (a := t.key) (b := valT nv t) (by omega)
    have hq2 := HNV.out
    omega
  rintro _ w7 ⟨g7, hg7, rfl, hr7, hb7⟩
  have HD7 := Lib.hid (HD6.out.below hb7)
  have HR7 := Lib.hid (of_in32 hr7 hk2)
  have HI7 : Hid (InBytes w7 a4 n4 cc4 zs4 ∧ InBytes w7 a5 n5 cc5 zs5) := Lib.hid ⟨HI6.out.1.below hb7, HI6.out.2.below hb7⟩
  clear hg7 hr7 hb7
  go_simp
  refine hK.out _ _ ?_ (fun hHeld => ?_)
  · (first | exact ⟨HD7.out.nine.1, HD7.out.nine.2.1, HD7.out.nine.2.2.1, HD7.out.nine.2.2.2.1, HD7.out.nine.2.2.2.2.1, HD7.out.nine.2.2.2.2.2.1, HD7.out.nine.2.2.2.2.2.2.1, HD7.out.nine.2.2.2.2.2.2.2.1, HD7.out.nine.2.2.2.2.2.2.2.2, HD7.out.box.cells.2.1⟩ | exact ⟨HD6.out.nine.1, HD6.out.nine.2.1, HD6.out.nine.2.2.1, HD6.out.nine.2.2.2.1, HD6.out.nine.2.2.2.2.1, HD6.out.nine.2.2.2.2.2.1, HD6.out.nine.2.2.2.2.2.2.1, HD6.out.nine.2.2.2.2.2.2.2.1, HD6.out.nine.2.2.2.2.2.2.2.2, HD6.out.box.cells.2.1⟩ | exact ⟨HD5.out.drew.nine.1, HD5.out.drew.nine.2.1, HD5.out.drew.nine.2.2.1, HD5.out.drew.nine.2.2.2.1, HD5.out.drew.nine.2.2.2.2.1, HD5.out.drew.nine.2.2.2.2.2.1, HD5.out.drew.nine.2.2.2.2.2.2.1, HD5.out.drew.nine.2.2.2.2.2.2.2.1, HD5.out.drew.nine.2.2.2.2.2.2.2.2, HD5.out.drew.box.cells.2.1⟩)
  clear hK K
  (try simp only [Act.put, List.setIfInBounds_toArray, List.set_cons_zero, List.set_cons_succ])
  refine take_w (i := 7) (oi := ?oZ48) (v := ?vZ48) ?hiZ48 (by kernel_rfl) (by kernel_rfl) (by kernel_rfl) ?hQZ48 ?hwZ48 ?hyZ48 (by assumption) ?restZ48
  case hiZ48 => (simp only [List.getElem?_toArray, List.getElem?_cons_succ, List.getElem?_cons_zero] <;> rfl)
  case hQZ48 => exact (fun _ _ _ h => h)
  case hwZ48 => rfl
  case hyZ48 => (intro w hSw; (try dsimp only at hSw); go_simp; try with_reducible rfl)
  (try simp only [Act.put, List.setIfInBounds_toArray, List.set_cons_zero, List.set_cons_succ])
  refine wpAnyH_done (by kernel_rfl) ?_ _
  
  clear hHeld
  go_upto_region 16 with fail
  refine wp_region_held_drew (S := (fun W => W.cell? ⟨w.heap.size, 0, none⟩ = some (.slice (some ⟨gk, 0, none⟩) 64 ck) ∧ W.cell? ⟨w.heap.size, 1, none⟩ = some (.int .u32 1779033703) ∧ W.cell? ⟨w.heap.size, 2, none⟩ = some (.int .u32 3144134277) ∧ W.cell? ⟨w.heap.size, 3, none⟩ = some (.int .u32 1013904242) ∧ W.cell? ⟨w.heap.size, 4, none⟩ = some (.int .u32 2773480762) ∧ W.cell? ⟨w.heap.size, 5, none⟩ = some (.int .u32 1359893119) ∧ W.cell? ⟨w.heap.size, 6, none⟩ = some (.int .u32 2600822924) ∧ W.cell? ⟨w.heap.size, 7, none⟩ = some (.int .u32 528734635) ∧ W.cell? ⟨w.heap.size, 8, none⟩ = some (.int .u32 1541459225))) (by kernel_rfl) HD7.out.drew.nine (fun hHeld => ?_)
  refine take_w (i := 0) (oi := ?oZ49) (v := ?vZ49) ?hiZ49 (by kernel_rfl) (by kernel_rfl) (by kernel_rfl) ?hQZ49 ?hwZ49 ?hyZ49 (by assumption) ?restZ49
  case hiZ49 => (simp only [List.getElem?_toArray, List.getElem?_cons_zero] <;> rfl)
  case hQZ49 => exact (fun _ _ _ h => h)
  case hwZ49 => rfl
  case hyZ49 => (intro w hSw; (try dsimp only at hSw); go_simp; try with_reducible rfl)
  (try simp only [Act.put, List.setIfInBounds_toArray, List.set_cons_zero, List.set_cons_succ])
  refine take_w (i := 1) (oi := ?oZ50) (v := ?vZ50) ?hiZ50 (by kernel_rfl) (by kernel_rfl) (by kernel_rfl) ?hQZ50 ?hwZ50 ?hyZ50 (by assumption) ?restZ50
  case hiZ50 => (simp only [List.getElem?_toArray, List.getElem?_cons_succ, List.getElem?_cons_zero] <;> rfl)
  case hQZ50 => exact (fun _ _ _ h => h)
  case hwZ50 => rfl
  case hyZ50 => (intro w hSw; (try dsimp only at hSw); go_simp; try with_reducible rfl)
  (try simp only [Act.put, List.setIfInBounds_toArray, List.set_cons_zero, List.set_cons_succ])
  refine take_w (i := 2) (oi := ?oZ51) (v := ?vZ51) ?hiZ51 (by kernel_rfl) (by kernel_rfl) (by kernel_rfl) ?hQZ51 ?hwZ51 ?hyZ51 (by assumption) ?restZ51
  case hiZ51 => (simp only [List.getElem?_toArray, List.getElem?_cons_succ, List.getElem?_cons_zero] <;> rfl)
  case hQZ51 => exact (fun _ _ _ h => h)
  case hwZ51 => rfl
  case hyZ51 => (intro w hSw; (try dsimp only at hSw); go_simp; try with_reducible rfl)
  (try simp only [Act.put, List.setIfInBounds_toArray, List.set_cons_zero, List.set_cons_succ])
  refine take_w (i := 3) (oi := ?oZ52) (v := ?vZ52) ?hiZ52 (by kernel_rfl) (by kernel_rfl) (by kernel_rfl) ?hQZ52 ?hwZ52 ?hyZ52 (by assumption) ?restZ52
  case hiZ52 => (simp only [List.getElem?_toArray, List.getElem?_cons_succ, List.getElem?_cons_zero] <;> rfl)
  case hQZ52 => exact (fun _ _ _ h => h)
  case hwZ52 => rfl
  case hyZ52 => (intro w hSw; (try dsimp only at hSw); go_simp; try with_reducible rfl)
  (try simp only [Act.put, List.setIfInBounds_toArray, List.set_cons_zero, List.set_cons_succ])
  refine take_w (i := 4) (oi := ?oZ53) (v := ?vZ53) ?hiZ53 (by kernel_rfl) (by kernel_rfl) (by kernel_rfl) ?hQZ53 ?hwZ53 ?hyZ53 (by assumption) ?restZ53
  case hiZ53 => (simp only [List.getElem?_toArray, List.getElem?_cons_succ, List.getElem?_cons_zero] <;> rfl)
  case hQZ53 => exact (fun _ _ _ h => h)
  case hwZ53 => rfl
  case hyZ53 => (intro w hSw; (try dsimp only at hSw); go_simp; try with_reducible rfl)
  (try simp only [Act.put, List.setIfInBounds_toArray, List.set_cons_zero, List.set_cons_succ])
  refine wpAnyH_ready (rs := [5]) (by kernel_rfl) (by simp) ?_
  refine AllReadyH.cons (o := ?oZ54) ?hiZ54 (fun K hK => ?stZ54) AllReadyH.nil
  case hiZ54 => (simp only [List.getElem?_toArray, List.getElem?_cons_succ, List.getElem?_cons_zero] <;> rfl)
  go_simp
  go_at_call 32
  (with_reducible refine (refNodeB_any a4 n4 cc4 zs4 _ nv 32 ((sumL (pairL t.key (valT nv t))).take nv) a5 n5 cc5 zs5 _ ?_ ?_ ?_ ?_ ?_ ?_).mono ?_)
  · exact HI7.out.1.below (Below.refl _ _).drew
  · omega
  · exact HR7.out.below (Below.refl _ _).drew
  · omega
  · exact HI7.out.2.below (Below.refl _ _).drew
  · omega
  rintro _ w8 ⟨g8, c8, rfl, ho8, hb8⟩
  have HD8 := Lib.hid (HD7.out.drew.below hb8)
  have HP8 := Lib.hid (InBytes.of_own ho8 (nodeL_bytes HI7.out.1.bytes HR7.out.bytes HI7.out.2.bytes))
  clear ho8 hb8
  go_simp
  refine hK.out _ _ ?_ (fun hHeld => ?_)
  · (first | exact HD9.out.nine | exact HD8.out.nine | exact HD7.out.drew.nine)
  clear hK K
  (try simp only [Act.put, List.setIfInBounds_toArray, List.set_cons_zero, List.set_cons_succ])
  refine wpAnyH_ready (rs := [6]) (by kernel_rfl) (by simp) ?_
  refine AllReadyH.cons (o := ?oZ55) ?hiZ55 (fun K hK => ?stZ55) AllReadyH.nil
  case hiZ55 => (simp only [List.getElem?_toArray, List.getElem?_cons_succ, List.getElem?_cons_zero] <;> rfl)
  go_simp
  go_at_call 29
  (with_reducible refine (HD8.out.of hk1 hk2 HP8.out ?_).mono ?_)
  · have hq := HI7.out.1.len
    have hq2 := HI7.out.2.len
    have hq3 := HR7.out.len
    rw [nodeL_len]
    omega
  rintro _ w9 ⟨g9, hg9, rfl, hr9, hb9⟩
  have HD9 := Lib.hid (HD8.out.below hb9)
  have HR9 := Lib.hid (of_in32 hr9 hk2)
  clear hg9 hr9 hb9
  go_simp
  refine hK.out _ _ ?_ (fun hHeld => ?_)
  · (first | exact HD9.out.nine | exact HD8.out.nine | exact HD7.out.drew.nine)
  clear hK K
  (try simp only [Act.put, List.setIfInBounds_toArray, List.set_cons_zero, List.set_cons_succ])
  refine take_w (i := 7) (oi := ?oZ56) (v := ?vZ56) ?hiZ56 (by kernel_rfl) (by kernel_rfl) (by kernel_rfl) ?hQZ56 ?hwZ56 ?hyZ56 (by assumption) ?restZ56
  case hiZ56 => (simp only [List.getElem?_toArray, List.getElem?_cons_succ, List.getElem?_cons_zero] <;> rfl)
  case hQZ56 => exact (fun _ _ _ h => h)
  case hwZ56 => rfl
  case hyZ56 => (intro w hSw; (try dsimp only at hSw); go_simp; try with_reducible rfl)
  (try simp only [Act.put, List.setIfInBounds_toArray, List.set_cons_zero, List.set_cons_succ])
  refine take_w (i := 8) (oi := ?oZ57) (v := ?vZ57) ?hiZ57 (by kernel_rfl) (by kernel_rfl) (by kernel_rfl) ?hQZ57 ?hwZ57 ?hyZ57 (by assumption) ?restZ57
  case hiZ57 => (simp only [List.getElem?_toArray, List.getElem?_cons_succ, List.getElem?_cons_zero] <;> rfl)
  case hQZ57 => exact (fun _ _ _ h => h)
  case hwZ57 => rfl
  case hyZ57 => (intro w hSw; (try dsimp only at hSw); go_simp; try with_reducible rfl)
  (try simp only [Act.put, List.setIfInBounds_toArray, List.set_cons_zero, List.set_cons_succ])
  refine wpAnyH_done (by kernel_rfl) ?_ _
  
  clear hHeld
  go_wp2_with fail
  go_ret2
  refine ⟨_, _, _, true, rfl, .inl ⟨rfl, _, ?_, HR9.out⟩, HD9.out.b⟩
  rw [digT_node HH.out.1 HH.out.2.1 HNV.out HH.out.2.2, HZ.out.1, HZ.out.2]
end Go.Proofs.YtioifkbkllnkgaaDoor

/- The contracts of the document's preimages of a tree. -/
namespace Go.Proofs.YtioifkbkllnkgaaDoor
open Go.RowKit
set_option linter.unusedVariables false

/-- Bytes are told. -/
def Tells9 (w : World) (bs : List Int) (e : Ending) (w' : World) : Prop := ∃ a n c, e = .returned (.slice a n c) ∧ InBytes w' a n c bs ∧ Below w.heap.size w w'
/-- What Search tells. -/
def Srch (w : World) (r : Option (List Int × List Int)) (e : Ending) (w' : World) : Prop := ∃ a n c a' n' c' is, e = .returned (.tuple #[.slice a n c, .slice a' n' c', .bool is]) ∧ (match r with | none => is = false | some s => is = true ∧ InBytes w' a n c s.1 ∧ InBytes w' a' n' c' s.2) ∧ Below w.heap.size w w'
theorem DW.all {w W : World} {gk ck : Nat} {h : TH} (d : DW w W gk ck h) : (W.cell? ⟨w.heap.size, 0, none⟩ = some (.slice (some ⟨gk, 0, none⟩) 64 ck) ∧ W.cell? ⟨w.heap.size, 1, none⟩ = some (.int .u32 1779033703) ∧ W.cell? ⟨w.heap.size, 2, none⟩ = some (.int .u32 3144134277) ∧ W.cell? ⟨w.heap.size, 3, none⟩ = some (.int .u32 1013904242) ∧ W.cell? ⟨w.heap.size, 4, none⟩ = some (.int .u32 2773480762) ∧ W.cell? ⟨w.heap.size, 5, none⟩ = some (.int .u32 1359893119) ∧ W.cell? ⟨w.heap.size, 6, none⟩ = some (.int .u32 2600822924) ∧ W.cell? ⟨w.heap.size, 7, none⟩ = some (.int .u32 528734635) ∧ W.cell? ⟨w.heap.size, 8, none⟩ = some (.int .u32 1541459225)) ∧ (W.cell? ⟨w.heap.size + 1, 0, none⟩ = some (.int .i64 h.k) ∧ W.cell? ⟨w.heap.size + 1, 1, none⟩ = some (.slice h.ka h.kn h.kc) ∧ W.cell? ⟨w.heap.size + 1, 2, none⟩ = some (.slice h.va h.vn h.vc) ∧ W.cell? ⟨w.heap.size + 1, 3, none⟩ = some (.slice h.da h.dn h.dc) ∧ W.cell? ⟨w.heap.size + 1, 4, none⟩ = some (.slice h.ta h.tn h.tc)) := ⟨d.nine, d.box.cells⟩
theorem DW.enter9 (w : World) (gk ck : Nat) (h : TH) (hks : Seg .u32 w gk 0 kTab) (hgk : gk < w.heap.size) : DW w ((w.alloc (.cells (Value.slice (some ⟨gk, 0, none⟩) 64 ck :: hTab.map (Value.int .u32)).toArray 36)).alloc (.cells #[.int .i64 h.k, .slice h.ka h.kn h.kc, .slice h.va h.vn h.vc, .slice h.da h.dn h.dc, .slice h.ta h.tn h.tc] 25)) gk ck h := by
  have b1 : Below w.heap.size w (w.alloc (.cells (Value.slice (some ⟨gk, 0, none⟩) 64 ck :: hTab.map (Value.int .u32)).toArray 36)) := (Below.refl _ _).alloc (Nat.le_refl _) _
  have b2 := b1.alloc b1.size (.cells #[.int .i64 h.k, .slice h.ka h.kn h.kc, .slice h.va h.vn h.vc, .slice h.da h.dn h.dc, .slice h.ta h.tn h.tc] 25)
  refine ⟨?_, ?_, hks.below b2 hgk, b2, hgk⟩
  · exact TB.below (heap_alloc_new w _) ((Below.refl _ _).alloc (Nat.le_refl _) _) (by simp)
  · have := Box.new (w.alloc (.cells (Value.slice (some ⟨gk, 0, none⟩) 64 ck :: hTab.map (Value.int .u32)).toArray 36)) 25 h
    simpa using this

set_option maxRecDepth 100000 in
set_option maxHeartbeats 8000000 in
theorem refPair9_any (k : Nat) (hk1 : 1 ≤ k) (hk2 : k ≤ 32) (gk ck : Nat) (t : Tr) (h : TH) (w : World) (ht : InTree w h t) (hpb : partB t = true) (h12 : t.k = 1 ∨ t.k = 2) (hv : (valT k t).length = k) (hks : Seg .u32 w gk 0 kTab) (hgk : gk < w.heap.size) :
    Calls Tryd.prog 34 #[tabV gk ck, .int .i64 k, h.v] w (Tells9 w (pairL t.key (valT k t))) := by
  unfold TH.v tabV
  have HD := Lib.hid (DW.enter9 w gk ck h hks hgk)
  obtain ⟨H, hp⟩ := ht.parts
  have hl := part_lens80 hpb
  have hkn : h.kn ≤ 80 := by rw [← hp.key.len]; exact hl.1
  have hvn : h.vn ≤ 1024 := by rw [← hp.val.len]; exact hl.2
  have HVL : Hid (t.val.length = h.vn) := Lib.hid hp.val.len
  have HP := Lib.hid hp
  have HDN : Hid (t.k = 2 → h.dn = k) := Lib.hid (fun q => by
    have e : valT k t = t.dig := by unfold valT; rw [if_neg (by omega)]
    rw [e, hp.dig.len] at hv
    exact hv)
  have HE1 : Hid (t.k = 1 → valT k t = (sumL (valL t.val)).take k) := Lib.hid (fun q => by unfold valT; rw [if_pos q])
  have HE2 : Hid (t.k = 2 → valT k t = t.dig) := Lib.hid (fun q => by unfold valT; rw [if_neg (by omega)])
  have HPB : Hid (Bytes8 (pairL t.key (valT k t))) := Lib.hid (pairL_bytes hp.key.bytes (by omega) (by
    rcases h12 with q | q
    · rw [HE1.out q]; exact fun z hz => sumL_bytes _ z (List.mem_of_mem_take hz)
    · rw [HE2.out q]; exact hp.dig.bytes))
  have HKK : Hid (h.k = t.k) := Lib.hid hp.hk
  clear hp ht hks hgk hl hpb hv
  go_enter Tryd.func34, Tryd.ntmps34
  go_upto_region 1 with fail
  generalize ((w.alloc (.cells (Value.slice (some ⟨gk, 0, none⟩) 64 ck :: hTab.map (Value.int .u32)).toArray 36)).alloc (.cells #[.int .i64 h.k, .slice h.ka h.kn h.kc, .slice h.va h.vn h.vc, .slice h.da h.dn h.dc, .slice h.ta h.tn h.tc] 25)) = w0 at *
  obtain ⟨x0, x1, x2, x3, x4⟩ := HD.out.box.cells
  rcases h12 with h1 | h2
  · have HE := Lib.hid (HE1.out h1)
    have e1 : (h.k == 1) = true := by rw [HKK.out, h1]; rfl
    clear h1
    go_upto_region 3 with fail
    have HDD := Lib.hid HD.out.drew
    refine wp_region_held_drew (S := (fun W => (W.cell? ⟨w.heap.size, 0, none⟩ = some (.slice (some ⟨gk, 0, none⟩) 64 ck) ∧ W.cell? ⟨w.heap.size, 1, none⟩ = some (.int .u32 1779033703) ∧ W.cell? ⟨w.heap.size, 2, none⟩ = some (.int .u32 3144134277) ∧ W.cell? ⟨w.heap.size, 3, none⟩ = some (.int .u32 1013904242) ∧ W.cell? ⟨w.heap.size, 4, none⟩ = some (.int .u32 2773480762) ∧ W.cell? ⟨w.heap.size, 5, none⟩ = some (.int .u32 1359893119) ∧ W.cell? ⟨w.heap.size, 6, none⟩ = some (.int .u32 2600822924) ∧ W.cell? ⟨w.heap.size, 7, none⟩ = some (.int .u32 528734635) ∧ W.cell? ⟨w.heap.size, 8, none⟩ = some (.int .u32 1541459225)) ∧ (W.cell? ⟨w.heap.size + 1, 0, none⟩ = some (.int .i64 h.k) ∧ W.cell? ⟨w.heap.size + 1, 1, none⟩ = some (.slice h.ka h.kn h.kc) ∧ W.cell? ⟨w.heap.size + 1, 2, none⟩ = some (.slice h.va h.vn h.vc) ∧ W.cell? ⟨w.heap.size + 1, 3, none⟩ = some (.slice h.da h.dn h.dc) ∧ W.cell? ⟨w.heap.size + 1, 4, none⟩ = some (.slice h.ta h.tn h.tc)))) (by kernel_rfl) HDD.out.all (fun hHeld => ?_)
    refine take_w (i := 0) (oi := ?oZ1) (v := ?vZ1) ?hiZ1 (by kernel_rfl) (by kernel_rfl) (by kernel_rfl) ?hQZ1 ?hwZ1 ?hyZ1 (by assumption) ?restZ1
    case hiZ1 => (simp only [List.getElem?_toArray, List.getElem?_cons_zero] <;> rfl)
    case hQZ1 => exact (fun _ _ _ h => h)
    case hwZ1 => rfl
    case hyZ1 => (intro w hSw; (try dsimp only at hSw); go_simp; try with_reducible rfl)
    (try simp only [Act.put, List.setIfInBounds_toArray, List.set_cons_zero, List.set_cons_succ])
    refine take_w (i := 1) (oi := ?oZ2) (v := ?vZ2) ?hiZ2 (by kernel_rfl) (by kernel_rfl) (by kernel_rfl) ?hQZ2 ?hwZ2 ?hyZ2 (by assumption) ?restZ2
    case hiZ2 => (simp only [List.getElem?_toArray, List.getElem?_cons_succ, List.getElem?_cons_zero] <;> rfl)
    case hQZ2 => exact (fun _ _ _ h => h)
    case hwZ2 => rfl
    case hyZ2 => (intro w hSw; (try dsimp only at hSw); go_simp; try with_reducible rfl)
    (try simp only [Act.put, List.setIfInBounds_toArray, List.set_cons_zero, List.set_cons_succ])
    refine take_w (i := 2) (oi := ?oZ3) (v := ?vZ3) ?hiZ3 (by kernel_rfl) (by kernel_rfl) (by kernel_rfl) ?hQZ3 ?hwZ3 ?hyZ3 (by assumption) ?restZ3
    case hiZ3 => (simp only [List.getElem?_toArray, List.getElem?_cons_succ, List.getElem?_cons_zero] <;> rfl)
    case hQZ3 => exact (fun _ _ _ h => h)
    case hwZ3 => rfl
    case hyZ3 => (intro w hSw; (try dsimp only at hSw); go_simp; try with_reducible rfl)
    (try simp only [Act.put, List.setIfInBounds_toArray, List.set_cons_zero, List.set_cons_succ])
    refine take_w (i := 3) (oi := ?oZ4) (v := ?vZ4) ?hiZ4 (by kernel_rfl) (by kernel_rfl) (by kernel_rfl) ?hQZ4 ?hwZ4 ?hyZ4 (by assumption) ?restZ4
    case hiZ4 => (simp only [List.getElem?_toArray, List.getElem?_cons_succ, List.getElem?_cons_zero] <;> rfl)
    case hQZ4 => exact (fun _ _ _ h => h)
    case hwZ4 => rfl
    case hyZ4 => (intro w hSw; (try dsimp only at hSw); go_simp; try with_reducible rfl)
    (try simp only [Act.put, List.setIfInBounds_toArray, List.set_cons_zero, List.set_cons_succ])
    refine wpAnyH_ready (rs := [4]) (by kernel_rfl) (by simp) ?_
    refine AllReadyH.cons (o := ?oZ5) ?hiZ5 (fun K hK => ?stZ5) AllReadyH.nil
    case hiZ5 => (simp only [List.getElem?_toArray, List.getElem?_cons_succ, List.getElem?_cons_zero] <;> rfl)
    go_simp
    go_at_call 30
    (with_reducible refine (refValue_any h.va h.vn h.vc t.val _ ?_ (by omega)).mono ?_)
    · exact HP.out.val.below HDD.out.b
    rintro _ w1 ⟨g1, c1, rfl, ho1, hb1⟩
    have HD1 := Lib.hid (HDD.out.below hb1)
    have HV1 := Lib.hid (InBytes.of_own ho1 (valL_bytes HP.out.val.bytes))
    clear ho1 hb1
    go_simp
    refine hK.out _ _ ?_ (fun hHeld => ?_)
    · (first | exact HD2.out.all | exact HD1.out.all | exact HDD.out.all)
    clear hK K
    (try simp only [Act.put, List.setIfInBounds_toArray, List.set_cons_zero, List.set_cons_succ])
    refine wpAnyH_ready (rs := [5]) (by kernel_rfl) (by simp) ?_
    refine AllReadyH.cons (o := ?oZ6) ?hiZ6 (fun K hK => ?stZ6) AllReadyH.nil
    case hiZ6 => (simp only [List.getElem?_toArray, List.getElem?_cons_succ, List.getElem?_cons_zero] <;> rfl)
    go_simp
    go_at_call 29
    (with_reducible refine (HD1.out.of hk1 hk2 HV1.out ?_).mono ?_)
    · rw [valL_len, HVL.out]; omega
    rintro _ w2 ⟨g2, hg2, rfl, hr2, hb2⟩
    have HD2 := Lib.hid (HD1.out.below hb2)
    have HR2 := Lib.hid (of_in32 hr2 hk2)
    clear hg2 hr2 hb2
    go_simp
    refine hK.out _ _ ?_ (fun hHeld => ?_)
    · (first | exact HD2.out.all | exact HD1.out.all | exact HDD.out.all)
    clear hK K
    (try simp only [Act.put, List.setIfInBounds_toArray, List.set_cons_zero, List.set_cons_succ])
    refine take_w (i := 6) (oi := ?oZ7) (v := ?vZ7) ?hiZ7 (by kernel_rfl) (by kernel_rfl) (by kernel_rfl) ?hQZ7 ?hwZ7 ?hyZ7 (by assumption) ?restZ7
    case hiZ7 => (simp only [List.getElem?_toArray, List.getElem?_cons_succ, List.getElem?_cons_zero] <;> rfl)
    case hQZ7 => exact (fun _ _ _ h => h)
    case hwZ7 => rfl
    case hyZ7 => (intro w hSw; (try dsimp only at hSw); go_simp; try with_reducible rfl)
    (try simp only [Act.put, List.setIfInBounds_toArray, List.set_cons_zero, List.set_cons_succ])
    refine wpAnyH_done (by kernel_rfl) ?_ _
    clear hHeld
    clear x0 x1 x2 x3 x4
    obtain ⟨x0, x1, x2, x3, x4⟩ := HD2.out.box.cells
    have HR3 : Hid (InBytes w2 (some ⟨g2, 0, none⟩) k 32 (valT k t)) := Lib.hid (by rw [HE.out]; exact HR2.out)
    go_wp2_with (first
      | (go_at_call 31
         refine (refPair_any h.ka h.kn h.kc t.key (some ⟨g2, 0, none⟩) k 32 (valT k t) _ (HP.out.key.below HD2.out.b) (by omega) HR3.out (by omega)).mono ?_
         rintro _ w3 ⟨g3, c3, rfl, ho3, hb3⟩
         have HB3 : Hid (Below w.heap.size w w3) := Lib.hid (HD2.out.b.trans (hb3.mono HD2.out.b.size))
         have HI3 := Lib.hid (InBytes.of_own ho3 HPB.out)
         clear ho3 hb3 x0 x1 x2 x3 x4))
    go_ret
    exact ⟨_, _, _, rfl, HI3.out, HB3.out⟩
  · have HE := Lib.hid (HE2.out h2)
    have HDK := Lib.hid (HDN.out h2)
    have e1 : (h.k == 1) = false := by rw [HKK.out, h2]; rfl
    have hdn : h.dn ≤ 32 := by rw [HDK.out]; exact hk2
    clear h2
    have HR3 : Hid (InBytes w0 h.da h.dn h.dc (valT k t)) := Lib.hid (by rw [HE.out]; exact HP.out.dig.below HD.out.b)
    go_wp2_with (first
      | (go_at_call 31
         refine (refPair_any h.ka h.kn h.kc t.key h.da h.dn h.dc (valT k t) _ (HP.out.key.below HD.out.b) (by omega) HR3.out (by omega)).mono ?_
         rintro _ w3 ⟨g3, c3, rfl, ho3, hb3⟩
         have HB3 : Hid (Below w.heap.size w w3) := Lib.hid (HD.out.b.trans (hb3.mono HD.out.b.size))
         have HI3 := Lib.hid (InBytes.of_own ho3 HPB.out)
         clear ho3 hb3 x0 x1 x2 x3 x4))
    go_ret
    exact ⟨_, _, _, rfl, HI3.out, HB3.out⟩

theorem dig_told {k : Nat} {q : PT} (ok : q.okP k) (hk : k ≤ 32) {w' : World} {a : Option Addr} {n c : Nat} {is : Bool} (h : (is = true ∧ ∃ zs, digT k q.tr = some zs ∧ InBytes w' a n c zs) ∨ (is = false ∧ digT k q.tr = none)) : InBytes w' a n c (q.dgP k) := by
  have e := PT.dg_ok hk q ok
  rcases h with ⟨-, zs, q1, q2⟩ | ⟨-, q1⟩
  · rw [e] at q1
    injection q1 with q1
    rw [q1]
    exact q2
  · rw [e] at q1
    cases q1
theorem kids_two {w : World} {h : TH} {t : Tr} {H : Nat → TH} (hp : TreeAt w h t H) {a b : Tr} (e : t.kids = [a, b]) : InTree w (H 0) a ∧ InTree w (H 1) b ∧ h.tn = 2 := by
  have l2 : t.kids.length = 2 := by rw [e]; rfl
  have q0 := hp.kids 0 (by omega)
  have q1 := hp.kids 1 (by omega)
  have e0 : t.kids[0]'(by omega) = a := by simp only [e]; rfl
  have e1 : t.kids[1]'(by omega) = b := by simp only [e]; rfl
  rw [e0] at q0
  rw [e1] at q1
  exact ⟨q0, q1, by rw [← hp.len]; exact l2⟩

set_option maxRecDepth 100000 in
set_option maxHeartbeats 8000000 in
theorem refOwn9_any (k : Nat) (hk1 : 1 ≤ k) (hk2 : k ≤ 32) (gk ck : Nat) (p : PT) (h : TH) (w : World) (ht : InTree w h p.tr) (hc : p.isCut = false) (ok : p.okP k) (hf : formedT p.tr = true) (hks : Seg .u32 w gk 0 kTab) (hgk : gk < w.heap.size) :
    Calls Tryd.prog 33 #[tabV gk ck, .int .i64 k, h.v] w (Tells9 w (p.ownP k)) := by
  unfold TH.v tabV
  have HD := Lib.hid (DW.enter9 w gk ck h hks hgk)
  obtain ⟨H, hp⟩ := ht.parts
  rcases p.tri hc with rfl | hn
  · have e0 : (h.k == 0) = true := by rw [hp.hk]; rfl
    clear hp ht hks hgk hf ok hc
    go_enter Tryd.func33, Tryd.ntmps33
    go_upto_region 1 with fail
    generalize ((w.alloc (.cells (Value.slice (some ⟨gk, 0, none⟩) 64 ck :: hTab.map (Value.int .u32)).toArray 36)).alloc (.cells #[.int .i64 h.k, .slice h.ka h.kn h.kc, .slice h.va h.vn h.vc, .slice h.da h.dn h.dc, .slice h.ta h.tn h.tc] 25)) = w0 at *
    obtain ⟨x0, x1, x2, x3, x4⟩ := HD.out.box.cells
    have HI3 : Hid (InBytes (w0.alloc (.cells #[.int .u8 3] 5)) (some ⟨w0.heap.size, 0, none⟩) 1 1 [3]) := Lib.hid (InBytes.of_own (own_new w0 5 .u8 [3] w0.heap.size (Nat.le_refl _) (by simp [maxLen])) (fun z hz => by simp at hz; omega))
    have HB3 : Hid (Below w.heap.size w (w0.alloc (.cells #[.int .u8 3] 5))) := Lib.hid (HD.out.b.trans (((Below.refl w0.heap.size w0).alloc (Nat.le_refl _) _).mono HD.out.b.size))
    go_wp2_with fail
    go_ret
    exact ⟨_, _, _, rfl, HI3.out, HB3.out⟩
  · have HKS := Lib.hid (kids_two hp (PT.node_kids hn))
    have HFK := Lib.hid (PT.formed_kids hn hf)
    have HOK := Lib.hid (PT.node_ok hk2 hn ok)
    have HKIND := Lib.hid (PT.node_kind hn)
    have HPT : Hid (partB p.tr = true) := Lib.hid (formed_kids hf).1
    have HPL := Lib.hid (part_lens80 (formed_kids hf).1)
    have HEO : Hid (p.ownP k = nodeL (p.left.dgP k) ((sumL (pairL p.tr.key (valT k p.tr))).take k) (p.right.dgP k)) := Lib.hid (by rw [PT.node_own hn, PT.node_pair hn])
    have e0 : (h.k == 0) = false := by rw [hp.hk]; exact PT.nil_kind hn
    have HP := Lib.hid hp
    have HTT := Lib.hid ht
    have ht1 : (1 : Int) < (h.tn : Int) := by have := HKS.out.2.2; omega
    have ht0 : 0 < h.tn := by omega
    obtain ⟨g, off, hta, -, -⟩ := hp.place ht0
    have HTA := Lib.hid hta
    clear hp ht hks hgk hf ok hc hta hn
    go_enter Tryd.func33, Tryd.ntmps33
    go_upto_region 1 with fail
    generalize ((w.alloc (.cells (Value.slice (some ⟨gk, 0, none⟩) 64 ck :: hTab.map (Value.int .u32)).toArray 36)).alloc (.cells #[.int .i64 h.k, .slice h.ka h.kn h.kc, .slice h.va h.vn h.vc, .slice h.da h.dn h.dc, .slice h.ta h.tn h.tc] 25)) = w0 at *
    obtain ⟨x0, x1, x2, x3, x4⟩ := HD.out.box.cells
    go_upto_region 3 with fail
    clear x0 x1 x2 x3 x4 e0
    have HDD := Lib.hid HD.out.drew
    refine wp_region_held_drew (S := (fun W => (W.cell? ⟨w.heap.size, 0, none⟩ = some (.slice (some ⟨gk, 0, none⟩) 64 ck) ∧ W.cell? ⟨w.heap.size, 1, none⟩ = some (.int .u32 1779033703) ∧ W.cell? ⟨w.heap.size, 2, none⟩ = some (.int .u32 3144134277) ∧ W.cell? ⟨w.heap.size, 3, none⟩ = some (.int .u32 1013904242) ∧ W.cell? ⟨w.heap.size, 4, none⟩ = some (.int .u32 2773480762) ∧ W.cell? ⟨w.heap.size, 5, none⟩ = some (.int .u32 1359893119) ∧ W.cell? ⟨w.heap.size, 6, none⟩ = some (.int .u32 2600822924) ∧ W.cell? ⟨w.heap.size, 7, none⟩ = some (.int .u32 528734635) ∧ W.cell? ⟨w.heap.size, 8, none⟩ = some (.int .u32 1541459225)) ∧ (W.cell? ⟨w.heap.size + 1, 0, none⟩ = some (.int .i64 h.k) ∧ W.cell? ⟨w.heap.size + 1, 1, none⟩ = some (.slice h.ka h.kn h.kc) ∧ W.cell? ⟨w.heap.size + 1, 2, none⟩ = some (.slice h.va h.vn h.vc) ∧ W.cell? ⟨w.heap.size + 1, 3, none⟩ = some (.slice h.da h.dn h.dc) ∧ W.cell? ⟨w.heap.size + 1, 4, none⟩ = some (.slice (some ⟨g, off, none⟩) h.tn h.tc)) ∧ (W.cell? ⟨g, off, none⟩ = some (.int .i64 (H 0).k) ∧ W.cell? ⟨g, off + 1, none⟩ = some (.slice (H 0).ka (H 0).kn (H 0).kc) ∧ W.cell? ⟨g, off + 2, none⟩ = some (.slice (H 0).va (H 0).vn (H 0).vc) ∧ W.cell? ⟨g, off + 3, none⟩ = some (.slice (H 0).da (H 0).dn (H 0).dc) ∧ W.cell? ⟨g, off + 4, none⟩ = some (.slice (H 0).ta (H 0).tn (H 0).tc)))) (by kernel_rfl) ⟨HDD.out.nine, ⟨HDD.out.box.cells.1, HDD.out.box.cells.2.1, HDD.out.box.cells.2.2.1, HDD.out.box.cells.2.2.2.1, (HDD.out.box.cells.2.2.2.2).trans (by rw [HTA.out])⟩, (HP.out.below HDD.out.b).kid0 HTA.out (by omega)⟩ (fun hHeld => ?_)
    refine take_w (i := 0) (oi := ?oZ8) (v := ?vZ8) ?hiZ8 (by kernel_rfl) (by kernel_rfl) (by kernel_rfl) ?hQZ8 ?hwZ8 ?hyZ8 (by assumption) ?restZ8
    case hiZ8 => (simp only [List.getElem?_toArray, List.getElem?_cons_zero] <;> rfl)
    case hQZ8 => exact (fun _ _ _ h => h)
    case hwZ8 => rfl
    case hyZ8 => (intro w hSw; (try dsimp only at hSw); go_simp; try with_reducible rfl)
    (try simp only [Act.put, List.setIfInBounds_toArray, List.set_cons_zero, List.set_cons_succ])
    refine take_w (i := 1) (oi := ?oZ9) (v := ?vZ9) ?hiZ9 (by kernel_rfl) (by kernel_rfl) (by kernel_rfl) ?hQZ9 ?hwZ9 ?hyZ9 (by assumption) ?restZ9
    case hiZ9 => (simp only [List.getElem?_toArray, List.getElem?_cons_succ, List.getElem?_cons_zero] <;> rfl)
    case hQZ9 => exact (fun _ _ _ h => h)
    case hwZ9 => rfl
    case hyZ9 => (intro w hSw; (try dsimp only at hSw); go_simp; try with_reducible rfl)
    (try simp only [Act.put, List.setIfInBounds_toArray, List.set_cons_zero, List.set_cons_succ])
    refine take_w (i := 2) (oi := ?oZ10) (v := ?vZ10) ?hiZ10 (by kernel_rfl) (by kernel_rfl) (by kernel_rfl) ?hQZ10 ?hwZ10 ?hyZ10 (by assumption) ?restZ10
    case hiZ10 => (simp only [List.getElem?_toArray, List.getElem?_cons_succ, List.getElem?_cons_zero] <;> rfl)
    case hQZ10 => exact (fun _ _ _ h => h)
    case hwZ10 => rfl
    case hyZ10 => (intro w hSw; (try dsimp only at hSw); go_simp; try with_reducible rfl)
    (try simp only [Act.put, List.setIfInBounds_toArray, List.set_cons_zero, List.set_cons_succ])
    refine take_w (i := 3) (oi := ?oZ11) (v := ?vZ11) ?hiZ11 (by kernel_rfl) (by kernel_rfl) (by kernel_rfl) ?hQZ11 ?hwZ11 ?hyZ11 (by assumption) ?restZ11
    case hiZ11 => (simp only [List.getElem?_toArray, List.getElem?_cons_succ, List.getElem?_cons_zero] <;> rfl)
    case hQZ11 => exact (fun _ _ _ h => h)
    case hwZ11 => rfl
    case hyZ11 => (intro w hSw; (try dsimp only at hSw); go_simp; try with_reducible rfl)
    (try simp only [Act.put, List.setIfInBounds_toArray, List.set_cons_zero, List.set_cons_succ])
    refine take_w (i := 4) (oi := ?oZ12) (v := ?vZ12) ?hiZ12 (by kernel_rfl) (by kernel_rfl) (by kernel_rfl) ?hQZ12 ?hwZ12 ?hyZ12 (by assumption) ?restZ12
    case hiZ12 => (simp only [List.getElem?_toArray, List.getElem?_cons_succ, List.getElem?_cons_zero] <;> rfl)
    case hQZ12 => exact (fun _ _ _ h => h)
    case hwZ12 => rfl
    case hyZ12 => (intro w hSw; (try dsimp only at hSw); go_simp; try with_reducible rfl)
    (try simp only [Act.put, List.setIfInBounds_toArray, List.set_cons_zero, List.set_cons_succ])
    refine take_w (i := 5) (oi := ?oZ13) (v := ?vZ13) ?hiZ13 (by kernel_rfl) (by kernel_rfl) (by kernel_rfl) ?hQZ13 ?hwZ13 ?hyZ13 (by assumption) ?restZ13
    case hiZ13 => (simp only [List.getElem?_toArray, List.getElem?_cons_succ, List.getElem?_cons_zero] <;> rfl)
    case hQZ13 => exact (fun _ _ _ h => h)
    case hwZ13 => rfl
    case hyZ13 => (intro w hSw; (try dsimp only at hSw); go_simp; try with_reducible rfl)
    (try simp only [Act.put, List.setIfInBounds_toArray, List.set_cons_zero, List.set_cons_succ])
    refine wpAnyH_ready (rs := [6]) (by kernel_rfl) (by simp) ?_
    refine AllReadyH.cons (o := ?oZ14) ?hiZ14 (fun K hK => ?stZ14) AllReadyH.nil
    case hiZ14 => (simp only [List.getElem?_toArray, List.getElem?_cons_succ, List.getElem?_cons_zero] <;> rfl)
    go_simp
    go_at_call 14
    have hck : ∀ W, InTree W (H 0) p.left.tr → formedT p.left.tr = true → Seg .u32 W gk 0 kTab → gk < W.heap.size → Calls Tryd.prog 14 #[.agg #[.slice (some ⟨gk, 0, none⟩) 64 ck, .int .u32 1779033703, .int .u32 3144134277, .int .u32 1013904242, .int .u32 2773480762, .int .u32 1359893119, .int .u32 2600822924, .int .u32 528734635, .int .u32 1541459225], .int .i64 k, .agg #[.int .i64 (H 0).k, .slice (H 0).ka (H 0).kn (H 0).kc, .slice (H 0).va (H 0).vn (H 0).vc, .slice (H 0).da (H 0).dn (H 0).dc, .slice (H 0).ta (H 0).tn (H 0).tc]] W (DigPost W k p.left.tr) := fun W => refDigest_any k hk1 hk2 gk ck _ (H 0) W
    (with_reducible refine (hck _ ?_ ?_ ?_ ?_).mono ?_)
    · exact HKS.out.1.lower HDD.out.b
    · exact HFK.out.1
    · exact HDD.out.ks
    · exact Nat.lt_of_lt_of_le HDD.out.gk HDD.out.b.size
    rintro _ w1 ⟨a1, n1, c1, is1, rfl, hres1, hb1⟩
    have HD1 := Lib.hid (HDD.out.below hb1)
    have HI1 : Hid (InBytes w1 a1 n1 c1 (p.left.dgP k)) := Lib.hid (dig_told HOK.out.1 hk2 hres1)
    clear hck hres1 hb1
    go_simp
    refine hK.out _ _ ?_ (fun hHeld => ?_)
    · (first | exact ⟨HD1.out.nine, ⟨HD1.out.box.cells.1, HD1.out.box.cells.2.1, HD1.out.box.cells.2.2.1, HD1.out.box.cells.2.2.2.1, (HD1.out.box.cells.2.2.2.2).trans (by rw [HTA.out])⟩, (HP.out.below HD1.out.b).kid0 HTA.out (by omega)⟩ | exact ⟨HDD.out.nine, ⟨HDD.out.box.cells.1, HDD.out.box.cells.2.1, HDD.out.box.cells.2.2.1, HDD.out.box.cells.2.2.2.1, (HDD.out.box.cells.2.2.2.2).trans (by rw [HTA.out])⟩, (HP.out.below HDD.out.b).kid0 HTA.out (by omega)⟩)
    clear hK K
    (try simp only [Act.put, List.setIfInBounds_toArray, List.set_cons_zero, List.set_cons_succ])
    refine take_w (i := 7) (oi := ?oZ15) (v := ?vZ15) ?hiZ15 (by kernel_rfl) (by kernel_rfl) (by kernel_rfl) ?hQZ15 ?hwZ15 ?hyZ15 (by assumption) ?restZ15
    case hiZ15 => (simp only [List.getElem?_toArray, List.getElem?_cons_succ, List.getElem?_cons_zero] <;> rfl)
    case hQZ15 => exact (fun _ _ _ h => h)
    case hwZ15 => rfl
    case hyZ15 => (intro w hSw; (try dsimp only at hSw); go_simp; try with_reducible rfl)
    (try simp only [Act.put, List.setIfInBounds_toArray, List.set_cons_zero, List.set_cons_succ])
    refine take_w (i := 8) (oi := ?oZ16) (v := ?vZ16) ?hiZ16 (by kernel_rfl) (by kernel_rfl) (by kernel_rfl) ?hQZ16 ?hwZ16 ?hyZ16 (by assumption) ?restZ16
    case hiZ16 => (simp only [List.getElem?_toArray, List.getElem?_cons_succ, List.getElem?_cons_zero] <;> rfl)
    case hQZ16 => exact (fun _ _ _ h => h)
    case hwZ16 => rfl
    case hyZ16 => (intro w hSw; (try dsimp only at hSw); go_simp; try with_reducible rfl)
    (try simp only [Act.put, List.setIfInBounds_toArray, List.set_cons_zero, List.set_cons_succ])
    refine take_w (i := 9) (oi := ?oZ17) (v := ?vZ17) ?hiZ17 (by kernel_rfl) (by kernel_rfl) (by kernel_rfl) ?hQZ17 ?hwZ17 ?hyZ17 (by assumption) ?restZ17
    case hiZ17 => (simp only [List.getElem?_toArray, List.getElem?_cons_succ, List.getElem?_cons_zero] <;> rfl)
    case hQZ17 => exact (fun _ _ _ h => h)
    case hwZ17 => rfl
    case hyZ17 => (intro w hSw; (try dsimp only at hSw); go_simp; try with_reducible rfl)
    (try simp only [Act.put, List.setIfInBounds_toArray, List.set_cons_zero, List.set_cons_succ])
    refine take_w (i := 10) (oi := ?oZ18) (v := ?vZ18) ?hiZ18 (by kernel_rfl) (by kernel_rfl) (by kernel_rfl) ?hQZ18 ?hwZ18 ?hyZ18 (by assumption) ?restZ18
    case hiZ18 => (simp only [List.getElem?_toArray, List.getElem?_cons_succ, List.getElem?_cons_zero] <;> rfl)
    case hQZ18 => exact (fun _ _ _ h => h)
    case hwZ18 => rfl
    case hyZ18 => (intro w hSw; (try dsimp only at hSw); go_simp; try with_reducible rfl)
    (try simp only [Act.put, List.setIfInBounds_toArray, List.set_cons_zero, List.set_cons_succ])
    refine take_w (i := 11) (oi := ?oZ19) (v := ?vZ19) ?hiZ19 (by kernel_rfl) (by kernel_rfl) (by kernel_rfl) ?hQZ19 ?hwZ19 ?hyZ19 (by assumption) ?restZ19
    case hiZ19 => (simp only [List.getElem?_toArray, List.getElem?_cons_succ, List.getElem?_cons_zero] <;> rfl)
    case hQZ19 => exact (fun _ _ _ h => h)
    case hwZ19 => rfl
    case hyZ19 => (intro w hSw; (try dsimp only at hSw); go_simp; try with_reducible rfl)
    (try simp only [Act.put, List.setIfInBounds_toArray, List.set_cons_zero, List.set_cons_succ])
    refine wpAnyH_done (by kernel_rfl) ?_ _
    clear hHeld
    go_upto_region 4 with fail
    have HDE := Lib.hid HD1.out.drew
    have HJ1 := Lib.hid (HI1.out.below (Below.refl _ _).drew)
    refine wp_region_held_drew (S := (fun W => (W.cell? ⟨w.heap.size, 0, none⟩ = some (.slice (some ⟨gk, 0, none⟩) 64 ck) ∧ W.cell? ⟨w.heap.size, 1, none⟩ = some (.int .u32 1779033703) ∧ W.cell? ⟨w.heap.size, 2, none⟩ = some (.int .u32 3144134277) ∧ W.cell? ⟨w.heap.size, 3, none⟩ = some (.int .u32 1013904242) ∧ W.cell? ⟨w.heap.size, 4, none⟩ = some (.int .u32 2773480762) ∧ W.cell? ⟨w.heap.size, 5, none⟩ = some (.int .u32 1359893119) ∧ W.cell? ⟨w.heap.size, 6, none⟩ = some (.int .u32 2600822924) ∧ W.cell? ⟨w.heap.size, 7, none⟩ = some (.int .u32 528734635) ∧ W.cell? ⟨w.heap.size, 8, none⟩ = some (.int .u32 1541459225)) ∧ (W.cell? ⟨w.heap.size + 1, 0, none⟩ = some (.int .i64 h.k) ∧ W.cell? ⟨w.heap.size + 1, 1, none⟩ = some (.slice h.ka h.kn h.kc) ∧ W.cell? ⟨w.heap.size + 1, 2, none⟩ = some (.slice h.va h.vn h.vc) ∧ W.cell? ⟨w.heap.size + 1, 3, none⟩ = some (.slice h.da h.dn h.dc) ∧ W.cell? ⟨w.heap.size + 1, 4, none⟩ = some (.slice (some ⟨g, off, none⟩) h.tn h.tc)) ∧ (W.cell? ⟨g, off + 5, none⟩ = some (.int .i64 (H 1).k) ∧ W.cell? ⟨g, off + 5 + 1, none⟩ = some (.slice (H 1).ka (H 1).kn (H 1).kc) ∧ W.cell? ⟨g, off + 5 + 2, none⟩ = some (.slice (H 1).va (H 1).vn (H 1).vc) ∧ W.cell? ⟨g, off + 5 + 3, none⟩ = some (.slice (H 1).da (H 1).dn (H 1).dc) ∧ W.cell? ⟨g, off + 5 + 4, none⟩ = some (.slice (H 1).ta (H 1).tn (H 1).tc)))) (by kernel_rfl) ⟨HDE.out.nine, ⟨HDE.out.box.cells.1, HDE.out.box.cells.2.1, HDE.out.box.cells.2.2.1, HDE.out.box.cells.2.2.2.1, (HDE.out.box.cells.2.2.2.2).trans (by rw [HTA.out])⟩, (HP.out.below HDE.out.b).kid1 HTA.out (by omega)⟩ (fun hHeld => ?_)
    refine take_w (i := 0) (oi := ?oZ20) (v := ?vZ20) ?hiZ20 (by kernel_rfl) (by kernel_rfl) (by kernel_rfl) ?hQZ20 ?hwZ20 ?hyZ20 (by assumption) ?restZ20
    case hiZ20 => (simp only [List.getElem?_toArray, List.getElem?_cons_zero] <;> rfl)
    case hQZ20 => exact (fun _ _ _ h => h)
    case hwZ20 => rfl
    case hyZ20 => (intro w hSw; (try dsimp only at hSw); go_simp; try with_reducible rfl)
    (try simp only [Act.put, List.setIfInBounds_toArray, List.set_cons_zero, List.set_cons_succ])
    refine take_w (i := 1) (oi := ?oZ21) (v := ?vZ21) ?hiZ21 (by kernel_rfl) (by kernel_rfl) (by kernel_rfl) ?hQZ21 ?hwZ21 ?hyZ21 (by assumption) ?restZ21
    case hiZ21 => (simp only [List.getElem?_toArray, List.getElem?_cons_succ, List.getElem?_cons_zero] <;> rfl)
    case hQZ21 => exact (fun _ _ _ h => h)
    case hwZ21 => rfl
    case hyZ21 => (intro w hSw; (try dsimp only at hSw); go_simp; try with_reducible rfl)
    (try simp only [Act.put, List.setIfInBounds_toArray, List.set_cons_zero, List.set_cons_succ])
    refine take_w (i := 2) (oi := ?oZ22) (v := ?vZ22) ?hiZ22 (by kernel_rfl) (by kernel_rfl) (by kernel_rfl) ?hQZ22 ?hwZ22 ?hyZ22 (by assumption) ?restZ22
    case hiZ22 => (simp only [List.getElem?_toArray, List.getElem?_cons_succ, List.getElem?_cons_zero] <;> rfl)
    case hQZ22 => exact (fun _ _ _ h => h)
    case hwZ22 => rfl
    case hyZ22 => (intro w hSw; (try dsimp only at hSw); go_simp; try with_reducible rfl)
    (try simp only [Act.put, List.setIfInBounds_toArray, List.set_cons_zero, List.set_cons_succ])
    refine take_w (i := 3) (oi := ?oZ23) (v := ?vZ23) ?hiZ23 (by kernel_rfl) (by kernel_rfl) (by kernel_rfl) ?hQZ23 ?hwZ23 ?hyZ23 (by assumption) ?restZ23
    case hiZ23 => (simp only [List.getElem?_toArray, List.getElem?_cons_succ, List.getElem?_cons_zero] <;> rfl)
    case hQZ23 => exact (fun _ _ _ h => h)
    case hwZ23 => rfl
    case hyZ23 => (intro w hSw; (try dsimp only at hSw); go_simp; try with_reducible rfl)
    (try simp only [Act.put, List.setIfInBounds_toArray, List.set_cons_zero, List.set_cons_succ])
    refine take_w (i := 4) (oi := ?oZ24) (v := ?vZ24) ?hiZ24 (by kernel_rfl) (by kernel_rfl) (by kernel_rfl) ?hQZ24 ?hwZ24 ?hyZ24 (by assumption) ?restZ24
    case hiZ24 => (simp only [List.getElem?_toArray, List.getElem?_cons_succ, List.getElem?_cons_zero] <;> rfl)
    case hQZ24 => exact (fun _ _ _ h => h)
    case hwZ24 => rfl
    case hyZ24 => (intro w hSw; (try dsimp only at hSw); go_simp; try with_reducible rfl)
    (try simp only [Act.put, List.setIfInBounds_toArray, List.set_cons_zero, List.set_cons_succ])
    refine take_w (i := 5) (oi := ?oZ25) (v := ?vZ25) ?hiZ25 (by kernel_rfl) (by kernel_rfl) (by kernel_rfl) ?hQZ25 ?hwZ25 ?hyZ25 (by assumption) ?restZ25
    case hiZ25 => (simp only [List.getElem?_toArray, List.getElem?_cons_succ, List.getElem?_cons_zero] <;> rfl)
    case hQZ25 => exact (fun _ _ _ h => h)
    case hwZ25 => rfl
    case hyZ25 => (intro w hSw; (try dsimp only at hSw); go_simp; try with_reducible rfl)
    (try simp only [Act.put, List.setIfInBounds_toArray, List.set_cons_zero, List.set_cons_succ])
    refine wpAnyH_ready (rs := [6]) (by kernel_rfl) (by simp) ?_
    refine AllReadyH.cons (o := ?oZ26) ?hiZ26 (fun K hK => ?stZ26) AllReadyH.nil
    case hiZ26 => (simp only [List.getElem?_toArray, List.getElem?_cons_succ, List.getElem?_cons_zero] <;> rfl)
    go_simp
    go_at_call 14
    have hck : ∀ W, InTree W (H 1) p.right.tr → formedT p.right.tr = true → Seg .u32 W gk 0 kTab → gk < W.heap.size → Calls Tryd.prog 14 #[.agg #[.slice (some ⟨gk, 0, none⟩) 64 ck, .int .u32 1779033703, .int .u32 3144134277, .int .u32 1013904242, .int .u32 2773480762, .int .u32 1359893119, .int .u32 2600822924, .int .u32 528734635, .int .u32 1541459225], .int .i64 k, .agg #[.int .i64 (H 1).k, .slice (H 1).ka (H 1).kn (H 1).kc, .slice (H 1).va (H 1).vn (H 1).vc, .slice (H 1).da (H 1).dn (H 1).dc, .slice (H 1).ta (H 1).tn (H 1).tc]] W (DigPost W k p.right.tr) := fun W => refDigest_any k hk1 hk2 gk ck _ (H 1) W
    (with_reducible refine (hck _ ?_ ?_ ?_ ?_).mono ?_)
    · exact HKS.out.2.1.lower HDE.out.b
    · exact HFK.out.2
    · exact HDE.out.ks
    · exact Nat.lt_of_lt_of_le HDE.out.gk HDE.out.b.size
    rintro _ w2 ⟨a2, n2, c2, is2, rfl, hres2, hb2⟩
    have HD2 := Lib.hid (HDE.out.below hb2)
    have HI2 : Hid (InBytes w2 a2 n2 c2 (p.right.dgP k)) := Lib.hid (dig_told HOK.out.2.1 hk2 hres2)
    have HJ2 := Lib.hid (HJ1.out.below hb2)
    clear hck hres2 hb2
    go_simp
    refine hK.out _ _ ?_ (fun hHeld => ?_)
    · (first | exact ⟨HD2.out.nine, ⟨HD2.out.box.cells.1, HD2.out.box.cells.2.1, HD2.out.box.cells.2.2.1, HD2.out.box.cells.2.2.2.1, (HD2.out.box.cells.2.2.2.2).trans (by rw [HTA.out])⟩, (HP.out.below HD2.out.b).kid1 HTA.out (by omega)⟩ | exact ⟨HDE.out.nine, ⟨HDE.out.box.cells.1, HDE.out.box.cells.2.1, HDE.out.box.cells.2.2.1, HDE.out.box.cells.2.2.2.1, (HDE.out.box.cells.2.2.2.2).trans (by rw [HTA.out])⟩, (HP.out.below HDE.out.b).kid1 HTA.out (by omega)⟩)
    clear hK K
    (try simp only [Act.put, List.setIfInBounds_toArray, List.set_cons_zero, List.set_cons_succ])
    refine take_w (i := 7) (oi := ?oZ27) (v := ?vZ27) ?hiZ27 (by kernel_rfl) (by kernel_rfl) (by kernel_rfl) ?hQZ27 ?hwZ27 ?hyZ27 (by assumption) ?restZ27
    case hiZ27 => (simp only [List.getElem?_toArray, List.getElem?_cons_succ, List.getElem?_cons_zero] <;> rfl)
    case hQZ27 => exact (fun _ _ _ h => h)
    case hwZ27 => rfl
    case hyZ27 => (intro w hSw; (try dsimp only at hSw); go_simp; try with_reducible rfl)
    (try simp only [Act.put, List.setIfInBounds_toArray, List.set_cons_zero, List.set_cons_succ])
    refine take_w (i := 8) (oi := ?oZ28) (v := ?vZ28) ?hiZ28 (by kernel_rfl) (by kernel_rfl) (by kernel_rfl) ?hQZ28 ?hwZ28 ?hyZ28 (by assumption) ?restZ28
    case hiZ28 => (simp only [List.getElem?_toArray, List.getElem?_cons_succ, List.getElem?_cons_zero] <;> rfl)
    case hQZ28 => exact (fun _ _ _ h => h)
    case hwZ28 => rfl
    case hyZ28 => (intro w hSw; (try dsimp only at hSw); go_simp; try with_reducible rfl)
    (try simp only [Act.put, List.setIfInBounds_toArray, List.set_cons_zero, List.set_cons_succ])
    refine take_w (i := 9) (oi := ?oZ29) (v := ?vZ29) ?hiZ29 (by kernel_rfl) (by kernel_rfl) (by kernel_rfl) ?hQZ29 ?hwZ29 ?hyZ29 (by assumption) ?restZ29
    case hiZ29 => (simp only [List.getElem?_toArray, List.getElem?_cons_succ, List.getElem?_cons_zero] <;> rfl)
    case hQZ29 => exact (fun _ _ _ h => h)
    case hwZ29 => rfl
    case hyZ29 => (intro w hSw; (try dsimp only at hSw); go_simp; try with_reducible rfl)
    (try simp only [Act.put, List.setIfInBounds_toArray, List.set_cons_zero, List.set_cons_succ])
    refine take_w (i := 10) (oi := ?oZ30) (v := ?vZ30) ?hiZ30 (by kernel_rfl) (by kernel_rfl) (by kernel_rfl) ?hQZ30 ?hwZ30 ?hyZ30 (by assumption) ?restZ30
    case hiZ30 => (simp only [List.getElem?_toArray, List.getElem?_cons_succ, List.getElem?_cons_zero] <;> rfl)
    case hQZ30 => exact (fun _ _ _ h => h)
    case hwZ30 => rfl
    case hyZ30 => (intro w hSw; (try dsimp only at hSw); go_simp; try with_reducible rfl)
    (try simp only [Act.put, List.setIfInBounds_toArray, List.set_cons_zero, List.set_cons_succ])
    refine take_w (i := 11) (oi := ?oZ31) (v := ?vZ31) ?hiZ31 (by kernel_rfl) (by kernel_rfl) (by kernel_rfl) ?hQZ31 ?hwZ31 ?hyZ31 (by assumption) ?restZ31
    case hiZ31 => (simp only [List.getElem?_toArray, List.getElem?_cons_succ, List.getElem?_cons_zero] <;> rfl)
    case hQZ31 => exact (fun _ _ _ h => h)
    case hwZ31 => rfl
    case hyZ31 => (intro w hSw; (try dsimp only at hSw); go_simp; try with_reducible rfl)
    (try simp only [Act.put, List.setIfInBounds_toArray, List.set_cons_zero, List.set_cons_succ])
    refine wpAnyH_done (by kernel_rfl) ?_ _
    clear hHeld
    go_upto_region 5 with fail
    have HDF := Lib.hid HD2.out.drew
    have HJ3 := Lib.hid (HJ2.out.below (Below.refl _ _).drew)
    have HI3 := Lib.hid (HI2.out.below (Below.refl _ _).drew)
    refine wp_region_held_drew (S := (fun W => (W.cell? ⟨w.heap.size, 0, none⟩ = some (.slice (some ⟨gk, 0, none⟩) 64 ck) ∧ W.cell? ⟨w.heap.size, 1, none⟩ = some (.int .u32 1779033703) ∧ W.cell? ⟨w.heap.size, 2, none⟩ = some (.int .u32 3144134277) ∧ W.cell? ⟨w.heap.size, 3, none⟩ = some (.int .u32 1013904242) ∧ W.cell? ⟨w.heap.size, 4, none⟩ = some (.int .u32 2773480762) ∧ W.cell? ⟨w.heap.size, 5, none⟩ = some (.int .u32 1359893119) ∧ W.cell? ⟨w.heap.size, 6, none⟩ = some (.int .u32 2600822924) ∧ W.cell? ⟨w.heap.size, 7, none⟩ = some (.int .u32 528734635) ∧ W.cell? ⟨w.heap.size, 8, none⟩ = some (.int .u32 1541459225)) ∧ (W.cell? ⟨w.heap.size + 1, 0, none⟩ = some (.int .i64 h.k) ∧ W.cell? ⟨w.heap.size + 1, 1, none⟩ = some (.slice h.ka h.kn h.kc) ∧ W.cell? ⟨w.heap.size + 1, 2, none⟩ = some (.slice h.va h.vn h.vc) ∧ W.cell? ⟨w.heap.size + 1, 3, none⟩ = some (.slice h.da h.dn h.dc) ∧ W.cell? ⟨w.heap.size + 1, 4, none⟩ = some (.slice h.ta h.tn h.tc)))) (by kernel_rfl) HDF.out.all (fun hHeld => ?_)
    refine take_w (i := 0) (oi := ?oZ32) (v := ?vZ32) ?hiZ32 (by kernel_rfl) (by kernel_rfl) (by kernel_rfl) ?hQZ32 ?hwZ32 ?hyZ32 (by assumption) ?restZ32
    case hiZ32 => (simp only [List.getElem?_toArray, List.getElem?_cons_zero] <;> rfl)
    case hQZ32 => exact (fun _ _ _ h => h)
    case hwZ32 => rfl
    case hyZ32 => (intro w hSw; (try dsimp only at hSw); go_simp; try with_reducible rfl)
    (try simp only [Act.put, List.setIfInBounds_toArray, List.set_cons_zero, List.set_cons_succ])
    refine take_w (i := 1) (oi := ?oZ33) (v := ?vZ33) ?hiZ33 (by kernel_rfl) (by kernel_rfl) (by kernel_rfl) ?hQZ33 ?hwZ33 ?hyZ33 (by assumption) ?restZ33
    case hiZ33 => (simp only [List.getElem?_toArray, List.getElem?_cons_succ, List.getElem?_cons_zero] <;> rfl)
    case hQZ33 => exact (fun _ _ _ h => h)
    case hwZ33 => rfl
    case hyZ33 => (intro w hSw; (try dsimp only at hSw); go_simp; try with_reducible rfl)
    (try simp only [Act.put, List.setIfInBounds_toArray, List.set_cons_zero, List.set_cons_succ])
    refine take_w (i := 2) (oi := ?oZ34) (v := ?vZ34) ?hiZ34 (by kernel_rfl) (by kernel_rfl) (by kernel_rfl) ?hQZ34 ?hwZ34 ?hyZ34 (by assumption) ?restZ34
    case hiZ34 => (simp only [List.getElem?_toArray, List.getElem?_cons_succ, List.getElem?_cons_zero] <;> rfl)
    case hQZ34 => exact (fun _ _ _ h => h)
    case hwZ34 => rfl
    case hyZ34 => (intro w hSw; (try dsimp only at hSw); go_simp; try with_reducible rfl)
    (try simp only [Act.put, List.setIfInBounds_toArray, List.set_cons_zero, List.set_cons_succ])
    refine take_w (i := 3) (oi := ?oZ35) (v := ?vZ35) ?hiZ35 (by kernel_rfl) (by kernel_rfl) (by kernel_rfl) ?hQZ35 ?hwZ35 ?hyZ35 (by assumption) ?restZ35
    case hiZ35 => (simp only [List.getElem?_toArray, List.getElem?_cons_succ, List.getElem?_cons_zero] <;> rfl)
    case hQZ35 => exact (fun _ _ _ h => h)
    case hwZ35 => rfl
    case hyZ35 => (intro w hSw; (try dsimp only at hSw); go_simp; try with_reducible rfl)
    (try simp only [Act.put, List.setIfInBounds_toArray, List.set_cons_zero, List.set_cons_succ])
    refine take_w (i := 4) (oi := ?oZ36) (v := ?vZ36) ?hiZ36 (by kernel_rfl) (by kernel_rfl) (by kernel_rfl) ?hQZ36 ?hwZ36 ?hyZ36 (by assumption) ?restZ36
    case hiZ36 => (simp only [List.getElem?_toArray, List.getElem?_cons_succ, List.getElem?_cons_zero] <;> rfl)
    case hQZ36 => exact (fun _ _ _ h => h)
    case hwZ36 => rfl
    case hyZ36 => (intro w hSw; (try dsimp only at hSw); go_simp; try with_reducible rfl)
    (try simp only [Act.put, List.setIfInBounds_toArray, List.set_cons_zero, List.set_cons_succ])
    refine take_w (i := 5) (oi := ?oZ37) (v := ?vZ37) ?hiZ37 (by kernel_rfl) (by kernel_rfl) (by kernel_rfl) ?hQZ37 ?hwZ37 ?hyZ37 (by assumption) ?restZ37
    case hiZ37 => (simp only [List.getElem?_toArray, List.getElem?_cons_succ, List.getElem?_cons_zero] <;> rfl)
    case hQZ37 => exact (fun _ _ _ h => h)
    case hwZ37 => rfl
    case hyZ37 => (intro w hSw; (try dsimp only at hSw); go_simp; try with_reducible rfl)
    (try simp only [Act.put, List.setIfInBounds_toArray, List.set_cons_zero, List.set_cons_succ])
    refine take_w (i := 8) (oi := ?oZ38) (v := ?vZ38) ?hiZ38 (by kernel_rfl) (by kernel_rfl) (by kernel_rfl) ?hQZ38 ?hwZ38 ?hyZ38 (by assumption) ?restZ38
    case hiZ38 => (simp only [List.getElem?_toArray, List.getElem?_cons_succ, List.getElem?_cons_zero] <;> rfl)
    case hQZ38 => exact (fun _ _ _ h => h)
    case hwZ38 => rfl
    case hyZ38 => (intro w hSw; (try dsimp only at hSw); go_simp; try with_reducible rfl)
    (try simp only [Act.put, List.setIfInBounds_toArray, List.set_cons_zero, List.set_cons_succ])
    refine wpAnyH_ready (rs := [6]) (by kernel_rfl) (by simp) ?_
    refine AllReadyH.cons (o := ?oZ39) ?hiZ39 (fun K hK => ?stZ39) AllReadyH.nil
    case hiZ39 => (simp only [List.getElem?_toArray, List.getElem?_cons_succ, List.getElem?_cons_zero] <;> rfl)
    go_simp
    go_at_call 34
    have hck : ∀ W, InTree W h p.tr → Seg .u32 W gk 0 kTab → gk < W.heap.size → Calls Tryd.prog 34 #[.agg #[.slice (some ⟨gk, 0, none⟩) 64 ck, .int .u32 1779033703, .int .u32 3144134277, .int .u32 1013904242, .int .u32 2773480762, .int .u32 1359893119, .int .u32 2600822924, .int .u32 528734635, .int .u32 1541459225], .int .i64 k, .agg #[.int .i64 h.k, .slice h.ka h.kn h.kc, .slice h.va h.vn h.vc, .slice h.da h.dn h.dc, .slice h.ta h.tn h.tc]] W (Tells9 W (pairL p.tr.key (valT k p.tr))) := fun W a b c => refPair9_any k hk1 hk2 gk ck p.tr h W a HPT.out HKIND.out HOK.out.2.2 b c
    (with_reducible refine (hck _ ?_ ?_ ?_).mono ?_)
    · exact HTT.out.lower HDF.out.b
    · exact HDF.out.ks
    · exact Nat.lt_of_lt_of_le HDF.out.gk HDF.out.b.size
    rintro _ w4 ⟨a4, n4, c4, rfl, hi4, hb4⟩
    have HD4 := Lib.hid (HDF.out.below hb4)
    have HI4 := Lib.hid hi4
    have HL4 := Lib.hid (HJ3.out.below hb4)
    have HR4 := Lib.hid (HI3.out.below hb4)
    clear hck hi4 hb4
    go_simp
    refine hK.out _ _ ?_ (fun hHeld => ?_)
    · (first | exact HD6.out.all | exact HD5.out.all | exact HD4.out.all | exact HDF.out.all)
    clear hK K
    (try simp only [Act.put, List.setIfInBounds_toArray, List.set_cons_zero, List.set_cons_succ])
    refine wpAnyH_ready (rs := [7]) (by kernel_rfl) (by simp) ?_
    refine AllReadyH.cons (o := ?oZ40) ?hiZ40 (fun K hK => ?stZ40) AllReadyH.nil
    case hiZ40 => (simp only [List.getElem?_toArray, List.getElem?_cons_succ, List.getElem?_cons_zero] <;> rfl)
    go_simp
    go_at_call 29
    (with_reducible refine (HD4.out.of hk1 hk2 HI4.out ?_).mono ?_)
    · rw [← HI4.out.len]
      refine Nat.le_trans (pairL_len (by have := HPL.out; omega)) ?_
      have q1 := HPL.out
      have q2 := HOK.out.2.2
      omega
    rintro _ w5 ⟨g5, hg5, rfl, hr5, hb5⟩
    have HD5 := Lib.hid (HD4.out.below hb5)
    have HI5 := Lib.hid (of_in32 hr5 hk2)
    have HL5 := Lib.hid (HL4.out.below hb5)
    have HR5 := Lib.hid (HR4.out.below hb5)
    clear hg5 hr5 hb5
    go_simp
    refine hK.out _ _ ?_ (fun hHeld => ?_)
    · (first | exact HD6.out.all | exact HD5.out.all | exact HD4.out.all | exact HDF.out.all)
    clear hK K
    (try simp only [Act.put, List.setIfInBounds_toArray, List.set_cons_zero, List.set_cons_succ])
    refine wpAnyH_ready (rs := [9]) (by kernel_rfl) (by simp) ?_
    refine AllReadyH.cons (o := ?oZ41) ?hiZ41 (fun K hK => ?stZ41) AllReadyH.nil
    case hiZ41 => (simp only [List.getElem?_toArray, List.getElem?_cons_succ, List.getElem?_cons_zero] <;> rfl)
    go_simp
    go_at_call 32
    (with_reducible refine (refNodeB_any a1 n1 c1 (p.left.dgP k) (some ⟨g5, 0, none⟩) k 32 ((sumL (pairL p.tr.key (valT k p.tr))).take k) a2 n2 c2 (p.right.dgP k) _ HL5.out ?_ HI5.out hk2 HR5.out ?_).mono ?_)
    · have q := HL5.out.len
      rw [PT.dg_len hk2 _ HOK.out.1] at q
      omega
    · have q := HR5.out.len
      rw [PT.dg_len hk2 _ HOK.out.2.1] at q
      omega
    rintro _ w6 ⟨g6, c6, rfl, ho6, hb6⟩
    have HD6 := Lib.hid (HD5.out.below hb6)
    have HI6 := Lib.hid (InBytes.of_own ho6 (nodeL_bytes HL5.out.bytes HI5.out.bytes HR5.out.bytes))
    clear ho6 hb6
    go_simp
    refine hK.out _ _ ?_ (fun hHeld => ?_)
    · (first | exact HD6.out.all | exact HD5.out.all | exact HD4.out.all | exact HDF.out.all)
    clear hK K
    (try simp only [Act.put, List.setIfInBounds_toArray, List.set_cons_zero, List.set_cons_succ])
    refine take_w (i := 10) (oi := ?oZ42) (v := ?vZ42) ?hiZ42 (by kernel_rfl) (by kernel_rfl) (by kernel_rfl) ?hQZ42 ?hwZ42 ?hyZ42 (by assumption) ?restZ42
    case hiZ42 => (simp only [List.getElem?_toArray, List.getElem?_cons_succ, List.getElem?_cons_zero] <;> rfl)
    case hQZ42 => exact (fun _ _ _ h => h)
    case hwZ42 => rfl
    case hyZ42 => (intro w hSw; (try dsimp only at hSw); go_simp; try with_reducible rfl)
    (try simp only [Act.put, List.setIfInBounds_toArray, List.set_cons_zero, List.set_cons_succ])
    refine wpAnyH_done (by kernel_rfl) ?_ _
    clear hHeld
    go_wp2_with fail
    go_ret
    exact ⟨_, _, _, rfl, by rw [HEO.out]; exact HI6.out, HD6.out.b⟩

end Go.Proofs.YtioifkbkllnkgaaDoor

/- The document's measure of a tree: has it few enough parts? -/
namespace Go.Proofs.YtioifkbkllnkgaaDoor
open Go.RowKit
set_option linter.unusedVariables false

/-- A number from -1 to 500; where it is not below 0, the tree is small. -/
def LightPost (w : World) (t : Tr) (left : Int) (e : Ending) (w' : World) : Prop :=
  ∃ r : Int, e = .returned (.int .i64 r) ∧ -1 ≤ r ∧ r ≤ 500 ∧ (0 ≤ r → LightOK t ∧ (countT t : Int) = left - r) ∧ Below w.heap.size w w'

set_option maxRecDepth 100000 in
set_option maxHeartbeats 4000000 in
theorem light_any : ∀ (t : Tr) (h : TH) (left : Int) (dep : Int) (w : World), InTree w h t → -1 ≤ left → left ≤ 500 → 0 ≤ dep → dep ≤ 200 → 
    Calls Tryd.prog 24 #[h.v, .int .i64 left, .int .i64 dep] w (LightPost w t left) := by
  intro t
  induction t using Tr.ind with
  | h t ih =>
  intro h left dep w ht hl1 hl2 hd1 hd2
  unfold TH.v
  obtain ⟨H, hp⟩ := ht.parts
  have hkl := hp.key.len
  have hvl := hp.val.len
  have hdl := hp.dig.len
  have htl := hp.len
  have hkm := Nat.le_trans hp.key.le hp.key.max
  have hvm := Nat.le_trans hp.val.le hp.val.max
  have hdm := Nat.le_trans hp.dig.le hp.dig.max
  have htm := Nat.le_trans hp.sl.le hp.sl.max
  have htc := hp.sl.le
  simp only [maxLen] at hkm hvm hdm htm
  have HP := Lib.hid hp
  have IH := Lib.hid ih
  clear hp ht ih
  have hbox := Box.new w 25 h
  have HX := Lib.hid hbox
  obtain ⟨x0, x1, x2, x3, x4⟩ := hbox.cells
  clear hbox
  go_enter Tryd.func24, Tryd.ntmps24
  by_cases c0 : dep = 0
  · subst c0
    go_wp2_with fail
    go_ret
    exact ⟨_, rfl, by omega, by omega, fun h => by omega, (Below.refl _ _).alloc (Nat.le_refl _) _⟩
  by_cases c1 : left - 1 < 0
  · go_wp2_with fail
    go_ret
    exact ⟨_, rfl, by omega, by omega, fun h => by omega, (Below.refl _ _).alloc (Nat.le_refl _) _⟩
  by_cases c2 : left - 1 < (h.tn : Int)
  · go_wp2_with fail
    go_ret
    exact ⟨_, rfl, by omega, by omega, fun h => by omega, (Below.refl _ _).alloc (Nat.le_refl _) _⟩
  by_cases c3 : (3000 : Int) < (h.kn : Int)
  · go_wp2_with fail
    go_ret
    exact ⟨_, rfl, by omega, by omega, fun h => by omega, (Below.refl _ _).alloc (Nat.le_refl _) _⟩
  by_cases c4 : (3000 : Int) < (h.vn : Int)
  · go_wp2_with fail
    go_ret
    exact ⟨_, rfl, by omega, by omega, fun h => by omega, (Below.refl _ _).alloc (Nat.le_refl _) _⟩
  by_cases c5 : (3000 : Int) < (h.dn : Int)
  · go_wp2_with fail
    go_ret
    exact ⟨_, rfl, by omega, by omega, fun h => by omega, (Below.refl _ _).alloc (Nat.le_refl _) _⟩
  go_wp2_with fail
  clear x0 x1 x2 x3 x4
  go_loopw [1, 7] (fun s1 s7 wx => ∃ (i : Nat) (l : Int), i ≤ h.tn ∧ 0 ≤ l ∧ l ≤ 500 ∧ s1 = .int .i64 l ∧ s7 = .int .i64 i ∧ Box wx 25 w.heap.size h ∧ Below w.heap.size w wx ∧ (∀ j (hj : j < t.kids.length), j < i → LightOK t.kids[j]) ∧ l = left - 1 - (((t.kids.take i).map countT).sum : Nat)) (fun _ s7 _ => h.tn - (intOf s7).toNat)
  case atStart => exact ⟨0, left - 1, by omega, by omega, by omega, by go_num, rfl, HX.out, (Below.refl _ _).alloc (Nat.le_refl _) _, (fun j hj h => by omega), by simp⟩
  case round =>
    obtain ⟨i, l, hi, hl0, hl5, rfl, rfl, hbx, hbw, hok, hsum⟩ := hrel
    have hx4 := hbx.cells.2.2.2.2
    have HBX := Lib.hid hbx
    have HBW := Lib.hid hbw
    have HOK := Lib.hid (And.intro hok hsum)
    clear hbx hbw hok hsum HX
    by_cases hlt : i < h.tn
    · have q1 : (i : Int) < (h.tn : Int) := by omega
      obtain ⟨g, off, hta, hg, hcs⟩ := (HP.out.below HBW.out).place (by omega)
      rw [hta] at hx4
      obtain ⟨k0, k1, k2, k3, k4⟩ := hcs i hlt
      clear hcs hta
      have him : i < t.kids.length := by omega
      go_upto_region 8 with (first
        | (go_at_call 24
           refine (IH.out _ (List.getElem_mem him) (H i) l (dep - 1) _ ((HP.out.below HBW.out).kids i him) (by omega) (by omega) (by omega) (by omega)).mono ?_
           rintro _ w1 ⟨r, rfl, hr1, hr2, hrok, hb1⟩
           have HB1 : Hid (Below w.heap.size w w1) := Lib.hid (HBW.out.trans (hb1.mono HBW.out.size))
           have HX1 := Lib.hid (HBX.out.below hb1 HBX.out.lt)
           have HR := Lib.hid hrok
           clear hb1 hrok))
      clear hx4 k0 k1 k2 k3 k4
      by_cases hr : r < 0
      · go_wp2_with fail
        go_ret
        exact ⟨_, rfl, by omega, by omega, fun h => by omega, HB1.out⟩
      · go_wp2_with fail
        exact ⟨⟨i + 1, r, by omega, by omega, by omega, rfl, by go_num, HX1.out, HB1.out, (fun j hj hji => by
          by_cases hij : j = i
          · subst hij; exact (HR.out (by omega)).1
          · exact HOK.out.1 j hj (by omega)), by
          have h1 := (HR.out (by omega)).2
          have h2 := HOK.out.2
          rw [List.take_succ_eq_append_getElem him, List.map_append, List.sum_append]
          simp only [List.map_cons, List.map_nil, List.sum_cons, List.sum_nil]
          omega⟩, by simp [intOf]; omega⟩
    · obtain rfl : i = h.tn := by omega
      have q1 : ¬ (h.tn : Int) < (h.tn : Int) := by omega
      go_wp2_with fail
      go_ret
      exact ⟨_, rfl, by omega, by omega, fun _ => ⟨.mk t (by omega) (by omega) (by omega) (by omega) fun j hj => HOK.out.1 j hj (by omega), by
        have h2 := HOK.out.2
        rw [List.take_of_length_le (by omega)] at h2
        rw [countT_eq]
        omega⟩, HBW.out⟩
end Go.Proofs.YtioifkbkllnkgaaDoor

/- One byte in a block of its own. No program is named here. -/
namespace Go.Proofs.YtioifkbkllnkgaaDoor
open Go.RowKit
set_option linter.unusedVariables false

/-- One byte in a block of its own. -/
theorem in_one {w : World} {g : Nat} {t : TypeId} {z : Int} {fr : Nat × Nat} (h : w.heap[g]? = some (.cells #[.int .u8 z] t fr)) (h0 : 0 ≤ z) (h1 : z ≤ 255) : InBytes w (some ⟨g, 0, none⟩) 1 1 [z] := by
  have hlt : g < w.heap.size := by
    rcases Nat.lt_or_ge g w.heap.size with hlt | hge
    · exact hlt
    · rw [Array.getElem?_eq_none hge] at h
      cases h
  have hseg : Seg .u8 w g 0 [z] := fun i hi => by
    have hi0 : i = 0 := by simpa using hi
    subst hi0
    rw [cell_of_row w g (0 + 0) _ _ fr h]
    rfl
  exact ⟨rfl, (fun x hx => by simp at hx; omega), Nat.le_refl _, by simp [maxLen], (fun h => by cases h), fun _ => ⟨g, 0, rfl, hlt, hseg⟩⟩
theorem alloc_size (w : World) (o : Obj) : (w.alloc o).heap.size = w.heap.size + 1 := by simp
end Go.Proofs.YtioifkbkllnkgaaDoor

/- The heads of the statements of layer 9: the document's examples; whether a tree is small; what is amiss with a tree. -/
namespace Go.Proofs.YtioifkbkllnkgaaDoor
open Go.RowKit
set_option linter.unusedVariables false

theorem check_nil9 : checkT tNil = 0 := by
  unfold checkT
  rw [deepT_eq, formedT_eq]
  rfl
def tCut9 : Tr := .mk 3 [] [] [9] []
theorem check_cut9 : checkT tCut9 = 0 := by
  unfold checkT
  rw [deepT_eq, formedT_eq]
  rfl
theorem dig_cut9 : digT 1 tCut9 = some [9] := by
  have q : digT 1 tCut9 = if [(9 : Int)].length = 1 then some [9] else none := digT_3 rfl
  rw [q]
  rfl
theorem sum3_9 : (sumL [3]).take 1 = [8] := by decide +kernel
theorem dig_nil9 : digT 1 tNil = some [8] := by rw [digT_0 rfl, sum3_9]
theorem count_none9 {kd : Int} {key v d : List Int} : countT (.mk kd key v d []) = 1 := by
  rw [countT_eq]
  rfl
theorem toP_nil9 : toP tNil = .nil := toP_tr .nil
theorem fx_a : findX 1 tNil tNil = (9, [], []) := by
  have e : toldD ((1 : Nat) : Int) tNil = 0 := toldD_some (by omega) (by omega) check_nil9 dig_nil9
  rw [show ((1 : Nat) : Int) = 1 from rfl] at e
  unfold findX
  rw [if_neg (by rw [e]; simp), if_neg (by rw [e]; simp), if_neg (by simp), toP_nil9]
  rfl
theorem fx_b : findX 1 tNil tCut9 = (6, [], []) := by
  have e : toldD ((1 : Nat) : Int) tNil = 0 := toldD_some (by omega) (by omega) check_nil9 dig_nil9
  have e2 : toldD ((1 : Nat) : Int) tCut9 = 0 := toldD_some (by omega) (by omega) check_cut9 dig_cut9
  rw [show ((1 : Nat) : Int) = 1 from rfl] at e e2
  unfold findX
  rw [if_neg (by rw [e]; simp), if_neg (by rw [e2]; simp)]
  show (if digT 1 tNil ≠ digT 1 tCut9 then (6, [], []) else _) = _
  rw [dig_nil9, dig_cut9, if_pos (by simp)]

set_option maxRecDepth 100000 in
set_option maxHeartbeats 8000000 in
theorem up9_any (w : World) (hT : TabLies w) : Calls Tryd.prog 8 #[] w (Says w (.bool true)) := by
  have heq : ∀ (W : World) (p q : Int), (binOp .eql 29 (.iface 42 (.int .i64 p)) (.iface 42 (.int .i64 q))).run Tryd.prog W = .ok (.bool (p == q)) W := fun W p q => eql_code p q W
  have HT := Lib.hid hT
  clear hT
  go_enter Tryd.func8, Tryd.ntmps8
  go_upto_region 2 with (first
    | (go_at_call 10
       refine (find_any 1 (by omega) (by omega) tNil tNil hNil hNil _ (inTree_nil _) (inTree_nil _) (by unfold tNil; rw [count_none9]; omega) (by unfold tNil; rw [count_none9]; omega) HT.out).mono ?_
       unfold FindTold
       rw [fx_a]
       rintro _ w1 ⟨a1, n1, c1, a2, n2, c2, rfl, -, -, hb1⟩
       have e0 : codeV ((9, (([] : List Int), ([] : List Int))) : Nat × (List Int × List Int)).1 = .iface 42 (.int .i64 9) := rfl
       rw [e0]
       have HB1 := Lib.hid hb1
       clear hb1 e0))
  have HB3 : Hid (Below w.heap.size w (w1.alloc (.cells #[.int .u8 9] 5))) := Lib.hid (HB1.out.trans (((Below.refl w1.heap.size w1).alloc (Nat.le_refl _) _).mono HB1.out.size))
  have HI3 : Hid (InBytes (w1.alloc (.cells #[.int .u8 9] 5)) (some ⟨w1.heap.size, 0, none⟩) 1 1 [9]) := Lib.hid (in_one (heap_alloc_new w1 (.cells #[.int .u8 9] 5)) (by omega) (by omega))
  go_wp2_with (first
    | (go_at_call 10
       refine (find_any 1 (by omega) (by omega) tNil tCut9 hNil ⟨3, none, 0, 0, none, 0, 0, some ⟨w1.heap.size, 0, none⟩, 1, 1, none, 0, 0⟩ _ (inTree_nil _) (inTree_leaf (by omega) (by omega) HI3.out) (by unfold tNil; rw [count_none9]; omega) (by unfold tCut9; rw [count_none9]; omega) (HT.out.below HB3.out (Nat.le_refl _))).mono ?_
       unfold FindTold
       rw [fx_b]
       rintro _ w4 ⟨b1, m1, d1, b2, m2, d2, rfl, -, -, hb4⟩
       have e0 : codeV ((6, (([] : List Int), ([] : List Int))) : Nat × (List Int × List Int)).1 = .iface 42 (.int .i64 6) := rfl
       rw [e0]
       have HB4 : Hid (Below w.heap.size w w4) := Lib.hid (HB3.out.trans (hb4.mono HB3.out.size))
       clear hb4 e0))
  go_ret
  exact ⟨rfl, HB4.out⟩

set_option maxRecDepth 100000 in
set_option maxHeartbeats 8000000 in
theorem small9_any (t : Tr) (h : TH) (w : World) (ht : InTree w h t) : Calls Tryd.prog 9 #[h.v] w (fun e w' => ∃ b, e = .returned (.bool b) ∧ (b = true → LightOK t ∧ countT t ≤ 200) ∧ Below w.heap.size w w') := by
  unfold TH.v
  have hbox := Box.new w 25 h
  obtain ⟨x0, x1, x2, x3, x4⟩ := hbox.cells
  have HT := Lib.hid ht
  clear hbox ht
  go_enter Tryd.func9, Tryd.ntmps9
  go_wp2_with (first
    | (go_at_call 24
       refine (light_any t h 200 100 _ ?_ (by omega) (by omega) (by omega) (by omega)).mono ?_
       · exact HT.out.lower ((Below.refl _ _).alloc (Nat.le_refl _) _)
       rintro _ w1 ⟨r, rfl, hr1, hr2, hok, hb1⟩
       have HB1 : Hid (Below w.heap.size w w1) := Lib.hid (((Below.refl w.heap.size w).alloc (Nat.le_refl _) _).trans (hb1.mono (by simp)))
       have HOK := Lib.hid hok
       clear hb1 hok))
  all_goals
    go_ret
    refine ⟨_, rfl, fun hb => ?_, HB1.out⟩
    have h1 : 0 ≤ r := by simpa using hb
    have h2 := HOK.out h1
    exact ⟨h2.1, by omega⟩

set_option maxRecDepth 100000 in
set_option maxHeartbeats 8000000 in
theorem told9_any (x : Int) (hx1 : -9223372036854775808 ≤ x) (hx2 : x ≤ 9223372036854775807) (gk ck : Nat) (p : Tr) (h : TH) (w : World) (ht : InTree w h p) (hks : Seg .u32 w gk 0 kTab) (hgk : gk < w.heap.size) :
    Calls Tryd.prog 12 #[tabV gk ck, .int .i64 x, h.v] w (Says w (.int .i64 (toldD x p))) := by
  unfold TH.v tabV
  have HD := Lib.hid (DW.enter9 w gk ck h hks hgk)
  have HT := Lib.hid ht
  generalize hm : toldD x p = m
  have HM := Lib.hid hm
  clear ht hks hgk hm
  go_enter Tryd.func12, Tryd.ntmps12
  go_upto_region 1 with fail
  generalize ((w.alloc (.cells (Value.slice (some ⟨gk, 0, none⟩) 64 ck :: hTab.map (Value.int .u32)).toArray 36)).alloc (.cells #[.int .i64 h.k, .slice h.ka h.kn h.kc, .slice h.va h.vn h.vc, .slice h.da h.dn h.dc, .slice h.ta h.tn h.tc] 25)) = w0 at *
  by_cases c1 : x < 1
  · have HE : Hid (m = 1) := Lib.hid (by rw [← HM.out]; unfold toldD; rw [if_neg (by omega)])
    go_wp2_with fail
    go_ret
    exact ⟨by rw [HE.out]; rfl, HD.out.b⟩
  by_cases c2 : (32 : Int) < x
  · have HE : Hid (m = 1) := Lib.hid (by rw [← HM.out]; unfold toldD; rw [if_neg (by omega)])
    go_wp2_with fail
    go_ret
    exact ⟨by rw [HE.out]; rfl, HD.out.b⟩
  obtain ⟨k, hk⟩ : ∃ k : Nat, x = (k : Int) := ⟨x.toNat, by omega⟩
  subst hk
  have hk1 : 1 ≤ k := by omega
  have hk2 : k ≤ 32 := by omega
  have HE0 : Hid (m = if checkT p ≠ 0 then checkT p else if digT k p = none then 3 else 0) := Lib.hid (by rw [← HM.out]; unfold toldD; rw [if_pos ⟨by omega, by omega⟩]; rfl)
  go_upto_region 3 with fail
  clear c1 c2
  obtain ⟨x0, x1, x2, x3, x4⟩ := HD.out.box.cells
  by_cases hc : checkT p = 0
  · have HC := Lib.hid hc
    have hcb : ((checkT p : Int) != 0) = false := by rw [hc]; rfl
    clear hc
    go_upto_region 6 with (first
      | (go_at_call 22
         refine (refCheck_any p h _ (HT.out.lower HD.out.b)).mono ?_
         rintro _ w3 ⟨rfl, hb3⟩
         have HD3 := Lib.hid (HD.out.below hb3)
         clear hb3 x0 x1 x2 x3 x4))
    clear hcb
    obtain ⟨x0, x1, x2, x3, x4⟩ := HD3.out.box.cells
    obtain ⟨t0, t1, t2, t3, t4, t5, t6, t7, t8⟩ := HD3.out.nine
    cases hdg : digT k p with
    | none =>
      have HE : Hid (m = 3) := Lib.hid (by rw [HE0.out, if_neg (by rw [HC.out]; simp), if_pos hdg])
      have HDG := Lib.hid hdg
      clear hdg
      go_wp2_with (first
        | (go_at_call 14
           refine (refDigest_any k hk1 hk2 gk ck p h _ (HT.out.lower HD3.out.b) (check_zeroR HC.out).1 HD3.out.ks (Nat.lt_of_lt_of_le HD3.out.gk HD3.out.b.size)).mono ?_
           rintro _ w4 ⟨a4, n4, c4, is4, rfl, hres4, hb4⟩
           have HD4 := Lib.hid (HD3.out.below hb4)
           obtain ⟨his, -⟩ : is4 = false ∧ True := by
             rcases hres4 with ⟨-, zs, q1, q2⟩ | ⟨q1, -⟩
             · rw [HDG.out] at q1; cases q1
             · exact ⟨q1, trivial⟩
           rw [his]
           clear hb4 hres4 his x0 x1 x2 x3 x4 t0 t1 t2 t3 t4 t5 t6 t7 t8))
      go_ret
      exact ⟨by rw [HE.out]; rfl, HD4.out.b⟩
    | some dg =>
      have HE : Hid (m = 0) := Lib.hid (by rw [HE0.out, if_neg (by rw [HC.out]; simp), if_neg (by rw [hdg]; simp)])
      have HDG := Lib.hid hdg
      clear hdg
      go_wp2_with (first
        | (go_at_call 14
           refine (refDigest_any k hk1 hk2 gk ck p h _ (HT.out.lower HD3.out.b) (check_zeroR HC.out).1 HD3.out.ks (Nat.lt_of_lt_of_le HD3.out.gk HD3.out.b.size)).mono ?_
           rintro _ w4 ⟨a4, n4, c4, is4, rfl, hres4, hb4⟩
           have HD4 := Lib.hid (HD3.out.below hb4)
           obtain ⟨his, -⟩ : is4 = true ∧ True := by
             rcases hres4 with ⟨q1, -⟩ | ⟨-, q1⟩
             · exact ⟨q1, trivial⟩
             · rw [HDG.out] at q1; cases q1
           rw [his]
           clear hb4 hres4 his x0 x1 x2 x3 x4 t0 t1 t2 t3 t4 t5 t6 t7 t8))
      go_ret
      exact ⟨by rw [HE.out]; rfl, HD4.out.b⟩
  · have HE : Hid (m = checkT p) := Lib.hid (by rw [HE0.out, if_pos hc])
    have hcb : ((checkT p : Int) != 0) = true := by simp; omega
    clear hc
    go_wp2_with (first
      | (go_at_call 22
         refine (refCheck_any p h _ (HT.out.lower HD.out.b)).mono ?_
         rintro _ w3 ⟨rfl, hb3⟩
         have HD3 := Lib.hid (HD.out.below hb3)
         clear hb3 x0 x1 x2 x3 x4))
    go_ret
    exact ⟨by rw [HE.out]; rfl, HD3.out.b⟩
end Go.Proofs.YtioifkbkllnkgaaDoor

/- The contract of the document's search in two trees. -/
namespace Go.Proofs.YtioifkbkllnkgaaDoor
open Go.RowKit
set_option linter.unusedVariables false

/-- Search's boxes. -/
structure DS (w W : World) (gk ck : Nat) (h h2 : TH) : Prop where
  tab : TB W w.heap.size (.slice (some ⟨gk, 0, none⟩) 64 ck) hTab
  b1 : Box W 25 (w.heap.size + 1) h
  b2 : Box W 25 (w.heap.size + 2) h2
  ks : Seg .u32 W gk 0 kTab
  b : Below w.heap.size w W
  gk : gk < w.heap.size
section
variable {w W W' : World} {gk ck : Nat} {h h2 : TH}
theorem DS.below (d : DS w W gk ck h h2) (hb : Below W.heap.size W W') : DS w W' gk ck h h2 := ⟨d.tab.below hb d.tab.lt, d.b1.below hb d.b1.lt, d.b2.below hb d.b2.lt, d.ks.below hb (Nat.lt_of_lt_of_le d.gk d.b.size), d.b.trans (hb.mono d.b.size), d.gk⟩
theorem DS.drew (d : DS w W gk ck h h2) : DS w W.drew gk ck h h2 := d.below (Below.refl _ _).drew
theorem DS.all (d : DS w W gk ck h h2) : (W.cell? ⟨w.heap.size, 0, none⟩ = some (.slice (some ⟨gk, 0, none⟩) 64 ck) ∧ W.cell? ⟨w.heap.size, 1, none⟩ = some (.int .u32 1779033703) ∧ W.cell? ⟨w.heap.size, 2, none⟩ = some (.int .u32 3144134277) ∧ W.cell? ⟨w.heap.size, 3, none⟩ = some (.int .u32 1013904242) ∧ W.cell? ⟨w.heap.size, 4, none⟩ = some (.int .u32 2773480762) ∧ W.cell? ⟨w.heap.size, 5, none⟩ = some (.int .u32 1359893119) ∧ W.cell? ⟨w.heap.size, 6, none⟩ = some (.int .u32 2600822924) ∧ W.cell? ⟨w.heap.size, 7, none⟩ = some (.int .u32 528734635) ∧ W.cell? ⟨w.heap.size, 8, none⟩ = some (.int .u32 1541459225)) ∧ (W.cell? ⟨w.heap.size + 1, 0, none⟩ = some (.int .i64 h.k) ∧ W.cell? ⟨w.heap.size + 1, 1, none⟩ = some (.slice h.ka h.kn h.kc) ∧ W.cell? ⟨w.heap.size + 1, 2, none⟩ = some (.slice h.va h.vn h.vc) ∧ W.cell? ⟨w.heap.size + 1, 3, none⟩ = some (.slice h.da h.dn h.dc) ∧ W.cell? ⟨w.heap.size + 1, 4, none⟩ = some (.slice h.ta h.tn h.tc)) ∧ (W.cell? ⟨w.heap.size + 2, 0, none⟩ = some (.int .i64 h2.k) ∧ W.cell? ⟨w.heap.size + 2, 1, none⟩ = some (.slice h2.ka h2.kn h2.kc) ∧ W.cell? ⟨w.heap.size + 2, 2, none⟩ = some (.slice h2.va h2.vn h2.vc) ∧ W.cell? ⟨w.heap.size + 2, 3, none⟩ = some (.slice h2.da h2.dn h2.dc) ∧ W.cell? ⟨w.heap.size + 2, 4, none⟩ = some (.slice h2.ta h2.tn h2.tc)) := ⟨⟨d.tab.cell0, tb_cells d.tab⟩, d.b1.cells, d.b2.cells⟩
theorem DS.lt (d : DS w W gk ck h h2) : gk < W.heap.size := Nat.lt_of_lt_of_le d.gk d.b.size
end
theorem DS.enter (w : World) (gk ck : Nat) (h h2 : TH) (hks : Seg .u32 w gk 0 kTab) (hgk : gk < w.heap.size) : DS w (((w.alloc (.cells (Value.slice (some ⟨gk, 0, none⟩) 64 ck :: hTab.map (Value.int .u32)).toArray 36)).alloc (.cells #[.int .i64 h.k, .slice h.ka h.kn h.kc, .slice h.va h.vn h.vc, .slice h.da h.dn h.dc, .slice h.ta h.tn h.tc] 25)).alloc (.cells #[.int .i64 h2.k, .slice h2.ka h2.kn h2.kc, .slice h2.va h2.vn h2.vc, .slice h2.da h2.dn h2.dc, .slice h2.ta h2.tn h2.tc] 25)) gk ck h h2 := by
  have d := DW.enter9 w gk ck h hks hgk
  have s2 : ((w.alloc (.cells (Value.slice (some ⟨gk, 0, none⟩) 64 ck :: hTab.map (Value.int .u32)).toArray 36)).alloc (.cells #[.int .i64 h.k, .slice h.ka h.kn h.kc, .slice h.va h.vn h.vc, .slice h.da h.dn h.dc, .slice h.ta h.tn h.tc] 25)).heap.size = w.heap.size + 2 := by simp
  have hb : Below ((w.alloc (.cells (Value.slice (some ⟨gk, 0, none⟩) 64 ck :: hTab.map (Value.int .u32)).toArray 36)).alloc (.cells #[.int .i64 h.k, .slice h.ka h.kn h.kc, .slice h.va h.vn h.vc, .slice h.da h.dn h.dc, .slice h.ta h.tn h.tc] 25)).heap.size ((w.alloc (.cells (Value.slice (some ⟨gk, 0, none⟩) 64 ck :: hTab.map (Value.int .u32)).toArray 36)).alloc (.cells #[.int .i64 h.k, .slice h.ka h.kn h.kc, .slice h.va h.vn h.vc, .slice h.da h.dn h.dc, .slice h.ta h.tn h.tc] 25)) (((w.alloc (.cells (Value.slice (some ⟨gk, 0, none⟩) 64 ck :: hTab.map (Value.int .u32)).toArray 36)).alloc (.cells #[.int .i64 h.k, .slice h.ka h.kn h.kc, .slice h.va h.vn h.vc, .slice h.da h.dn h.dc, .slice h.ta h.tn h.tc] 25)).alloc (.cells #[.int .i64 h2.k, .slice h2.ka h2.kn h2.kc, .slice h2.va h2.vn h2.vc, .slice h2.da h2.dn h2.dc, .slice h2.ta h2.tn h2.tc] 25)) := (Below.refl _ _).alloc (Nat.le_refl _) _
  have x2 := Box.new ((w.alloc (.cells (Value.slice (some ⟨gk, 0, none⟩) 64 ck :: hTab.map (Value.int .u32)).toArray 36)).alloc (.cells #[.int .i64 h.k, .slice h.ka h.kn h.kc, .slice h.va h.vn h.vc, .slice h.da h.dn h.dc, .slice h.ta h.tn h.tc] 25)) 25 h2
  rw [s2] at x2
  have e := d.below hb
  exact ⟨e.tab, e.box, x2, e.ks, e.b, e.gk⟩
set_option maxRecDepth 100000 in
set_option maxHeartbeats 8000000 in
theorem refSearch_any (k : Nat) (hk1 : 1 ≤ k) (hk2 : k ≤ 32) (gk ck : Nat) : ∀ (p q : PT) (h h2 : TH) (w : World), InTree w h p.tr → InTree w h2 q.tr → p.okP k → q.okP k → formedT p.tr = true → formedT q.tr = true → Seg .u32 w gk 0 kTab → gk < w.heap.size →
    Calls Tryd.prog 15 #[tabV gk ck, .int .i64 k, h.v, h2.v] w (Srch w (searchP k p q)) := by
  intro p
  induction p using PT.ind2 with
  | h p ih =>
  intro q h h2 w ht ht2 ok ok2 hf hf2 hks hgk
  unfold TH.v tabV
  have HD := Lib.hid (DS.enter w gk ck h h2 hks hgk)
  obtain ⟨H, hp⟩ := ht.parts
  obtain ⟨H2, hp2⟩ := ht2.parts
  generalize hr : searchP k p q = res
  have HR := Lib.hid hr
  have HP := Lib.hid hp
  have HP2 := Lib.hid hp2
  have HTT := Lib.hid ht
  have HTT2 := Lib.hid ht2
  have HOK := Lib.hid ok
  have HOK2 := Lib.hid ok2
  have HF := Lib.hid hf
  have HF2 := Lib.hid hf2
  have HIH0 := Lib.hid ih
  have e0 : (h.k == 3) = p.isCut := by rw [hp.hk]; exact PT.cut_kind p
  have e1 : (h2.k == 3) = q.isCut := by rw [hp2.hk]; exact PT.cut_kind q
  clear ht ht2 ok ok2 hf hf2 hks hgk hp hp2 hr ih
  go_enter Tryd.func15, Tryd.ntmps15
  go_upto_region 1 with fail
  generalize (((w.alloc (.cells (Value.slice (some ⟨gk, 0, none⟩) 64 ck :: hTab.map (Value.int .u32)).toArray 36)).alloc (.cells #[.int .i64 h.k, .slice h.ka h.kn h.kc, .slice h.va h.vn h.vc, .slice h.da h.dn h.dc, .slice h.ta h.tn h.tc] 25)).alloc (.cells #[.int .i64 h2.k, .slice h2.ka h2.kn h2.kc, .slice h2.va h2.vn h2.vc, .slice h2.da h2.dn h2.dc, .slice h2.ta h2.tn h2.tc] 25)) = w0 at *
  obtain ⟨⟨t0, t1, t2, t3, t4, t5, t6, t7, t8⟩, ⟨x0, x1, x2, x3, x4⟩, ⟨y0, y1, y2, y3, y4⟩⟩ := HD.out.all
  cases hc : p.isCut with
  | true =>
    have E := Lib.hid (search_cut_l (k := k) hc q)
    rw [hc] at e0
    clear hc
    go_wp2_with fail
    go_ret3
    exact ⟨none, 0, 0, none, 0, 0, false, rfl, by rw [← HR.out, E.out], HD.out.b⟩
  | false =>
  have HC := Lib.hid hc
  rw [hc] at e0
  clear hc
  cases hc2 : q.isCut with
  | true =>
    have E := Lib.hid (search_cut_r (k := k) p hc2)
    rw [hc2] at e1
    clear hc2
    go_wp2_with fail
    go_ret3
    exact ⟨none, 0, 0, none, 0, 0, false, rfl, by rw [← HR.out, E.out], HD.out.b⟩
  | false =>
  have HC2 := Lib.hid hc2
  rw [hc2] at e1
  clear hc2
  go_upto_region 4 with (first
    | (go_at_call 33
       have hck : ∀ W, InTree W h p.tr → Seg .u32 W gk 0 kTab → gk < W.heap.size → Calls Tryd.prog 33 #[.agg #[.slice (some ⟨gk, 0, none⟩) 64 ck, .int .u32 1779033703, .int .u32 3144134277, .int .u32 1013904242, .int .u32 2773480762, .int .u32 1359893119, .int .u32 2600822924, .int .u32 528734635, .int .u32 1541459225], .int .i64 k, .agg #[.int .i64 h.k, .slice h.ka h.kn h.kc, .slice h.va h.vn h.vc, .slice h.da h.dn h.dc, .slice h.ta h.tn h.tc]] W (Tells9 W (p.ownP k)) := fun W a b c => refOwn9_any k hk1 hk2 gk ck p h W a HC.out HOK.out HF.out b c
       (with_reducible refine (hck _ ?_ ?_ ?_).mono ?_)
       · exact HTT.out.lower HD.out.b
       · exact HD.out.ks
       · exact HD.out.lt
       rintro _ w1 ⟨a1, n1, c1, rfl, hi1, hb1⟩
       have HD1 := Lib.hid (HD.out.below hb1)
       have HI1 := Lib.hid hi1
       skip
       clear hck hi1 hb1))
  clear e0 e1 t0 t1 t2 t3 t4 t5 t6 t7 t8 x0 x1 x2 x3 x4 y0 y1 y2 y3 y4
  obtain ⟨⟨t0, t1, t2, t3, t4, t5, t6, t7, t8⟩, ⟨x0, x1, x2, x3, x4⟩, ⟨y0, y1, y2, y3, y4⟩⟩ := HD1.out.all
  go_upto_region 5 with (first
    | (go_at_call 33
       have hck : ∀ W, InTree W h2 q.tr → Seg .u32 W gk 0 kTab → gk < W.heap.size → Calls Tryd.prog 33 #[.agg #[.slice (some ⟨gk, 0, none⟩) 64 ck, .int .u32 1779033703, .int .u32 3144134277, .int .u32 1013904242, .int .u32 2773480762, .int .u32 1359893119, .int .u32 2600822924, .int .u32 528734635, .int .u32 1541459225], .int .i64 k, .agg #[.int .i64 h2.k, .slice h2.ka h2.kn h2.kc, .slice h2.va h2.vn h2.vc, .slice h2.da h2.dn h2.dc, .slice h2.ta h2.tn h2.tc]] W (Tells9 W (q.ownP k)) := fun W a b c => refOwn9_any k hk1 hk2 gk ck q h2 W a HC2.out HOK2.out HF2.out b c
       (with_reducible refine (hck _ ?_ ?_ ?_).mono ?_)
       · exact HTT2.out.lower HD1.out.b
       · exact HD1.out.ks
       · exact HD1.out.lt
       rintro _ w2 ⟨a2, n2, c2, rfl, hi2, hb2⟩
       have HD2 := Lib.hid (HD1.out.below hb2)
       have HI2 := Lib.hid hi2
       have HJ1 := Lib.hid (HI1.out.below hb2)
       clear hck hi2 hb2))
  clear t0 t1 t2 t3 t4 t5 t6 t7 t8 x0 x1 x2 x3 x4 y0 y1 y2 y3 y4
  obtain ⟨⟨t0, t1, t2, t3, t4, t5, t6, t7, t8⟩, ⟨x0, x1, x2, x3, x4⟩, ⟨y0, y1, y2, y3, y4⟩⟩ := HD2.out.all
  have cv1 := conv_key HJ1.out
  have cv2 := conv_key HI2.out
  have hse : ((strOfNums (p.ownP k)).toList == (strOfNums (q.ownP k)).toList) = (p.ownP k == q.ownP k) := str_eq HJ1.out.bytes HI2.out.bytes
  cases hoo : (p.ownP k == q.ownP k) with
  | false =>
    have E := Lib.hid (search_own HC.out HC2.out hoo)
    rw [hoo] at hse
    clear hoo
    go_wp2_with fail
    go_ret3
    exact ⟨_, _, _, _, _, _, true, rfl, by rw [← HR.out, E.out]; exact ⟨rfl, HJ1.out, HI2.out⟩, HD2.out.b⟩
  | true =>
  have HOO := Lib.hid hoo
  rw [hoo] at hse
  clear hoo
  rcases p.tri HC.out with hnil | hn
  · have E : Hid (searchP k p q = none) := Lib.hid (by
      have q1 := HOO.out
      rw [hnil] at q1 ⊢
      exact search_both_nil HC2.out q1)
    have e0 : (h.k == 0) = true := by rw [HP.out.hk, hnil]; rfl
    clear hnil
    go_wp2_with fail
    go_ret3
    exact ⟨none, 0, 0, none, 0, 0, false, rfl, by rw [← HR.out, E.out], HD2.out.b⟩
  · have e0 : (h.k == 0) = false := by rw [HP.out.hk]; exact PT.nil_kind hn
    have hn2 : q.isNode = true := PT.other_node hn HC2.out (by simpa using HOO.out)
    have HN := Lib.hid hn
    have HIH := Lib.hid (HIH0.out hn)
    have HKS := Lib.hid (kids_two HP.out (PT.node_kids hn))
    have HKS2 := Lib.hid (kids_two HP2.out (PT.node_kids hn2))
    have HFK := Lib.hid (PT.formed_kids hn HF.out)
    have HFK2 := Lib.hid (PT.formed_kids hn2 HF2.out)
    have HNO := Lib.hid (PT.node_ok hk2 hn HOK.out)
    have HNO2 := Lib.hid (PT.node_ok hk2 hn2 HOK2.out)
    have HKI := Lib.hid (PT.node_kind hn)
    have HKI2 := Lib.hid (PT.node_kind hn2)
    have HPT : Hid (partB p.tr = true) := Lib.hid (formed_kids HF.out).1
    have HPT2 : Hid (partB q.tr = true) := Lib.hid (formed_kids HF2.out).1
    have HVL := Lib.hid HNO.out.2.2
    have HVL2 := Lib.hid HNO2.out.2.2
    have HPE := Lib.hid (PT.node_pair hn k)
    have HPE2 := Lib.hid (PT.node_pair hn2 k)
    have hvn : h.vn ≤ 1024 := by rw [← HP.out.val.len]; exact (part_lens80 HPT.out).2
    have hvn2 : h2.vn ≤ 1024 := by rw [← HP2.out.val.len]; exact (part_lens80 HPT2.out).2
    have ht1 : (1 : Int) < (h.tn : Int) := by have := HKS.out.2.2; omega
    have ht0 : 0 < h.tn := by omega
    have ht12 : (1 : Int) < (h2.tn : Int) := by have := HKS2.out.2.2; omega
    have ht02 : 0 < h2.tn := by omega
    obtain ⟨g, off, hta, -, -⟩ := HP.out.place ht0
    have HTA := Lib.hid hta
    obtain ⟨g2, off2, hta2, -, -⟩ := HP2.out.place ht02
    have HTA2 := Lib.hid hta2
    clear hn hn2 hta hta2
    go_upto_region 10 with (first
      | (go_at_call 34
         have hck : ∀ W, InTree W h p.tr → Seg .u32 W gk 0 kTab → gk < W.heap.size → Calls Tryd.prog 34 #[.agg #[.slice (some ⟨gk, 0, none⟩) 64 ck, .int .u32 1779033703, .int .u32 3144134277, .int .u32 1013904242, .int .u32 2773480762, .int .u32 1359893119, .int .u32 2600822924, .int .u32 528734635, .int .u32 1541459225], .int .i64 k, .agg #[.int .i64 h.k, .slice h.ka h.kn h.kc, .slice h.va h.vn h.vc, .slice h.da h.dn h.dc, .slice h.ta h.tn h.tc]] W (Tells9 W (pairL p.tr.key (valT k p.tr))) := fun W a b c => refPair9_any k hk1 hk2 gk ck p.tr h W a HPT.out HKI.out HVL.out b c
         (with_reducible refine (hck _ ?_ ?_ ?_).mono ?_)
         · exact HTT.out.lower HD2.out.b
         · exact HD2.out.ks
         · exact HD2.out.lt
         rintro _ w3 ⟨a3, n3, c3, rfl, hi3, hb3⟩
         have HD3 := Lib.hid (HD2.out.below hb3)
         have HI3 : Hid (InBytes w3 a3 n3 c3 (p.pairP k)) := Lib.hid (by rw [HPE.out]; exact hi3)
         skip
         clear hck hi3 hb3))
    clear e0 hse cv1 cv2 t0 t1 t2 t3 t4 t5 t6 t7 t8 x0 x1 x2 x3 x4 y0 y1 y2 y3 y4
    obtain ⟨⟨t0, t1, t2, t3, t4, t5, t6, t7, t8⟩, ⟨x0, x1, x2, x3, x4⟩, ⟨y0, y1, y2, y3, y4⟩⟩ := HD3.out.all
    go_upto_region 11 with (first
      | (go_at_call 34
         have hck : ∀ W, InTree W h2 q.tr → Seg .u32 W gk 0 kTab → gk < W.heap.size → Calls Tryd.prog 34 #[.agg #[.slice (some ⟨gk, 0, none⟩) 64 ck, .int .u32 1779033703, .int .u32 3144134277, .int .u32 1013904242, .int .u32 2773480762, .int .u32 1359893119, .int .u32 2600822924, .int .u32 528734635, .int .u32 1541459225], .int .i64 k, .agg #[.int .i64 h2.k, .slice h2.ka h2.kn h2.kc, .slice h2.va h2.vn h2.vc, .slice h2.da h2.dn h2.dc, .slice h2.ta h2.tn h2.tc]] W (Tells9 W (pairL q.tr.key (valT k q.tr))) := fun W a b c => refPair9_any k hk1 hk2 gk ck q.tr h2 W a HPT2.out HKI2.out HVL2.out b c
         (with_reducible refine (hck _ ?_ ?_ ?_).mono ?_)
         · exact HTT2.out.lower HD3.out.b
         · exact HD3.out.ks
         · exact HD3.out.lt
         rintro _ w4 ⟨a4, n4, c4, rfl, hi4, hb4⟩
         have HD4 := Lib.hid (HD3.out.below hb4)
         have HI4 : Hid (InBytes w4 a4 n4 c4 (q.pairP k)) := Lib.hid (by rw [HPE2.out]; exact hi4)
         have HJ3 := Lib.hid (HI3.out.below hb4)
         clear hck hi4 hb4))
    clear t0 t1 t2 t3 t4 t5 t6 t7 t8 x0 x1 x2 x3 x4 y0 y1 y2 y3 y4
    obtain ⟨⟨t0, t1, t2, t3, t4, t5, t6, t7, t8⟩, ⟨x0, x1, x2, x3, x4⟩, ⟨y0, y1, y2, y3, y4⟩⟩ := HD4.out.all
    have cv1 := conv_key HJ3.out
    have cv2 := conv_key HI4.out
    have hse : ((strOfNums (p.pairP k)).toList == (strOfNums (q.pairP k)).toList) = (p.pairP k == q.pairP k) := str_eq HJ3.out.bytes HI4.out.bytes
    cases hpp : (p.pairP k == q.pairP k) with
    | false =>
      have E := Lib.hid (search_pair HN.out HC2.out HOO.out hpp)
      rw [hpp] at hse
      clear hpp
      go_wp2_with fail
      go_ret3
      exact ⟨_, _, _, _, _, _, true, rfl, by rw [← HR.out, E.out]; exact ⟨rfl, HJ3.out, HI4.out⟩, HD4.out.b⟩
    | true =>
    have HPP := Lib.hid hpp
    rw [hpp] at hse
    clear hpp
    go_upto_region 13 with fail
    clear hse cv1 cv2
    have e2 : (h.k == 1) = p.sval.isSome := by rw [HP.out.hk]; exact PT.sval_kind p
    have e3 : (h2.k == 1) = q.sval.isSome := by rw [HP2.out.hk]; exact PT.sval_kind q
    have cv1 := conv_key (HP.out.val.below HD4.out.b)
    have cv2 := conv_key (HP2.out.val.below HD4.out.b)
    have hse : ((strOfNums p.tr.val).toList == (strOfNums q.tr.val).toList) = (p.tr.val == q.tr.val) := str_eq HP.out.val.bytes HP2.out.val.bytes
    have hvb : p.valsB q = (p.sval.isSome && q.sval.isSome && !(p.tr.val == q.tr.val)) := PT.vals_eq p q
    generalize hvv : p.valsB q = vb at hvb
    have HVV := Lib.hid hvv
    have HVB := Lib.hid hvb
    have HB1 : Hid (p.sval.isSome = true → p.sval = some p.tr.val) := Lib.hid (PT.sval_of p)
    have HB2 : Hid (q.sval.isSome = true → q.sval = some q.tr.val) := Lib.hid (PT.sval_of q)
    clear hvv hvb
    generalize p.sval.isSome = s1 at *
    generalize q.sval.isSome = s2 at *
    generalize (p.tr.val == q.tr.val) = ev at *
    go_cut [71] (fun s71 wx => s71 = .bool vb ∧ wx = w4)
    case first =>
      cases s1 with
      | false =>
        go_wp2_with fail
        go_meet
        exact ⟨by rw [HVB.out]; rfl, rfl⟩
      | true =>
        cases s2 with
        | false =>
          go_wp2_with fail
          go_meet
          exact ⟨by rw [HVB.out]; rfl, rfl⟩
        | true =>
          cases ev with
          | false =>
            go_wp2_with fail
            go_meet
            exact ⟨by rw [HVB.out]; rfl, rfl⟩
          | true =>
            go_wp2_with fail
            go_meet
            exact ⟨by rw [HVB.out]; rfl, rfl⟩
    case rest =>
      obtain ⟨rfl, hwc⟩ := hcut
      rw [hwc]
      clear hwc cv1 cv2 hse e2 e3 t0 t1 t2 t3 t4 t5 t6 t7 t8 x0 x1 x2 x3 x4 y0 y1 y2 y3 y4
      cases vb with
      | true =>
        have hs12 : s1 = true ∧ s2 = true := by
          have q1 := HVB.out
          cases s1 <;> cases s2 <;> first | exact ⟨rfl, rfl⟩ | cases q1
        have hv1 := HB1.out hs12.1
        have hv2 := HB2.out hs12.2
        have E : Hid (searchP k p q = some (valL p.tr.val, valL q.tr.val)) := Lib.hid (by rw [search_val HN.out HC2.out HOO.out HPP.out HVV.out, hv1, hv2]; rfl)
        have HVA := Lib.hid HP.out.val
        have HVA2 := Lib.hid HP2.out.val
        generalize p.tr.val = v at *
        generalize q.tr.val = v2 at *
        clear hs12 hv1 hv2
        go_upto_region 14 with fail
        have HDV := Lib.hid HD4.out.drew
        refine wp_region_held_drew (S := (fun W => (W.cell? ⟨w.heap.size, 0, none⟩ = some (.slice (some ⟨gk, 0, none⟩) 64 ck) ∧ W.cell? ⟨w.heap.size, 1, none⟩ = some (.int .u32 1779033703) ∧ W.cell? ⟨w.heap.size, 2, none⟩ = some (.int .u32 3144134277) ∧ W.cell? ⟨w.heap.size, 3, none⟩ = some (.int .u32 1013904242) ∧ W.cell? ⟨w.heap.size, 4, none⟩ = some (.int .u32 2773480762) ∧ W.cell? ⟨w.heap.size, 5, none⟩ = some (.int .u32 1359893119) ∧ W.cell? ⟨w.heap.size, 6, none⟩ = some (.int .u32 2600822924) ∧ W.cell? ⟨w.heap.size, 7, none⟩ = some (.int .u32 528734635) ∧ W.cell? ⟨w.heap.size, 8, none⟩ = some (.int .u32 1541459225)) ∧ (W.cell? ⟨w.heap.size + 1, 0, none⟩ = some (.int .i64 h.k) ∧ W.cell? ⟨w.heap.size + 1, 1, none⟩ = some (.slice h.ka h.kn h.kc) ∧ W.cell? ⟨w.heap.size + 1, 2, none⟩ = some (.slice h.va h.vn h.vc) ∧ W.cell? ⟨w.heap.size + 1, 3, none⟩ = some (.slice h.da h.dn h.dc) ∧ W.cell? ⟨w.heap.size + 1, 4, none⟩ = some (.slice h.ta h.tn h.tc)) ∧ (W.cell? ⟨w.heap.size + 2, 0, none⟩ = some (.int .i64 h2.k) ∧ W.cell? ⟨w.heap.size + 2, 1, none⟩ = some (.slice h2.ka h2.kn h2.kc) ∧ W.cell? ⟨w.heap.size + 2, 2, none⟩ = some (.slice h2.va h2.vn h2.vc) ∧ W.cell? ⟨w.heap.size + 2, 3, none⟩ = some (.slice h2.da h2.dn h2.dc) ∧ W.cell? ⟨w.heap.size + 2, 4, none⟩ = some (.slice h2.ta h2.tn h2.tc)))) (by kernel_rfl) HDV.out.all (fun hHeld => ?_)
        refine take_w (i := 0) (oi := ?oZ43) (v := ?vZ43) ?hiZ43 (by kernel_rfl) (by kernel_rfl) (by kernel_rfl) ?hQZ43 ?hwZ43 ?hyZ43 (by assumption) ?restZ43
        case hiZ43 => (simp only [List.getElem?_toArray, List.getElem?_cons_zero] <;> rfl)
        case hQZ43 => exact (fun _ _ _ h => h)
        case hwZ43 => rfl
        case hyZ43 => (intro w hSw; (try dsimp only at hSw); go_simp; try with_reducible rfl)
        (try simp only [Act.put, List.setIfInBounds_toArray, List.set_cons_zero, List.set_cons_succ])
        refine take_w (i := 1) (oi := ?oZ44) (v := ?vZ44) ?hiZ44 (by kernel_rfl) (by kernel_rfl) (by kernel_rfl) ?hQZ44 ?hwZ44 ?hyZ44 (by assumption) ?restZ44
        case hiZ44 => (simp only [List.getElem?_toArray, List.getElem?_cons_succ, List.getElem?_cons_zero] <;> rfl)
        case hQZ44 => exact (fun _ _ _ h => h)
        case hwZ44 => rfl
        case hyZ44 => (intro w hSw; (try dsimp only at hSw); go_simp; try with_reducible rfl)
        (try simp only [Act.put, List.setIfInBounds_toArray, List.set_cons_zero, List.set_cons_succ])
        refine take_w (i := 3) (oi := ?oZ45) (v := ?vZ45) ?hiZ45 (by kernel_rfl) (by kernel_rfl) (by kernel_rfl) ?hQZ45 ?hwZ45 ?hyZ45 (by assumption) ?restZ45
        case hiZ45 => (simp only [List.getElem?_toArray, List.getElem?_cons_succ, List.getElem?_cons_zero] <;> rfl)
        case hQZ45 => exact (fun _ _ _ h => h)
        case hwZ45 => rfl
        case hyZ45 => (intro w hSw; (try dsimp only at hSw); go_simp; try with_reducible rfl)
        (try simp only [Act.put, List.setIfInBounds_toArray, List.set_cons_zero, List.set_cons_succ])
        refine take_w (i := 4) (oi := ?oZ46) (v := ?vZ46) ?hiZ46 (by kernel_rfl) (by kernel_rfl) (by kernel_rfl) ?hQZ46 ?hwZ46 ?hyZ46 (by assumption) ?restZ46
        case hiZ46 => (simp only [List.getElem?_toArray, List.getElem?_cons_succ, List.getElem?_cons_zero] <;> rfl)
        case hQZ46 => exact (fun _ _ _ h => h)
        case hwZ46 => rfl
        case hyZ46 => (intro w hSw; (try dsimp only at hSw); go_simp; try with_reducible rfl)
        (try simp only [Act.put, List.setIfInBounds_toArray, List.set_cons_zero, List.set_cons_succ])
        refine wpAnyH_ready (rs := [2]) (by kernel_rfl) (by simp) ?_
        refine AllReadyH.cons (o := ?oZ47) ?hiZ47 (fun K hK => ?stZ47) AllReadyH.nil
        case hiZ47 => (simp only [List.getElem?_toArray, List.getElem?_cons_succ, List.getElem?_cons_zero] <;> rfl)
        go_simp
        go_at_call 30
        (with_reducible refine (refValue_any h.va h.vn h.vc v _ ?_ (by omega)).mono ?_)
        · exact HVA.out.below HDV.out.b
        rintro _ w5 ⟨g5, c5, rfl, ho5, hb5⟩
        have HD5 := Lib.hid (HDV.out.below hb5)
        have HI5 := Lib.hid (InBytes.of_own ho5 (valL_bytes HVA.out.bytes))
        clear ho5 hb5
        go_simp
        refine hK.out _ _ ?_ (fun hHeld => ?_)
        · (first | exact HD6.out.all | exact HD5.out.all | exact HDV.out.all)
        clear hK K
        (try simp only [Act.put, List.setIfInBounds_toArray, List.set_cons_zero, List.set_cons_succ])
        refine wpAnyH_ready (rs := [5]) (by kernel_rfl) (by simp) ?_
        refine AllReadyH.cons (o := ?oZ48) ?hiZ48 (fun K hK => ?stZ48) AllReadyH.nil
        case hiZ48 => (simp only [List.getElem?_toArray, List.getElem?_cons_succ, List.getElem?_cons_zero] <;> rfl)
        go_simp
        go_at_call 30
        (with_reducible refine (refValue_any h2.va h2.vn h2.vc v2 _ ?_ (by omega)).mono ?_)
        · exact HVA2.out.below HD5.out.b
        rintro _ w6 ⟨g6, c6, rfl, ho6, hb6⟩
        have HD6 := Lib.hid (HD5.out.below hb6)
        have HI6 := Lib.hid (InBytes.of_own ho6 (valL_bytes HVA2.out.bytes))
        have HJ5 := Lib.hid (HI5.out.below hb6)
        clear ho6 hb6
        go_simp
        refine hK.out _ _ ?_ (fun hHeld => ?_)
        · (first | exact HD6.out.all | exact HD5.out.all | exact HDV.out.all)
        clear hK K
        (try simp only [Act.put, List.setIfInBounds_toArray, List.set_cons_zero, List.set_cons_succ])
        refine take_w (i := 6) (oi := ?oZ49) (v := ?vZ49) ?hiZ49 (by kernel_rfl) (by kernel_rfl) (by kernel_rfl) ?hQZ49 ?hwZ49 ?hyZ49 (by assumption) ?restZ49
        case hiZ49 => (simp only [List.getElem?_toArray, List.getElem?_cons_succ, List.getElem?_cons_zero] <;> rfl)
        case hQZ49 => exact (fun _ _ _ h => h)
        case hwZ49 => rfl
        case hyZ49 => (intro w hSw; (try dsimp only at hSw); go_simp; try with_reducible rfl)
        (try simp only [Act.put, List.setIfInBounds_toArray, List.set_cons_zero, List.set_cons_succ])
        refine take_w (i := 7) (oi := ?oZ50) (v := ?vZ50) ?hiZ50 (by kernel_rfl) (by kernel_rfl) (by kernel_rfl) ?hQZ50 ?hwZ50 ?hyZ50 (by assumption) ?restZ50
        case hiZ50 => (simp only [List.getElem?_toArray, List.getElem?_cons_succ, List.getElem?_cons_zero] <;> rfl)
        case hQZ50 => exact (fun _ _ _ h => h)
        case hwZ50 => rfl
        case hyZ50 => (intro w hSw; (try dsimp only at hSw); go_simp; try with_reducible rfl)
        (try simp only [Act.put, List.setIfInBounds_toArray, List.set_cons_zero, List.set_cons_succ])
        refine take_w (i := 8) (oi := ?oZ51) (v := ?vZ51) ?hiZ51 (by kernel_rfl) (by kernel_rfl) (by kernel_rfl) ?hQZ51 ?hwZ51 ?hyZ51 (by assumption) ?restZ51
        case hiZ51 => (simp only [List.getElem?_toArray, List.getElem?_cons_succ, List.getElem?_cons_zero] <;> rfl)
        case hQZ51 => exact (fun _ _ _ h => h)
        case hwZ51 => rfl
        case hyZ51 => (intro w hSw; (try dsimp only at hSw); go_simp; try with_reducible rfl)
        (try simp only [Act.put, List.setIfInBounds_toArray, List.set_cons_zero, List.set_cons_succ])
        refine wpAnyH_done (by kernel_rfl) ?_ _
        clear hHeld
        go_wp2_with fail
        go_ret3
        exact ⟨_, _, _, _, _, _, true, rfl, by rw [← HR.out, E.out]; exact ⟨rfl, HJ5.out, HI6.out⟩, HD6.out.b⟩
      | false =>
      have E := Lib.hid (search_rest HN.out HC2.out HOO.out HPP.out HVV.out)
      go_upto_region 15 with fail
      have HDK := Lib.hid HD4.out.drew
      refine wp_region_held_drew (S := (fun W => (W.cell? ⟨w.heap.size, 0, none⟩ = some (.slice (some ⟨gk, 0, none⟩) 64 ck) ∧ W.cell? ⟨w.heap.size, 1, none⟩ = some (.int .u32 1779033703) ∧ W.cell? ⟨w.heap.size, 2, none⟩ = some (.int .u32 3144134277) ∧ W.cell? ⟨w.heap.size, 3, none⟩ = some (.int .u32 1013904242) ∧ W.cell? ⟨w.heap.size, 4, none⟩ = some (.int .u32 2773480762) ∧ W.cell? ⟨w.heap.size, 5, none⟩ = some (.int .u32 1359893119) ∧ W.cell? ⟨w.heap.size, 6, none⟩ = some (.int .u32 2600822924) ∧ W.cell? ⟨w.heap.size, 7, none⟩ = some (.int .u32 528734635) ∧ W.cell? ⟨w.heap.size, 8, none⟩ = some (.int .u32 1541459225)) ∧ (W.cell? ⟨w.heap.size + 1, 0, none⟩ = some (.int .i64 h.k) ∧ W.cell? ⟨w.heap.size + 1, 1, none⟩ = some (.slice h.ka h.kn h.kc) ∧ W.cell? ⟨w.heap.size + 1, 2, none⟩ = some (.slice h.va h.vn h.vc) ∧ W.cell? ⟨w.heap.size + 1, 3, none⟩ = some (.slice h.da h.dn h.dc) ∧ W.cell? ⟨w.heap.size + 1, 4, none⟩ = some (.slice (some ⟨g, off, none⟩) h.tn h.tc)) ∧ (W.cell? ⟨w.heap.size + 2, 0, none⟩ = some (.int .i64 h2.k) ∧ W.cell? ⟨w.heap.size + 2, 1, none⟩ = some (.slice h2.ka h2.kn h2.kc) ∧ W.cell? ⟨w.heap.size + 2, 2, none⟩ = some (.slice h2.va h2.vn h2.vc) ∧ W.cell? ⟨w.heap.size + 2, 3, none⟩ = some (.slice h2.da h2.dn h2.dc) ∧ W.cell? ⟨w.heap.size + 2, 4, none⟩ = some (.slice (some ⟨g2, off2, none⟩) h2.tn h2.tc)) ∧ (W.cell? ⟨g, off, none⟩ = some (.int .i64 (H 0).k) ∧ W.cell? ⟨g, off + 1, none⟩ = some (.slice (H 0).ka (H 0).kn (H 0).kc) ∧ W.cell? ⟨g, off + 2, none⟩ = some (.slice (H 0).va (H 0).vn (H 0).vc) ∧ W.cell? ⟨g, off + 3, none⟩ = some (.slice (H 0).da (H 0).dn (H 0).dc) ∧ W.cell? ⟨g, off + 4, none⟩ = some (.slice (H 0).ta (H 0).tn (H 0).tc)) ∧ (W.cell? ⟨g2, off2, none⟩ = some (.int .i64 (H2 0).k) ∧ W.cell? ⟨g2, off2 + 1, none⟩ = some (.slice (H2 0).ka (H2 0).kn (H2 0).kc) ∧ W.cell? ⟨g2, off2 + 2, none⟩ = some (.slice (H2 0).va (H2 0).vn (H2 0).vc) ∧ W.cell? ⟨g2, off2 + 3, none⟩ = some (.slice (H2 0).da (H2 0).dn (H2 0).dc) ∧ W.cell? ⟨g2, off2 + 4, none⟩ = some (.slice (H2 0).ta (H2 0).tn (H2 0).tc)))) (by kernel_rfl) ⟨HDK.out.all.1, ⟨HDK.out.b1.cells.1, HDK.out.b1.cells.2.1, HDK.out.b1.cells.2.2.1, HDK.out.b1.cells.2.2.2.1, (HDK.out.b1.cells.2.2.2.2).trans (by rw [HTA.out])⟩, ⟨HDK.out.b2.cells.1, HDK.out.b2.cells.2.1, HDK.out.b2.cells.2.2.1, HDK.out.b2.cells.2.2.2.1, (HDK.out.b2.cells.2.2.2.2).trans (by rw [HTA2.out])⟩, (HP.out.below HDK.out.b).kid0 HTA.out (by omega), (HP2.out.below HDK.out.b).kid0 HTA2.out (by omega)⟩ (fun hHeld => ?_)
      refine take_w (i := 0) (oi := ?oZ52) (v := ?vZ52) ?hiZ52 (by kernel_rfl) (by kernel_rfl) (by kernel_rfl) ?hQZ52 ?hwZ52 ?hyZ52 (by assumption) ?restZ52
      case hiZ52 => (simp only [List.getElem?_toArray, List.getElem?_cons_zero] <;> rfl)
      case hQZ52 => exact (fun _ _ _ h => h)
      case hwZ52 => rfl
      case hyZ52 => (intro w hSw; (try dsimp only at hSw); go_simp; try with_reducible rfl)
      (try simp only [Act.put, List.setIfInBounds_toArray, List.set_cons_zero, List.set_cons_succ])
      refine take_w (i := 1) (oi := ?oZ53) (v := ?vZ53) ?hiZ53 (by kernel_rfl) (by kernel_rfl) (by kernel_rfl) ?hQZ53 ?hwZ53 ?hyZ53 (by assumption) ?restZ53
      case hiZ53 => (simp only [List.getElem?_toArray, List.getElem?_cons_succ, List.getElem?_cons_zero] <;> rfl)
      case hQZ53 => exact (fun _ _ _ h => h)
      case hwZ53 => rfl
      case hyZ53 => (intro w hSw; (try dsimp only at hSw); go_simp; try with_reducible rfl)
      (try simp only [Act.put, List.setIfInBounds_toArray, List.set_cons_zero, List.set_cons_succ])
      refine take_w (i := 2) (oi := ?oZ54) (v := ?vZ54) ?hiZ54 (by kernel_rfl) (by kernel_rfl) (by kernel_rfl) ?hQZ54 ?hwZ54 ?hyZ54 (by assumption) ?restZ54
      case hiZ54 => (simp only [List.getElem?_toArray, List.getElem?_cons_succ, List.getElem?_cons_zero] <;> rfl)
      case hQZ54 => exact (fun _ _ _ h => h)
      case hwZ54 => rfl
      case hyZ54 => (intro w hSw; (try dsimp only at hSw); go_simp; try with_reducible rfl)
      (try simp only [Act.put, List.setIfInBounds_toArray, List.set_cons_zero, List.set_cons_succ])
      refine take_w (i := 3) (oi := ?oZ55) (v := ?vZ55) ?hiZ55 (by kernel_rfl) (by kernel_rfl) (by kernel_rfl) ?hQZ55 ?hwZ55 ?hyZ55 (by assumption) ?restZ55
      case hiZ55 => (simp only [List.getElem?_toArray, List.getElem?_cons_succ, List.getElem?_cons_zero] <;> rfl)
      case hQZ55 => exact (fun _ _ _ h => h)
      case hwZ55 => rfl
      case hyZ55 => (intro w hSw; (try dsimp only at hSw); go_simp; try with_reducible rfl)
      (try simp only [Act.put, List.setIfInBounds_toArray, List.set_cons_zero, List.set_cons_succ])
      refine take_w (i := 4) (oi := ?oZ56) (v := ?vZ56) ?hiZ56 (by kernel_rfl) (by kernel_rfl) (by kernel_rfl) ?hQZ56 ?hwZ56 ?hyZ56 (by assumption) ?restZ56
      case hiZ56 => (simp only [List.getElem?_toArray, List.getElem?_cons_succ, List.getElem?_cons_zero] <;> rfl)
      case hQZ56 => exact (fun _ _ _ h => h)
      case hwZ56 => rfl
      case hyZ56 => (intro w hSw; (try dsimp only at hSw); go_simp; try with_reducible rfl)
      (try simp only [Act.put, List.setIfInBounds_toArray, List.set_cons_zero, List.set_cons_succ])
      refine take_w (i := 5) (oi := ?oZ57) (v := ?vZ57) ?hiZ57 (by kernel_rfl) (by kernel_rfl) (by kernel_rfl) ?hQZ57 ?hwZ57 ?hyZ57 (by assumption) ?restZ57
      case hiZ57 => (simp only [List.getElem?_toArray, List.getElem?_cons_succ, List.getElem?_cons_zero] <;> rfl)
      case hQZ57 => exact (fun _ _ _ h => h)
      case hwZ57 => rfl
      case hyZ57 => (intro w hSw; (try dsimp only at hSw); go_simp; try with_reducible rfl)
      (try simp only [Act.put, List.setIfInBounds_toArray, List.set_cons_zero, List.set_cons_succ])
      refine take_w (i := 6) (oi := ?oZ58) (v := ?vZ58) ?hiZ58 (by kernel_rfl) (by kernel_rfl) (by kernel_rfl) ?hQZ58 ?hwZ58 ?hyZ58 (by assumption) ?restZ58
      case hiZ58 => (simp only [List.getElem?_toArray, List.getElem?_cons_succ, List.getElem?_cons_zero] <;> rfl)
      case hQZ58 => exact (fun _ _ _ h => h)
      case hwZ58 => rfl
      case hyZ58 => (intro w hSw; (try dsimp only at hSw); go_simp; try with_reducible rfl)
      (try simp only [Act.put, List.setIfInBounds_toArray, List.set_cons_zero, List.set_cons_succ])
      refine take_w (i := 7) (oi := ?oZ59) (v := ?vZ59) ?hiZ59 (by kernel_rfl) (by kernel_rfl) (by kernel_rfl) ?hQZ59 ?hwZ59 ?hyZ59 (by assumption) ?restZ59
      case hiZ59 => (simp only [List.getElem?_toArray, List.getElem?_cons_succ, List.getElem?_cons_zero] <;> rfl)
      case hQZ59 => exact (fun _ _ _ h => h)
      case hwZ59 => rfl
      case hyZ59 => (intro w hSw; (try dsimp only at hSw); go_simp; try with_reducible rfl)
      (try simp only [Act.put, List.setIfInBounds_toArray, List.set_cons_zero, List.set_cons_succ])
      refine take_w (i := 8) (oi := ?oZ60) (v := ?vZ60) ?hiZ60 (by kernel_rfl) (by kernel_rfl) (by kernel_rfl) ?hQZ60 ?hwZ60 ?hyZ60 (by assumption) ?restZ60
      case hiZ60 => (simp only [List.getElem?_toArray, List.getElem?_cons_succ, List.getElem?_cons_zero] <;> rfl)
      case hQZ60 => exact (fun _ _ _ h => h)
      case hwZ60 => rfl
      case hyZ60 => (intro w hSw; (try dsimp only at hSw); go_simp; try with_reducible rfl)
      (try simp only [Act.put, List.setIfInBounds_toArray, List.set_cons_zero, List.set_cons_succ])
      refine take_w (i := 9) (oi := ?oZ61) (v := ?vZ61) ?hiZ61 (by kernel_rfl) (by kernel_rfl) (by kernel_rfl) ?hQZ61 ?hwZ61 ?hyZ61 (by assumption) ?restZ61
      case hiZ61 => (simp only [List.getElem?_toArray, List.getElem?_cons_succ, List.getElem?_cons_zero] <;> rfl)
      case hQZ61 => exact (fun _ _ _ h => h)
      case hwZ61 => rfl
      case hyZ61 => (intro w hSw; (try dsimp only at hSw); go_simp; try with_reducible rfl)
      (try simp only [Act.put, List.setIfInBounds_toArray, List.set_cons_zero, List.set_cons_succ])
      refine wpAnyH_ready (rs := [10]) (by kernel_rfl) (by simp) ?_
      refine AllReadyH.cons (o := ?oZ62) ?hiZ62 (fun K hK => ?stZ62) AllReadyH.nil
      case hiZ62 => (simp only [List.getElem?_toArray, List.getElem?_cons_succ, List.getElem?_cons_zero] <;> rfl)
      go_simp
      go_at_call 15
      have hck : ∀ W, InTree W (H 0) p.left.tr → InTree W (H2 0) q.left.tr → p.left.okP k → q.left.okP k → formedT p.left.tr = true → formedT q.left.tr = true → Seg .u32 W gk 0 kTab → gk < W.heap.size → Calls Tryd.prog 15 #[.agg #[.slice (some ⟨gk, 0, none⟩) 64 ck, .int .u32 1779033703, .int .u32 3144134277, .int .u32 1013904242, .int .u32 2773480762, .int .u32 1359893119, .int .u32 2600822924, .int .u32 528734635, .int .u32 1541459225], .int .i64 k, .agg #[.int .i64 (H 0).k, .slice (H 0).ka (H 0).kn (H 0).kc, .slice (H 0).va (H 0).vn (H 0).vc, .slice (H 0).da (H 0).dn (H 0).dc, .slice (H 0).ta (H 0).tn (H 0).tc], .agg #[.int .i64 (H2 0).k, .slice (H2 0).ka (H2 0).kn (H2 0).kc, .slice (H2 0).va (H2 0).vn (H2 0).vc, .slice (H2 0).da (H2 0).dn (H2 0).dc, .slice (H2 0).ta (H2 0).tn (H2 0).tc]] W (Srch W (searchP k p.left q.left)) := fun W => HIH.out.1 q.left (H 0) (H2 0) W
      (with_reducible refine (hck _ ?_ ?_ ?_ ?_ ?_ ?_ ?_ ?_).mono ?_)
      · exact HKS.out.1.lower HDK.out.b
      · exact HKS2.out.1.lower HDK.out.b
      · exact HNO.out.1
      · exact HNO2.out.1
      · exact HFK.out.1
      · exact HFK2.out.1
      · exact HDK.out.ks
      · exact HDK.out.lt
      rintro _ w7 ⟨a7, n7, c7, b7, m7, d7, is7, rfl, hres7, hb7⟩
      have HD7 := Lib.hid (HDK.out.below hb7)
      have HS7 := Lib.hid hres7
      clear hck hres7 hb7
      go_simp
      refine hK.out _ _ ?_ (fun hHeld => ?_)
      · (first | exact ⟨HD7.out.all.1, ⟨HD7.out.b1.cells.1, HD7.out.b1.cells.2.1, HD7.out.b1.cells.2.2.1, HD7.out.b1.cells.2.2.2.1, (HD7.out.b1.cells.2.2.2.2).trans (by rw [HTA.out])⟩, ⟨HD7.out.b2.cells.1, HD7.out.b2.cells.2.1, HD7.out.b2.cells.2.2.1, HD7.out.b2.cells.2.2.2.1, (HD7.out.b2.cells.2.2.2.2).trans (by rw [HTA2.out])⟩, (HP.out.below HD7.out.b).kid0 HTA.out (by omega), (HP2.out.below HD7.out.b).kid0 HTA2.out (by omega)⟩ | exact ⟨HDK.out.all.1, ⟨HDK.out.b1.cells.1, HDK.out.b1.cells.2.1, HDK.out.b1.cells.2.2.1, HDK.out.b1.cells.2.2.2.1, (HDK.out.b1.cells.2.2.2.2).trans (by rw [HTA.out])⟩, ⟨HDK.out.b2.cells.1, HDK.out.b2.cells.2.1, HDK.out.b2.cells.2.2.1, HDK.out.b2.cells.2.2.2.1, (HDK.out.b2.cells.2.2.2.2).trans (by rw [HTA2.out])⟩, (HP.out.below HDK.out.b).kid0 HTA.out (by omega), (HP2.out.below HDK.out.b).kid0 HTA2.out (by omega)⟩)
      clear hK K
      (try simp only [Act.put, List.setIfInBounds_toArray, List.set_cons_zero, List.set_cons_succ])
      refine take_w (i := 11) (oi := ?oZ63) (v := ?vZ63) ?hiZ63 (by kernel_rfl) (by kernel_rfl) (by kernel_rfl) ?hQZ63 ?hwZ63 ?hyZ63 (by assumption) ?restZ63
      case hiZ63 => (simp only [List.getElem?_toArray, List.getElem?_cons_succ, List.getElem?_cons_zero] <;> rfl)
      case hQZ63 => exact (fun _ _ _ h => h)
      case hwZ63 => rfl
      case hyZ63 => (intro w hSw; (try dsimp only at hSw); go_simp; try with_reducible rfl)
      (try simp only [Act.put, List.setIfInBounds_toArray, List.set_cons_zero, List.set_cons_succ])
      refine take_w (i := 12) (oi := ?oZ64) (v := ?vZ64) ?hiZ64 (by kernel_rfl) (by kernel_rfl) (by kernel_rfl) ?hQZ64 ?hwZ64 ?hyZ64 (by assumption) ?restZ64
      case hiZ64 => (simp only [List.getElem?_toArray, List.getElem?_cons_succ, List.getElem?_cons_zero] <;> rfl)
      case hQZ64 => exact (fun _ _ _ h => h)
      case hwZ64 => rfl
      case hyZ64 => (intro w hSw; (try dsimp only at hSw); go_simp; try with_reducible rfl)
      (try simp only [Act.put, List.setIfInBounds_toArray, List.set_cons_zero, List.set_cons_succ])
      refine take_w (i := 13) (oi := ?oZ65) (v := ?vZ65) ?hiZ65 (by kernel_rfl) (by kernel_rfl) (by kernel_rfl) ?hQZ65 ?hwZ65 ?hyZ65 (by assumption) ?restZ65
      case hiZ65 => (simp only [List.getElem?_toArray, List.getElem?_cons_succ, List.getElem?_cons_zero] <;> rfl)
      case hQZ65 => exact (fun _ _ _ h => h)
      case hwZ65 => rfl
      case hyZ65 => (intro w hSw; (try dsimp only at hSw); go_simp; try with_reducible rfl)
      (try simp only [Act.put, List.setIfInBounds_toArray, List.set_cons_zero, List.set_cons_succ])
      refine take_w (i := 14) (oi := ?oZ66) (v := ?vZ66) ?hiZ66 (by kernel_rfl) (by kernel_rfl) (by kernel_rfl) ?hQZ66 ?hwZ66 ?hyZ66 (by assumption) ?restZ66
      case hiZ66 => (simp only [List.getElem?_toArray, List.getElem?_cons_succ, List.getElem?_cons_zero] <;> rfl)
      case hQZ66 => exact (fun _ _ _ h => h)
      case hwZ66 => rfl
      case hyZ66 => (intro w hSw; (try dsimp only at hSw); go_simp; try with_reducible rfl)
      (try simp only [Act.put, List.setIfInBounds_toArray, List.set_cons_zero, List.set_cons_succ])
      refine take_w (i := 15) (oi := ?oZ67) (v := ?vZ67) ?hiZ67 (by kernel_rfl) (by kernel_rfl) (by kernel_rfl) ?hQZ67 ?hwZ67 ?hyZ67 (by assumption) ?restZ67
      case hiZ67 => (simp only [List.getElem?_toArray, List.getElem?_cons_succ, List.getElem?_cons_zero] <;> rfl)
      case hQZ67 => exact (fun _ _ _ h => h)
      case hwZ67 => rfl
      case hyZ67 => (intro w hSw; (try dsimp only at hSw); go_simp; try with_reducible rfl)
      (try simp only [Act.put, List.setIfInBounds_toArray, List.set_cons_zero, List.set_cons_succ])
      refine take_w (i := 16) (oi := ?oZ68) (v := ?vZ68) ?hiZ68 (by kernel_rfl) (by kernel_rfl) (by kernel_rfl) ?hQZ68 ?hwZ68 ?hyZ68 (by assumption) ?restZ68
      case hiZ68 => (simp only [List.getElem?_toArray, List.getElem?_cons_succ, List.getElem?_cons_zero] <;> rfl)
      case hQZ68 => exact (fun _ _ _ h => h)
      case hwZ68 => rfl
      case hyZ68 => (intro w hSw; (try dsimp only at hSw); go_simp; try with_reducible rfl)
      (try simp only [Act.put, List.setIfInBounds_toArray, List.set_cons_zero, List.set_cons_succ])
      refine take_w (i := 17) (oi := ?oZ69) (v := ?vZ69) ?hiZ69 (by kernel_rfl) (by kernel_rfl) (by kernel_rfl) ?hQZ69 ?hwZ69 ?hyZ69 (by assumption) ?restZ69
      case hiZ69 => (simp only [List.getElem?_toArray, List.getElem?_cons_succ, List.getElem?_cons_zero] <;> rfl)
      case hQZ69 => exact (fun _ _ _ h => h)
      case hwZ69 => rfl
      case hyZ69 => (intro w hSw; (try dsimp only at hSw); go_simp; try with_reducible rfl)
      (try simp only [Act.put, List.setIfInBounds_toArray, List.set_cons_zero, List.set_cons_succ])
      refine wpAnyH_done (by kernel_rfl) ?_ _
      clear hHeld
      cases hr1 : searchP k p.left q.left with
      | some s =>
        have E2 : Hid (searchP k p q = some s) := Lib.hid (by rw [E.out, hr1])
        have q1 := HS7.out
        rw [hr1] at q1
        have HQ := Lib.hid q1.2
        obtain rfl : is7 = true := q1.1
        clear hr1 q1
        go_wp2_with fail
        go_ret3
        exact ⟨_, _, _, _, _, _, true, rfl, by rw [← HR.out, E2.out]; exact ⟨rfl, HQ.out.1, HQ.out.2⟩, HD7.out.b⟩
      | none =>
        have E2 : Hid (searchP k p q = searchP k p.right q.right) := Lib.hid (by rw [E.out, hr1])
        have q1 := HS7.out
        rw [hr1] at q1
        obtain rfl : is7 = false := q1
        clear hr1
        go_upto_region 18 with fail
        have HDL := Lib.hid HD7.out.drew
        refine wp_region_held_drew (S := (fun W => (W.cell? ⟨w.heap.size, 0, none⟩ = some (.slice (some ⟨gk, 0, none⟩) 64 ck) ∧ W.cell? ⟨w.heap.size, 1, none⟩ = some (.int .u32 1779033703) ∧ W.cell? ⟨w.heap.size, 2, none⟩ = some (.int .u32 3144134277) ∧ W.cell? ⟨w.heap.size, 3, none⟩ = some (.int .u32 1013904242) ∧ W.cell? ⟨w.heap.size, 4, none⟩ = some (.int .u32 2773480762) ∧ W.cell? ⟨w.heap.size, 5, none⟩ = some (.int .u32 1359893119) ∧ W.cell? ⟨w.heap.size, 6, none⟩ = some (.int .u32 2600822924) ∧ W.cell? ⟨w.heap.size, 7, none⟩ = some (.int .u32 528734635) ∧ W.cell? ⟨w.heap.size, 8, none⟩ = some (.int .u32 1541459225)) ∧ (W.cell? ⟨w.heap.size + 1, 0, none⟩ = some (.int .i64 h.k) ∧ W.cell? ⟨w.heap.size + 1, 1, none⟩ = some (.slice h.ka h.kn h.kc) ∧ W.cell? ⟨w.heap.size + 1, 2, none⟩ = some (.slice h.va h.vn h.vc) ∧ W.cell? ⟨w.heap.size + 1, 3, none⟩ = some (.slice h.da h.dn h.dc) ∧ W.cell? ⟨w.heap.size + 1, 4, none⟩ = some (.slice (some ⟨g, off, none⟩) h.tn h.tc)) ∧ (W.cell? ⟨w.heap.size + 2, 0, none⟩ = some (.int .i64 h2.k) ∧ W.cell? ⟨w.heap.size + 2, 1, none⟩ = some (.slice h2.ka h2.kn h2.kc) ∧ W.cell? ⟨w.heap.size + 2, 2, none⟩ = some (.slice h2.va h2.vn h2.vc) ∧ W.cell? ⟨w.heap.size + 2, 3, none⟩ = some (.slice h2.da h2.dn h2.dc) ∧ W.cell? ⟨w.heap.size + 2, 4, none⟩ = some (.slice (some ⟨g2, off2, none⟩) h2.tn h2.tc)) ∧ (W.cell? ⟨g, off + 5, none⟩ = some (.int .i64 (H 1).k) ∧ W.cell? ⟨g, off + 5 + 1, none⟩ = some (.slice (H 1).ka (H 1).kn (H 1).kc) ∧ W.cell? ⟨g, off + 5 + 2, none⟩ = some (.slice (H 1).va (H 1).vn (H 1).vc) ∧ W.cell? ⟨g, off + 5 + 3, none⟩ = some (.slice (H 1).da (H 1).dn (H 1).dc) ∧ W.cell? ⟨g, off + 5 + 4, none⟩ = some (.slice (H 1).ta (H 1).tn (H 1).tc)) ∧ (W.cell? ⟨g2, off2 + 5, none⟩ = some (.int .i64 (H2 1).k) ∧ W.cell? ⟨g2, off2 + 5 + 1, none⟩ = some (.slice (H2 1).ka (H2 1).kn (H2 1).kc) ∧ W.cell? ⟨g2, off2 + 5 + 2, none⟩ = some (.slice (H2 1).va (H2 1).vn (H2 1).vc) ∧ W.cell? ⟨g2, off2 + 5 + 3, none⟩ = some (.slice (H2 1).da (H2 1).dn (H2 1).dc) ∧ W.cell? ⟨g2, off2 + 5 + 4, none⟩ = some (.slice (H2 1).ta (H2 1).tn (H2 1).tc)))) (by kernel_rfl) ⟨HDL.out.all.1, ⟨HDL.out.b1.cells.1, HDL.out.b1.cells.2.1, HDL.out.b1.cells.2.2.1, HDL.out.b1.cells.2.2.2.1, (HDL.out.b1.cells.2.2.2.2).trans (by rw [HTA.out])⟩, ⟨HDL.out.b2.cells.1, HDL.out.b2.cells.2.1, HDL.out.b2.cells.2.2.1, HDL.out.b2.cells.2.2.2.1, (HDL.out.b2.cells.2.2.2.2).trans (by rw [HTA2.out])⟩, (HP.out.below HDL.out.b).kid1 HTA.out (by omega), (HP2.out.below HDL.out.b).kid1 HTA2.out (by omega)⟩ (fun hHeld => ?_)
        refine take_w (i := 0) (oi := ?oZ70) (v := ?vZ70) ?hiZ70 (by kernel_rfl) (by kernel_rfl) (by kernel_rfl) ?hQZ70 ?hwZ70 ?hyZ70 (by assumption) ?restZ70
        case hiZ70 => (simp only [List.getElem?_toArray, List.getElem?_cons_zero] <;> rfl)
        case hQZ70 => exact (fun _ _ _ h => h)
        case hwZ70 => rfl
        case hyZ70 => (intro w hSw; (try dsimp only at hSw); go_simp; try with_reducible rfl)
        (try simp only [Act.put, List.setIfInBounds_toArray, List.set_cons_zero, List.set_cons_succ])
        refine take_w (i := 1) (oi := ?oZ71) (v := ?vZ71) ?hiZ71 (by kernel_rfl) (by kernel_rfl) (by kernel_rfl) ?hQZ71 ?hwZ71 ?hyZ71 (by assumption) ?restZ71
        case hiZ71 => (simp only [List.getElem?_toArray, List.getElem?_cons_succ, List.getElem?_cons_zero] <;> rfl)
        case hQZ71 => exact (fun _ _ _ h => h)
        case hwZ71 => rfl
        case hyZ71 => (intro w hSw; (try dsimp only at hSw); go_simp; try with_reducible rfl)
        (try simp only [Act.put, List.setIfInBounds_toArray, List.set_cons_zero, List.set_cons_succ])
        refine take_w (i := 2) (oi := ?oZ72) (v := ?vZ72) ?hiZ72 (by kernel_rfl) (by kernel_rfl) (by kernel_rfl) ?hQZ72 ?hwZ72 ?hyZ72 (by assumption) ?restZ72
        case hiZ72 => (simp only [List.getElem?_toArray, List.getElem?_cons_succ, List.getElem?_cons_zero] <;> rfl)
        case hQZ72 => exact (fun _ _ _ h => h)
        case hwZ72 => rfl
        case hyZ72 => (intro w hSw; (try dsimp only at hSw); go_simp; try with_reducible rfl)
        (try simp only [Act.put, List.setIfInBounds_toArray, List.set_cons_zero, List.set_cons_succ])
        refine take_w (i := 3) (oi := ?oZ73) (v := ?vZ73) ?hiZ73 (by kernel_rfl) (by kernel_rfl) (by kernel_rfl) ?hQZ73 ?hwZ73 ?hyZ73 (by assumption) ?restZ73
        case hiZ73 => (simp only [List.getElem?_toArray, List.getElem?_cons_succ, List.getElem?_cons_zero] <;> rfl)
        case hQZ73 => exact (fun _ _ _ h => h)
        case hwZ73 => rfl
        case hyZ73 => (intro w hSw; (try dsimp only at hSw); go_simp; try with_reducible rfl)
        (try simp only [Act.put, List.setIfInBounds_toArray, List.set_cons_zero, List.set_cons_succ])
        refine take_w (i := 4) (oi := ?oZ74) (v := ?vZ74) ?hiZ74 (by kernel_rfl) (by kernel_rfl) (by kernel_rfl) ?hQZ74 ?hwZ74 ?hyZ74 (by assumption) ?restZ74
        case hiZ74 => (simp only [List.getElem?_toArray, List.getElem?_cons_succ, List.getElem?_cons_zero] <;> rfl)
        case hQZ74 => exact (fun _ _ _ h => h)
        case hwZ74 => rfl
        case hyZ74 => (intro w hSw; (try dsimp only at hSw); go_simp; try with_reducible rfl)
        (try simp only [Act.put, List.setIfInBounds_toArray, List.set_cons_zero, List.set_cons_succ])
        refine take_w (i := 5) (oi := ?oZ75) (v := ?vZ75) ?hiZ75 (by kernel_rfl) (by kernel_rfl) (by kernel_rfl) ?hQZ75 ?hwZ75 ?hyZ75 (by assumption) ?restZ75
        case hiZ75 => (simp only [List.getElem?_toArray, List.getElem?_cons_succ, List.getElem?_cons_zero] <;> rfl)
        case hQZ75 => exact (fun _ _ _ h => h)
        case hwZ75 => rfl
        case hyZ75 => (intro w hSw; (try dsimp only at hSw); go_simp; try with_reducible rfl)
        (try simp only [Act.put, List.setIfInBounds_toArray, List.set_cons_zero, List.set_cons_succ])
        refine take_w (i := 6) (oi := ?oZ76) (v := ?vZ76) ?hiZ76 (by kernel_rfl) (by kernel_rfl) (by kernel_rfl) ?hQZ76 ?hwZ76 ?hyZ76 (by assumption) ?restZ76
        case hiZ76 => (simp only [List.getElem?_toArray, List.getElem?_cons_succ, List.getElem?_cons_zero] <;> rfl)
        case hQZ76 => exact (fun _ _ _ h => h)
        case hwZ76 => rfl
        case hyZ76 => (intro w hSw; (try dsimp only at hSw); go_simp; try with_reducible rfl)
        (try simp only [Act.put, List.setIfInBounds_toArray, List.set_cons_zero, List.set_cons_succ])
        refine take_w (i := 7) (oi := ?oZ77) (v := ?vZ77) ?hiZ77 (by kernel_rfl) (by kernel_rfl) (by kernel_rfl) ?hQZ77 ?hwZ77 ?hyZ77 (by assumption) ?restZ77
        case hiZ77 => (simp only [List.getElem?_toArray, List.getElem?_cons_succ, List.getElem?_cons_zero] <;> rfl)
        case hQZ77 => exact (fun _ _ _ h => h)
        case hwZ77 => rfl
        case hyZ77 => (intro w hSw; (try dsimp only at hSw); go_simp; try with_reducible rfl)
        (try simp only [Act.put, List.setIfInBounds_toArray, List.set_cons_zero, List.set_cons_succ])
        refine take_w (i := 8) (oi := ?oZ78) (v := ?vZ78) ?hiZ78 (by kernel_rfl) (by kernel_rfl) (by kernel_rfl) ?hQZ78 ?hwZ78 ?hyZ78 (by assumption) ?restZ78
        case hiZ78 => (simp only [List.getElem?_toArray, List.getElem?_cons_succ, List.getElem?_cons_zero] <;> rfl)
        case hQZ78 => exact (fun _ _ _ h => h)
        case hwZ78 => rfl
        case hyZ78 => (intro w hSw; (try dsimp only at hSw); go_simp; try with_reducible rfl)
        (try simp only [Act.put, List.setIfInBounds_toArray, List.set_cons_zero, List.set_cons_succ])
        refine take_w (i := 9) (oi := ?oZ79) (v := ?vZ79) ?hiZ79 (by kernel_rfl) (by kernel_rfl) (by kernel_rfl) ?hQZ79 ?hwZ79 ?hyZ79 (by assumption) ?restZ79
        case hiZ79 => (simp only [List.getElem?_toArray, List.getElem?_cons_succ, List.getElem?_cons_zero] <;> rfl)
        case hQZ79 => exact (fun _ _ _ h => h)
        case hwZ79 => rfl
        case hyZ79 => (intro w hSw; (try dsimp only at hSw); go_simp; try with_reducible rfl)
        (try simp only [Act.put, List.setIfInBounds_toArray, List.set_cons_zero, List.set_cons_succ])
        refine wpAnyH_ready (rs := [10]) (by kernel_rfl) (by simp) ?_
        refine AllReadyH.cons (o := ?oZ80) ?hiZ80 (fun K hK => ?stZ80) AllReadyH.nil
        case hiZ80 => (simp only [List.getElem?_toArray, List.getElem?_cons_succ, List.getElem?_cons_zero] <;> rfl)
        go_simp
        go_at_call 15
        have hck : ∀ W, InTree W (H 1) p.right.tr → InTree W (H2 1) q.right.tr → p.right.okP k → q.right.okP k → formedT p.right.tr = true → formedT q.right.tr = true → Seg .u32 W gk 0 kTab → gk < W.heap.size → Calls Tryd.prog 15 #[.agg #[.slice (some ⟨gk, 0, none⟩) 64 ck, .int .u32 1779033703, .int .u32 3144134277, .int .u32 1013904242, .int .u32 2773480762, .int .u32 1359893119, .int .u32 2600822924, .int .u32 528734635, .int .u32 1541459225], .int .i64 k, .agg #[.int .i64 (H 1).k, .slice (H 1).ka (H 1).kn (H 1).kc, .slice (H 1).va (H 1).vn (H 1).vc, .slice (H 1).da (H 1).dn (H 1).dc, .slice (H 1).ta (H 1).tn (H 1).tc], .agg #[.int .i64 (H2 1).k, .slice (H2 1).ka (H2 1).kn (H2 1).kc, .slice (H2 1).va (H2 1).vn (H2 1).vc, .slice (H2 1).da (H2 1).dn (H2 1).dc, .slice (H2 1).ta (H2 1).tn (H2 1).tc]] W (Srch W (searchP k p.right q.right)) := fun W => HIH.out.2 q.right (H 1) (H2 1) W
        (with_reducible refine (hck _ ?_ ?_ ?_ ?_ ?_ ?_ ?_ ?_).mono ?_)
        · exact HKS.out.2.1.lower HDL.out.b
        · exact HKS2.out.2.1.lower HDL.out.b
        · exact HNO.out.2.1
        · exact HNO2.out.2.1
        · exact HFK.out.2
        · exact HFK2.out.2
        · exact HDL.out.ks
        · exact HDL.out.lt
        rintro _ w8 ⟨a8, n8, c8, b8, m8, d8, is8, rfl, hres8, hb8⟩
        have HD8 := Lib.hid (HDL.out.below hb8)
        have HS8 := Lib.hid hres8
        clear hck hres8 hb8
        go_simp
        refine hK.out _ _ ?_ (fun hHeld => ?_)
        · (first | exact ⟨HD8.out.all.1, ⟨HD8.out.b1.cells.1, HD8.out.b1.cells.2.1, HD8.out.b1.cells.2.2.1, HD8.out.b1.cells.2.2.2.1, (HD8.out.b1.cells.2.2.2.2).trans (by rw [HTA.out])⟩, ⟨HD8.out.b2.cells.1, HD8.out.b2.cells.2.1, HD8.out.b2.cells.2.2.1, HD8.out.b2.cells.2.2.2.1, (HD8.out.b2.cells.2.2.2.2).trans (by rw [HTA2.out])⟩, (HP.out.below HD8.out.b).kid1 HTA.out (by omega), (HP2.out.below HD8.out.b).kid1 HTA2.out (by omega)⟩ | exact ⟨HDL.out.all.1, ⟨HDL.out.b1.cells.1, HDL.out.b1.cells.2.1, HDL.out.b1.cells.2.2.1, HDL.out.b1.cells.2.2.2.1, (HDL.out.b1.cells.2.2.2.2).trans (by rw [HTA.out])⟩, ⟨HDL.out.b2.cells.1, HDL.out.b2.cells.2.1, HDL.out.b2.cells.2.2.1, HDL.out.b2.cells.2.2.2.1, (HDL.out.b2.cells.2.2.2.2).trans (by rw [HTA2.out])⟩, (HP.out.below HDL.out.b).kid1 HTA.out (by omega), (HP2.out.below HDL.out.b).kid1 HTA2.out (by omega)⟩)
        clear hK K
        (try simp only [Act.put, List.setIfInBounds_toArray, List.set_cons_zero, List.set_cons_succ])
        refine take_w (i := 11) (oi := ?oZ81) (v := ?vZ81) ?hiZ81 (by kernel_rfl) (by kernel_rfl) (by kernel_rfl) ?hQZ81 ?hwZ81 ?hyZ81 (by assumption) ?restZ81
        case hiZ81 => (simp only [List.getElem?_toArray, List.getElem?_cons_succ, List.getElem?_cons_zero] <;> rfl)
        case hQZ81 => exact (fun _ _ _ h => h)
        case hwZ81 => rfl
        case hyZ81 => (intro w hSw; (try dsimp only at hSw); go_simp; try with_reducible rfl)
        (try simp only [Act.put, List.setIfInBounds_toArray, List.set_cons_zero, List.set_cons_succ])
        refine take_w (i := 12) (oi := ?oZ82) (v := ?vZ82) ?hiZ82 (by kernel_rfl) (by kernel_rfl) (by kernel_rfl) ?hQZ82 ?hwZ82 ?hyZ82 (by assumption) ?restZ82
        case hiZ82 => (simp only [List.getElem?_toArray, List.getElem?_cons_succ, List.getElem?_cons_zero] <;> rfl)
        case hQZ82 => exact (fun _ _ _ h => h)
        case hwZ82 => rfl
        case hyZ82 => (intro w hSw; (try dsimp only at hSw); go_simp; try with_reducible rfl)
        (try simp only [Act.put, List.setIfInBounds_toArray, List.set_cons_zero, List.set_cons_succ])
        refine take_w (i := 13) (oi := ?oZ83) (v := ?vZ83) ?hiZ83 (by kernel_rfl) (by kernel_rfl) (by kernel_rfl) ?hQZ83 ?hwZ83 ?hyZ83 (by assumption) ?restZ83
        case hiZ83 => (simp only [List.getElem?_toArray, List.getElem?_cons_succ, List.getElem?_cons_zero] <;> rfl)
        case hQZ83 => exact (fun _ _ _ h => h)
        case hwZ83 => rfl
        case hyZ83 => (intro w hSw; (try dsimp only at hSw); go_simp; try with_reducible rfl)
        (try simp only [Act.put, List.setIfInBounds_toArray, List.set_cons_zero, List.set_cons_succ])
        refine take_w (i := 14) (oi := ?oZ84) (v := ?vZ84) ?hiZ84 (by kernel_rfl) (by kernel_rfl) (by kernel_rfl) ?hQZ84 ?hwZ84 ?hyZ84 (by assumption) ?restZ84
        case hiZ84 => (simp only [List.getElem?_toArray, List.getElem?_cons_succ, List.getElem?_cons_zero] <;> rfl)
        case hQZ84 => exact (fun _ _ _ h => h)
        case hwZ84 => rfl
        case hyZ84 => (intro w hSw; (try dsimp only at hSw); go_simp; try with_reducible rfl)
        (try simp only [Act.put, List.setIfInBounds_toArray, List.set_cons_zero, List.set_cons_succ])
        refine take_w (i := 15) (oi := ?oZ85) (v := ?vZ85) ?hiZ85 (by kernel_rfl) (by kernel_rfl) (by kernel_rfl) ?hQZ85 ?hwZ85 ?hyZ85 (by assumption) ?restZ85
        case hiZ85 => (simp only [List.getElem?_toArray, List.getElem?_cons_succ, List.getElem?_cons_zero] <;> rfl)
        case hQZ85 => exact (fun _ _ _ h => h)
        case hwZ85 => rfl
        case hyZ85 => (intro w hSw; (try dsimp only at hSw); go_simp; try with_reducible rfl)
        (try simp only [Act.put, List.setIfInBounds_toArray, List.set_cons_zero, List.set_cons_succ])
        refine take_w (i := 16) (oi := ?oZ86) (v := ?vZ86) ?hiZ86 (by kernel_rfl) (by kernel_rfl) (by kernel_rfl) ?hQZ86 ?hwZ86 ?hyZ86 (by assumption) ?restZ86
        case hiZ86 => (simp only [List.getElem?_toArray, List.getElem?_cons_succ, List.getElem?_cons_zero] <;> rfl)
        case hQZ86 => exact (fun _ _ _ h => h)
        case hwZ86 => rfl
        case hyZ86 => (intro w hSw; (try dsimp only at hSw); go_simp; try with_reducible rfl)
        (try simp only [Act.put, List.setIfInBounds_toArray, List.set_cons_zero, List.set_cons_succ])
        refine wpAnyH_done (by kernel_rfl) ?_ _
        clear hHeld
        go_wp2_with fail
        go_ret3
        exact ⟨_, _, _, _, _, _, is8, rfl, by rw [← HR.out, E2.out]; exact HS8.out, HD8.out.b⟩
end Go.Proofs.YtioifkbkllnkgaaDoor

/- What the statements ask of errors: which Code one is. -/
namespace Go.Proofs.YtioifkbkllnkgaaDoor
open Go.RowKit
set_option linter.unusedVariables false

set_option maxRecDepth 100000 in
set_option maxHeartbeats 1000000 in
theorem code_any (k : Nat) (hk : k ≤ 13) (w : World) :
    Calls Tryd.prog 13 #[codeV k] w (fun e w' => e = .returned (.int .i64 k) ∧ ∃ m, w' = w.drewN m) := by
  have hq := eql_code
  unfold codeV
  go_enter Tryd.func13, Tryd.ntmps13
  by_cases h0 : k = 0
  · subst h0
    rw [if_pos rfl]
    go_wp2_with fail
    go_ret
    exact ⟨rfl, 0, rfl⟩
  · rw [if_neg h0]
    go_wp2_with fail
    go_loopw [3] (fun c wx => ∃ j : Nat, 1 ≤ j ∧ j ≤ k ∧ c = .int .i64 j ∧ wx = w) (fun c _ => 14 - (intOf c).toNat)
    case atStart => exact ⟨1, by omega, by omega, rfl, rfl⟩
    case round =>
      obtain ⟨j, hj1, hjk, rfl, rfl⟩ := hrel
      have h13 : (j : Int) ≤ 13 := by omega
      by_cases he : j = k
      · subst he
        have hb : ((j : Int) == (j : Int)) = true := by simp
        go_wp2_with fail
        go_ret
        exact ⟨rfl, 0, rfl⟩
      · have hb : ((k : Int) == (j : Int)) = false := by simp; omega
        go_wp2_with fail
        exact ⟨⟨j + 1, by omega, by omega, by go_num, trivial⟩, by simp [intOf]; omega⟩
end Go.Proofs.YtioifkbkllnkgaaDoor

/- The walk of the law ClashFinds. -/
namespace Go.Proofs.YtioifkbkllnkgaaDoor
open Go.RowKit
set_option linter.unusedVariables false

/-- Two trees' boxes. -/
structure TK9 (w W : World) (h h2 : TH) (p q : Tr) : Prop where
  b1 : Box W 25 w.heap.size h
  b2 : Box W 25 (w.heap.size + 1) h2
  t1 : InTree W h p
  t2 : InTree W h2 q
  b : Below w.heap.size w W
section
variable {w W W' : World} {h h2 : TH} {p q : Tr}
theorem TK9.below (x : TK9 w W h h2 p q) (hb : Below W.heap.size W W') : TK9 w W' h h2 p q := ⟨x.b1.below hb x.b1.lt, x.b2.below hb x.b2.lt, x.t1.lower hb, x.t2.lower hb, x.b.trans (hb.mono x.b.size)⟩
end
theorem TK9.enter (w : World) (h h2 : TH) (p q : Tr) (ht : InTree w h p) (ht2 : InTree w h2 q) : TK9 w ((w.alloc (.cells #[.int .i64 h.k, .slice h.ka h.kn h.kc, .slice h.va h.vn h.vc, .slice h.da h.dn h.dc, .slice h.ta h.tn h.tc] 25)).alloc (.cells #[.int .i64 h2.k, .slice h2.ka h2.kn h2.kc, .slice h2.va h2.vn h2.vc, .slice h2.da h2.dn h2.dc, .slice h2.ta h2.tn h2.tc] 25)) h h2 p q := by
  have q1 : Below w.heap.size w (w.alloc (.cells #[.int .i64 h.k, .slice h.ka h.kn h.kc, .slice h.va h.vn h.vc, .slice h.da h.dn h.dc, .slice h.ta h.tn h.tc] 25)) := (Below.refl _ _).alloc (Nat.le_refl _) _
  have s1 : (w.alloc (.cells #[.int .i64 h.k, .slice h.ka h.kn h.kc, .slice h.va h.vn h.vc, .slice h.da h.dn h.dc, .slice h.ta h.tn h.tc] 25)).heap.size = w.heap.size + 1 := by simp
  have x1 := Box.new w 25 h
  have x2 := Box.new (w.alloc (.cells #[.int .i64 h.k, .slice h.ka h.kn h.kc, .slice h.va h.vn h.vc, .slice h.da h.dn h.dc, .slice h.ta h.tn h.tc] 25)) 25 h2
  have b2 : Below (w.alloc (.cells #[.int .i64 h.k, .slice h.ka h.kn h.kc, .slice h.va h.vn h.vc, .slice h.da h.dn h.dc, .slice h.ta h.tn h.tc] 25)).heap.size (w.alloc (.cells #[.int .i64 h.k, .slice h.ka h.kn h.kc, .slice h.va h.vn h.vc, .slice h.da h.dn h.dc, .slice h.ta h.tn h.tc] 25)) ((w.alloc (.cells #[.int .i64 h.k, .slice h.ka h.kn h.kc, .slice h.va h.vn h.vc, .slice h.da h.dn h.dc, .slice h.ta h.tn h.tc] 25)).alloc (.cells #[.int .i64 h2.k, .slice h2.ka h2.kn h2.kc, .slice h2.va h2.vn h2.vc, .slice h2.da h2.dn h2.dc, .slice h2.ta h2.tn h2.tc] 25)) := (Below.refl _ _).alloc (Nat.le_refl _) _
  rw [s1] at x2
  have q2 : Below w.heap.size w ((w.alloc (.cells #[.int .i64 h.k, .slice h.ka h.kn h.kc, .slice h.va h.vn h.vc, .slice h.da h.dn h.dc, .slice h.ta h.tn h.tc] 25)).alloc (.cells #[.int .i64 h2.k, .slice h2.ka h2.kn h2.kc, .slice h2.va h2.vn h2.vc, .slice h2.da h2.dn h2.dc, .slice h2.ta h2.tn h2.tc] 25)) := q1.trans (b2.mono (by rw [s1]; omega))
  exact ⟨x1.below b2 x1.lt, x2, ht.lower q2, ht2.lower q2, q2⟩
/-- And the tables' box, and the two texts that were found. -/
structure F9 (w W : World) (h h2 : TH) (p q : Tr) (gt gk ck : Nat) (a : Option Addr) (n c : Nat) (s : List Int) (a' : Option Addr) (n' c' : Nat) (t : List Int) : Prop where
  k : TK9 w W h h2 p q
  tab : TB W gt (.slice (some ⟨gk, 0, none⟩) 64 ck) hTab
  ks : Seg .u32 W gk 0 kTab
  gk : gk < W.heap.size
  ra : InBytes W a n c s
  rb : InBytes W a' n' c' t
section
variable {w W W' : World} {h h2 : TH} {p q : Tr} {gt gk ck : Nat} {a a' : Option Addr} {n c n' c' : Nat} {s t : List Int}
theorem F9.below (x : F9 w W h h2 p q gt gk ck a n c s a' n' c' t) (hb : Below W.heap.size W W') : F9 w W' h h2 p q gt gk ck a n c s a' n' c' t := ⟨x.k.below hb, x.tab.below hb x.tab.lt, x.ks.below hb x.gk, Nat.lt_of_lt_of_le x.gk hb.size, x.ra.below hb, x.rb.below hb⟩
theorem F9.all (x : F9 w W h h2 p q gt gk ck a n c s a' n' c' t) : (W.cell? ⟨gt, 0, none⟩ = some (.slice (some ⟨gk, 0, none⟩) 64 ck) ∧ W.cell? ⟨gt, 1, none⟩ = some (.int .u32 1779033703) ∧ W.cell? ⟨gt, 2, none⟩ = some (.int .u32 3144134277) ∧ W.cell? ⟨gt, 3, none⟩ = some (.int .u32 1013904242) ∧ W.cell? ⟨gt, 4, none⟩ = some (.int .u32 2773480762) ∧ W.cell? ⟨gt, 5, none⟩ = some (.int .u32 1359893119) ∧ W.cell? ⟨gt, 6, none⟩ = some (.int .u32 2600822924) ∧ W.cell? ⟨gt, 7, none⟩ = some (.int .u32 528734635) ∧ W.cell? ⟨gt, 8, none⟩ = some (.int .u32 1541459225)) ∧ (W.cell? ⟨w.heap.size, 0, none⟩ = some (.int .i64 h.k) ∧ W.cell? ⟨w.heap.size, 1, none⟩ = some (.slice h.ka h.kn h.kc) ∧ W.cell? ⟨w.heap.size, 2, none⟩ = some (.slice h.va h.vn h.vc) ∧ W.cell? ⟨w.heap.size, 3, none⟩ = some (.slice h.da h.dn h.dc) ∧ W.cell? ⟨w.heap.size, 4, none⟩ = some (.slice h.ta h.tn h.tc)) ∧ (W.cell? ⟨w.heap.size + 1, 0, none⟩ = some (.int .i64 h2.k) ∧ W.cell? ⟨w.heap.size + 1, 1, none⟩ = some (.slice h2.ka h2.kn h2.kc) ∧ W.cell? ⟨w.heap.size + 1, 2, none⟩ = some (.slice h2.va h2.vn h2.vc) ∧ W.cell? ⟨w.heap.size + 1, 3, none⟩ = some (.slice h2.da h2.dn h2.dc) ∧ W.cell? ⟨w.heap.size + 1, 4, none⟩ = some (.slice h2.ta h2.tn h2.tc)) := ⟨⟨x.tab.cell0, tb_cells x.tab⟩, x.k.b1.cells, x.k.b2.cells⟩
theorem F9.new (k : TK9 w W h h2 p q) (ks : Seg .u32 W gk 0 kTab) (hg : gk < W.heap.size) (ra : InBytes W a n c s) (rb : InBytes W a' n' c' t) : F9 w (W.alloc (.cells #[.slice (some ⟨gk, 0, none⟩) 64 ck, .int .u32 1779033703, .int .u32 3144134277, .int .u32 1013904242, .int .u32 2773480762, .int .u32 1359893119, .int .u32 2600822924, .int .u32 528734635, .int .u32 1541459225] 36)) h h2 p q W.heap.size gk ck a n c s a' n' c' t := by
  have hb : Below W.heap.size W (W.alloc (.cells #[.slice (some ⟨gk, 0, none⟩) 64 ck, .int .u32 1779033703, .int .u32 3144134277, .int .u32 1013904242, .int .u32 2773480762, .int .u32 1359893119, .int .u32 2600822924, .int .u32 528734635, .int .u32 1541459225] 36)) := (Below.refl _ _).alloc (Nat.le_refl _) _
  exact ⟨k.below hb, heap_alloc_new W (.cells #[.slice (some ⟨gk, 0, none⟩) 64 ck, .int .u32 1779033703, .int .u32 3144134277, .int .u32 1013904242, .int .u32 2773480762, .int .u32 1359893119, .int .u32 2600822924, .int .u32 528734635, .int .u32 1541459225] 36), ks.below hb hg, Nat.lt_of_lt_of_le hg hb.size, ra.below hb, rb.below hb⟩
end
set_option maxRecDepth 100000 in
set_option maxHeartbeats 8000000 in
theorem clashFinds_law (x : Int) (p q : Tr) (h h2 : TH) (w : World) (ht : InTree w h p) (ht2 : InTree w h2 q) (hT : TabLies w) (hx1 : -9223372036854775808 ≤ x) (hx2 : x ≤ 9223372036854775807) :
    Calls Tryd.prog 3 #[.int .i64 x, h.v, h2.v] w (Says w (.bool true)) := by
  unfold TH.v
  have HD := Lib.hid (TK9.enter w h h2 p q ht ht2)
  have HT := Lib.hid hT
  clear hT ht ht2
  go_enter Tryd.func3, Tryd.ntmps3
  go_upto_region 1 with fail
  generalize ((w.alloc (.cells #[.int .i64 h.k, .slice h.ka h.kn h.kc, .slice h.va h.vn h.vc, .slice h.da h.dn h.dc, .slice h.ta h.tn h.tc] 25)).alloc (.cells #[.int .i64 h2.k, .slice h2.ka h2.kn h2.kc, .slice h2.va h2.vn h2.vc, .slice h2.da h2.dn h2.dc, .slice h2.ta h2.tn h2.tc] 25)) = w0 at *
  go_upto_region 2 with (first
    | (go_at_call 8
       refine (up9_any _ (HT.out.below HD.out.b (Nat.le_refl _))).mono ?_
       rintro _ w1 ⟨rfl, hb1⟩
       have HD1 := Lib.hid (HD.out.below hb1)
       clear hb1))
  go_cut [28] (fun s28 wx => ∃ b : Bool, s28 = .bool b ∧ TK9 w wx h h2 p q ∧ (b = false → countT p ≤ 200 ∧ countT q ≤ 200))
  case first =>
    obtain ⟨x0, x1, x2, x3, x4⟩ := HD1.out.b1.cells
    obtain ⟨y0, y1, y2, y3, y4⟩ := HD1.out.b2.cells
    go_wp2_with (first
      | (go_at_call 9
         have hck : ∀ W, InTree W h p → Calls Tryd.prog 9 #[.agg #[.int .i64 h.k, .slice h.ka h.kn h.kc, .slice h.va h.vn h.vc, .slice h.da h.dn h.dc, .slice h.ta h.tn h.tc]] W (fun e w' => ∃ b, e = .returned (.bool b) ∧ (b = true → LightOK p ∧ countT p ≤ 200) ∧ Below W.heap.size W w') := fun W a => small9_any p h W a
         (with_reducible refine (hck _ ?_).mono ?_)
         · exact HD1.out.t1
         rintro _ w2 ⟨s2, rfl, hok2, hb2⟩
         have HD2 := Lib.hid (HD1.out.below hb2)
         have HK2 := Lib.hid hok2
         clear hck hok2 hb2 x0 x1 x2 x3 x4 y0 y1 y2 y3 y4
         obtain ⟨y0, y1, y2, y3, y4⟩ := HD2.out.b2.cells)
      | (go_at_call 9
         have hck : ∀ W, InTree W h2 q → Calls Tryd.prog 9 #[.agg #[.int .i64 h2.k, .slice h2.ka h2.kn h2.kc, .slice h2.va h2.vn h2.vc, .slice h2.da h2.dn h2.dc, .slice h2.ta h2.tn h2.tc]] W (fun e w' => ∃ b, e = .returned (.bool b) ∧ (b = true → LightOK q ∧ countT q ≤ 200) ∧ Below W.heap.size W w') := fun W a => small9_any q h2 W a
         (with_reducible refine (hck _ ?_).mono ?_)
         · exact HD2.out.t2
         rintro _ w3 ⟨s3, rfl, hok3, hb3⟩
         have HD3 := Lib.hid (HD2.out.below hb3)
         have HK3 := Lib.hid hok3
         clear hck hok3 hb3 y0 y1 y2 y3 y4
         skip))
    · go_meet
      cases s3 with
      | true => exact ⟨false, rfl, HD3.out, fun _ => ⟨(HK2.out (by assumption)).2, (HK3.out rfl).2⟩⟩
      | false => exact ⟨true, rfl, HD3.out, fun q => (by cases q)⟩
    · go_meet
      exact ⟨true, rfl, HD2.out, fun q => (by cases q)⟩
  case rest =>
    obtain ⟨b, rfl, hd, hcc⟩ := hcut
    have HD4 := Lib.hid hd
    have HCC := Lib.hid hcc
    clear hd hcc HD1 HD
    cases b with
    | true =>
      go_wp2_with fail
      go_ret
      exact ⟨rfl, HD4.out.b⟩
    | false =>
    obtain ⟨hc1, hc2⟩ := HCC.out rfl
    clear HCC
    obtain ⟨r, hr⟩ : ∃ r, findX x p q = r := ⟨_, rfl⟩
    have hr13 : r.1 ≤ 13 := by rw [← hr]; exact findX_le _ _ _
    have HR := Lib.hid hr
    clear hr
    obtain ⟨x0, x1, x2, x3, x4⟩ := HD4.out.b1.cells
    obtain ⟨y0, y1, y2, y3, y4⟩ := HD4.out.b2.cells
    go_upto_region 5 with (first
      | (go_at_call 10
         have hck : ∀ W, InTree W h p → InTree W h2 q → TabLies W → Calls Tryd.prog 10 #[.int .i64 x, .agg #[.int .i64 h.k, .slice h.ka h.kn h.kc, .slice h.va h.vn h.vc, .slice h.da h.dn h.dc, .slice h.ta h.tn h.tc], .agg #[.int .i64 h2.k, .slice h2.ka h2.kn h2.kc, .slice h2.va h2.vn h2.vc, .slice h2.da h2.dn h2.dc, .slice h2.ta h2.tn h2.tc]] W (FindTold W (findX x p q)) := fun W a b c => find_any x hx1 hx2 p q h h2 W a b (by omega) (by omega) c
         (with_reducible refine (hck _ ?_ ?_ ?_).mono ?_)
         · exact HD4.out.t1
         · exact HD4.out.t2
         · exact HT.out.below HD4.out.b (Nat.le_refl _)
         rw [HR.out]
         rintro _ w5 ⟨a5, n5, c5, b5, m5, d5, rfl, f5, g5, hb5⟩
         have HD5 := Lib.hid (HD4.out.below hb5)
         have HF5 := Lib.hid (And.intro (f5 w5 (Nat.le_refl _) (fun _ _ _ => rfl)) (g5 w5 (Nat.le_refl _) (fun _ _ _ => rfl)))
         
         clear hck f5 g5 hb5))
    clear x0 x1 x2 x3 x4 y0 y1 y2 y3 y4
    go_upto_region 6 with (first
      | (go_at_call 11
         refine (made_any _).mono ?_
         rintro e6 w6 ⟨gk, ck, hq6, ho6, hb6⟩
         have hqq : e6 = Ending.returned (.agg #[.slice (some ⟨gk, 0, none⟩) 64 ck, .int .u32 1779033703, .int .u32 3144134277, .int .u32 1013904242, .int .u32 2773480762, .int .u32 1359893119, .int .u32 2600822924, .int .u32 528734635, .int .u32 1541459225]) := hq6
         clear hq6
         subst hqq
         have HO6 := Lib.hid (own_seg ho6)
         have HG6 := Lib.hid (ho6.lt gk rfl).2
         have HD6 := Lib.hid (HD5.out.below hb6)
         have HF6 := Lib.hid (And.intro (HF5.out.1.below hb6) (HF5.out.2.below hb6))
         clear ho6 hb6))
    have HF7 : Hid (F9 w (w6.alloc (.cells #[.slice (some ⟨gk, 0, none⟩) 64 ck, .int .u32 1779033703, .int .u32 3144134277, .int .u32 1013904242, .int .u32 2773480762, .int .u32 1359893119, .int .u32 2600822924, .int .u32 528734635, .int .u32 1541459225] 36)) h h2 p q w6.heap.size gk ck a5 n5 c5 r.2.1 b5 m5 d5 r.2.2) := Lib.hid (F9.new HD6.out HO6.out HG6.out HF6.out.1 HF6.out.2)
    generalize (w6.alloc (.cells #[.slice (some ⟨gk, 0, none⟩) 64 ck, .int .u32 1779033703, .int .u32 3144134277, .int .u32 1013904242, .int .u32 2773480762, .int .u32 1359893119, .int .u32 2600822924, .int .u32 528734635, .int .u32 1541459225] 36)) = w7 at *
    generalize w6.heap.size = gt at *
    clear HO6 HG6 HF6 HF5 HD6
    obtain ⟨m1, hm1⟩ : ∃ m, toldD x p = m := ⟨_, rfl⟩
    obtain ⟨m2, hm2⟩ : ∃ m, toldD x q = m := ⟨_, rfl⟩
    have hm13 : m1 ≤ 13 := by rw [← hm1]; exact toldD_le x p
    have hm23 : m2 ≤ 13 := by rw [← hm2]; exact toldD_le x q
    have HM1 := Lib.hid hm1
    have HM2 := Lib.hid hm2
    clear hm1 hm2
    obtain ⟨⟨t0, t1, t2, t3, t4, t5, t6, t7, t8⟩, ⟨x0, x1, x2, x3, x4⟩, ⟨y0, y1, y2, y3, y4⟩⟩ := HF7.out.all
    by_cases h1 : m1 = 0
    case neg =>
      have E : Hid (r = (m1, [], [])) := Lib.hid (by rw [← HR.out]; unfold findX; rw [if_pos (by rw [HM1.out]; exact h1), HM1.out])
      have hb1 : ((m1 : Int) == 0) = false := by simp; omega
      have hb2 : ((m1 : Int) != 0) = true := by simp; omega
      clear h1
      go_upto_region 10 with (first
        | (go_at_call 12
           have hck : ∀ W, InTree W h p → Seg .u32 W gk 0 kTab → gk < W.heap.size → Calls Tryd.prog 12 #[.agg #[.slice (some ⟨gk, 0, none⟩) 64 ck, .int .u32 1779033703, .int .u32 3144134277, .int .u32 1013904242, .int .u32 2773480762, .int .u32 1359893119, .int .u32 2600822924, .int .u32 528734635, .int .u32 1541459225], .int .i64 x, .agg #[.int .i64 h.k, .slice h.ka h.kn h.kc, .slice h.va h.vn h.vc, .slice h.da h.dn h.dc, .slice h.ta h.tn h.tc]] W (Says W (.int .i64 (toldD x p))) := fun W a b c => told9_any x hx1 hx2 gk ck p h W a b c
           (with_reducible refine (hck _ ?_ ?_ ?_).mono ?_)
           · exact HF7.out.k.t1
           · exact HF7.out.ks
           · exact HF7.out.gk
           rw [HM1.out]
           rintro _ w8 ⟨rfl, hb8⟩
           have HF8 := Lib.hid (HF7.out.below hb8)
           clear hck hb8))
      clear t0 t1 t2 t3 t4 t5 t6 t7 t8 x0 x1 x2 x3 x4 y0 y1 y2 y3 y4
      have hcc : ((r.1 : Int) == (m1 : Int)) = true := by rw [E.out]; simp
      have hn5 : ((n5 : Int) == 0) = true := by
        have q1 := HF8.out.ra.len
        rw [E.out] at q1
        rw [← q1]
        rfl
      have hm5 : ((m5 : Int) == 0) = true := by
        have q1 := HF8.out.rb.len
        rw [E.out] at q1
        rw [← q1]
        rfl
      go_wp2_with (first
        | (go_at_call 13
           refine (code_any r.1 hr13 _).mono ?_
           rintro _ w99 ⟨rfl, mm, hw99⟩
           have hq99 : Below w8.heap.size w8 w99 := by rw [hw99]; exact below_drawn (Below.refl _ _) mm
           have HF99 := Lib.hid (HF8.out.below hq99)
           clear hq99 hw99))
      go_ret
      exact ⟨rfl, HF99.out.k.b⟩
    have hb1 : ((m1 : Int) == 0) = true := by rw [h1]; rfl
    have H1 := Lib.hid h1
    clear h1
    go_upto_region 8 with (first
      | (go_at_call 12
         have hck : ∀ W, InTree W h p → Seg .u32 W gk 0 kTab → gk < W.heap.size → Calls Tryd.prog 12 #[.agg #[.slice (some ⟨gk, 0, none⟩) 64 ck, .int .u32 1779033703, .int .u32 3144134277, .int .u32 1013904242, .int .u32 2773480762, .int .u32 1359893119, .int .u32 2600822924, .int .u32 528734635, .int .u32 1541459225], .int .i64 x, .agg #[.int .i64 h.k, .slice h.ka h.kn h.kc, .slice h.va h.vn h.vc, .slice h.da h.dn h.dc, .slice h.ta h.tn h.tc]] W (Says W (.int .i64 (toldD x p))) := fun W a b c => told9_any x hx1 hx2 gk ck p h W a b c
         (with_reducible refine (hck _ ?_ ?_ ?_).mono ?_)
         · exact HF7.out.k.t1
         · exact HF7.out.ks
         · exact HF7.out.gk
         rw [HM1.out]
         rintro _ w8 ⟨rfl, hb8⟩
         have HF8 := Lib.hid (HF7.out.below hb8)
         clear hck hb8))
    clear t0 t1 t2 t3 t4 t5 t6 t7 t8 x0 x1 x2 x3 x4 y0 y1 y2 y3 y4 hb1
    obtain ⟨⟨t0, t1, t2, t3, t4, t5, t6, t7, t8⟩, ⟨x0, x1, x2, x3, x4⟩, ⟨y0, y1, y2, y3, y4⟩⟩ := HF8.out.all
    by_cases h2' : m2 = 0
    case neg =>
      have E : Hid (r = (m2, [], [])) := Lib.hid (by rw [← HR.out]; unfold findX; rw [if_neg (by rw [HM1.out, H1.out]; simp), if_pos (by rw [HM2.out]; exact h2'), HM2.out])
      have hb2 : ((m2 : Int) != 0) = true := by simp; omega
      clear h2'
      go_upto_region 10 with (first
        | (go_at_call 12
           have hck : ∀ W, InTree W h2 q → Seg .u32 W gk 0 kTab → gk < W.heap.size → Calls Tryd.prog 12 #[.agg #[.slice (some ⟨gk, 0, none⟩) 64 ck, .int .u32 1779033703, .int .u32 3144134277, .int .u32 1013904242, .int .u32 2773480762, .int .u32 1359893119, .int .u32 2600822924, .int .u32 528734635, .int .u32 1541459225], .int .i64 x, .agg #[.int .i64 h2.k, .slice h2.ka h2.kn h2.kc, .slice h2.va h2.vn h2.vc, .slice h2.da h2.dn h2.dc, .slice h2.ta h2.tn h2.tc]] W (Says W (.int .i64 (toldD x q))) := fun W a b c => told9_any x hx1 hx2 gk ck q h2 W a b c
           (with_reducible refine (hck _ ?_ ?_ ?_).mono ?_)
           · exact HF8.out.k.t2
           · exact HF8.out.ks
           · exact HF8.out.gk
           rw [HM2.out]
           rintro _ w9 ⟨rfl, hb9⟩
           have HF9 := Lib.hid (HF8.out.below hb9)
           clear hck hb9))
      clear t0 t1 t2 t3 t4 t5 t6 t7 t8 x0 x1 x2 x3 x4 y0 y1 y2 y3 y4
      have hcc : ((r.1 : Int) == (m2 : Int)) = true := by rw [E.out]; simp
      have hn5 : ((n5 : Int) == 0) = true := by
        have q1 := HF9.out.ra.len
        rw [E.out] at q1
        rw [← q1]
        rfl
      have hm5 : ((m5 : Int) == 0) = true := by
        have q1 := HF9.out.rb.len
        rw [E.out] at q1
        rw [← q1]
        rfl
      go_wp2_with (first
        | (go_at_call 13
           refine (code_any r.1 hr13 _).mono ?_
           rintro _ w99 ⟨rfl, mm, hw99⟩
           have hq99 : Below w9.heap.size w9 w99 := by rw [hw99]; exact below_drawn (Below.refl _ _) mm
           have HF99 := Lib.hid (HF9.out.below hq99)
           clear hq99 hw99))
      go_ret
      exact ⟨rfl, HF99.out.k.b⟩
    have hb2 : ((m2 : Int) != 0) = false := by rw [h2']; rfl
    have H2 := Lib.hid h2'
    clear h2'
    go_upto_region 11 with (first
      | (go_at_call 12
         have hck : ∀ W, InTree W h2 q → Seg .u32 W gk 0 kTab → gk < W.heap.size → Calls Tryd.prog 12 #[.agg #[.slice (some ⟨gk, 0, none⟩) 64 ck, .int .u32 1779033703, .int .u32 3144134277, .int .u32 1013904242, .int .u32 2773480762, .int .u32 1359893119, .int .u32 2600822924, .int .u32 528734635, .int .u32 1541459225], .int .i64 x, .agg #[.int .i64 h2.k, .slice h2.ka h2.kn h2.kc, .slice h2.va h2.vn h2.vc, .slice h2.da h2.dn h2.dc, .slice h2.ta h2.tn h2.tc]] W (Says W (.int .i64 (toldD x q))) := fun W a b c => told9_any x hx1 hx2 gk ck q h2 W a b c
         (with_reducible refine (hck _ ?_ ?_ ?_).mono ?_)
         · exact HF8.out.k.t2
         · exact HF8.out.ks
         · exact HF8.out.gk
         rw [HM2.out]
         rintro _ w9 ⟨rfl, hb9⟩
         have HF9 := Lib.hid (HF8.out.below hb9)
         clear hck hb9))
    clear t0 t1 t2 t3 t4 t5 t6 t7 t8 x0 x1 x2 x3 x4 y0 y1 y2 y3 y4 hb2
    obtain ⟨⟨t0, t1, t2, t3, t4, t5, t6, t7, t8⟩, ⟨x0, x1, x2, x3, x4⟩, ⟨y0, y1, y2, y3, y4⟩⟩ := HF9.out.all
    obtain ⟨k, zs, hxk, hk1, hk2, hckp, hzs⟩ := toldD_zero (HM1.out.trans H1.out)
    obtain ⟨k', zs2, hxk2, -, -, hckq, hzs2⟩ := toldD_zero (HM2.out.trans H2.out)
    obtain rfl : k' = k := by omega
    subst hxk
    have HZ := Lib.hid hzs
    have HZ2 := Lib.hid hzs2
    have HFP := Lib.hid (check_zeroR hckp).1
    have HFQ := Lib.hid (check_zeroR hckq).1
    clear hckp hckq hxk2 hzs hzs2
    go_upto_region 12 with (first
      | (go_at_call 14
         have hck : ∀ W, InTree W h p → Seg .u32 W gk 0 kTab → gk < W.heap.size → Calls Tryd.prog 14 #[.agg #[.slice (some ⟨gk, 0, none⟩) 64 ck, .int .u32 1779033703, .int .u32 3144134277, .int .u32 1013904242, .int .u32 2773480762, .int .u32 1359893119, .int .u32 2600822924, .int .u32 528734635, .int .u32 1541459225], .int .i64 k', .agg #[.int .i64 h.k, .slice h.ka h.kn h.kc, .slice h.va h.vn h.vc, .slice h.da h.dn h.dc, .slice h.ta h.tn h.tc]] W (DigPost W k' p) := fun W a b c => refDigest_any k' hk1 hk2 gk ck p h W a HFP.out b c
         (with_reducible refine (hck _ ?_ ?_ ?_).mono ?_)
         · exact HF9.out.k.t1
         · exact HF9.out.ks
         · exact HF9.out.gk
         rintro _ wa ⟨aa, na, ca, isa, rfl, hresa, hba⟩
         have HFa := Lib.hid (HF9.out.below hba)
         have HIa : Hid (InBytes wa aa na ca zs) := Lib.hid (by
           rcases hresa with ⟨-, ys, q1, q2⟩ | ⟨-, q1⟩
           · rw [HZ.out] at q1
             injection q1 with q1
             rw [q1]
             exact q2
           · rw [HZ.out] at q1
             cases q1)
         skip
         clear hck hresa hba))
    clear t0 t1 t2 t3 t4 t5 t6 t7 t8 x0 x1 x2 x3 x4 y0 y1 y2 y3 y4
    obtain ⟨⟨t0, t1, t2, t3, t4, t5, t6, t7, t8⟩, ⟨x0, x1, x2, x3, x4⟩, ⟨y0, y1, y2, y3, y4⟩⟩ := HFa.out.all
    go_upto_region 13 with (first
      | (go_at_call 14
         have hck : ∀ W, InTree W h2 q → Seg .u32 W gk 0 kTab → gk < W.heap.size → Calls Tryd.prog 14 #[.agg #[.slice (some ⟨gk, 0, none⟩) 64 ck, .int .u32 1779033703, .int .u32 3144134277, .int .u32 1013904242, .int .u32 2773480762, .int .u32 1359893119, .int .u32 2600822924, .int .u32 528734635, .int .u32 1541459225], .int .i64 k', .agg #[.int .i64 h2.k, .slice h2.ka h2.kn h2.kc, .slice h2.va h2.vn h2.vc, .slice h2.da h2.dn h2.dc, .slice h2.ta h2.tn h2.tc]] W (DigPost W k' q) := fun W a b c => refDigest_any k' hk1 hk2 gk ck q h2 W a HFQ.out b c
         (with_reducible refine (hck _ ?_ ?_ ?_).mono ?_)
         · exact HFa.out.k.t2
         · exact HFa.out.ks
         · exact HFa.out.gk
         rintro _ wb ⟨ab, nb, cb, isb, rfl, hresb, hbb⟩
         have HFb := Lib.hid (HFa.out.below hbb)
         have HIb : Hid (InBytes wb ab nb cb zs2) := Lib.hid (by
           rcases hresb with ⟨-, ys, q1, q2⟩ | ⟨-, q1⟩
           · rw [HZ2.out] at q1
             injection q1 with q1
             rw [q1]
             exact q2
           · rw [HZ2.out] at q1
             cases q1)
         have HJa := Lib.hid (HIa.out.below hbb)
         clear hck hresb hbb))
    clear t0 t1 t2 t3 t4 t5 t6 t7 t8 x0 x1 x2 x3 x4 y0 y1 y2 y3 y4
    obtain ⟨⟨t0, t1, t2, t3, t4, t5, t6, t7, t8⟩, ⟨x0, x1, x2, x3, x4⟩, ⟨y0, y1, y2, y3, y4⟩⟩ := HFb.out.all
    have cv1 := conv_key HJa.out
    have cv2 := conv_key HIb.out
    have hse : ((strOfNums zs).toList == (strOfNums zs2).toList) = (zs == zs2) := str_eq HJa.out.bytes HIb.out.bytes
    have heq : ∀ (W : World) (p q : Int), (binOp .eql 29 (.iface 42 (.int .i64 p)) (.iface 42 (.int .i64 q))).run Tryd.prog W = .ok (.bool (p == q)) W := fun W p q => eql_code p q W
    cases hzz : (zs == zs2) with
    | false =>
      have E : Hid (r = (6, [], [])) := Lib.hid (by
        rw [← HR.out]
        refine findX_six (HM1.out.trans H1.out) (HM2.out.trans H2.out) ?_
        rw [HZ.out, HZ2.out]
        intro q1
        injection q1 with q1
        rw [q1] at hzz
        simp at hzz)
      rw [hzz] at hse
      have hcd : codeV r.1 = .iface 42 (.int .i64 6) := by rw [E.out]; rfl
      have hn5 : ((n5 : Int) == 0) = true := by
        have q1 := HFb.out.ra.len
        rw [E.out] at q1
        rw [← q1]
        rfl
      have hm5 : ((m5 : Int) == 0) = true := by
        have q1 := HFb.out.rb.len
        rw [E.out] at q1
        rw [← q1]
        rfl
      clear hzz
      go_wp2_with fail
      go_ret
      exact ⟨rfl, HFb.out.k.b⟩
    | true =>
    rw [hzz] at hse
    obtain ⟨P, hP⟩ := PT.of p HFP.out
    obtain ⟨Q, hQ⟩ := PT.of q HFQ.out
    subst hP hQ
    have HOKP := Lib.hid (PT.ok_of hk2 P zs HZ.out)
    have HOKQ := Lib.hid (PT.ok_of hk2 Q zs2 HZ2.out)
    have HR3 : Hid (tellF (searchP k' P Q) = r) := Lib.hid (by
      have e : zs = zs2 := by simpa using hzz
      rw [← HR.out]
      exact (findX_found (HM1.out.trans H1.out) (HM2.out.trans H2.out) (by rw [HZ.out, HZ2.out, e])).symm)
    clear hzz
    obtain ⟨sr, hsr⟩ : ∃ s, searchP k' P Q = s := ⟨_, rfl⟩
    have HSR := Lib.hid hsr
    clear hsr
    go_upto_region 16 with (first
      | (go_at_call 15
         have hck : ∀ W, InTree W h P.tr → InTree W h2 Q.tr → Seg .u32 W gk 0 kTab → gk < W.heap.size → Calls Tryd.prog 15 #[.agg #[.slice (some ⟨gk, 0, none⟩) 64 ck, .int .u32 1779033703, .int .u32 3144134277, .int .u32 1013904242, .int .u32 2773480762, .int .u32 1359893119, .int .u32 2600822924, .int .u32 528734635, .int .u32 1541459225], .int .i64 k', .agg #[.int .i64 h.k, .slice h.ka h.kn h.kc, .slice h.va h.vn h.vc, .slice h.da h.dn h.dc, .slice h.ta h.tn h.tc], .agg #[.int .i64 h2.k, .slice h2.ka h2.kn h2.kc, .slice h2.va h2.vn h2.vc, .slice h2.da h2.dn h2.dc, .slice h2.ta h2.tn h2.tc]] W (Srch W (searchP k' P Q)) := fun W a b c d => refSearch_any k' hk1 hk2 gk ck P Q h h2 W a b HOKP.out HOKQ.out HFP.out HFQ.out c d
         (with_reducible refine (hck _ ?_ ?_ ?_ ?_).mono ?_)
         · exact HFb.out.k.t1
         · exact HFb.out.k.t2
         · exact HFb.out.ks
         · exact HFb.out.gk
         rw [HSR.out]
         rintro _ wc ⟨ac, nc, cc, bc, mc, dc, is, rfl, hres, hbc⟩
         have HFc := Lib.hid (HFb.out.below hbc)
         have HRES := Lib.hid hres
         clear hck hres hbc))
    clear t0 t1 t2 t3 t4 t5 t6 t7 t8 x0 x1 x2 x3 x4 y0 y1 y2 y3 y4 hse cv1 cv2
    cases sr with
    | none =>
      obtain rfl : is = false := HRES.out
      have E : Hid (r = (9, [], [])) := Lib.hid (by rw [← HR3.out, HSR.out]; rfl)
      have hcd : codeV r.1 = .iface 42 (.int .i64 9) := by rw [E.out]; rfl
      have hn5 : ((n5 : Int) == 0) = true := by
        have q1 := HFc.out.ra.len
        rw [E.out] at q1
        rw [← q1]
        rfl
      have hm5 : ((m5 : Int) == 0) = true := by
        have q1 := HFc.out.rb.len
        rw [E.out] at q1
        rw [← q1]
        rfl
      go_wp2_with fail
      go_ret
      exact ⟨rfl, HFc.out.k.b⟩
    | some s =>
      obtain ⟨rfl, hs1, hs2⟩ := HRES.out
      have E : Hid (r = (0, s)) := Lib.hid (by rw [← HR3.out, HSR.out]; rfl)
      have hcd : codeV r.1 = .nilIface := by rw [E.out]; rfl
      have cv1 := conv_key HFc.out.ra
      have cv2 := conv_key HFc.out.rb
      rw [E.out] at cv1 cv2
      have cv3 := conv_key hs1
      have cv4 := conv_key hs2
      have hq1 : ((strOfNums s.1).toList == (strOfNums s.1).toList) = true := by simp
      have hq2 : ((strOfNums s.2).toList == (strOfNums s.2).toList) = true := by simp
      clear hs1 hs2
      go_wp2_with fail
      go_ret
      exact ⟨rfl, HFc.out.k.b⟩
end Go.Proofs.YtioifkbkllnkgaaDoor
