/- The contract of the document's digest of a tree. -/
import Derived.Test.YtcplfpnaepdddaaDoorRefTree2
import Derived.Test.YtcplfpnaepdddaaDoorTreeDig
import Derived.Test.YtcplfpnaepdddaaDoorRefDig
import Derived.Test.YtcplfpnaepdddaaDoorRefOf
import Derived.Test.YtcplfpnaepdddaaDoorPrOf
import Derived.Test.YtcplfpnaepdddaaDoorTake
namespace Go.Proofs.YtcplfpnaepdddaaDoor
open Go.RowKit
set_option linter.unusedVariables false

/-- What the document's digest needs of a world: the tables' box, the tree's box, the constants. -/
structure DW (w W : World) (gk ck : Nat) (h : TH) : Prop where
  tab : TB W w.heap.size (.slice (some ⟨gk, 0, none⟩) 64 ck) hTab
  box : Box W 25 (w.heap.size + 1) h
  ks : Seg .u32 W gk 0 kTab
  b : Below w.heap.size w W
  gk : gk < w.heap.size
theorem DW.below {w W W' : World} {gk ck : Nat} {h : TH} (d : DW w W gk ck h) (hb : Below W.heap.size W W') : DW w W' gk ck h :=
  ⟨d.tab.below hb d.tab.lt, d.box.below hb d.box.lt, d.ks.below hb (Nat.lt_of_lt_of_le d.gk d.b.size), d.b.trans (hb.mono d.b.size), d.gk⟩
theorem DW.drew {w W : World} {gk ck : Nat} {h : TH} (d : DW w W gk ck h) : DW w W.drew gk ck h := d.below (Below.refl _ _).drew
theorem DW.nine {w W : World} {gk ck : Nat} {h : TH} (d : DW w W gk ck h) : W.cell? ⟨w.heap.size, 0, none⟩ = some (.slice (some ⟨gk, 0, none⟩) 64 ck) ∧ W.cell? ⟨w.heap.size, 1, none⟩ = some (.int .u32 1779033703) ∧ W.cell? ⟨w.heap.size, 2, none⟩ = some (.int .u32 3144134277) ∧ W.cell? ⟨w.heap.size, 3, none⟩ = some (.int .u32 1013904242) ∧ W.cell? ⟨w.heap.size, 4, none⟩ = some (.int .u32 2773480762) ∧ W.cell? ⟨w.heap.size, 5, none⟩ = some (.int .u32 1359893119) ∧ W.cell? ⟨w.heap.size, 6, none⟩ = some (.int .u32 2600822924) ∧ W.cell? ⟨w.heap.size, 7, none⟩ = some (.int .u32 528734635) ∧ W.cell? ⟨w.heap.size, 8, none⟩ = some (.int .u32 1541459225) := ⟨d.tab.cell0, tb_cells d.tab⟩
theorem DW.of {w W : World} {gk ck : Nat} {h : TH} (d : DW w W gk ck h) {k : Nat} (hk1 : 1 ≤ k) (hk2 : k ≤ 32) {a : Option Addr} {n cap : Nat} {bs : List Int} (hin : InBytes W a n cap bs) (hn : n ≤ 20000) :
    Calls Tryd.prog 41 #[.agg #[.slice (some ⟨gk, 0, none⟩) 64 ck, .int .u32 1779033703, .int .u32 3144134277, .int .u32 1013904242, .int .u32 2773480762, .int .u32 1359893119, .int .u32 2600822924, .int .u32 528734635, .int .u32 1541459225], .int .i64 k, .slice a n cap] W (OfPost W k bs) :=
  refOf_any k hk1 hk2 a n cap gk ck bs W hin hn d.ks (Nat.lt_of_lt_of_le d.gk d.b.size)

/-- The digest and true, or something and false. -/
def DigPost (w : World) (k : Nat) (t : Tr) (e : Ending) (w' : World) : Prop :=
  ∃ a n c is, e = .returned (.tuple #[.slice a n c, .bool is]) ∧ ((is = true ∧ ∃ zs, digT k t = some zs ∧ InBytes w' a n c zs) ∨ (is = false ∧ digT k t = none)) ∧ Below w.heap.size w w'
set_option maxRecDepth 100000 in
set_option maxHeartbeats 8000000 in
theorem refDigest_any (k : Nat) (hk1 : 1 ≤ k) (hk2 : k ≤ 32) (gk ck : Nat) : ∀ (t : Tr) (h : TH) (w : World), InTree w h t → formedT t = true → Seg .u32 w gk 0 kTab → gk < w.heap.size →
    Calls Tryd.prog 18 #[tabV gk ck, .int .i64 k, h.v] w (DigPost w k t) := by
  intro t
  induction t using Tr.ind with
  | h t ih =>
  intro h w ht hf hks hgk
  obtain ⟨hpb, hfk⟩ := formed_kids hf
  unfold TH.v tabV
  obtain ⟨H, hp⟩ := ht.parts
  have hkl := hp.key.len
  have hvl := hp.val.len
  have hdl := hp.dig.len
  have htl := hp.len
  have HK := Lib.hid hp.hk
  have htc := hp.sl.le
  have HP := Lib.hid hp
  have IH := Lib.hid ih
  clear hp ht ih
  have HPB := Lib.hid (partB_head HP.out)
  have HF := Lib.hid (And.intro hpb hfk)
  have hd0 : DW w ((w.alloc (.cells (Value.slice (some ⟨gk, 0, none⟩) 64 ck :: hTab.map (Value.int .u32)).toArray 42)).alloc (.cells #[.int .i64 h.k, .slice h.ka h.kn h.kc, .slice h.va h.vn h.vc, .slice h.da h.dn h.dc, .slice h.ta h.tn h.tc] 25)) gk ck h := by
    have b1 : Below w.heap.size w (w.alloc (.cells (Value.slice (some ⟨gk, 0, none⟩) 64 ck :: hTab.map (Value.int .u32)).toArray 42)) := (Below.refl _ _).alloc (Nat.le_refl _) _
    have b2 := b1.alloc b1.size (.cells #[.int .i64 h.k, .slice h.ka h.kn h.kc, .slice h.va h.vn h.vc, .slice h.da h.dn h.dc, .slice h.ta h.tn h.tc] 25)
    refine ⟨?_, ?_, hks.below b2 hgk, b2, hgk⟩
    · exact TB.below (heap_alloc_new w _) ((Below.refl _ _).alloc (Nat.le_refl _) _) (by simp)
    · have := Box.new (w.alloc (.cells (Value.slice (some ⟨gk, 0, none⟩) 64 ck :: hTab.map (Value.int .u32)).toArray 42)) 25 h
      simpa using this
  have HD := Lib.hid hd0
  have c1 : 1 ≤ (k : Int) := by omega
  clear hd0 hks hf hpb hfk
  go_enter Tryd.func18, Tryd.ntmps18
  go_upto_region 1 with fail
  generalize (w.alloc (.cells (Value.slice (some ⟨gk, 0, none⟩) 64 ck :: hTab.map (Value.int .u32)).toArray 42)).alloc (.cells #[.int .i64 h.k, .slice h.ka h.kn h.kc, .slice h.va h.vn h.vc, .slice h.da h.dn h.dc, .slice h.ta h.tn h.tc] 25) = w0 at *
  obtain ⟨x0, x1, x2, x3, x4⟩ := HD.out.box.cells
  have hnine := HD.out.nine
  obtain ⟨t0, t1, t2, t3, t4, t5, t6, t7, t8⟩ := hnine
  have hk := HK.out
  have HPK := Lib.hid (part_kids HF.out.1)
  cases e0 : (h.k == 0)
  rotate_left
  · have HE : Hid (t.k = 0) := Lib.hid (by rw [← HK.out]; simpa using e0)
    clear hk
    have hin3 : InBytes (w0.alloc (.cells #[.int .u8 3] 5)) (some ⟨w0.heap.size, 0, none⟩) 1 1 [3] := InBytes.of_own (own_new w0 5 .u8 [3] w0.heap.size (Nat.le_refl _) (by simp [maxLen])) (fun z hz => by simp at hz; omega)
    have HI3 := Lib.hid hin3
    clear hin3
    go_wp2_with (first
      | (go_at_call 41
         (with_reducible refine ((HD.out.below ((Below.refl _ _).alloc (Nat.le_refl _) _)).of hk1 hk2 HI3.out (by omega)).mono ?_)
         rintro _ w1 ⟨g1, hg1, rfl, hr1, hb1⟩
         have HB1 : Hid (Below w.heap.size w w1) := Lib.hid ((HD.out.below ((Below.refl _ _).alloc (Nat.le_refl _) _)).below hb1).b
         have HR1 := Lib.hid (of_in32 hr1 hk2)
         clear hg1 hr1 hb1))
    go_ret2
    exact ⟨_, _, _, true, rfl, .inl ⟨rfl, _, digT_0 HE.out, HR1.out⟩, HB1.out⟩
  cases e3 : (h.k == 3)
  rotate_left
  · have HE : Hid (t.k = 3) := Lib.hid (by rw [← HK.out]; simpa using e3)
    clear hk
    go_upto_region 5 with fail
    refine wp_region_held_drew (S := (fun W => W.cell? ⟨w.heap.size + 1, 3, none⟩ = some (.slice h.da h.dn h.dc))) (by kernel_rfl) x3 (fun hHeld => ?_)
    refine take_w (i := 0) (oi := ?oZ1) (v := ?vZ1) ?hiZ1 (by kernel_rfl) (by kernel_rfl) (by kernel_rfl) ?hQZ1 ?hwZ1 ?hyZ1 (by assumption) ?restZ1
    case hiZ1 => (simp only [List.getElem?_toArray, List.getElem?_cons_zero] <;> rfl)
    case hQZ1 => exact (fun _ _ _ h => h)
    case hwZ1 => rfl
    case hyZ1 => (intro w hSw; (try dsimp only at hSw); go_simp; try with_reducible rfl)
    (try simp only [Act.put, List.setIfInBounds_toArray, List.set_cons_zero, List.set_cons_succ])
    refine take_w (i := 1) (oi := ?oZ2) (v := ?vZ2) ?hiZ2 (by kernel_rfl) (by kernel_rfl) (by kernel_rfl) ?hQZ2 ?hwZ2 ?hyZ2 (by assumption) ?restZ2
    case hiZ2 => (simp only [List.getElem?_toArray, List.getElem?_cons_succ, List.getElem?_cons_zero] <;> rfl)
    case hQZ2 => exact (fun _ _ _ h => h)
    case hwZ2 => rfl
    case hyZ2 => (intro w hSw; (try dsimp only at hSw); go_simp; try with_reducible rfl)
    (try simp only [Act.put, List.setIfInBounds_toArray, List.set_cons_zero, List.set_cons_succ])
    refine take_w (i := 2) (oi := ?oZ3) (v := ?vZ3) ?hiZ3 (by kernel_rfl) (by kernel_rfl) (by kernel_rfl) ?hQZ3 ?hwZ3 ?hyZ3 (by assumption) ?restZ3
    case hiZ3 => (simp only [List.getElem?_toArray, List.getElem?_cons_succ, List.getElem?_cons_zero] <;> rfl)
    case hQZ3 => exact (fun _ _ _ h => h)
    case hwZ3 => rfl
    case hyZ3 => (intro w hSw; (try dsimp only at hSw); go_simp; try with_reducible rfl)
    (try simp only [Act.put, List.setIfInBounds_toArray, List.set_cons_zero, List.set_cons_succ])
    refine take_w (i := 3) (oi := ?oZ4) (v := ?vZ4) ?hiZ4 (by kernel_rfl) (by kernel_rfl) (by kernel_rfl) ?hQZ4 ?hwZ4 ?hyZ4 (by assumption) ?restZ4
    case hiZ4 => (simp only [List.getElem?_toArray, List.getElem?_cons_succ, List.getElem?_cons_zero] <;> rfl)
    case hQZ4 => exact (fun _ _ _ h => h)
    case hwZ4 => rfl
    case hyZ4 => (intro w hSw; (try dsimp only at hSw); go_simp; try with_reducible rfl)
    (try simp only [Act.put, List.setIfInBounds_toArray, List.set_cons_zero, List.set_cons_succ])
    refine take_w (i := 4) (oi := ?oZ5) (v := ?vZ5) ?hiZ5 (by kernel_rfl) (by kernel_rfl) (by kernel_rfl) ?hQZ5 ?hwZ5 ?hyZ5 (by assumption) ?restZ5
    case hiZ5 => (simp only [List.getElem?_toArray, List.getElem?_cons_succ, List.getElem?_cons_zero] <;> rfl)
    case hQZ5 => exact (fun _ _ _ h => h)
    case hwZ5 => rfl
    case hyZ5 => (intro w hSw; (try dsimp only at hSw); go_simp; try with_reducible rfl)
    (try simp only [Act.put, List.setIfInBounds_toArray, List.set_cons_zero, List.set_cons_succ])
    refine take_w (i := 5) (oi := ?oZ6) (v := ?vZ6) ?hiZ6 (by kernel_rfl) (by kernel_rfl) (by kernel_rfl) ?hQZ6 ?hwZ6 ?hyZ6 (by assumption) ?restZ6
    case hiZ6 => (simp only [List.getElem?_toArray, List.getElem?_cons_succ, List.getElem?_cons_zero] <;> rfl)
    case hQZ6 => exact (fun _ _ _ h => h)
    case hwZ6 => rfl
    case hyZ6 => (intro w hSw; (try dsimp only at hSw); go_simp; try with_reducible rfl)
    (try simp only [Act.put, List.setIfInBounds_toArray, List.set_cons_zero, List.set_cons_succ])
    refine take_w (i := 6) (oi := ?oZ7) (v := ?vZ7) ?hiZ7 (by kernel_rfl) (by kernel_rfl) (by kernel_rfl) ?hQZ7 ?hwZ7 ?hyZ7 (by assumption) ?restZ7
    case hiZ7 => (simp only [List.getElem?_toArray, List.getElem?_cons_succ, List.getElem?_cons_zero] <;> rfl)
    case hQZ7 => exact (fun _ _ _ h => h)
    case hwZ7 => rfl
    case hyZ7 => (intro w hSw; (try dsimp only at hSw); go_simp; try with_reducible rfl)
    (try simp only [Act.put, List.setIfInBounds_toArray, List.set_cons_zero, List.set_cons_succ])
    refine take_w (i := 7) (oi := ?oZ8) (v := ?vZ8) ?hiZ8 (by kernel_rfl) (by kernel_rfl) (by kernel_rfl) ?hQZ8 ?hwZ8 ?hyZ8 (by assumption) ?restZ8
    case hiZ8 => (simp only [List.getElem?_toArray, List.getElem?_cons_succ, List.getElem?_cons_zero] <;> rfl)
    case hQZ8 => exact (fun _ _ _ h => h)
    case hwZ8 => rfl
    case hyZ8 => (intro w hSw; (try dsimp only at hSw); go_simp; try with_reducible rfl)
    (try simp only [Act.put, List.setIfInBounds_toArray, List.set_cons_zero, List.set_cons_succ])
    refine take_w (i := 8) (oi := ?oZ9) (v := ?vZ9) ?hiZ9 (by kernel_rfl) (by kernel_rfl) (by kernel_rfl) ?hQZ9 ?hwZ9 ?hyZ9 (by assumption) ?restZ9
    case hiZ9 => (simp only [List.getElem?_toArray, List.getElem?_cons_succ, List.getElem?_cons_zero] <;> rfl)
    case hQZ9 => exact (fun _ _ _ h => h)
    case hwZ9 => rfl
    case hyZ9 => (intro w hSw; (try dsimp only at hSw); go_simp; try with_reducible rfl)
    (try simp only [Act.put, List.setIfInBounds_toArray, List.set_cons_zero, List.set_cons_succ])
    refine wpAnyH_done (by kernel_rfl) ?_ _
    
    go_wp2_with fail
    go_ret2
    refine ⟨_, _, _, _, rfl, ?_, HD.out.drew.b⟩
    rw [digT_3 HE.out, hdl]
    by_cases hdk : h.dn = k
    · exact .inl ⟨by simp [hdk], _, by rw [if_pos hdk], HP.out.dig.below HD.out.drew.b⟩
    · exact .inr ⟨by simp; omega, by rw [if_neg hdk]⟩
  have hk0 : t.k ≠ 0 := by rw [← hk]; simpa using e0
  have hk3 : t.k ≠ 3 := by rw [← hk]; simpa using e3
  have hp2 := HPK.out
  have h2 : t.kids.length = 2 := by omega
  have HH := Lib.hid (And.intro hk0 (And.intro hk3 h2))
  have htn : h.tn = 2 := by omega
  have HTN := Lib.hid htn
  clear hk hk0 hk3 hp2 HPK htn
  go_upto_if 35 with fail
  go_cut [8] (fun s8 wx => ∃ a n c, s8 = .slice a n c ∧ InBytes wx a n c (valT k t) ∧ DW w wx gk ck h)
  case first =>
    have hk := HK.out
    cases e1 : (h.k == 1)
    · have HE : Hid (t.k ≠ 1) := Lib.hid (by rw [← hk]; simpa using e1)
      clear hk
      go_wp2_with fail
      go_meet
      exact ⟨_, _, _, rfl, by unfold valT; rw [if_neg HE.out]; exact HP.out.dig.below HD.out.b, HD.out⟩
    · have HE : Hid (t.k = 1) := Lib.hid (by rw [← hk]; simpa using e1)
      have hpb := HPB.out
      rw [HF.out.1, if_neg (by simpa using e0), if_pos (by simpa using e1)] at hpb
      have hvn : h.vn ≤ 1024 := by
        have := hpb.symm
        simp only [Bool.and_eq_true, decide_eq_true_eq] at this
        omega
      clear hk hpb
      go_upto_region 8 with fail
      refine wp_region_held_drew (S := (fun W => W.cell? ⟨w.heap.size, 0, none⟩ = some (.slice (some ⟨gk, 0, none⟩) 64 ck) ∧ W.cell? ⟨w.heap.size, 1, none⟩ = some (.int .u32 1779033703) ∧ W.cell? ⟨w.heap.size, 2, none⟩ = some (.int .u32 3144134277) ∧ W.cell? ⟨w.heap.size, 3, none⟩ = some (.int .u32 1013904242) ∧ W.cell? ⟨w.heap.size, 4, none⟩ = some (.int .u32 2773480762) ∧ W.cell? ⟨w.heap.size, 5, none⟩ = some (.int .u32 1359893119) ∧ W.cell? ⟨w.heap.size, 6, none⟩ = some (.int .u32 2600822924) ∧ W.cell? ⟨w.heap.size, 7, none⟩ = some (.int .u32 528734635) ∧ W.cell? ⟨w.heap.size, 8, none⟩ = some (.int .u32 1541459225) ∧ W.cell? ⟨w.heap.size + 1, 2, none⟩ = some (.slice h.va h.vn h.vc))) (by kernel_rfl) ⟨HD.out.drew.nine.1, HD.out.drew.nine.2.1, HD.out.drew.nine.2.2.1, HD.out.drew.nine.2.2.2.1, HD.out.drew.nine.2.2.2.2.1, HD.out.drew.nine.2.2.2.2.2.1, HD.out.drew.nine.2.2.2.2.2.2.1, HD.out.drew.nine.2.2.2.2.2.2.2.1, HD.out.drew.nine.2.2.2.2.2.2.2.2, HD.out.drew.box.cells.2.2.1⟩ (fun hHeld => ?_)
      refine take_w (i := 0) (oi := ?oZ10) (v := ?vZ10) ?hiZ10 (by kernel_rfl) (by kernel_rfl) (by kernel_rfl) ?hQZ10 ?hwZ10 ?hyZ10 (by assumption) ?restZ10
      case hiZ10 => (simp only [List.getElem?_toArray, List.getElem?_cons_zero] <;> rfl)
      case hQZ10 => exact (fun _ _ _ h => h)
      case hwZ10 => rfl
      case hyZ10 => (intro w hSw; (try dsimp only at hSw); go_simp; try with_reducible rfl)
      (try simp only [Act.put, List.setIfInBounds_toArray, List.set_cons_zero, List.set_cons_succ])
      refine take_w (i := 1) (oi := ?oZ11) (v := ?vZ11) ?hiZ11 (by kernel_rfl) (by kernel_rfl) (by kernel_rfl) ?hQZ11 ?hwZ11 ?hyZ11 (by assumption) ?restZ11
      case hiZ11 => (simp only [List.getElem?_toArray, List.getElem?_cons_succ, List.getElem?_cons_zero] <;> rfl)
      case hQZ11 => exact (fun _ _ _ h => h)
      case hwZ11 => rfl
      case hyZ11 => (intro w hSw; (try dsimp only at hSw); go_simp; try with_reducible rfl)
      (try simp only [Act.put, List.setIfInBounds_toArray, List.set_cons_zero, List.set_cons_succ])
      refine take_w (i := 2) (oi := ?oZ12) (v := ?vZ12) ?hiZ12 (by kernel_rfl) (by kernel_rfl) (by kernel_rfl) ?hQZ12 ?hwZ12 ?hyZ12 (by assumption) ?restZ12
      case hiZ12 => (simp only [List.getElem?_toArray, List.getElem?_cons_succ, List.getElem?_cons_zero] <;> rfl)
      case hQZ12 => exact (fun _ _ _ h => h)
      case hwZ12 => rfl
      case hyZ12 => (intro w hSw; (try dsimp only at hSw); go_simp; try with_reducible rfl)
      (try simp only [Act.put, List.setIfInBounds_toArray, List.set_cons_zero, List.set_cons_succ])
      refine take_w (i := 3) (oi := ?oZ13) (v := ?vZ13) ?hiZ13 (by kernel_rfl) (by kernel_rfl) (by kernel_rfl) ?hQZ13 ?hwZ13 ?hyZ13 (by assumption) ?restZ13
      case hiZ13 => (simp only [List.getElem?_toArray, List.getElem?_cons_succ, List.getElem?_cons_zero] <;> rfl)
      case hQZ13 => exact (fun _ _ _ h => h)
      case hwZ13 => rfl
      case hyZ13 => (intro w hSw; (try dsimp only at hSw); go_simp; try with_reducible rfl)
      (try simp only [Act.put, List.setIfInBounds_toArray, List.set_cons_zero, List.set_cons_succ])
      refine wpAnyH_ready (rs := [4]) (by kernel_rfl) (by simp) ?_
      refine AllReadyH.cons (o := ?oZ14) ?hiZ14 (fun K hK => ?stZ14) AllReadyH.nil
      case hiZ14 => (simp only [List.getElem?_toArray, List.getElem?_cons_succ, List.getElem?_cons_zero] <;> rfl)
      go_simp
      go_at_call 42
      (with_reducible refine (refValue_any h.va h.vn h.vc t.val _ ?_ (by omega)).mono ?_)
      · exact HP.out.val.below HD.out.drew.b
      rintro _ w1 ⟨g1, c1', rfl, ho1, hb1⟩
      have HD1 := Lib.hid (HD.out.drew.below hb1)
      have HV1 := Lib.hid (InBytes.of_own ho1 (valL_bytes HP.out.val.bytes))
      clear ho1 hb1
      go_simp
      refine hK.out _ _ ?_ (fun hHeld => ?_)
      · (first | exact ⟨HD2.out.nine.1, HD2.out.nine.2.1, HD2.out.nine.2.2.1, HD2.out.nine.2.2.2.1, HD2.out.nine.2.2.2.2.1, HD2.out.nine.2.2.2.2.2.1, HD2.out.nine.2.2.2.2.2.2.1, HD2.out.nine.2.2.2.2.2.2.2.1, HD2.out.nine.2.2.2.2.2.2.2.2, HD2.out.box.cells.2.2.1⟩ | exact ⟨HD1.out.nine.1, HD1.out.nine.2.1, HD1.out.nine.2.2.1, HD1.out.nine.2.2.2.1, HD1.out.nine.2.2.2.2.1, HD1.out.nine.2.2.2.2.2.1, HD1.out.nine.2.2.2.2.2.2.1, HD1.out.nine.2.2.2.2.2.2.2.1, HD1.out.nine.2.2.2.2.2.2.2.2, HD1.out.box.cells.2.2.1⟩ | exact ⟨HD.out.drew.nine.1, HD.out.drew.nine.2.1, HD.out.drew.nine.2.2.1, HD.out.drew.nine.2.2.2.1, HD.out.drew.nine.2.2.2.2.1, HD.out.drew.nine.2.2.2.2.2.1, HD.out.drew.nine.2.2.2.2.2.2.1, HD.out.drew.nine.2.2.2.2.2.2.2.1, HD.out.drew.nine.2.2.2.2.2.2.2.2, HD.out.drew.box.cells.2.2.1⟩)
      clear hK K
      (try simp only [Act.put, List.setIfInBounds_toArray, List.set_cons_zero, List.set_cons_succ])
      refine wpAnyH_ready (rs := [5]) (by kernel_rfl) (by simp) ?_
      refine AllReadyH.cons (o := ?oZ15) ?hiZ15 (fun K hK => ?stZ15) AllReadyH.nil
      case hiZ15 => (simp only [List.getElem?_toArray, List.getElem?_cons_succ, List.getElem?_cons_zero] <;> rfl)
      go_simp
      go_at_call 41
      (with_reducible refine (HD1.out.of hk1 hk2 HV1.out ?_).mono ?_)
      · rw [valL_len]; omega
      rintro _ w2 ⟨g2, hg2, rfl, hr2, hb2⟩
      have HD2 := Lib.hid (HD1.out.below hb2)
      have HR2 := Lib.hid (of_in32 hr2 hk2)
      clear hg2 hr2 hb2
      go_simp
      refine hK.out _ _ ?_ (fun hHeld => ?_)
      · (first | exact ⟨HD2.out.nine.1, HD2.out.nine.2.1, HD2.out.nine.2.2.1, HD2.out.nine.2.2.2.1, HD2.out.nine.2.2.2.2.1, HD2.out.nine.2.2.2.2.2.1, HD2.out.nine.2.2.2.2.2.2.1, HD2.out.nine.2.2.2.2.2.2.2.1, HD2.out.nine.2.2.2.2.2.2.2.2, HD2.out.box.cells.2.2.1⟩ | exact ⟨HD1.out.nine.1, HD1.out.nine.2.1, HD1.out.nine.2.2.1, HD1.out.nine.2.2.2.1, HD1.out.nine.2.2.2.2.1, HD1.out.nine.2.2.2.2.2.1, HD1.out.nine.2.2.2.2.2.2.1, HD1.out.nine.2.2.2.2.2.2.2.1, HD1.out.nine.2.2.2.2.2.2.2.2, HD1.out.box.cells.2.2.1⟩ | exact ⟨HD.out.drew.nine.1, HD.out.drew.nine.2.1, HD.out.drew.nine.2.2.1, HD.out.drew.nine.2.2.2.1, HD.out.drew.nine.2.2.2.2.1, HD.out.drew.nine.2.2.2.2.2.1, HD.out.drew.nine.2.2.2.2.2.2.1, HD.out.drew.nine.2.2.2.2.2.2.2.1, HD.out.drew.nine.2.2.2.2.2.2.2.2, HD.out.drew.box.cells.2.2.1⟩)
      clear hK K
      (try simp only [Act.put, List.setIfInBounds_toArray, List.set_cons_zero, List.set_cons_succ])
      refine take_w (i := 6) (oi := ?oZ16) (v := ?vZ16) ?hiZ16 (by kernel_rfl) (by kernel_rfl) (by kernel_rfl) ?hQZ16 ?hwZ16 ?hyZ16 (by assumption) ?restZ16
      case hiZ16 => (simp only [List.getElem?_toArray, List.getElem?_cons_succ, List.getElem?_cons_zero] <;> rfl)
      case hQZ16 => exact (fun _ _ _ h => h)
      case hwZ16 => rfl
      case hyZ16 => (intro w hSw; (try dsimp only at hSw); go_simp; try with_reducible rfl)
      (try simp only [Act.put, List.setIfInBounds_toArray, List.set_cons_zero, List.set_cons_succ])
      refine wpAnyH_done (by kernel_rfl) ?_ _
      
      go_wp2_with fail
      go_meet
      exact ⟨_, _, _, rfl, by unfold valT; rw [if_pos HE.out]; exact HR2.out, HD2.out⟩
  case rest =>
  obtain ⟨av, nv, cv, rfl, hinv, hdw⟩ := hcut
  have HV := Lib.hid hinv
  have hnv := hinv.len
  clear x0 x1 x2 x3 x4 t0 t1 t2 t3 t4 t5 t6 t7 t8 HD hinv
  generalize wc = w3 at *
  have HD := Lib.hid hdw
  clear hdw
  by_cases hnk : nv = k
  rotate_left
  · have hne : ((nv : Int) != (k : Int)) = true := by simp; omega
    clear hnk
    go_wp2_with fail
    go_ret2
    refine ⟨_, _, _, false, rfl, .inr ⟨rfl, digT_bad HH.out.1 HH.out.2.1 ?_⟩, HD.out.b⟩
    intro hc
    rw [hnv] at hc
    simp [hc] at hne
  obtain rfl : nv = k := hnk
  have HNV := Lib.hid hnv
  clear hnv
  have hkn : h.kn ≤ 80 := by
    have hpb := HPB.out
    rw [HF.out.1, if_neg (by simpa using e0)] at hpb
    have hh := hpb.symm
    split at hh
    · simp only [Bool.and_eq_true, decide_eq_true_eq] at hh
      omega
    · split at hh
      · simp only [Bool.and_eq_true, decide_eq_true_eq] at hh
        omega
      · rw [if_neg (by simpa using e3)] at hh
        cases hh
  have hc0 : ((nv : Int) != (nv : Int)) = false := by simp
  have l0 : 0 < t.kids.length := by omega
  have l1 : 1 < t.kids.length := by omega
  have htn := HTN.out
  have ht0 : 0 < h.tn := by omega
  have ht1 : (1 : Int) < (h.tn : Int) := by omega
  clear htn
  obtain ⟨g, off, hta, _, _⟩ := (HP.out.below HD.out.b).place ht0
  have HTA := Lib.hid hta
  clear hta
  go_upto_region 11 with fail
  refine wp_region_held_drew (S := (fun W => W.cell? ⟨w.heap.size, 0, none⟩ = some (.slice (some ⟨gk, 0, none⟩) 64 ck) ∧ W.cell? ⟨w.heap.size, 1, none⟩ = some (.int .u32 1779033703) ∧ W.cell? ⟨w.heap.size, 2, none⟩ = some (.int .u32 3144134277) ∧ W.cell? ⟨w.heap.size, 3, none⟩ = some (.int .u32 1013904242) ∧ W.cell? ⟨w.heap.size, 4, none⟩ = some (.int .u32 2773480762) ∧ W.cell? ⟨w.heap.size, 5, none⟩ = some (.int .u32 1359893119) ∧ W.cell? ⟨w.heap.size, 6, none⟩ = some (.int .u32 2600822924) ∧ W.cell? ⟨w.heap.size, 7, none⟩ = some (.int .u32 528734635) ∧ W.cell? ⟨w.heap.size, 8, none⟩ = some (.int .u32 1541459225) ∧ W.cell? ⟨w.heap.size + 1, 4, none⟩ = some (.slice (some ⟨g, off, none⟩) h.tn h.tc) ∧ W.cell? ⟨g, off, none⟩ = some (.int .i64 (H 0).k) ∧ W.cell? ⟨g, off + 1, none⟩ = some (.slice (H 0).ka (H 0).kn (H 0).kc) ∧ W.cell? ⟨g, off + 2, none⟩ = some (.slice (H 0).va (H 0).vn (H 0).vc) ∧ W.cell? ⟨g, off + 3, none⟩ = some (.slice (H 0).da (H 0).dn (H 0).dc) ∧ W.cell? ⟨g, off + 4, none⟩ = some (.slice (H 0).ta (H 0).tn (H 0).tc))) (by kernel_rfl) ⟨HD.out.drew.nine.1, HD.out.drew.nine.2.1, HD.out.drew.nine.2.2.1, HD.out.drew.nine.2.2.2.1, HD.out.drew.nine.2.2.2.2.1, HD.out.drew.nine.2.2.2.2.2.1, HD.out.drew.nine.2.2.2.2.2.2.1, HD.out.drew.nine.2.2.2.2.2.2.2.1, HD.out.drew.nine.2.2.2.2.2.2.2.2, (HD.out.drew.box.cells.2.2.2.2).trans (by rw [HTA.out]), (HP.out.below HD.out.drew.b).kid0 HTA.out (by omega)⟩ (fun hHeld => ?_)
  refine take_w (i := 0) (oi := ?oZ17) (v := ?vZ17) ?hiZ17 (by kernel_rfl) (by kernel_rfl) (by kernel_rfl) ?hQZ17 ?hwZ17 ?hyZ17 (by assumption) ?restZ17
  case hiZ17 => (simp only [List.getElem?_toArray, List.getElem?_cons_zero] <;> rfl)
  case hQZ17 => exact (fun _ _ _ h => h)
  case hwZ17 => rfl
  case hyZ17 => (intro w hSw; (try dsimp only at hSw); go_simp; try with_reducible rfl)
  (try simp only [Act.put, List.setIfInBounds_toArray, List.set_cons_zero, List.set_cons_succ])
  refine take_w (i := 1) (oi := ?oZ18) (v := ?vZ18) ?hiZ18 (by kernel_rfl) (by kernel_rfl) (by kernel_rfl) ?hQZ18 ?hwZ18 ?hyZ18 (by assumption) ?restZ18
  case hiZ18 => (simp only [List.getElem?_toArray, List.getElem?_cons_succ, List.getElem?_cons_zero] <;> rfl)
  case hQZ18 => exact (fun _ _ _ h => h)
  case hwZ18 => rfl
  case hyZ18 => (intro w hSw; (try dsimp only at hSw); go_simp; try with_reducible rfl)
  (try simp only [Act.put, List.setIfInBounds_toArray, List.set_cons_zero, List.set_cons_succ])
  refine take_w (i := 2) (oi := ?oZ19) (v := ?vZ19) ?hiZ19 (by kernel_rfl) (by kernel_rfl) (by kernel_rfl) ?hQZ19 ?hwZ19 ?hyZ19 (by assumption) ?restZ19
  case hiZ19 => (simp only [List.getElem?_toArray, List.getElem?_cons_succ, List.getElem?_cons_zero] <;> rfl)
  case hQZ19 => exact (fun _ _ _ h => h)
  case hwZ19 => rfl
  case hyZ19 => (intro w hSw; (try dsimp only at hSw); go_simp; try with_reducible rfl)
  (try simp only [Act.put, List.setIfInBounds_toArray, List.set_cons_zero, List.set_cons_succ])
  refine take_w (i := 3) (oi := ?oZ20) (v := ?vZ20) ?hiZ20 (by kernel_rfl) (by kernel_rfl) (by kernel_rfl) ?hQZ20 ?hwZ20 ?hyZ20 (by assumption) ?restZ20
  case hiZ20 => (simp only [List.getElem?_toArray, List.getElem?_cons_succ, List.getElem?_cons_zero] <;> rfl)
  case hQZ20 => exact (fun _ _ _ h => h)
  case hwZ20 => rfl
  case hyZ20 => (intro w hSw; (try dsimp only at hSw); go_simp; try with_reducible rfl)
  (try simp only [Act.put, List.setIfInBounds_toArray, List.set_cons_zero, List.set_cons_succ])
  refine take_w (i := 4) (oi := ?oZ21) (v := ?vZ21) ?hiZ21 (by kernel_rfl) (by kernel_rfl) (by kernel_rfl) ?hQZ21 ?hwZ21 ?hyZ21 (by assumption) ?restZ21
  case hiZ21 => (simp only [List.getElem?_toArray, List.getElem?_cons_succ, List.getElem?_cons_zero] <;> rfl)
  case hQZ21 => exact (fun _ _ _ h => h)
  case hwZ21 => rfl
  case hyZ21 => (intro w hSw; (try dsimp only at hSw); go_simp; try with_reducible rfl)
  (try simp only [Act.put, List.setIfInBounds_toArray, List.set_cons_zero, List.set_cons_succ])
  refine take_w (i := 5) (oi := ?oZ22) (v := ?vZ22) ?hiZ22 (by kernel_rfl) (by kernel_rfl) (by kernel_rfl) ?hQZ22 ?hwZ22 ?hyZ22 (by assumption) ?restZ22
  case hiZ22 => (simp only [List.getElem?_toArray, List.getElem?_cons_succ, List.getElem?_cons_zero] <;> rfl)
  case hQZ22 => exact (fun _ _ _ h => h)
  case hwZ22 => rfl
  case hyZ22 => (intro w hSw; (try dsimp only at hSw); go_simp; try with_reducible rfl)
  (try simp only [Act.put, List.setIfInBounds_toArray, List.set_cons_zero, List.set_cons_succ])
  refine wpAnyH_ready (rs := [6]) (by kernel_rfl) (by simp) ?_
  refine AllReadyH.cons (o := ?oZ23) ?hiZ23 (fun K hK => ?stZ23) AllReadyH.nil
  case hiZ23 => (simp only [List.getElem?_toArray, List.getElem?_cons_succ, List.getElem?_cons_zero] <;> rfl)
  go_simp
  go_at_call 18
  refine (IH.out _ (List.getElem_mem l0) (H 0) _ ((HP.out.below HD.out.drew.b).kids 0 l0) (HF.out.2 0 l0) HD.out.drew.ks (Nat.lt_of_lt_of_le HD.out.drew.gk HD.out.drew.b.size)).mono ?_
  rintro _ w4 ⟨a4, n4, cc4, is4, rfl, hres4, hb4⟩
  have HD4 := Lib.hid (HD.out.drew.below hb4)
  have HRES4 := Lib.hid hres4
  have HV4 := Lib.hid ((HV.out.below (Below.refl _ _).drew).below hb4)
  clear hres4 hb4
  go_simp
  refine hK.out _ _ ?_ (fun hHeld => ?_)
  · (first | exact ⟨HD4.out.nine.1, HD4.out.nine.2.1, HD4.out.nine.2.2.1, HD4.out.nine.2.2.2.1, HD4.out.nine.2.2.2.2.1, HD4.out.nine.2.2.2.2.2.1, HD4.out.nine.2.2.2.2.2.2.1, HD4.out.nine.2.2.2.2.2.2.2.1, HD4.out.nine.2.2.2.2.2.2.2.2, (HD4.out.box.cells.2.2.2.2).trans (by rw [HTA.out]), (HP.out.below HD4.out.b).kid0 HTA.out (by omega)⟩ | exact ⟨HD.out.drew.nine.1, HD.out.drew.nine.2.1, HD.out.drew.nine.2.2.1, HD.out.drew.nine.2.2.2.1, HD.out.drew.nine.2.2.2.2.1, HD.out.drew.nine.2.2.2.2.2.1, HD.out.drew.nine.2.2.2.2.2.2.1, HD.out.drew.nine.2.2.2.2.2.2.2.1, HD.out.drew.nine.2.2.2.2.2.2.2.2, (HD.out.drew.box.cells.2.2.2.2).trans (by rw [HTA.out]), (HP.out.below HD.out.drew.b).kid0 HTA.out (by omega)⟩)
  clear hK K
  (try simp only [Act.put, List.setIfInBounds_toArray, List.set_cons_zero, List.set_cons_succ])
  refine take_w (i := 7) (oi := ?oZ24) (v := ?vZ24) ?hiZ24 (by kernel_rfl) (by kernel_rfl) (by kernel_rfl) ?hQZ24 ?hwZ24 ?hyZ24 (by assumption) ?restZ24
  case hiZ24 => (simp only [List.getElem?_toArray, List.getElem?_cons_succ, List.getElem?_cons_zero] <;> rfl)
  case hQZ24 => exact (fun _ _ _ h => h)
  case hwZ24 => rfl
  case hyZ24 => (intro w hSw; (try dsimp only at hSw); go_simp; try with_reducible rfl)
  (try simp only [Act.put, List.setIfInBounds_toArray, List.set_cons_zero, List.set_cons_succ])
  refine take_w (i := 8) (oi := ?oZ25) (v := ?vZ25) ?hiZ25 (by kernel_rfl) (by kernel_rfl) (by kernel_rfl) ?hQZ25 ?hwZ25 ?hyZ25 (by assumption) ?restZ25
  case hiZ25 => (simp only [List.getElem?_toArray, List.getElem?_cons_succ, List.getElem?_cons_zero] <;> rfl)
  case hQZ25 => exact (fun _ _ _ h => h)
  case hwZ25 => rfl
  case hyZ25 => (intro w hSw; (try dsimp only at hSw); go_simp; try with_reducible rfl)
  (try simp only [Act.put, List.setIfInBounds_toArray, List.set_cons_zero, List.set_cons_succ])
  refine take_w (i := 9) (oi := ?oZ26) (v := ?vZ26) ?hiZ26 (by kernel_rfl) (by kernel_rfl) (by kernel_rfl) ?hQZ26 ?hwZ26 ?hyZ26 (by assumption) ?restZ26
  case hiZ26 => (simp only [List.getElem?_toArray, List.getElem?_cons_succ, List.getElem?_cons_zero] <;> rfl)
  case hQZ26 => exact (fun _ _ _ h => h)
  case hwZ26 => rfl
  case hyZ26 => (intro w hSw; (try dsimp only at hSw); go_simp; try with_reducible rfl)
  (try simp only [Act.put, List.setIfInBounds_toArray, List.set_cons_zero, List.set_cons_succ])
  refine take_w (i := 10) (oi := ?oZ27) (v := ?vZ27) ?hiZ27 (by kernel_rfl) (by kernel_rfl) (by kernel_rfl) ?hQZ27 ?hwZ27 ?hyZ27 (by assumption) ?restZ27
  case hiZ27 => (simp only [List.getElem?_toArray, List.getElem?_cons_succ, List.getElem?_cons_zero] <;> rfl)
  case hQZ27 => exact (fun _ _ _ h => h)
  case hwZ27 => rfl
  case hyZ27 => (intro w hSw; (try dsimp only at hSw); go_simp; try with_reducible rfl)
  (try simp only [Act.put, List.setIfInBounds_toArray, List.set_cons_zero, List.set_cons_succ])
  refine take_w (i := 11) (oi := ?oZ28) (v := ?vZ28) ?hiZ28 (by kernel_rfl) (by kernel_rfl) (by kernel_rfl) ?hQZ28 ?hwZ28 ?hyZ28 (by assumption) ?restZ28
  case hiZ28 => (simp only [List.getElem?_toArray, List.getElem?_cons_succ, List.getElem?_cons_zero] <;> rfl)
  case hQZ28 => exact (fun _ _ _ h => h)
  case hwZ28 => rfl
  case hyZ28 => (intro w hSw; (try dsimp only at hSw); go_simp; try with_reducible rfl)
  (try simp only [Act.put, List.setIfInBounds_toArray, List.set_cons_zero, List.set_cons_succ])
  refine wpAnyH_done (by kernel_rfl) ?_ _
  
  clear hHeld
  go_upto_region 12 with fail
  refine wp_region_held_drew (S := (fun W => W.cell? ⟨w.heap.size, 0, none⟩ = some (.slice (some ⟨gk, 0, none⟩) 64 ck) ∧ W.cell? ⟨w.heap.size, 1, none⟩ = some (.int .u32 1779033703) ∧ W.cell? ⟨w.heap.size, 2, none⟩ = some (.int .u32 3144134277) ∧ W.cell? ⟨w.heap.size, 3, none⟩ = some (.int .u32 1013904242) ∧ W.cell? ⟨w.heap.size, 4, none⟩ = some (.int .u32 2773480762) ∧ W.cell? ⟨w.heap.size, 5, none⟩ = some (.int .u32 1359893119) ∧ W.cell? ⟨w.heap.size, 6, none⟩ = some (.int .u32 2600822924) ∧ W.cell? ⟨w.heap.size, 7, none⟩ = some (.int .u32 528734635) ∧ W.cell? ⟨w.heap.size, 8, none⟩ = some (.int .u32 1541459225) ∧ W.cell? ⟨w.heap.size + 1, 4, none⟩ = some (.slice (some ⟨g, off, none⟩) h.tn h.tc) ∧ W.cell? ⟨g, off + 5, none⟩ = some (.int .i64 (H 1).k) ∧ W.cell? ⟨g, off + 5 + 1, none⟩ = some (.slice (H 1).ka (H 1).kn (H 1).kc) ∧ W.cell? ⟨g, off + 5 + 2, none⟩ = some (.slice (H 1).va (H 1).vn (H 1).vc) ∧ W.cell? ⟨g, off + 5 + 3, none⟩ = some (.slice (H 1).da (H 1).dn (H 1).dc) ∧ W.cell? ⟨g, off + 5 + 4, none⟩ = some (.slice (H 1).ta (H 1).tn (H 1).tc))) (by kernel_rfl) ⟨HD4.out.drew.nine.1, HD4.out.drew.nine.2.1, HD4.out.drew.nine.2.2.1, HD4.out.drew.nine.2.2.2.1, HD4.out.drew.nine.2.2.2.2.1, HD4.out.drew.nine.2.2.2.2.2.1, HD4.out.drew.nine.2.2.2.2.2.2.1, HD4.out.drew.nine.2.2.2.2.2.2.2.1, HD4.out.drew.nine.2.2.2.2.2.2.2.2, (HD4.out.drew.box.cells.2.2.2.2).trans (by rw [HTA.out]), (HP.out.below HD4.out.drew.b).kid1 HTA.out (by omega)⟩ (fun hHeld => ?_)
  refine take_w (i := 0) (oi := ?oZ29) (v := ?vZ29) ?hiZ29 (by kernel_rfl) (by kernel_rfl) (by kernel_rfl) ?hQZ29 ?hwZ29 ?hyZ29 (by assumption) ?restZ29
  case hiZ29 => (simp only [List.getElem?_toArray, List.getElem?_cons_zero] <;> rfl)
  case hQZ29 => exact (fun _ _ _ h => h)
  case hwZ29 => rfl
  case hyZ29 => (intro w hSw; (try dsimp only at hSw); go_simp; try with_reducible rfl)
  (try simp only [Act.put, List.setIfInBounds_toArray, List.set_cons_zero, List.set_cons_succ])
  refine take_w (i := 1) (oi := ?oZ30) (v := ?vZ30) ?hiZ30 (by kernel_rfl) (by kernel_rfl) (by kernel_rfl) ?hQZ30 ?hwZ30 ?hyZ30 (by assumption) ?restZ30
  case hiZ30 => (simp only [List.getElem?_toArray, List.getElem?_cons_succ, List.getElem?_cons_zero] <;> rfl)
  case hQZ30 => exact (fun _ _ _ h => h)
  case hwZ30 => rfl
  case hyZ30 => (intro w hSw; (try dsimp only at hSw); go_simp; try with_reducible rfl)
  (try simp only [Act.put, List.setIfInBounds_toArray, List.set_cons_zero, List.set_cons_succ])
  refine take_w (i := 2) (oi := ?oZ31) (v := ?vZ31) ?hiZ31 (by kernel_rfl) (by kernel_rfl) (by kernel_rfl) ?hQZ31 ?hwZ31 ?hyZ31 (by assumption) ?restZ31
  case hiZ31 => (simp only [List.getElem?_toArray, List.getElem?_cons_succ, List.getElem?_cons_zero] <;> rfl)
  case hQZ31 => exact (fun _ _ _ h => h)
  case hwZ31 => rfl
  case hyZ31 => (intro w hSw; (try dsimp only at hSw); go_simp; try with_reducible rfl)
  (try simp only [Act.put, List.setIfInBounds_toArray, List.set_cons_zero, List.set_cons_succ])
  refine take_w (i := 3) (oi := ?oZ32) (v := ?vZ32) ?hiZ32 (by kernel_rfl) (by kernel_rfl) (by kernel_rfl) ?hQZ32 ?hwZ32 ?hyZ32 (by assumption) ?restZ32
  case hiZ32 => (simp only [List.getElem?_toArray, List.getElem?_cons_succ, List.getElem?_cons_zero] <;> rfl)
  case hQZ32 => exact (fun _ _ _ h => h)
  case hwZ32 => rfl
  case hyZ32 => (intro w hSw; (try dsimp only at hSw); go_simp; try with_reducible rfl)
  (try simp only [Act.put, List.setIfInBounds_toArray, List.set_cons_zero, List.set_cons_succ])
  refine take_w (i := 4) (oi := ?oZ33) (v := ?vZ33) ?hiZ33 (by kernel_rfl) (by kernel_rfl) (by kernel_rfl) ?hQZ33 ?hwZ33 ?hyZ33 (by assumption) ?restZ33
  case hiZ33 => (simp only [List.getElem?_toArray, List.getElem?_cons_succ, List.getElem?_cons_zero] <;> rfl)
  case hQZ33 => exact (fun _ _ _ h => h)
  case hwZ33 => rfl
  case hyZ33 => (intro w hSw; (try dsimp only at hSw); go_simp; try with_reducible rfl)
  (try simp only [Act.put, List.setIfInBounds_toArray, List.set_cons_zero, List.set_cons_succ])
  refine take_w (i := 5) (oi := ?oZ34) (v := ?vZ34) ?hiZ34 (by kernel_rfl) (by kernel_rfl) (by kernel_rfl) ?hQZ34 ?hwZ34 ?hyZ34 (by assumption) ?restZ34
  case hiZ34 => (simp only [List.getElem?_toArray, List.getElem?_cons_succ, List.getElem?_cons_zero] <;> rfl)
  case hQZ34 => exact (fun _ _ _ h => h)
  case hwZ34 => rfl
  case hyZ34 => (intro w hSw; (try dsimp only at hSw); go_simp; try with_reducible rfl)
  (try simp only [Act.put, List.setIfInBounds_toArray, List.set_cons_zero, List.set_cons_succ])
  refine wpAnyH_ready (rs := [6]) (by kernel_rfl) (by simp) ?_
  refine AllReadyH.cons (o := ?oZ35) ?hiZ35 (fun K hK => ?stZ35) AllReadyH.nil
  case hiZ35 => (simp only [List.getElem?_toArray, List.getElem?_cons_succ, List.getElem?_cons_zero] <;> rfl)
  go_simp
  go_at_call 18
  refine (IH.out _ (List.getElem_mem l1) (H 1) _ ((HP.out.below HD4.out.drew.b).kids 1 l1) (HF.out.2 1 l1) HD4.out.drew.ks (Nat.lt_of_lt_of_le HD4.out.drew.gk HD4.out.drew.b.size)).mono ?_
  rintro _ w5 ⟨a5, n5, cc5, is5, rfl, hres5, hb5⟩
  have HD5 := Lib.hid (HD4.out.drew.below hb5)
  have HRES5 := Lib.hid hres5
  have HV5 := Lib.hid ((HV4.out.below (Below.refl _ _).drew).below hb5)
  have HBB5 : Hid (Below w4.heap.size w4 w5) := Lib.hid ((Below.refl w4.heap.size w4).drew.trans hb5)
  clear hres5 hb5
  go_simp
  refine hK.out _ _ ?_ (fun hHeld => ?_)
  · (first | exact ⟨HD5.out.nine.1, HD5.out.nine.2.1, HD5.out.nine.2.2.1, HD5.out.nine.2.2.2.1, HD5.out.nine.2.2.2.2.1, HD5.out.nine.2.2.2.2.2.1, HD5.out.nine.2.2.2.2.2.2.1, HD5.out.nine.2.2.2.2.2.2.2.1, HD5.out.nine.2.2.2.2.2.2.2.2, (HD5.out.box.cells.2.2.2.2).trans (by rw [HTA.out]), (HP.out.below HD5.out.b).kid1 HTA.out (by omega)⟩ | exact ⟨HD4.out.drew.nine.1, HD4.out.drew.nine.2.1, HD4.out.drew.nine.2.2.1, HD4.out.drew.nine.2.2.2.1, HD4.out.drew.nine.2.2.2.2.1, HD4.out.drew.nine.2.2.2.2.2.1, HD4.out.drew.nine.2.2.2.2.2.2.1, HD4.out.drew.nine.2.2.2.2.2.2.2.1, HD4.out.drew.nine.2.2.2.2.2.2.2.2, (HD4.out.drew.box.cells.2.2.2.2).trans (by rw [HTA.out]), (HP.out.below HD4.out.drew.b).kid1 HTA.out (by omega)⟩)
  clear hK K
  (try simp only [Act.put, List.setIfInBounds_toArray, List.set_cons_zero, List.set_cons_succ])
  refine take_w (i := 7) (oi := ?oZ36) (v := ?vZ36) ?hiZ36 (by kernel_rfl) (by kernel_rfl) (by kernel_rfl) ?hQZ36 ?hwZ36 ?hyZ36 (by assumption) ?restZ36
  case hiZ36 => (simp only [List.getElem?_toArray, List.getElem?_cons_succ, List.getElem?_cons_zero] <;> rfl)
  case hQZ36 => exact (fun _ _ _ h => h)
  case hwZ36 => rfl
  case hyZ36 => (intro w hSw; (try dsimp only at hSw); go_simp; try with_reducible rfl)
  (try simp only [Act.put, List.setIfInBounds_toArray, List.set_cons_zero, List.set_cons_succ])
  refine take_w (i := 8) (oi := ?oZ37) (v := ?vZ37) ?hiZ37 (by kernel_rfl) (by kernel_rfl) (by kernel_rfl) ?hQZ37 ?hwZ37 ?hyZ37 (by assumption) ?restZ37
  case hiZ37 => (simp only [List.getElem?_toArray, List.getElem?_cons_succ, List.getElem?_cons_zero] <;> rfl)
  case hQZ37 => exact (fun _ _ _ h => h)
  case hwZ37 => rfl
  case hyZ37 => (intro w hSw; (try dsimp only at hSw); go_simp; try with_reducible rfl)
  (try simp only [Act.put, List.setIfInBounds_toArray, List.set_cons_zero, List.set_cons_succ])
  refine take_w (i := 9) (oi := ?oZ38) (v := ?vZ38) ?hiZ38 (by kernel_rfl) (by kernel_rfl) (by kernel_rfl) ?hQZ38 ?hwZ38 ?hyZ38 (by assumption) ?restZ38
  case hiZ38 => (simp only [List.getElem?_toArray, List.getElem?_cons_succ, List.getElem?_cons_zero] <;> rfl)
  case hQZ38 => exact (fun _ _ _ h => h)
  case hwZ38 => rfl
  case hyZ38 => (intro w hSw; (try dsimp only at hSw); go_simp; try with_reducible rfl)
  (try simp only [Act.put, List.setIfInBounds_toArray, List.set_cons_zero, List.set_cons_succ])
  refine take_w (i := 10) (oi := ?oZ39) (v := ?vZ39) ?hiZ39 (by kernel_rfl) (by kernel_rfl) (by kernel_rfl) ?hQZ39 ?hwZ39 ?hyZ39 (by assumption) ?restZ39
  case hiZ39 => (simp only [List.getElem?_toArray, List.getElem?_cons_succ, List.getElem?_cons_zero] <;> rfl)
  case hQZ39 => exact (fun _ _ _ h => h)
  case hwZ39 => rfl
  case hyZ39 => (intro w hSw; (try dsimp only at hSw); go_simp; try with_reducible rfl)
  (try simp only [Act.put, List.setIfInBounds_toArray, List.set_cons_zero, List.set_cons_succ])
  refine take_w (i := 11) (oi := ?oZ40) (v := ?vZ40) ?hiZ40 (by kernel_rfl) (by kernel_rfl) (by kernel_rfl) ?hQZ40 ?hwZ40 ?hyZ40 (by assumption) ?restZ40
  case hiZ40 => (simp only [List.getElem?_toArray, List.getElem?_cons_succ, List.getElem?_cons_zero] <;> rfl)
  case hQZ40 => exact (fun _ _ _ h => h)
  case hwZ40 => rfl
  case hyZ40 => (intro w hSw; (try dsimp only at hSw); go_simp; try with_reducible rfl)
  (try simp only [Act.put, List.setIfInBounds_toArray, List.set_cons_zero, List.set_cons_succ])
  refine wpAnyH_done (by kernel_rfl) ?_ _
  
  clear hHeld
  rcases HRES4.out with ⟨rfl, zs4, hz4, hin4⟩ | ⟨rfl, hz4⟩
  rotate_left
  · have HZ := Lib.hid hz4
    clear hz4
    go_wp2_with fail
    go_ret2
    exact ⟨_, _, _, false, rfl, .inr ⟨rfl, by rw [digT_node HH.out.1 HH.out.2.1 HNV.out HH.out.2.2, HZ.out]⟩, HD5.out.b⟩
  rcases HRES5.out with ⟨rfl, zs5, hz5, hin5⟩ | ⟨rfl, hz5⟩
  rotate_left
  · have HZ := Lib.hid (And.intro hz4 hz5)
    clear hz4 hz5 hin4
    go_wp2_with fail
    go_ret2
    exact ⟨_, _, _, false, rfl, .inr ⟨rfl, by rw [digT_node HH.out.1 HH.out.2.1 HNV.out HH.out.2.2, HZ.out.1, HZ.out.2]⟩, HD5.out.b⟩
  have hn4 : n4 = nv := by rw [← hin4.len]; exact digT_len hk2 hz4
  have hn5 : n5 = nv := by rw [← hin5.len]; exact digT_len hk2 hz5
  have HI5 : Hid (InBytes w5 a4 n4 cc4 zs4 ∧ InBytes w5 a5 n5 cc5 zs5) := Lib.hid ⟨hin4.below HBB5.out, hin5⟩
  have hn4' : n4 ≤ 32 := by omega
  have hn5' : n5 ≤ 32 := by omega
  have HZ := Lib.hid (And.intro hz4 hz5)
  clear hz4 hz5 hin4 hin5 hn4 hn5 HRES4 HRES5
  go_upto_region 15 with fail
  refine wp_region_held_drew (S := (fun W => W.cell? ⟨w.heap.size, 0, none⟩ = some (.slice (some ⟨gk, 0, none⟩) 64 ck) ∧ W.cell? ⟨w.heap.size, 1, none⟩ = some (.int .u32 1779033703) ∧ W.cell? ⟨w.heap.size, 2, none⟩ = some (.int .u32 3144134277) ∧ W.cell? ⟨w.heap.size, 3, none⟩ = some (.int .u32 1013904242) ∧ W.cell? ⟨w.heap.size, 4, none⟩ = some (.int .u32 2773480762) ∧ W.cell? ⟨w.heap.size, 5, none⟩ = some (.int .u32 1359893119) ∧ W.cell? ⟨w.heap.size, 6, none⟩ = some (.int .u32 2600822924) ∧ W.cell? ⟨w.heap.size, 7, none⟩ = some (.int .u32 528734635) ∧ W.cell? ⟨w.heap.size, 8, none⟩ = some (.int .u32 1541459225) ∧ W.cell? ⟨w.heap.size + 1, 1, none⟩ = some (.slice h.ka h.kn h.kc))) (by kernel_rfl) ⟨HD5.out.drew.nine.1, HD5.out.drew.nine.2.1, HD5.out.drew.nine.2.2.1, HD5.out.drew.nine.2.2.2.1, HD5.out.drew.nine.2.2.2.2.1, HD5.out.drew.nine.2.2.2.2.2.1, HD5.out.drew.nine.2.2.2.2.2.2.1, HD5.out.drew.nine.2.2.2.2.2.2.2.1, HD5.out.drew.nine.2.2.2.2.2.2.2.2, HD5.out.drew.box.cells.2.1⟩ (fun hHeld => ?_)
  refine take_w (i := 0) (oi := ?oZ41) (v := ?vZ41) ?hiZ41 (by kernel_rfl) (by kernel_rfl) (by kernel_rfl) ?hQZ41 ?hwZ41 ?hyZ41 (by assumption) ?restZ41
  case hiZ41 => (simp only [List.getElem?_toArray, List.getElem?_cons_zero] <;> rfl)
  case hQZ41 => exact (fun _ _ _ h => h)
  case hwZ41 => rfl
  case hyZ41 => (intro w hSw; (try dsimp only at hSw); go_simp; try with_reducible rfl)
  (try simp only [Act.put, List.setIfInBounds_toArray, List.set_cons_zero, List.set_cons_succ])
  refine take_w (i := 1) (oi := ?oZ42) (v := ?vZ42) ?hiZ42 (by kernel_rfl) (by kernel_rfl) (by kernel_rfl) ?hQZ42 ?hwZ42 ?hyZ42 (by assumption) ?restZ42
  case hiZ42 => (simp only [List.getElem?_toArray, List.getElem?_cons_succ, List.getElem?_cons_zero] <;> rfl)
  case hQZ42 => exact (fun _ _ _ h => h)
  case hwZ42 => rfl
  case hyZ42 => (intro w hSw; (try dsimp only at hSw); go_simp; try with_reducible rfl)
  (try simp only [Act.put, List.setIfInBounds_toArray, List.set_cons_zero, List.set_cons_succ])
  refine take_w (i := 2) (oi := ?oZ43) (v := ?vZ43) ?hiZ43 (by kernel_rfl) (by kernel_rfl) (by kernel_rfl) ?hQZ43 ?hwZ43 ?hyZ43 (by assumption) ?restZ43
  case hiZ43 => (simp only [List.getElem?_toArray, List.getElem?_cons_succ, List.getElem?_cons_zero] <;> rfl)
  case hQZ43 => exact (fun _ _ _ h => h)
  case hwZ43 => rfl
  case hyZ43 => (intro w hSw; (try dsimp only at hSw); go_simp; try with_reducible rfl)
  (try simp only [Act.put, List.setIfInBounds_toArray, List.set_cons_zero, List.set_cons_succ])
  refine take_w (i := 3) (oi := ?oZ44) (v := ?vZ44) ?hiZ44 (by kernel_rfl) (by kernel_rfl) (by kernel_rfl) ?hQZ44 ?hwZ44 ?hyZ44 (by assumption) ?restZ44
  case hiZ44 => (simp only [List.getElem?_toArray, List.getElem?_cons_succ, List.getElem?_cons_zero] <;> rfl)
  case hQZ44 => exact (fun _ _ _ h => h)
  case hwZ44 => rfl
  case hyZ44 => (intro w hSw; (try dsimp only at hSw); go_simp; try with_reducible rfl)
  (try simp only [Act.put, List.setIfInBounds_toArray, List.set_cons_zero, List.set_cons_succ])
  refine take_w (i := 4) (oi := ?oZ45) (v := ?vZ45) ?hiZ45 (by kernel_rfl) (by kernel_rfl) (by kernel_rfl) ?hQZ45 ?hwZ45 ?hyZ45 (by assumption) ?restZ45
  case hiZ45 => (simp only [List.getElem?_toArray, List.getElem?_cons_succ, List.getElem?_cons_zero] <;> rfl)
  case hQZ45 => exact (fun _ _ _ h => h)
  case hwZ45 => rfl
  case hyZ45 => (intro w hSw; (try dsimp only at hSw); go_simp; try with_reducible rfl)
  (try simp only [Act.put, List.setIfInBounds_toArray, List.set_cons_zero, List.set_cons_succ])
  refine wpAnyH_ready (rs := [5]) (by kernel_rfl) (by simp) ?_
  refine AllReadyH.cons (o := ?oZ46) ?hiZ46 (fun K hK => ?stZ46) AllReadyH.nil
  case hiZ46 => (simp only [List.getElem?_toArray, List.getElem?_cons_succ, List.getElem?_cons_zero] <;> rfl)
  go_simp
  go_at_call 43
  (with_reducible refine (refPair_any h.ka h.kn h.kc t.key av nv cv (valT nv t) _ ?_ ?_ ?_ hk2).mono ?_)
  · exact HP.out.key.below HD5.out.drew.b
  · omega
  · exact HV5.out.below (Below.refl _ _).drew
  rintro _ w6 ⟨g6, c6, rfl, ho6, hb6⟩
  have HD6 := Lib.hid (HD5.out.drew.below hb6)
  have HP6 := Lib.hid (InBytes.of_own ho6 (pairL_bytes HP.out.key.bytes (by omega) HV5.out.bytes))
  have HI6 : Hid (InBytes w6 a4 n4 cc4 zs4 ∧ InBytes w6 a5 n5 cc5 zs5) := Lib.hid ⟨(HI5.out.1.below (Below.refl _ _).drew).below hb6, (HI5.out.2.below (Below.refl _ _).drew).below hb6⟩
  clear ho6 hb6
  go_simp
  refine hK.out _ _ ?_ (fun hHeld => ?_)
  · (first | exact ⟨HD7.out.nine.1, HD7.out.nine.2.1, HD7.out.nine.2.2.1, HD7.out.nine.2.2.2.1, HD7.out.nine.2.2.2.2.1, HD7.out.nine.2.2.2.2.2.1, HD7.out.nine.2.2.2.2.2.2.1, HD7.out.nine.2.2.2.2.2.2.2.1, HD7.out.nine.2.2.2.2.2.2.2.2, HD7.out.box.cells.2.1⟩ | exact ⟨HD6.out.nine.1, HD6.out.nine.2.1, HD6.out.nine.2.2.1, HD6.out.nine.2.2.2.1, HD6.out.nine.2.2.2.2.1, HD6.out.nine.2.2.2.2.2.1, HD6.out.nine.2.2.2.2.2.2.1, HD6.out.nine.2.2.2.2.2.2.2.1, HD6.out.nine.2.2.2.2.2.2.2.2, HD6.out.box.cells.2.1⟩ | exact ⟨HD5.out.drew.nine.1, HD5.out.drew.nine.2.1, HD5.out.drew.nine.2.2.1, HD5.out.drew.nine.2.2.2.1, HD5.out.drew.nine.2.2.2.2.1, HD5.out.drew.nine.2.2.2.2.2.1, HD5.out.drew.nine.2.2.2.2.2.2.1, HD5.out.drew.nine.2.2.2.2.2.2.2.1, HD5.out.drew.nine.2.2.2.2.2.2.2.2, HD5.out.drew.box.cells.2.1⟩)
  clear hK K
  (try simp only [Act.put, List.setIfInBounds_toArray, List.set_cons_zero, List.set_cons_succ])
  refine wpAnyH_ready (rs := [6]) (by kernel_rfl) (by simp) ?_
  refine AllReadyH.cons (o := ?oZ47) ?hiZ47 (fun K hK => ?stZ47) AllReadyH.nil
  case hiZ47 => (simp only [List.getElem?_toArray, List.getElem?_cons_succ, List.getElem?_cons_zero] <;> rfl)
  go_simp
  go_at_call 41
  (with_reducible refine (HD6.out.of hk1 hk2 HP6.out ?_).mono ?_)
  · have hq := pairL_len (a := t.key) (b := valT nv t) (by omega)
    have hq2 := HNV.out
    omega
  rintro _ w7 ⟨g7, hg7, rfl, hr7, hb7⟩
  have HD7 := Lib.hid (HD6.out.below hb7)
  have HR7 := Lib.hid (of_in32 hr7 hk2)
  have HI7 : Hid (InBytes w7 a4 n4 cc4 zs4 ∧ InBytes w7 a5 n5 cc5 zs5) := Lib.hid ⟨HI6.out.1.below hb7, HI6.out.2.below hb7⟩
  clear hg7 hr7 hb7
  go_simp
  refine hK.out _ _ ?_ (fun hHeld => ?_)
  · (first | exact ⟨HD7.out.nine.1, HD7.out.nine.2.1, HD7.out.nine.2.2.1, HD7.out.nine.2.2.2.1, HD7.out.nine.2.2.2.2.1, HD7.out.nine.2.2.2.2.2.1, HD7.out.nine.2.2.2.2.2.2.1, HD7.out.nine.2.2.2.2.2.2.2.1, HD7.out.nine.2.2.2.2.2.2.2.2, HD7.out.box.cells.2.1⟩ | exact ⟨HD6.out.nine.1, HD6.out.nine.2.1, HD6.out.nine.2.2.1, HD6.out.nine.2.2.2.1, HD6.out.nine.2.2.2.2.1, HD6.out.nine.2.2.2.2.2.1, HD6.out.nine.2.2.2.2.2.2.1, HD6.out.nine.2.2.2.2.2.2.2.1, HD6.out.nine.2.2.2.2.2.2.2.2, HD6.out.box.cells.2.1⟩ | exact ⟨HD5.out.drew.nine.1, HD5.out.drew.nine.2.1, HD5.out.drew.nine.2.2.1, HD5.out.drew.nine.2.2.2.1, HD5.out.drew.nine.2.2.2.2.1, HD5.out.drew.nine.2.2.2.2.2.1, HD5.out.drew.nine.2.2.2.2.2.2.1, HD5.out.drew.nine.2.2.2.2.2.2.2.1, HD5.out.drew.nine.2.2.2.2.2.2.2.2, HD5.out.drew.box.cells.2.1⟩)
  clear hK K
  (try simp only [Act.put, List.setIfInBounds_toArray, List.set_cons_zero, List.set_cons_succ])
  refine take_w (i := 7) (oi := ?oZ48) (v := ?vZ48) ?hiZ48 (by kernel_rfl) (by kernel_rfl) (by kernel_rfl) ?hQZ48 ?hwZ48 ?hyZ48 (by assumption) ?restZ48
  case hiZ48 => (simp only [List.getElem?_toArray, List.getElem?_cons_succ, List.getElem?_cons_zero] <;> rfl)
  case hQZ48 => exact (fun _ _ _ h => h)
  case hwZ48 => rfl
  case hyZ48 => (intro w hSw; (try dsimp only at hSw); go_simp; try with_reducible rfl)
  (try simp only [Act.put, List.setIfInBounds_toArray, List.set_cons_zero, List.set_cons_succ])
  refine wpAnyH_done (by kernel_rfl) ?_ _
  
  clear hHeld
  go_upto_region 16 with fail
  refine wp_region_held_drew (S := (fun W => W.cell? ⟨w.heap.size, 0, none⟩ = some (.slice (some ⟨gk, 0, none⟩) 64 ck) ∧ W.cell? ⟨w.heap.size, 1, none⟩ = some (.int .u32 1779033703) ∧ W.cell? ⟨w.heap.size, 2, none⟩ = some (.int .u32 3144134277) ∧ W.cell? ⟨w.heap.size, 3, none⟩ = some (.int .u32 1013904242) ∧ W.cell? ⟨w.heap.size, 4, none⟩ = some (.int .u32 2773480762) ∧ W.cell? ⟨w.heap.size, 5, none⟩ = some (.int .u32 1359893119) ∧ W.cell? ⟨w.heap.size, 6, none⟩ = some (.int .u32 2600822924) ∧ W.cell? ⟨w.heap.size, 7, none⟩ = some (.int .u32 528734635) ∧ W.cell? ⟨w.heap.size, 8, none⟩ = some (.int .u32 1541459225))) (by kernel_rfl) HD7.out.drew.nine (fun hHeld => ?_)
  refine take_w (i := 0) (oi := ?oZ49) (v := ?vZ49) ?hiZ49 (by kernel_rfl) (by kernel_rfl) (by kernel_rfl) ?hQZ49 ?hwZ49 ?hyZ49 (by assumption) ?restZ49
  case hiZ49 => (simp only [List.getElem?_toArray, List.getElem?_cons_zero] <;> rfl)
  case hQZ49 => exact (fun _ _ _ h => h)
  case hwZ49 => rfl
  case hyZ49 => (intro w hSw; (try dsimp only at hSw); go_simp; try with_reducible rfl)
  (try simp only [Act.put, List.setIfInBounds_toArray, List.set_cons_zero, List.set_cons_succ])
  refine take_w (i := 1) (oi := ?oZ50) (v := ?vZ50) ?hiZ50 (by kernel_rfl) (by kernel_rfl) (by kernel_rfl) ?hQZ50 ?hwZ50 ?hyZ50 (by assumption) ?restZ50
  case hiZ50 => (simp only [List.getElem?_toArray, List.getElem?_cons_succ, List.getElem?_cons_zero] <;> rfl)
  case hQZ50 => exact (fun _ _ _ h => h)
  case hwZ50 => rfl
  case hyZ50 => (intro w hSw; (try dsimp only at hSw); go_simp; try with_reducible rfl)
  (try simp only [Act.put, List.setIfInBounds_toArray, List.set_cons_zero, List.set_cons_succ])
  refine take_w (i := 2) (oi := ?oZ51) (v := ?vZ51) ?hiZ51 (by kernel_rfl) (by kernel_rfl) (by kernel_rfl) ?hQZ51 ?hwZ51 ?hyZ51 (by assumption) ?restZ51
  case hiZ51 => (simp only [List.getElem?_toArray, List.getElem?_cons_succ, List.getElem?_cons_zero] <;> rfl)
  case hQZ51 => exact (fun _ _ _ h => h)
  case hwZ51 => rfl
  case hyZ51 => (intro w hSw; (try dsimp only at hSw); go_simp; try with_reducible rfl)
  (try simp only [Act.put, List.setIfInBounds_toArray, List.set_cons_zero, List.set_cons_succ])
  refine take_w (i := 3) (oi := ?oZ52) (v := ?vZ52) ?hiZ52 (by kernel_rfl) (by kernel_rfl) (by kernel_rfl) ?hQZ52 ?hwZ52 ?hyZ52 (by assumption) ?restZ52
  case hiZ52 => (simp only [List.getElem?_toArray, List.getElem?_cons_succ, List.getElem?_cons_zero] <;> rfl)
  case hQZ52 => exact (fun _ _ _ h => h)
  case hwZ52 => rfl
  case hyZ52 => (intro w hSw; (try dsimp only at hSw); go_simp; try with_reducible rfl)
  (try simp only [Act.put, List.setIfInBounds_toArray, List.set_cons_zero, List.set_cons_succ])
  refine take_w (i := 4) (oi := ?oZ53) (v := ?vZ53) ?hiZ53 (by kernel_rfl) (by kernel_rfl) (by kernel_rfl) ?hQZ53 ?hwZ53 ?hyZ53 (by assumption) ?restZ53
  case hiZ53 => (simp only [List.getElem?_toArray, List.getElem?_cons_succ, List.getElem?_cons_zero] <;> rfl)
  case hQZ53 => exact (fun _ _ _ h => h)
  case hwZ53 => rfl
  case hyZ53 => (intro w hSw; (try dsimp only at hSw); go_simp; try with_reducible rfl)
  (try simp only [Act.put, List.setIfInBounds_toArray, List.set_cons_zero, List.set_cons_succ])
  refine wpAnyH_ready (rs := [5]) (by kernel_rfl) (by simp) ?_
  refine AllReadyH.cons (o := ?oZ54) ?hiZ54 (fun K hK => ?stZ54) AllReadyH.nil
  case hiZ54 => (simp only [List.getElem?_toArray, List.getElem?_cons_succ, List.getElem?_cons_zero] <;> rfl)
  go_simp
  go_at_call 44
  (with_reducible refine (refNode_any a4 n4 cc4 zs4 _ nv 32 ((sumL (pairL t.key (valT nv t))).take nv) a5 n5 cc5 zs5 _ ?_ ?_ ?_ ?_ ?_ ?_).mono ?_)
  · exact HI7.out.1.below (Below.refl _ _).drew
  · omega
  · exact HR7.out.below (Below.refl _ _).drew
  · omega
  · exact HI7.out.2.below (Below.refl _ _).drew
  · omega
  rintro _ w8 ⟨g8, c8, rfl, ho8, hb8⟩
  have HD8 := Lib.hid (HD7.out.drew.below hb8)
  have HP8 := Lib.hid (InBytes.of_own ho8 (nodeL_bytes HI7.out.1.bytes HR7.out.bytes HI7.out.2.bytes))
  clear ho8 hb8
  go_simp
  refine hK.out _ _ ?_ (fun hHeld => ?_)
  · (first | exact HD9.out.nine | exact HD8.out.nine | exact HD7.out.drew.nine)
  clear hK K
  (try simp only [Act.put, List.setIfInBounds_toArray, List.set_cons_zero, List.set_cons_succ])
  refine wpAnyH_ready (rs := [6]) (by kernel_rfl) (by simp) ?_
  refine AllReadyH.cons (o := ?oZ55) ?hiZ55 (fun K hK => ?stZ55) AllReadyH.nil
  case hiZ55 => (simp only [List.getElem?_toArray, List.getElem?_cons_succ, List.getElem?_cons_zero] <;> rfl)
  go_simp
  go_at_call 41
  (with_reducible refine (HD8.out.of hk1 hk2 HP8.out ?_).mono ?_)
  · have hq := HI7.out.1.len
    have hq2 := HI7.out.2.len
    have hq3 := HR7.out.len
    rw [nodeL_len]
    omega
  rintro _ w9 ⟨g9, hg9, rfl, hr9, hb9⟩
  have HD9 := Lib.hid (HD8.out.below hb9)
  have HR9 := Lib.hid (of_in32 hr9 hk2)
  clear hg9 hr9 hb9
  go_simp
  refine hK.out _ _ ?_ (fun hHeld => ?_)
  · (first | exact HD9.out.nine | exact HD8.out.nine | exact HD7.out.drew.nine)
  clear hK K
  (try simp only [Act.put, List.setIfInBounds_toArray, List.set_cons_zero, List.set_cons_succ])
  refine take_w (i := 7) (oi := ?oZ56) (v := ?vZ56) ?hiZ56 (by kernel_rfl) (by kernel_rfl) (by kernel_rfl) ?hQZ56 ?hwZ56 ?hyZ56 (by assumption) ?restZ56
  case hiZ56 => (simp only [List.getElem?_toArray, List.getElem?_cons_succ, List.getElem?_cons_zero] <;> rfl)
  case hQZ56 => exact (fun _ _ _ h => h)
  case hwZ56 => rfl
  case hyZ56 => (intro w hSw; (try dsimp only at hSw); go_simp; try with_reducible rfl)
  (try simp only [Act.put, List.setIfInBounds_toArray, List.set_cons_zero, List.set_cons_succ])
  refine take_w (i := 8) (oi := ?oZ57) (v := ?vZ57) ?hiZ57 (by kernel_rfl) (by kernel_rfl) (by kernel_rfl) ?hQZ57 ?hwZ57 ?hyZ57 (by assumption) ?restZ57
  case hiZ57 => (simp only [List.getElem?_toArray, List.getElem?_cons_succ, List.getElem?_cons_zero] <;> rfl)
  case hQZ57 => exact (fun _ _ _ h => h)
  case hwZ57 => rfl
  case hyZ57 => (intro w hSw; (try dsimp only at hSw); go_simp; try with_reducible rfl)
  (try simp only [Act.put, List.setIfInBounds_toArray, List.set_cons_zero, List.set_cons_succ])
  refine wpAnyH_done (by kernel_rfl) ?_ _
  
  clear hHeld
  go_wp2_with fail
  go_ret2
  refine ⟨_, _, _, true, rfl, .inl ⟨rfl, _, ?_, HR9.out⟩, HD9.out.b⟩
  rw [digT_node HH.out.1 HH.out.2.1 HNV.out HH.out.2.2, HZ.out.1, HZ.out.2]
end Go.Proofs.YtcplfpnaepdddaaDoor
