/- The contracts of the program's digests of a tree's parts. -/
import Derived.Test.YtcplfpnaepdddaaDoorPrTreeB
import Derived.Test.YtcplfpnaepdddaaDoorTreeDig
import Derived.Test.YtcplfpnaepdddaaDoorPrOf
import Derived.Lib.SliceRun
namespace Go.Proofs.YtcplfpnaepdddaaDoor
open Go.RowKit
set_option linter.unusedVariables false

/-- Bytes in new memory. -/
structure NewB (w w' : World) (a : Option Addr) (n c : Nat) (zs : List Int) : Prop where
  inb : InBytes w' a n c zs
  new : ∀ ad, a = some ad → w.heap.size ≤ ad.block
  free : ∀ ad o, a = some ad → w'.frozen? ⟨ad.block, o, none⟩ = false
/-- No bytes, and an error. -/
def ErrPost (w : World) (k : Nat) (e : Ending) (w' : World) : Prop := ∃ a c, e = .returned (.tuple #[.slice a 0 c, codeV k]) ∧ Below w.heap.size w w'
/-- New bytes, and no error. -/
def BytesPost (w : World) (zs : List Int) (e : Ending) (w' : World) : Prop := ∃ a c, e = .returned (.tuple #[.slice a zs.length c, .nilIface]) ∧ NewB w w' a zs.length c zs ∧ Below w.heap.size w w'
theorem own_free {w : World} {base g n c : Nat} {e : TypeId} {xs : List Value} (h : w.ownsRow base e 1 (.slice (some ⟨g, 0, none⟩) n c) n xs) (o : Nat) : base ≤ g ∧ w.frozen? ⟨g, o, none⟩ = false := by
  rcases h.2 with ⟨h1, _⟩ | ⟨g', cap, cur, h1, h2, h3, _⟩
  · cases h1
  · injection h1 with h1
    injection h1 with h1
    injection h1 with h1
    subst h1
    exact ⟨h2, by simp [World.frozen?, h3]⟩
/-- What digest.Of answers is bytes in new memory. -/
theorem OfPost2.bytes {w w' : World} {k : Nat} {bs : List Int} {e : Ending} (hk : k ≤ 32) (h : OfPost2 w k bs e w') : BytesPost w ((sumL bs).take k) e w' := by
  obtain ⟨g, hg, rfl, hr, hb⟩ := h
  have hl := take_sum_len hk bs
  refine ⟨some ⟨g, 0, none⟩, k, by rw [hl], ⟨by rw [hl]; exact of_in hr hk, fun ad h => ?_, fun ad o h => ?_⟩, hb⟩
  · injection h with h
    rw [← h]
    exact hg
  · injection h with h
    rw [← h]
    exact hr.frozen o

set_option maxRecDepth 100000 in
set_option maxHeartbeats 4000000 in
theorem cloneN_any (ad : Addr) (n cap : Nat) (bs : List Int) (w : World) (hin : InBytes w (some ad) n cap bs) (hn : n ≤ 140737488355328) :
    Calls Tryd.prog 38 #[.slice (some ad) n cap] w (fun e w' => ∃ g c, e = .returned (.slice (some ⟨g, 0, none⟩) n c) ∧ w'.ownsRow w.heap.size 5 1 (.slice (some ⟨g, 0, none⟩) n c) n (bs.map (Value.int .u8)) ∧ Below w.heap.size w w') := by
  obtain ⟨i0, hi0, hz0, hz1, hz2⟩ := info_parts infoU8
  have hq : ∀ (w : World) (a : Option Addr) (n c n' c' : Nat), (binOp .eql 22 (.slice a n c) (.slice none n' c')).run Tryd.prog w = .ok (.bool a.isNone) w := fun w a n c n' c' => Lib.run_eql_slice_nil w _ _ a n c n' c' Tryd.underlying22
  have HIN := Lib.hid hin
  clear hin
  have e : (some ad : Option Addr).isNone = false := rfl
  go_enter Tryd.func38, Tryd.ntmps38
  go_wp2_with (first
    | (at_builtin
       refine wpList_append_bytes' _ rfl (.tmp 5) (.tmp 6) 22 rfl w.heap.size 5 i0 _ 1 Tryd.underlying22 hi0 hz0 hz1 hz2 rfl w.heap.size 0 0 [] rfl (own_new w 5 .u8 [] w.heap.size (Nat.le_refl _) (by simp [maxLen])) (some ad) n cap bs rfl (HIN.out.below ((Below.refl _ _).alloc (Nat.le_refl _) _)) (by simp only [maxLen]; omega) (by omega) (by simp) ?_
       intro g1 c1 w1 hown1 hg1
       have HO1 := Lib.hid hown1
       have HB1 : Hid (Below w.heap.size w w1) := Lib.hid (below_only ((Below.refl _ _).alloc (Nat.le_refl _) _) hg1 (by simp) (Nat.le_refl _))
       clear hown1 hg1))
  go_ret
  have ho := HO1.out
  rw [List.nil_append, Nat.zero_add] at ho
  exact ⟨g1, c1, rfl, ho, HB1.out⟩

theorem cloneP_any (a : Option Addr) (n cap : Nat) (bs : List Int) (w : World) (hin : InBytes w a n cap bs) (hn : n ≤ 140737488355328) (h0 : 0 < n) :
    Calls Tryd.prog 38 #[.slice a n cap] w (fun e w' => ∃ g c, e = .returned (.slice (some ⟨g, 0, none⟩) n c) ∧ w'.ownsRow w.heap.size 5 1 (.slice (some ⟨g, 0, none⟩) n c) n (bs.map (Value.int .u8)) ∧ Below w.heap.size w w') := by
  obtain ⟨g, off, rfl, _, _⟩ := hin.place h0
  exact cloneN_any _ n cap bs w hin hn

theorem part_lens {t : Tr} (hp : partB t = true) : t.key.length ≤ 80 ∧ t.val.length ≤ 1024 := by
  unfold partB at hp
  split at hp
  · simp only [Bool.and_eq_true, decide_eq_true_eq] at hp; omega
  · split at hp
    · simp only [Bool.and_eq_true, decide_eq_true_eq] at hp; omega
    · split at hp
      · simp only [Bool.and_eq_true, decide_eq_true_eq] at hp; omega
      · split at hp
        · simp only [Bool.and_eq_true, decide_eq_true_eq] at hp; omega
        · cases hp

set_option maxRecDepth 100000 in
set_option maxHeartbeats 4000000 in
theorem pairDigest_any (k : Nat) (hk1 : 1 ≤ k) (hk2 : k ≤ 32) (t : Tr) (h : TH) (w : World) (ht : InTree w h t) (hT : TabLies w) (hpb : partB t = true) (hv : (valT k t).length = k) :
    Calls Tryd.prog 39 #[.int .i64 k, h.v] w (OfPost2 w k (pairL t.key (valT k t))) := by
  unfold TH.v
  obtain ⟨hl1, hl2⟩ := part_lens hpb
  obtain ⟨H, hp⟩ := ht.parts
  have hkl := hp.key.len
  have hvl := hp.val.len
  have hdl := hp.dig.len
  have HK := Lib.hid hp.hk
  have HP := Lib.hid hp
  have HT := Lib.hid hT
  have hbox := Box.new w 25 h
  have HX := Lib.hid hbox
  obtain ⟨x0, x1, x2, x3, x4⟩ := hbox.cells
  have hw1 : Below w.heap.size w (w.alloc (.cells #[.int .i64 h.k, .slice h.ka h.kn h.kc, .slice h.va h.vn h.vc, .slice h.da h.dn h.dc, .slice h.ta h.tn h.tc] 25)) := (Below.refl _ _).alloc (Nat.le_refl _) _
  have HB := Lib.hid hw1
  clear hp ht hT hbox hw1
  go_enter Tryd.func39, Tryd.ntmps39
  cases f1 : (h.k == 1)
  · have hne : ¬ t.k = 1 := by rw [← HK.out]; simpa using f1
    have hval : valT k t = t.dig := by unfold valT; rw [if_neg hne]
    rw [hval] at hv ⊢
    have hdn : (h.dn : Int) = k := by omega
    have HDB := Lib.hid HP.out.dig.bytes
    clear hval hne
    go_wp2_with (first
      | (go_at_call 53
         (with_reducible refine (pair_ok (k : Int) h.ka h.kn h.kc t.key h.da h.dn h.dc t.dig _ (HP.out.key.below HB.out) (by omega) (HP.out.dig.below HB.out) (by omega) (by omega) (by omega)).mono ?_)
         rintro _ w5 ⟨g5, c5, rfl, ho5, hb5⟩
         have HB5 : Hid (Below w.heap.size w w5) := Lib.hid (HB.out.trans (hb5.mono HB.out.size))
         have HI5 := Lib.hid (InBytes.of_own ho5 (pairL_bytes HP.out.key.bytes (by omega) HDB.out))
         clear ho5 hb5)
      | (go_at_call 36
         (with_reducible refine (of_ok k _ _ _ _ _ HI5.out ?_ (HT.out.below HB5.out (Nat.le_refl _)) hk1 hk2).mono ?_)
         · have hq := pairL_len (a := t.key) (b := t.dig) (by omega)
           omega
         rintro _ w6 hof
         obtain ⟨g6, hg6, rfl, hr6, hb6⟩ := hof
         have HB6 : Hid (Below w.heap.size w w6) := Lib.hid (HB5.out.trans (hb6.mono HB5.out.size))
         have HR6 := Lib.hid (And.intro (Nat.le_trans HB5.out.size hg6) hr6)
         clear hg6 hr6 hb6))
    go_ret2
    exact ⟨g6, HR6.out.1, rfl, HR6.out.2, HB6.out⟩
  · have he : t.k = 1 := by rw [← HK.out]; simpa using f1
    have hval : valT k t = (sumL (valL t.val)).take k := by unfold valT; rw [if_pos he]
    rw [hval] at hv ⊢
    have HDB : Hid (Bytes8 ((sumL (valL t.val)).take k)) := Lib.hid (fun z hz => sumL_bytes _ z (List.mem_of_mem_take hz))
    clear hval he
    go_wp2_with (first
      | (go_at_call 52
         (with_reducible refine (value_any h.va h.vn h.vc t.val _ (HP.out.val.below HB.out) (by omega)).mono ?_)
         rintro _ w2 ⟨g2, c2, rfl, ho2, hb2⟩
         have HB2 : Hid (Below w.heap.size w w2) := Lib.hid (HB.out.trans (hb2.mono HB.out.size))
         have HI2 := Lib.hid (InBytes.of_own ho2 (valL_bytes HP.out.val.bytes))
         have HX2 := Lib.hid (HX.out.below hb2 HX.out.lt)
         clear ho2 hb2)
      | (go_at_call 36
         (with_reducible refine (of_ok k (some ⟨g2, 0, none⟩) (valL t.val).length c2 (valL t.val) w2 HI2.out ?_ (HT.out.below HB2.out (Nat.le_refl _)) hk1 hk2).mono ?_)
         · rw [valL_len]; omega
         rintro _ w3 ⟨g3, hg3, rfl, hr3, hb3⟩
         have HB3 : Hid (Below w.heap.size w w3) := Lib.hid (HB2.out.trans (hb3.mono HB2.out.size))
         have HI3 := Lib.hid (of_in hr3 hk2)
         have hx3 := HX2.out.below hb3 HX2.out.lt
         clear x0 x1 x2 x3 x4
         obtain ⟨x0, x1, x2, x3, x4⟩ := hx3.cells
         clear hg3 hr3 hb3 hx3)
      | (go_at_call 53
         (with_reducible refine (pair_ok (k : Int) h.ka h.kn h.kc t.key (some ⟨g3, 0, none⟩) k k ((sumL (valL t.val)).take k) _ (HP.out.key.below HB3.out) (by omega) HI3.out (by omega) (by omega) (by omega)).mono ?_)
         rintro _ w5 ⟨g5, c5, rfl, ho5, hb5⟩
         have HB5 : Hid (Below w.heap.size w w5) := Lib.hid (HB3.out.trans (hb5.mono HB3.out.size))
         have HI5 := Lib.hid (InBytes.of_own ho5 (pairL_bytes HP.out.key.bytes (by omega) HDB.out))
         clear ho5 hb5)
      | (go_at_call 36
         (with_reducible refine (of_ok k _ _ _ _ _ HI5.out ?_ (HT.out.below HB5.out (Nat.le_refl _)) hk1 hk2).mono ?_)
         · have hq := pairL_len (a := t.key) (b := ((sumL (valL t.val)).take k)) (by omega)
           omega
         rintro _ w6 hof
         obtain ⟨g6, hg6, rfl, hr6, hb6⟩ := hof
         have HB6 : Hid (Below w.heap.size w w6) := Lib.hid (HB5.out.trans (hb6.mono HB5.out.size))
         have HR6 := Lib.hid (And.intro (Nat.le_trans HB5.out.size hg6) hr6)
         clear hg6 hr6 hb6))
    go_ret2
    exact ⟨g6, HR6.out.1, rfl, HR6.out.2, HB6.out⟩

/-- What the world is like inside the closure of Digest. -/
structure QW (k gw gc : Nat) (w W : World) (h : TH) (t : Tr) : Prop where
  box : Box W 25 w.heap.size h
  clo : Var1 W 54 gc (.func (.func 35) #[] #[.pointer (some ⟨gw, 0, none⟩), .pointer (some ⟨gc, 0, none⟩)])
  wid : Var1 W 3 gw (.int .i64 k)
  tab : TabLies W
  t : InTree W h t
  b : Below w.heap.size w W
theorem QW.below {k gw gc : Nat} {w W W' : World} {h : TH} {t : Tr} (d : QW k gw gc w W h t) (hb : Below W.heap.size W W') : QW k gw gc w W' h t :=
  ⟨d.box.below hb d.box.lt, d.clo.below hb d.clo.lt, d.wid.below hb d.wid.lt, d.tab.below hb (Nat.le_refl _), d.t.lower hb, d.b.trans (hb.mono d.b.size)⟩
theorem QW.drew {k gw gc : Nat} {w W : World} {h : TH} {t : Tr} (d : QW k gw gc w W h t) : QW k gw gc w W.drew h t := d.below (Below.refl _ _).drew
theorem QW.new {k gw gc : Nat} (w : World) {h : TH} {t : Tr} (hc : Var1 w 54 gc (.func (.func 35) #[] #[.pointer (some ⟨gw, 0, none⟩), .pointer (some ⟨gc, 0, none⟩)])) (hw : Var1 w 3 gw (.int .i64 k)) (hT : TabLies w) (ht : InTree w h t) : QW k gw gc w (w.alloc (.cells #[.int .i64 h.k, .slice h.ka h.kn h.kc, .slice h.va h.vn h.vc, .slice h.da h.dn h.dc, .slice h.ta h.tn h.tc] 25)) h t :=
  ⟨Box.new w _ h, hc.below ((Below.refl _ _).alloc (Nat.le_refl _) _) hc.lt, hw.below ((Below.refl _ _).alloc (Nat.le_refl _) _) hw.lt, hT.below ((Below.refl w.heap.size w).alloc (Nat.le_refl _) _) (Nat.le_refl _), ht.lower ((Below.refl _ _).alloc (Nat.le_refl _) _), (Below.refl _ _).alloc (Nat.le_refl _) _⟩
theorem digT_split {k : Nat} {t : Tr} {zs : List Int} (h0 : t.k ≠ 0) (h3 : t.k ≠ 3) (h2 : t.kids.length = 2) (hd : digT k t = some zs) :
    (valT k t).length = k ∧ ∃ l r, digT k (t.kids[0]'(by omega)) = some l ∧ digT k (t.kids[1]'(by omega)) = some r ∧ zs = (sumL (nodeL l ((sumL (pairL t.key (valT k t))).take k) r)).take k := by
  by_cases hv : (valT k t).length = k
  · refine ⟨hv, ?_⟩
    rw [digT_node h0 h3 hv h2] at hd
    split at hd
    · rename_i l r e1 e2
      injection hd with hd
      exact ⟨l, r, e1, e2, hd.symm⟩
    · cases hd
  · rw [digT_bad h0 h3 hv] at hd
    cases hd

set_option maxRecDepth 100000 in
set_option maxHeartbeats 4000000 in
theorem digC_any (k : Nat) (hk1 : 1 ≤ k) (hk2 : k ≤ 32) : ∀ (t : Tr) (h : TH) (w : World) (gw gc : Nat), InTree w h t → TabLies w → formedT t = true → Var1 w 3 gw (.int .i64 k) → Var1 w 54 gc (.func (.func 35) #[] #[.pointer (some ⟨gw, 0, none⟩), .pointer (some ⟨gc, 0, none⟩)]) → ∀ zs, digT k t = some zs →
    Calls Tryd.prog 35 #[h.v, .pointer (some ⟨gw, 0, none⟩), .pointer (some ⟨gc, 0, none⟩)] w (BytesPost w zs) := by
  intro t
  induction t using Tr.ind with
  | h t ih =>
  intro h w gw gc ht hT hf hw hc zs hdg
  obtain ⟨hpb, hfk⟩ := formed_kids hf
  obtain ⟨hlk, hlv⟩ := part_lens hpb
  unfold TH.v
  obtain ⟨H, hp⟩ := ht.parts
  have htl := hp.len
  have htc := hp.sl.le
  have htm := Nat.le_trans hp.sl.le hp.sl.max
  have hdl := hp.dig.len
  simp only [maxLen] at htm
  have HK := Lib.hid hp.hk
  have HP := Lib.hid hp
  have IH := Lib.hid ih
  have hd0 := QW.new w hc hw hT ht
  have HD0 := Lib.hid hd0
  obtain ⟨x0, x1, x2, x3, x4⟩ := hd0.box.cells
  have HF := Lib.hid hfk
  clear hp ht ih hT hc hw hd0 hf hfk
  go_enter Tryd.func35, Tryd.ntmps35
  by_cases k0 : t.k = 0
  · have e1 : zs = (sumL [3]).take k := by rw [digT_0 k0] at hdg; injection hdg with hdg; exact hdg.symm
    have hk0 : h.k = 0 := by rw [HK.out, k0]
    have hkb : (h.k == 0) = true := by rw [hk0]; rfl
    have b3 : Bytes8 [3] := fun z hz => by simp at hz; omega
    clear hdg k0 hk0
    go_upto_region 3 with fail
    generalize (w.alloc (.cells #[.int .i64 h.k, .slice h.ka h.kn h.kc, .slice h.va h.vn h.vc, .slice h.da h.dn h.dc, .slice h.ta h.tn h.tc] 25)) = w0 at *
    refine wp_region_held_drew (S := (fun W => W.cell? ⟨gw, 0, none⟩ = some (.int .i64 k))) (by kernel_rfl) HD0.out.drew.wid.cell (fun hHeld => ?_)
    refine take_w (i := 0) (oi := ?oZ1) (v := ?vZ1) ?hiZ1 (by kernel_rfl) (by kernel_rfl) (by kernel_rfl) ?hQZ1 ?hwZ1 ?hyZ1 (by assumption) ?restZ1
    case hiZ1 => (simp only [List.getElem?_toArray, List.getElem?_cons_zero] <;> rfl)
    case hQZ1 => exact (fun _ _ _ h => h)
    case hwZ1 => rfl
    case hyZ1 => (intro w hSw; (try dsimp only at hSw); go_simp; try with_reducible rfl)
    (try simp only [Act.put, List.setIfInBounds_toArray, List.set_cons_zero, List.set_cons_succ])
    refine wpAnyH_ready (rs := [1]) (by kernel_rfl) (by simp) ?_
    refine AllReadyH.cons (o := ?oZ2) ?hiZ2 (fun K hK => ?stZ2) AllReadyH.nil
    case hiZ2 => (simp only [List.getElem?_toArray, List.getElem?_cons_succ, List.getElem?_cons_zero] <;> rfl)
    go_simp
    go_at_call 37
    (with_reducible refine (none_any _).mono ?_)
    rintro _ w1 ⟨g1, c1, rfl, ho1, hb1⟩
    have HD1 := Lib.hid (HD0.out.drew.below hb1)
    have HI1 : Hid (InBytes w1 (some ⟨g1, 0, none⟩) 1 c1 [3]) := Lib.hid (InBytes.of_own ho1 b3)
    clear ho1 hb1
    go_simp
    refine hK.out _ _ ?_ (fun hHeld => ?_)
    · (first | exact HD2.out.wid.cell | exact HD1.out.wid.cell | exact HD0.out.drew.wid.cell)
    clear hK K
    (try simp only [Act.put, List.setIfInBounds_toArray, List.set_cons_zero, List.set_cons_succ])
    refine wpAnyH_ready (rs := [2]) (by kernel_rfl) (by simp) ?_
    refine AllReadyH.cons (o := ?oZ3) ?hiZ3 (fun K hK => ?stZ3) AllReadyH.nil
    case hiZ3 => (simp only [List.getElem?_toArray, List.getElem?_cons_succ, List.getElem?_cons_zero] <;> rfl)
    go_simp
    go_at_call 36
    (with_reducible refine (of_ok k (some ⟨g1, 0, none⟩) 1 c1 [3] _ HI1.out (by omega) HD1.out.tab hk1 hk2).mono ?_)
    rintro _ w2 ⟨g2, hg2, rfl, hr2, hb2⟩
    have HD2 := Lib.hid (HD1.out.below hb2)
    have HR2 := Lib.hid (And.intro (Nat.le_trans HD1.out.b.size hg2) hr2)
    clear hg2 hr2 hb2
    go_simp
    refine hK.out _ _ ?_ (fun hHeld => ?_)
    · (first | exact HD2.out.wid.cell | exact HD1.out.wid.cell | exact HD0.out.drew.wid.cell)
    clear hK K
    (try simp only [Act.put, List.setIfInBounds_toArray, List.set_cons_zero, List.set_cons_succ])
    refine take_w (i := 3) (oi := ?oZ4) (v := ?vZ4) ?hiZ4 (by kernel_rfl) (by kernel_rfl) (by kernel_rfl) ?hQZ4 ?hwZ4 ?hyZ4 (by assumption) ?restZ4
    case hiZ4 => (simp only [List.getElem?_toArray, List.getElem?_cons_succ, List.getElem?_cons_zero] <;> rfl)
    case hQZ4 => exact (fun _ _ _ h => h)
    case hwZ4 => rfl
    case hyZ4 => (intro w hSw; (try dsimp only at hSw); go_simp; try with_reducible rfl)
    (try simp only [Act.put, List.setIfInBounds_toArray, List.set_cons_zero, List.set_cons_succ])
    refine take_w (i := 4) (oi := ?oZ5) (v := ?vZ5) ?hiZ5 (by kernel_rfl) (by kernel_rfl) (by kernel_rfl) ?hQZ5 ?hwZ5 ?hyZ5 (by assumption) ?restZ5
    case hiZ5 => (simp only [List.getElem?_toArray, List.getElem?_cons_succ, List.getElem?_cons_zero] <;> rfl)
    case hQZ5 => exact (fun _ _ _ h => h)
    case hwZ5 => rfl
    case hyZ5 => (intro w hSw; (try dsimp only at hSw); go_simp; try with_reducible rfl)
    (try simp only [Act.put, List.setIfInBounds_toArray, List.set_cons_zero, List.set_cons_succ])
    refine take_w (i := 5) (oi := ?oZ6) (v := ?vZ6) ?hiZ6 (by kernel_rfl) (by kernel_rfl) (by kernel_rfl) ?hQZ6 ?hwZ6 ?hyZ6 (by assumption) ?restZ6
    case hiZ6 => (simp only [List.getElem?_toArray, List.getElem?_cons_succ, List.getElem?_cons_zero] <;> rfl)
    case hQZ6 => exact (fun _ _ _ h => h)
    case hwZ6 => rfl
    case hyZ6 => (intro w hSw; (try dsimp only at hSw); go_simp; try with_reducible rfl)
    (try simp only [Act.put, List.setIfInBounds_toArray, List.set_cons_zero, List.set_cons_succ])
    refine take_w (i := 6) (oi := ?oZ7) (v := ?vZ7) ?hiZ7 (by kernel_rfl) (by kernel_rfl) (by kernel_rfl) ?hQZ7 ?hwZ7 ?hyZ7 (by assumption) ?restZ7
    case hiZ7 => (simp only [List.getElem?_toArray, List.getElem?_cons_succ, List.getElem?_cons_zero] <;> rfl)
    case hQZ7 => exact (fun _ _ _ h => h)
    case hwZ7 => rfl
    case hyZ7 => (intro w hSw; (try dsimp only at hSw); go_simp; try with_reducible rfl)
    (try simp only [Act.put, List.setIfInBounds_toArray, List.set_cons_zero, List.set_cons_succ])
    refine wpAnyH_done (by kernel_rfl) ?_ _
    
    go_wp2_with fail
    go_ret2
    subst e1
    exact OfPost2.bytes hk2 ⟨g2, HR2.out.1, rfl, HR2.out.2, HD2.out.b⟩
  have hkb0 : (h.k == 0) = false := by rw [HK.out]; simpa using k0
  by_cases k3 : t.k = 3
  · have hkb3 : (h.k == 3) = true := by rw [HK.out]; simpa using k3
    rw [digT_3 k3] at hdg
    split at hdg
    · rename_i hdw
      injection hdg with hdg
      subst hdg
      have hd0 : 0 < h.dn := by omega
      have hd1 : h.dn ≤ 32 := by omega
      have HDW := Lib.hid (And.intro hdl hdw)
      clear k3 k0 hdl hdw
      go_upto_region 5 with fail
      generalize (w.alloc (.cells #[.int .i64 h.k, .slice h.ka h.kn h.kc, .slice h.va h.vn h.vc, .slice h.da h.dn h.dc, .slice h.ta h.tn h.tc] 25)) = w0 at *
      go_wp2_with (first
        | (go_at_call 38
           (with_reducible refine (cloneP_any h.da h.dn h.dc t.dig _ (HP.out.dig.below HD0.out.b) (by omega) hd0).mono ?_)
           rintro _ w1 ⟨g1, c1, rfl, ho1, hb1⟩
           have HD1 := Lib.hid (HD0.out.below hb1)
           have HO1 := Lib.hid ho1
           clear ho1 hb1))
      go_ret2
      refine ⟨some ⟨g1, 0, none⟩, c1, by rw [HDW.out.1]; rfl, ⟨by rw [HDW.out.1]; exact InBytes.of_own HO1.out HP.out.dig.bytes, fun ad hh => ?_, fun ad o hh => ?_⟩, HD1.out.b⟩
      · injection hh with hh
        rw [← hh]
        exact Nat.le_trans HD0.out.b.size (own_free HO1.out 0).1
      · injection hh with hh
        rw [← hh]
        exact (own_free HO1.out o).2
    · cases hdg
  have hkb3 : (h.k == 3) = false := by rw [HK.out]; simpa using k3
  rcases part_kids hpb with ⟨_, hk | hk⟩ | ⟨h2, hk⟩
  · exact absurd hk k0
  · exact absurd hk k3
  obtain ⟨hvl, ls, rs, hdL, hdR, hzs⟩ := digT_split k0 k3 h2 hdg
  have l0 : 0 < t.kids.length := by omega
  have l1 : 1 < t.kids.length := by omega
  have hll := digT_len hk2 hdL
  have hlr := digT_len hk2 hdR
  have HDL := Lib.hid hdL
  have HDR := Lib.hid hdR
  clear hdL hdR hdg hk k0 k3
  go_upto_region 6 with fail
  obtain ⟨g, off, hta, hg, -⟩ := (HP.out.below HD0.out.b).place (by omega)
  have HTA := Lib.hid hta
  rw [hta]
  generalize hW0 : (w.alloc (.cells #[.int .i64 h.k, .slice h.ka h.kn h.kc, .slice h.va h.vn h.vc, .slice h.da h.dn h.dc, .slice (some ⟨g, off, none⟩) h.tn h.tc] 25)) = w0
  have hW1 : (w.alloc (.cells #[.int .i64 h.k, .slice h.ka h.kn h.kc, .slice h.va h.vn h.vc, .slice h.da h.dn h.dc, .slice h.ta h.tn h.tc] 25)) = w0 := by rw [hta]; exact hW0
  rw [hW1] at HD0
  clear hta hW0 hW1 hg x0 x1 x2 x3 x4
  have ht1 : (1 : Int) < (h.tn : Int) := by omega
  have ht0 : 0 < h.tn := by omega
  refine wp_region_held_drew (S := (fun W => W.cell? ⟨gc, 0, none⟩ = some (.func (.func 35) #[] #[.pointer (some ⟨gw, 0, none⟩), .pointer (some ⟨gc, 0, none⟩)]) ∧ W.cell? ⟨w.heap.size, 4, none⟩ = some (.slice (some ⟨g, off, none⟩) h.tn h.tc) ∧ W.cell? ⟨g, off, none⟩ = some (.int .i64 (H 0).k) ∧ W.cell? ⟨g, off + 1, none⟩ = some (.slice (H 0).ka (H 0).kn (H 0).kc) ∧ W.cell? ⟨g, off + 2, none⟩ = some (.slice (H 0).va (H 0).vn (H 0).vc) ∧ W.cell? ⟨g, off + 3, none⟩ = some (.slice (H 0).da (H 0).dn (H 0).dc) ∧ W.cell? ⟨g, off + 4, none⟩ = some (.slice (H 0).ta (H 0).tn (H 0).tc))) (by kernel_rfl) ⟨HD0.out.drew.clo.cell, (HD0.out.drew.box.cells.2.2.2.2).trans (by rw [HTA.out]), (HP.out.below HD0.out.drew.b).kid0 HTA.out (by omega)⟩ (fun hHeld => ?_)
  refine take_w (i := 0) (oi := ?oZ8) (v := ?vZ8) ?hiZ8 (by kernel_rfl) (by kernel_rfl) (by kernel_rfl) ?hQZ8 ?hwZ8 ?hyZ8 (by assumption) ?restZ8
  case hiZ8 => (simp only [List.getElem?_toArray, List.getElem?_cons_zero] <;> rfl)
  case hQZ8 => exact (fun _ _ _ h => h)
  case hwZ8 => rfl
  case hyZ8 => (intro w hSw; (try dsimp only at hSw); go_simp; try with_reducible rfl)
  (try simp only [Act.put, List.setIfInBounds_toArray, List.set_cons_zero, List.set_cons_succ])
  refine take_w (i := 1) (oi := ?oZ9) (v := ?vZ9) ?hiZ9 (by kernel_rfl) (by kernel_rfl) (by kernel_rfl) ?hQZ9 ?hwZ9 ?hyZ9 (by assumption) ?restZ9
  case hiZ9 => (simp only [List.getElem?_toArray, List.getElem?_cons_succ, List.getElem?_cons_zero] <;> rfl)
  case hQZ9 => exact (fun _ _ _ h => h)
  case hwZ9 => rfl
  case hyZ9 => (intro w hSw; (try dsimp only at hSw); go_simp; try with_reducible rfl)
  (try simp only [Act.put, List.setIfInBounds_toArray, List.set_cons_zero, List.set_cons_succ])
  refine take_w (i := 2) (oi := ?oZ10) (v := ?vZ10) ?hiZ10 (by kernel_rfl) (by kernel_rfl) (by kernel_rfl) ?hQZ10 ?hwZ10 ?hyZ10 (by assumption) ?restZ10
  case hiZ10 => (simp only [List.getElem?_toArray, List.getElem?_cons_succ, List.getElem?_cons_zero] <;> rfl)
  case hQZ10 => exact (fun _ _ _ h => h)
  case hwZ10 => rfl
  case hyZ10 => (intro w hSw; (try dsimp only at hSw); go_simp; try with_reducible rfl)
  (try simp only [Act.put, List.setIfInBounds_toArray, List.set_cons_zero, List.set_cons_succ])
  refine take_w (i := 3) (oi := ?oZ11) (v := ?vZ11) ?hiZ11 (by kernel_rfl) (by kernel_rfl) (by kernel_rfl) ?hQZ11 ?hwZ11 ?hyZ11 (by assumption) ?restZ11
  case hiZ11 => (simp only [List.getElem?_toArray, List.getElem?_cons_succ, List.getElem?_cons_zero] <;> rfl)
  case hQZ11 => exact (fun _ _ _ h => h)
  case hwZ11 => rfl
  case hyZ11 => (intro w hSw; (try dsimp only at hSw); go_simp; try with_reducible rfl)
  (try simp only [Act.put, List.setIfInBounds_toArray, List.set_cons_zero, List.set_cons_succ])
  refine take_w (i := 4) (oi := ?oZ12) (v := ?vZ12) ?hiZ12 (by kernel_rfl) (by kernel_rfl) (by kernel_rfl) ?hQZ12 ?hwZ12 ?hyZ12 (by assumption) ?restZ12
  case hiZ12 => (simp only [List.getElem?_toArray, List.getElem?_cons_succ, List.getElem?_cons_zero] <;> rfl)
  case hQZ12 => exact (fun _ _ _ h => h)
  case hwZ12 => rfl
  case hyZ12 => (intro w hSw; (try dsimp only at hSw); go_simp; try with_reducible rfl)
  (try simp only [Act.put, List.setIfInBounds_toArray, List.set_cons_zero, List.set_cons_succ])
  refine wpAnyH_ready (rs := [5]) (by kernel_rfl) (by simp) ?_
  refine AllReadyH.cons (o := ?oZ13) ?hiZ13 (fun K hK => ?stZ13) AllReadyH.nil
  case hiZ13 => (simp only [List.getElem?_toArray, List.getElem?_cons_succ, List.getElem?_cons_zero] <;> rfl)
  go_simp
  go_at_call 35
  refine (IH.out _ (List.getElem_mem l0) (H 0) _ gw gc ((HP.out.below HD0.out.drew.b).kids 0 l0) HD0.out.drew.tab (HF.out 0 l0) HD0.out.drew.wid HD0.out.drew.clo ls HDL.out).mono ?_
  rintro _ w1 ⟨a1, c1, rfl, hn1, hb1⟩
  have HD1 := Lib.hid (HD0.out.drew.below hb1)
  have HI1 := Lib.hid hn1.inb
  skip
  clear hn1 hb1
  go_simp
  refine hK.out _ _ ?_ (fun hHeld => ?_)
  · (first | exact ⟨HD1.out.clo.cell, (HD1.out.box.cells.2.2.2.2).trans (by rw [HTA.out]), (HP.out.below HD1.out.b).kid0 HTA.out (by omega)⟩ | exact ⟨HD0.out.drew.clo.cell, (HD0.out.drew.box.cells.2.2.2.2).trans (by rw [HTA.out]), (HP.out.below HD0.out.drew.b).kid0 HTA.out (by omega)⟩)
  clear hK K
  (try simp only [Act.put, List.setIfInBounds_toArray, List.set_cons_zero, List.set_cons_succ])
  refine take_w (i := 6) (oi := ?oZ14) (v := ?vZ14) ?hiZ14 (by kernel_rfl) (by kernel_rfl) (by kernel_rfl) ?hQZ14 ?hwZ14 ?hyZ14 (by assumption) ?restZ14
  case hiZ14 => (simp only [List.getElem?_toArray, List.getElem?_cons_succ, List.getElem?_cons_zero] <;> rfl)
  case hQZ14 => exact (fun _ _ _ h => h)
  case hwZ14 => rfl
  case hyZ14 => (intro w hSw; (try dsimp only at hSw); go_simp; try with_reducible rfl)
  (try simp only [Act.put, List.setIfInBounds_toArray, List.set_cons_zero, List.set_cons_succ])
  refine take_w (i := 7) (oi := ?oZ15) (v := ?vZ15) ?hiZ15 (by kernel_rfl) (by kernel_rfl) (by kernel_rfl) ?hQZ15 ?hwZ15 ?hyZ15 (by assumption) ?restZ15
  case hiZ15 => (simp only [List.getElem?_toArray, List.getElem?_cons_succ, List.getElem?_cons_zero] <;> rfl)
  case hQZ15 => exact (fun _ _ _ h => h)
  case hwZ15 => rfl
  case hyZ15 => (intro w hSw; (try dsimp only at hSw); go_simp; try with_reducible rfl)
  (try simp only [Act.put, List.setIfInBounds_toArray, List.set_cons_zero, List.set_cons_succ])
  refine take_w (i := 8) (oi := ?oZ16) (v := ?vZ16) ?hiZ16 (by kernel_rfl) (by kernel_rfl) (by kernel_rfl) ?hQZ16 ?hwZ16 ?hyZ16 (by assumption) ?restZ16
  case hiZ16 => (simp only [List.getElem?_toArray, List.getElem?_cons_succ, List.getElem?_cons_zero] <;> rfl)
  case hQZ16 => exact (fun _ _ _ h => h)
  case hwZ16 => rfl
  case hyZ16 => (intro w hSw; (try dsimp only at hSw); go_simp; try with_reducible rfl)
  (try simp only [Act.put, List.setIfInBounds_toArray, List.set_cons_zero, List.set_cons_succ])
  refine take_w (i := 9) (oi := ?oZ17) (v := ?vZ17) ?hiZ17 (by kernel_rfl) (by kernel_rfl) (by kernel_rfl) ?hQZ17 ?hwZ17 ?hyZ17 (by assumption) ?restZ17
  case hiZ17 => (simp only [List.getElem?_toArray, List.getElem?_cons_succ, List.getElem?_cons_zero] <;> rfl)
  case hQZ17 => exact (fun _ _ _ h => h)
  case hwZ17 => rfl
  case hyZ17 => (intro w hSw; (try dsimp only at hSw); go_simp; try with_reducible rfl)
  (try simp only [Act.put, List.setIfInBounds_toArray, List.set_cons_zero, List.set_cons_succ])
  refine take_w (i := 10) (oi := ?oZ18) (v := ?vZ18) ?hiZ18 (by kernel_rfl) (by kernel_rfl) (by kernel_rfl) ?hQZ18 ?hwZ18 ?hyZ18 (by assumption) ?restZ18
  case hiZ18 => (simp only [List.getElem?_toArray, List.getElem?_cons_succ, List.getElem?_cons_zero] <;> rfl)
  case hQZ18 => exact (fun _ _ _ h => h)
  case hwZ18 => rfl
  case hyZ18 => (intro w hSw; (try dsimp only at hSw); go_simp; try with_reducible rfl)
  (try simp only [Act.put, List.setIfInBounds_toArray, List.set_cons_zero, List.set_cons_succ])
  refine wpAnyH_done (by kernel_rfl) ?_ _
  
  clear hHeld
  obtain ⟨x0, x1, x2, x3, x4⟩ := HD1.out.box.cells
  have xw := HD1.out.wid.cell
  go_upto_region 12 with (first
    | (go_at_call 39
       refine (pairDigest_any k hk1 hk2 t h _ HD1.out.t HD1.out.tab hpb hvl).mono ?_
       rintro _ w2 ⟨g2, hg2, rfl, hr2, hb2⟩
       have HD2 := Lib.hid (HD1.out.below hb2)
       have HI2 := Lib.hid (of_in hr2 hk2)
       have HI12 := Lib.hid (HI1.out.below hb2)
       clear hg2 hr2 hb2))
  clear x0 x1 x2 x3 x4 xw
  refine wp_region_held_drew (S := (fun W => W.cell? ⟨gc, 0, none⟩ = some (.func (.func 35) #[] #[.pointer (some ⟨gw, 0, none⟩), .pointer (some ⟨gc, 0, none⟩)]) ∧ W.cell? ⟨w.heap.size, 4, none⟩ = some (.slice (some ⟨g, off, none⟩) h.tn h.tc) ∧ W.cell? ⟨g, off + 5, none⟩ = some (.int .i64 (H 1).k) ∧ W.cell? ⟨g, off + 5 + 1, none⟩ = some (.slice (H 1).ka (H 1).kn (H 1).kc) ∧ W.cell? ⟨g, off + 5 + 2, none⟩ = some (.slice (H 1).va (H 1).vn (H 1).vc) ∧ W.cell? ⟨g, off + 5 + 3, none⟩ = some (.slice (H 1).da (H 1).dn (H 1).dc) ∧ W.cell? ⟨g, off + 5 + 4, none⟩ = some (.slice (H 1).ta (H 1).tn (H 1).tc))) (by kernel_rfl) ⟨HD2.out.drew.clo.cell, (HD2.out.drew.box.cells.2.2.2.2).trans (by rw [HTA.out]), (HP.out.below HD2.out.drew.b).kid1 HTA.out (by omega)⟩ (fun hHeld => ?_)
  refine take_w (i := 0) (oi := ?oZ19) (v := ?vZ19) ?hiZ19 (by kernel_rfl) (by kernel_rfl) (by kernel_rfl) ?hQZ19 ?hwZ19 ?hyZ19 (by assumption) ?restZ19
  case hiZ19 => (simp only [List.getElem?_toArray, List.getElem?_cons_zero] <;> rfl)
  case hQZ19 => exact (fun _ _ _ h => h)
  case hwZ19 => rfl
  case hyZ19 => (intro w hSw; (try dsimp only at hSw); go_simp; try with_reducible rfl)
  (try simp only [Act.put, List.setIfInBounds_toArray, List.set_cons_zero, List.set_cons_succ])
  refine take_w (i := 1) (oi := ?oZ20) (v := ?vZ20) ?hiZ20 (by kernel_rfl) (by kernel_rfl) (by kernel_rfl) ?hQZ20 ?hwZ20 ?hyZ20 (by assumption) ?restZ20
  case hiZ20 => (simp only [List.getElem?_toArray, List.getElem?_cons_succ, List.getElem?_cons_zero] <;> rfl)
  case hQZ20 => exact (fun _ _ _ h => h)
  case hwZ20 => rfl
  case hyZ20 => (intro w hSw; (try dsimp only at hSw); go_simp; try with_reducible rfl)
  (try simp only [Act.put, List.setIfInBounds_toArray, List.set_cons_zero, List.set_cons_succ])
  refine take_w (i := 2) (oi := ?oZ21) (v := ?vZ21) ?hiZ21 (by kernel_rfl) (by kernel_rfl) (by kernel_rfl) ?hQZ21 ?hwZ21 ?hyZ21 (by assumption) ?restZ21
  case hiZ21 => (simp only [List.getElem?_toArray, List.getElem?_cons_succ, List.getElem?_cons_zero] <;> rfl)
  case hQZ21 => exact (fun _ _ _ h => h)
  case hwZ21 => rfl
  case hyZ21 => (intro w hSw; (try dsimp only at hSw); go_simp; try with_reducible rfl)
  (try simp only [Act.put, List.setIfInBounds_toArray, List.set_cons_zero, List.set_cons_succ])
  refine take_w (i := 3) (oi := ?oZ22) (v := ?vZ22) ?hiZ22 (by kernel_rfl) (by kernel_rfl) (by kernel_rfl) ?hQZ22 ?hwZ22 ?hyZ22 (by assumption) ?restZ22
  case hiZ22 => (simp only [List.getElem?_toArray, List.getElem?_cons_succ, List.getElem?_cons_zero] <;> rfl)
  case hQZ22 => exact (fun _ _ _ h => h)
  case hwZ22 => rfl
  case hyZ22 => (intro w hSw; (try dsimp only at hSw); go_simp; try with_reducible rfl)
  (try simp only [Act.put, List.setIfInBounds_toArray, List.set_cons_zero, List.set_cons_succ])
  refine take_w (i := 4) (oi := ?oZ23) (v := ?vZ23) ?hiZ23 (by kernel_rfl) (by kernel_rfl) (by kernel_rfl) ?hQZ23 ?hwZ23 ?hyZ23 (by assumption) ?restZ23
  case hiZ23 => (simp only [List.getElem?_toArray, List.getElem?_cons_succ, List.getElem?_cons_zero] <;> rfl)
  case hQZ23 => exact (fun _ _ _ h => h)
  case hwZ23 => rfl
  case hyZ23 => (intro w hSw; (try dsimp only at hSw); go_simp; try with_reducible rfl)
  (try simp only [Act.put, List.setIfInBounds_toArray, List.set_cons_zero, List.set_cons_succ])
  refine wpAnyH_ready (rs := [5]) (by kernel_rfl) (by simp) ?_
  refine AllReadyH.cons (o := ?oZ24) ?hiZ24 (fun K hK => ?stZ24) AllReadyH.nil
  case hiZ24 => (simp only [List.getElem?_toArray, List.getElem?_cons_succ, List.getElem?_cons_zero] <;> rfl)
  go_simp
  go_at_call 35
  refine (IH.out _ (List.getElem_mem l1) (H 1) _ gw gc ((HP.out.below HD2.out.drew.b).kids 1 l1) HD2.out.drew.tab (HF.out 1 l1) HD2.out.drew.wid HD2.out.drew.clo rs HDR.out).mono ?_
  rintro _ w3 ⟨a3, c3, rfl, hn3, hb3⟩
  have HD3 := Lib.hid (HD2.out.drew.below hb3)
  have HI3 := Lib.hid hn3.inb
  have HI13 := Lib.hid ((HI12.out.below (Below.refl _ _).drew).below hb3)
  have HI23 := Lib.hid ((HI2.out.below (Below.refl _ _).drew).below hb3)
  clear hn3 hb3
  go_simp
  refine hK.out _ _ ?_ (fun hHeld => ?_)
  · (first | exact ⟨HD3.out.clo.cell, (HD3.out.box.cells.2.2.2.2).trans (by rw [HTA.out]), (HP.out.below HD3.out.b).kid1 HTA.out (by omega)⟩ | exact ⟨HD2.out.drew.clo.cell, (HD2.out.drew.box.cells.2.2.2.2).trans (by rw [HTA.out]), (HP.out.below HD2.out.drew.b).kid1 HTA.out (by omega)⟩)
  clear hK K
  (try simp only [Act.put, List.setIfInBounds_toArray, List.set_cons_zero, List.set_cons_succ])
  refine take_w (i := 6) (oi := ?oZ25) (v := ?vZ25) ?hiZ25 (by kernel_rfl) (by kernel_rfl) (by kernel_rfl) ?hQZ25 ?hwZ25 ?hyZ25 (by assumption) ?restZ25
  case hiZ25 => (simp only [List.getElem?_toArray, List.getElem?_cons_succ, List.getElem?_cons_zero] <;> rfl)
  case hQZ25 => exact (fun _ _ _ h => h)
  case hwZ25 => rfl
  case hyZ25 => (intro w hSw; (try dsimp only at hSw); go_simp; try with_reducible rfl)
  (try simp only [Act.put, List.setIfInBounds_toArray, List.set_cons_zero, List.set_cons_succ])
  refine take_w (i := 7) (oi := ?oZ26) (v := ?vZ26) ?hiZ26 (by kernel_rfl) (by kernel_rfl) (by kernel_rfl) ?hQZ26 ?hwZ26 ?hyZ26 (by assumption) ?restZ26
  case hiZ26 => (simp only [List.getElem?_toArray, List.getElem?_cons_succ, List.getElem?_cons_zero] <;> rfl)
  case hQZ26 => exact (fun _ _ _ h => h)
  case hwZ26 => rfl
  case hyZ26 => (intro w hSw; (try dsimp only at hSw); go_simp; try with_reducible rfl)
  (try simp only [Act.put, List.setIfInBounds_toArray, List.set_cons_zero, List.set_cons_succ])
  refine take_w (i := 8) (oi := ?oZ27) (v := ?vZ27) ?hiZ27 (by kernel_rfl) (by kernel_rfl) (by kernel_rfl) ?hQZ27 ?hwZ27 ?hyZ27 (by assumption) ?restZ27
  case hiZ27 => (simp only [List.getElem?_toArray, List.getElem?_cons_succ, List.getElem?_cons_zero] <;> rfl)
  case hQZ27 => exact (fun _ _ _ h => h)
  case hwZ27 => rfl
  case hyZ27 => (intro w hSw; (try dsimp only at hSw); go_simp; try with_reducible rfl)
  (try simp only [Act.put, List.setIfInBounds_toArray, List.set_cons_zero, List.set_cons_succ])
  refine take_w (i := 9) (oi := ?oZ28) (v := ?vZ28) ?hiZ28 (by kernel_rfl) (by kernel_rfl) (by kernel_rfl) ?hQZ28 ?hwZ28 ?hyZ28 (by assumption) ?restZ28
  case hiZ28 => (simp only [List.getElem?_toArray, List.getElem?_cons_succ, List.getElem?_cons_zero] <;> rfl)
  case hQZ28 => exact (fun _ _ _ h => h)
  case hwZ28 => rfl
  case hyZ28 => (intro w hSw; (try dsimp only at hSw); go_simp; try with_reducible rfl)
  (try simp only [Act.put, List.setIfInBounds_toArray, List.set_cons_zero, List.set_cons_succ])
  refine take_w (i := 10) (oi := ?oZ29) (v := ?vZ29) ?hiZ29 (by kernel_rfl) (by kernel_rfl) (by kernel_rfl) ?hQZ29 ?hwZ29 ?hyZ29 (by assumption) ?restZ29
  case hiZ29 => (simp only [List.getElem?_toArray, List.getElem?_cons_succ, List.getElem?_cons_zero] <;> rfl)
  case hQZ29 => exact (fun _ _ _ h => h)
  case hwZ29 => rfl
  case hyZ29 => (intro w hSw; (try dsimp only at hSw); go_simp; try with_reducible rfl)
  (try simp only [Act.put, List.setIfInBounds_toArray, List.set_cons_zero, List.set_cons_succ])
  refine wpAnyH_done (by kernel_rfl) ?_ _
  
  clear hHeld
  have hi1 := HI13.out
  have hi3 := HI3.out
  rw [hll] at hi1
  rw [hlr] at hi3
  have HIA := Lib.hid hi1
  have HIB := Lib.hid hi3
  have xw := HD3.out.wid.cell
  have HZS := Lib.hid hzs
  clear hi1 hi3 hzs hvl hll hlr
  go_wp2_with (first
    | (go_at_call 40
       (with_reducible refine (node_ok (k : Int) a1 k c1 ls (some ⟨g2, 0, none⟩) k k ((sumL (pairL t.key (valT k t))).take k) a3 k c3 rs _ HIA.out HI23.out HIB.out (by omega) (by omega) rfl rfl rfl).mono ?_)
       rintro _ w4 ⟨g4, c4, rfl, ho4, hb4⟩
       have HD4 := Lib.hid (HD3.out.below hb4)
       have HI4 := Lib.hid (InBytes.of_own ho4 (nodeL_bytes HIA.out.bytes HI23.out.bytes HIB.out.bytes))
       clear xw
       have xw := HD4.out.wid.cell
       clear ho4 hb4)
    | (go_at_call 36
       (with_reducible refine (of_ok k _ _ _ _ _ HI4.out ?_ HD4.out.tab hk1 hk2).mono ?_)
       · rw [nodeL_len, HIA.out.len, HI23.out.len, HIB.out.len]; omega
       rintro _ w5 ⟨g5, hg5, rfl, hr5, hb5⟩
       have HD5 := Lib.hid (HD4.out.below hb5)
       have HR5 := Lib.hid (And.intro (Nat.le_trans HD4.out.b.size hg5) hr5)
       clear hg5 hr5 hb5))
  go_ret2
  rw [HZS.out]
  exact OfPost2.bytes hk2 ⟨g5, HR5.out.1, rfl, HR5.out.2, HD5.out.b⟩
end Go.Proofs.YtcplfpnaepdddaaDoor
