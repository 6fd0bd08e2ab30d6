/- The contract of the law's own cut: parts told by their digests. -/
import Derived.Test.YtcplfpnaepdddaaDoorCutMath
import Derived.Test.YtcplfpnaepdddaaDoorCutLib
import Derived.Test.YtcplfpnaepdddaaDoorPrTree
import Derived.Test.YtcplfpnaepdddaaDoorPrTreeL
import Derived.Test.YtcplfpnaepdddaaDoorRefDigest
namespace Go.Proofs.YtcplfpnaepdddaaDoor
open Go.RowKit
set_option linter.unusedVariables false

/-- The world inside cut: the tree's box, the result's box, the tables. -/
structure CW (w W : World) (h : TH) (t : Tr) : Prop where
  box : Box W 25 w.heap.size h
  res : Box W 25 (w.heap.size + 1) hZ
  tab : TabLies W
  t : InTree W h t
  b : Below w.heap.size w W
theorem CW.below {w W W' : World} {h : TH} {t : Tr} (d : CW w W h t) (hb : Below W.heap.size W W') : CW w W' h t :=
  ⟨d.box.below hb d.box.lt, d.res.below hb d.res.lt, d.tab.below hb (Nat.le_refl _), d.t.lower hb, d.b.trans (hb.mono d.b.size)⟩
theorem CW.drew {w W : World} {h : TH} {t : Tr} (d : CW w W h t) : CW w W.drew h t := d.below (Below.refl _ _).drew
theorem CW.new (w : World) {h : TH} {t : Tr} (ht : InTree w h t) (hT : TabLies w) : CW w ((w.alloc (.cells #[.int .i64 h.k, .slice h.ka h.kn h.kc, .slice h.va h.vn h.vc, .slice h.da h.dn h.dc, .slice h.ta h.tn h.tc] 25)).alloc (.cells #[.int .i64 0, .slice none 0 0, .slice none 0 0, .slice none 0 0, .slice none 0 0] 25)) h t := by
  have h1 : Below w.heap.size w (w.alloc (.cells #[.int .i64 h.k, .slice h.ka h.kn h.kc, .slice h.va h.vn h.vc, .slice h.da h.dn h.dc, .slice h.ta h.tn h.tc] 25)) := (Below.refl _ _).alloc (Nat.le_refl _) _
  have h2 : Below (w.alloc (.cells #[.int .i64 h.k, .slice h.ka h.kn h.kc, .slice h.va h.vn h.vc, .slice h.da h.dn h.dc, .slice h.ta h.tn h.tc] 25)).heap.size (w.alloc (.cells #[.int .i64 h.k, .slice h.ka h.kn h.kc, .slice h.va h.vn h.vc, .slice h.da h.dn h.dc, .slice h.ta h.tn h.tc] 25)) ((w.alloc (.cells #[.int .i64 h.k, .slice h.ka h.kn h.kc, .slice h.va h.vn h.vc, .slice h.da h.dn h.dc, .slice h.ta h.tn h.tc] 25)).alloc (.cells #[.int .i64 0, .slice none 0 0, .slice none 0 0, .slice none 0 0, .slice none 0 0] 25)) := (Below.refl _ _).alloc (Nat.le_refl _) _
  have h3 := h1.trans (h2.mono h1.size)
  have hx := Box.new w 25 h
  have hr := Box.new (w.alloc (.cells #[.int .i64 h.k, .slice h.ka h.kn h.kc, .slice h.va h.vn h.vc, .slice h.da h.dn h.dc, .slice h.ta h.tn h.tc] 25)) 25 hZ
  have hs : (w.alloc (.cells #[.int .i64 h.k, .slice h.ka h.kn h.kc, .slice h.va h.vn h.vc, .slice h.da h.dn h.dc, .slice h.ta h.tn h.tc] 25)).heap.size = w.heap.size + 1 := by simp
  rw [hs] at hr
  exact ⟨hx.below h2 hx.lt, hr, hT.below h3 (Nat.le_refl _), ht.lower h3, h3⟩
theorem inTree_cut {W : World} {a : Option Addr} {n c : Nat} {zs : List Int} (hi : InBytes W a n c zs) : InTree W ⟨3, none, 0, 0, none, 0, 0, a, n, c, none, 0, 0⟩ (.mk 3 [] [] zs []) :=
  .mk _ _ (fun _ => hZ) rfl (show (-9223372036854775808 : Int) ≤ 3 by omega) (show (3 : Int) ≤ 9223372036854775807 by omega) (none_in _) (none_in _) hi ⟨Nat.le_refl _, Nat.zero_le _, fun _ => rfl, fun h => absurd h (Nat.lt_irrefl 0)⟩ rfl (fun i hi => absurd hi (Nat.not_lt_zero i))
/-- All that lies there once both kids are cut. -/
structure CK (wb w W : World) (h : TH) (t : Tr) (l1 g1 l2 g2 g3 : Nat) (h1 h2 h3 : TH) (c1 c2 : Tr) : Prop where
  d : CW w W h t
  b1 : Box W 25 g1 h1
  b2 : Box W 25 g2 h2
  f1 : From wb l1 g1 W h1 c1
  f2 : From wb l2 g2 W h2 c2
  b3 : Box W 25 (g3 + 1) h3
  two : Two5 W 25 g3 h1 h2
  o1 : w.heap.size + 1 < l1
  o2 : l1 ≤ g1
  o3 : g1 < l2
  o4 : l2 ≤ g2
  o5 : g2 < g3
section
variable {wb w W W' : World} {h : TH} {t : Tr} {l1 g1 l2 g2 g3 : Nat} {h1 h2 h3 : TH} {c1 c2 : Tr}
theorem CK.below (d : CK wb w W h t l1 g1 l2 g2 g3 h1 h2 h3 c1 c2) (hb : Below W.heap.size W W') : CK wb w W' h t l1 g1 l2 g2 g3 h1 h2 h3 c1 c2 :=
  ⟨d.d.below hb, d.b1.below hb d.b1.lt, d.b2.below hb d.b2.lt, d.f1.below hb (Nat.le_of_lt d.b1.lt), d.f2.below hb (Nat.le_of_lt d.b2.lt), d.b3.below hb d.b3.lt, d.two.below hb d.two.lt, d.o1, d.o2, d.o3, d.o4, d.o5⟩
theorem CK.drew (d : CK wb w W h t l1 g1 l2 g2 g3 h1 h2 h3 c1 c2) : CK wb w W.drew h t l1 g1 l2 g2 g3 h1 h2 h3 c1 c2 := d.below (Below.refl _ _).drew
/-- The result's box, written at last. -/
theorem CK.fin (d : CK wb w W h t l1 g1 l2 g2 g3 h1 h2 h3 c1 c2) {g4 : Nat} (two : Two5 W 25 g4 h1 h2) (hg4 : w.heap.size + 1 < g4) (hg : W.grownBy W' (some (w.heap.size + 1))) {k : Int} (hk1 : -9223372036854775808 ≤ k) (hk2 : k ≤ 9223372036854775807)
    {ka va da : Option Addr} {kn kc vn vc dn dc : Nat} {key val dig : List Int} (hkey : InBytes wb ka kn kc key) (hval : InBytes wb va vn vc val)
    (hdig : ∀ X : World, Below wb.heap.size wb X → W'.heap.size ≤ X.heap.size → (∀ j, w.heap.size ≤ j → j < W'.heap.size → X.heap[j]? = W'.heap[j]?) → InBytes X da dn dc dig) :
    From wb w.heap.size W'.heap.size W' ⟨k, ka, kn, kc, va, vn, vc, da, dn, dc, some ⟨g4, 0, none⟩, 2, 2⟩ (.mk k key val dig [c1, c2]) := by
  intro X hb hs ha
  have hsz := hg.size
  have q1 := d.o1
  have q2 := d.o2
  have q3 := d.o3
  have q4 := d.o4
  have q5 := d.o5
  have l3 := d.b1.lt
  have l4 := d.b2.lt
  have l5 := two.lt
  have key1 : ∀ j, w.heap.size + 1 < j → j < W.heap.size → X.heap[j]? = W.heap[j]? := fun j hj hj2 => by
    rw [ha j (by omega) (by omega)]
    exact hg.block j hj2 (fun q => by injection q; omega)
  exact inTree_pair ((key1 g4 hg4 l5).trans two) (d.f1 X hb (by omega) fun j hl hh => key1 j (by omega) (by omega)) (d.f2 X hb (by omega) fun j hl hh => key1 j (by omega) (by omega)) hk1 hk2 (hkey.below hb) (hval.below hb) (hdig X hb hs ha)
/-- The third box was written. -/
theorem CK.put3 (d : CK wb w W h t l1 g1 l2 g2 g3 h1 h2 h3 c1 c2) {h4 : TH} (hx : Box W' 25 (g3 + 1) h4) (hg : W.grownBy W' (some (g3 + 1))) (hT : TabLies W') (ht : InTree W' h t) : CK wb w W' h t l1 g1 l2 g2 g3 h1 h2 h4 c1 c2 := by
  have q1 := d.o1
  have q2 := d.o2
  have q3 := d.o3
  have q4 := d.o4
  have q5 := d.o5
  have ne : ∀ j, j < g3 + 1 → some j ≠ some (g3 + 1) := fun j hj q => by injection q; omega
  exact ⟨⟨d.d.box.grown hg (ne _ (by omega)), d.d.res.grown hg (ne _ (by omega)), hT, ht, d.d.b.grown hg d.d.b.size (fun j hj => by injection hj; omega)⟩, d.b1.grown hg (ne _ (by omega)), d.b2.grown hg (ne _ (by omega)),
    d.f1.grown hg (Nat.le_of_lt d.b1.lt) (.inr (by omega)), d.f2.grown hg (Nat.le_of_lt d.b2.lt) (.inr (by omega)), hx, (hg.block g3 d.two.lt (ne _ (by omega))).trans d.two, d.o1, d.o2, d.o3, d.o4, d.o5⟩
end
theorem row_box {W : World} {t t' : TypeId} {g : Nat} {zs : List Int} {x : TH} (hne : t ≠ t') (a : Row .u8 W t g zs) (b : Box W t' g x) : False := by
  unfold Row at a
  unfold Box at b
  rw [a] at b
  injection b with b
  injection b with _ b _
  exact hne b
theorem map_two {α : Type} (l : List Tr) (f : Tr → α) (h : l.length = 2) : l.map f = [f (l[0]'(by omega)), f (l[1]'(by omega))] := by
  rcases l with _ | ⟨a, _ | ⟨b, _ | ⟨c, r⟩⟩⟩ <;> simp at h
  rfl
def CutPost (wb w : World) (c : Tr) (e : Ending) (w' : World) : Prop := ∃ h', e = .returned (.tuple #[h'.v, .bool true]) ∧ From wb w.heap.size w'.heap.size w' h' c ∧ Below w.heap.size w w'

set_option maxRecDepth 100000 in
set_option maxHeartbeats 8000000 in
theorem cut_any (wb : World) (k : Nat) (hk1 : 1 ≤ k) (hk2 : k ≤ 32) (dark : Bool) : ∀ (n : Nat) (t : Tr) (h : TH) (w : World) (b : Int) (zs : List Int), n ≤ 100 → InTree wb h t → Below wb.heap.size wb w → TabLies w → formedT t = true → deepT t b = false → 0 ≤ b → b ≤ 64 → digT k t = some zs →
    Calls Tryd.prog 23 #[.int .i64 k, h.v, .int .i64 n, .bool dark] w (CutPost wb w (cutT k dark n t)) := by
  intro n
  induction n with
  | zero =>
    intro t h w b zs hn ht hbw hT hf hd hb0 hb1 hdg
    unfold TH.v
    have hd0 := CW.new w (ht.lower hbw) hT
    have HBW := Lib.hid hbw
    have hdl := digT_len hk2 hdg
    have HDG := Lib.hid hdg
    have HCK := Lib.hid (sub_check hf hd hb0 hb1)
    go_enter Tryd.func23, Tryd.ntmps23
    go_upto_region 1 with fail
    generalize ((w.alloc (.cells #[.int .i64 h.k, .slice h.ka h.kn h.kc, .slice h.va h.vn h.vc, .slice h.da h.dn h.dc, .slice h.ta h.tn h.tc] 25)).alloc (.cells #[.int .i64 0, .slice none 0 0, .slice none 0 0, .slice none 0 0, .slice none 0 0] 25)) = w0 at *
    have HD0 := Lib.hid hd0
    obtain ⟨x0, x1, x2, x3, x4⟩ := hd0.box.cells
    clear hd0 ht hT hf hd hdg hbw
    go_upto_region 3 with (first
      | (go_at_call 17
         refine (digest_ok k hk1 hk2 t h _ HD0.out.t HD0.out.tab HCK.out HDG.out).mono ?_
         rintro _ w1 ⟨a1, c1, rfl, hn1, hb1⟩
         have HD1 := Lib.hid (HD0.out.below hb1)
         have hinb := hn1.inb
         rw [hdl] at hinb
         have HI1 := Lib.hid hinb
         clear hinb
         have HNW : Hid (∀ ad, a1 = some ad → w.heap.size + 2 ≤ ad.block ∧ ad.block < w1.heap.size) := Lib.hid (fun ad e => ⟨Nat.le_trans HD0.out.res.lt (hn1.new ad e), by
           obtain ⟨gg, oo, e2, hlt, _⟩ := hn1.inb.place (by rw [hdl]; omega)
           rw [e2] at e
           injection e with e
           rw [← e]
           exact hlt⟩)
         clear hn1 hb1))
    clear x0 x1 x2 x3 x4
    refine wp_region_held_drew (S := (fun _ => True)) (by kernel_rfl) trivial (fun hHeld => ?_)
    refine take_w (i := 0) (oi := ?oZ1) (v := ?vZ1) ?hiZ1 (by kernel_rfl) (by kernel_rfl) (by kernel_rfl) ?hQZ1 ?hwZ1 ?hyZ1 (by assumption) ?restZ1
    case hiZ1 => (simp only [List.getElem?_toArray, List.getElem?_cons_zero] <;> rfl)
    case hQZ1 => exact (fun _ _ _ h => h)
    case hwZ1 => rfl
    case hyZ1 => (intro w hSw; (try dsimp only at hSw); go_simp; try with_reducible rfl)
    (try simp only [Act.put, List.setIfInBounds_toArray, List.set_cons_zero, List.set_cons_succ])
    refine take_w (i := 1) (oi := ?oZ2) (v := ?vZ2) ?hiZ2 (by kernel_rfl) (by kernel_rfl) (by kernel_rfl) ?hQZ2 ?hwZ2 ?hyZ2 (by assumption) ?restZ2
    case hiZ2 => (simp only [List.getElem?_toArray, List.getElem?_cons_succ, List.getElem?_cons_zero] <;> rfl)
    case hQZ2 => exact (fun _ _ _ h => h)
    case hwZ2 => rfl
    case hyZ2 => (intro w hSw; (try dsimp only at hSw); go_simp; try with_reducible rfl)
    (try simp only [Act.put, List.setIfInBounds_toArray, List.set_cons_zero, List.set_cons_succ])
    refine take_w (i := 2) (oi := ?oZ3) (v := ?vZ3) ?hiZ3 (by kernel_rfl) (by kernel_rfl) (by kernel_rfl) ?hQZ3 ?hwZ3 ?hyZ3 (by assumption) ?restZ3
    case hiZ3 => (simp only [List.getElem?_toArray, List.getElem?_cons_succ, List.getElem?_cons_zero] <;> rfl)
    case hQZ3 => exact (fun _ _ _ h => h)
    case hwZ3 => rfl
    case hyZ3 => (intro w hSw; (try dsimp only at hSw); go_simp; try with_reducible rfl)
    (try simp only [Act.put, List.setIfInBounds_toArray, List.set_cons_zero, List.set_cons_succ])
    refine take_w (i := 3) (oi := ?oZ4) (v := ?vZ4) ?hiZ4 (by kernel_rfl) (by kernel_rfl) (by kernel_rfl) ?hQZ4 ?hwZ4 ?hyZ4 (by assumption) ?restZ4
    case hiZ4 => (simp only [List.getElem?_toArray, List.getElem?_cons_succ, List.getElem?_cons_zero] <;> rfl)
    case hQZ4 => exact (fun _ _ _ h => h)
    case hwZ4 => rfl
    case hyZ4 => (intro w hSw; (try dsimp only at hSw); go_simp; try with_reducible rfl)
    (try simp only [Act.put, List.setIfInBounds_toArray, List.set_cons_zero, List.set_cons_succ])
    refine wpAnyH_ready (rs := [4]) (by kernel_rfl) (by simp) ?_
    refine AllReadyH.cons (o := ?oZ5) ?hiZ5 (fun K hK => ?stZ5) AllReadyH.nil
    case hiZ5 => (simp only [List.getElem?_toArray, List.getElem?_cons_succ, List.getElem?_cons_zero] <;> rfl)
    refine step_store_box rfl 25 (.tmp 8) (.tmp 29) rfl (w.heap.size + 1) hZ ⟨3, none, 0, 0, none, 0, 0, a1, k, c1, none, 0, 0⟩ rfl rfl 25 HD1.out.drew.res infoTree5 ?_
    intro w2 hbx2 hg2
    have HX2 := Lib.hid hbx2
    have HI2 : Hid (InBytes w2 a1 k c1 zs ∧ ∀ ad, a1 = some ad → w.heap.size + 2 ≤ ad.block ∧ ad.block < w2.heap.size) := Lib.hid ⟨(HI1.out.below (Below.refl _ _).drew).grown hg2 (fun ad e q => by have h1 := (HNW.out ad e).1; injection q with q; omega), fun ad e => ⟨(HNW.out ad e).1, Nat.lt_of_lt_of_le (HNW.out ad e).2 hg2.size⟩⟩
    have HB2 : Hid (Below w.heap.size w w2) := Lib.hid (HD1.out.drew.b.grown hg2 HD1.out.drew.b.size (fun j hj => by injection hj; omega))
    clear hbx2 hg2
    refine hK.out _ _ ?_ (fun hHeld => ?_)
    · (trivial)
    clear hK K
    (try simp only [Act.put])
    refine take_w (i := 5) (oi := ?oZ6) (v := ?vZ6) ?hiZ6 (by kernel_rfl) (by kernel_rfl) (by kernel_rfl) ?hQZ6 ?hwZ6 ?hyZ6 (by assumption) ?restZ6
    case hiZ6 => (simp only [List.getElem?_toArray, List.getElem?_cons_succ, List.getElem?_cons_zero] <;> rfl)
    case hQZ6 => exact (fun _ _ _ h => h)
    case hwZ6 => rfl
    case hyZ6 => (intro w hSw; (try dsimp only at hSw); go_simp; try with_reducible rfl)
    (try simp only [Act.put, List.setIfInBounds_toArray, List.set_cons_zero, List.set_cons_succ])
    refine wpAnyH_done (by kernel_rfl) ?_ _
    
    go_wp2_with fail
    refine bodyPost_ret (v := .tuple #[(⟨3, none, 0, 0, none, 0, 0, a1, k, c1, none, 0, 0⟩ : TH).v, .bool true]) (Box.result Tryd.results23 _ HX2.out rfl Tryd.underlying25 infoTree5) rfl ⟨⟨3, none, 0, 0, none, 0, 0, a1, k, c1, none, 0, 0⟩, rfl, ?_, HB2.out⟩
    unfold cutT
    rw [HDG.out]
    exact fun W _ hsz hag => inTree_cut (HI2.out.1.agree hsz fun ad e => hag _ (by have := (HI2.out.2 ad e).1; omega) (HI2.out.2 ad e).2)
  | succ n ih =>
    intro t h w b zs hn ht hbw hT hf hd hb0 hb1 hdg
    obtain ⟨hpb, hfk⟩ := formed_kids hf
    unfold TH.v
    obtain ⟨H, hp⟩ := ht.parts
    have htl := hp.len
    have htm := Nat.le_trans hp.sl.le hp.sl.max
    have htc := hp.sl.le
    have hk01 := hp.hk1
    have hk02 := hp.hk2
    simp only [maxLen] at htm
    have HP := Lib.hid hp
    have IH := Lib.hid ih
    have hd0 := CW.new w (ht.lower hbw) hT
    have HBW := Lib.hid hbw
    have HTB := Lib.hid hT
    go_enter Tryd.func23, Tryd.ntmps23
    go_upto_region 1 with fail
    generalize ((w.alloc (.cells #[.int .i64 h.k, .slice h.ka h.kn h.kc, .slice h.va h.vn h.vc, .slice h.da h.dn h.dc, .slice h.ta h.tn h.tc] 25)).alloc (.cells #[.int .i64 0, .slice none 0 0, .slice none 0 0, .slice none 0 0, .slice none 0 0] 25)) = w0 at *
    have HD0 := Lib.hid hd0
    obtain ⟨x0, x1, x2, x3, x4⟩ := hd0.box.cells
    clear hd0 ht hT hp ih hbw
    have HB0 := Lib.hid (HBW.out.trans (HD0.out.b.mono HBW.out.size))
    have hat : ¬ ((n : Int) + 1 ≤ 0) := by omega
    by_cases h2 : t.kids.length = 2
    rotate_left
    · have h2b : ((h.tn : Int) != 2) = true := by simp; omega
      have HH2 := Lib.hid h2
      clear h2
      go_wp2_with (first
        | (refine wpList_store_box rfl 25 (.tmp 8) (.tmp 36) rfl (w.heap.size + 1) hZ h rfl rfl 25 HD0.out.res infoTree5 ?_
           intro w2 hbx2 hg2
           have HX2 := Lib.hid hbx2
           have HG2 := Lib.hid hg2
           have HB2 : Hid (Below w.heap.size w w2) := Lib.hid (HD0.out.b.grown hg2 HD0.out.b.size (fun j hj => by injection hj; omega))
           clear hbx2 hg2))
      refine bodyPost_ret (v := .tuple #[(h : TH).v, .bool true]) (Box.result Tryd.results23 _ HX2.out rfl Tryd.underlying25 infoTree5) rfl ⟨h, rfl, ?_, HB2.out⟩
      unfold cutT
      rw [if_neg HH2.out]
      exact From.of_in HP.out.inTree
    have h2b : ((h.tn : Int) != 2) = false := by simp; omega
    obtain ⟨hbn, hdk⟩ := deep_kids hd (by omega)
    have l0 : 0 < t.kids.length := by omega
    have l1 : 1 < t.kids.length := by omega
    have h12 : t.k = 1 ∨ t.k = 2 := by
      rcases part_kids hpb with ⟨h0, _⟩ | ⟨_, h⟩
      · omega
      · exact h
    obtain ⟨hvl, ls, rs, hdL, hdR, hzs⟩ := digT_split (by omega) (by omega) h2 hdg
    have HK := Lib.hid (And.intro hfk (And.intro hdk (And.intro hdL hdR)))
    obtain ⟨g, off, hta, hg, -⟩ := (HP.out.below HB0.out).place (by omega)
    have HTA := Lib.hid hta
    rw [hta] at x4
    rw [hta]
    have ht1 : (1 : Int) < (h.tn : Int) := by omega
    have ht0 : 0 < h.tn := by omega
    obtain ⟨k0, k1, k2, k3, k4⟩ := (HP.out.below HB0.out).kid0 hta ht0
    have HC := Lib.hid (And.intro hvl (And.intro hdg hf))
    clear hfk hdk hdL hdR hd hf hdg hta hg hzs hvl
    go_upto_region 7 with (first
      | (go_at_call 23
         refine (IH.out _ (H 0) _ (b - 1) ls (by omega) (HP.out.kids 0 l0) HB0.out HD0.out.tab (HK.out.1 0 l0) (HK.out.2.1 0 l0) (by omega) (by omega) HK.out.2.2.1).mono ?_
         rintro _ w1 ⟨h1, rfl, hi1, hb1⟩
         unfold TH.v
         have HD1 := Lib.hid (HD0.out.below hb1)
         have HI1 := Lib.hid hi1
         have hsz1 := hb1.size
         clear hb1 hi1))
    clear x0 x1 x2 x3 x4 k0 k1 k2 k3 k4
    have hb1 : Below w1.heap.size w1 (w1.alloc (.cells #[.int .i64 h1.k, .slice h1.ka h1.kn h1.kc, .slice h1.va h1.vn h1.vc, .slice h1.da h1.dn h1.dc, .slice h1.ta h1.tn h1.tc] 25)) := (Below.refl _ _).alloc (Nat.le_refl _) _
    have hbx1 := Box.new w1 25 h1
    have hlt1 : w.heap.size + 1 < w1.heap.size := HD1.out.res.lt
    generalize w1.alloc (.cells #[.int .i64 h1.k, .slice h1.ka h1.kn h1.kc, .slice h1.va h1.vn h1.vc, .slice h1.da h1.dn h1.dc, .slice h1.ta h1.tn h1.tc] 25) = w2 at *
    have HD2 := Lib.hid (HD1.out.below hb1)
    have HI2 : Hid (From wb w0.heap.size w1.heap.size w2 h1 (cutT k dark n t.kids[0])) := Lib.hid (HI1.out.below hb1 (Nat.le_refl _))
    have HB2 := Lib.hid (HBW.out.trans (HD2.out.b.mono HBW.out.size))
    clear hb1 HD1 HI1
    generalize w1.heap.size = g1 at *
    have HX1 := Lib.hid (And.intro hbx1 hlt1)
    have HG1 : Hid (w0.heap.size ≤ g1 ∧ g1 < w2.heap.size) := Lib.hid ⟨hsz1, hbx1.lt⟩
    clear hsz1
    clear hbx1 hlt1
    have x4 := (HD2.out.box.cells.2.2.2.2).trans (by rw [HTA.out])
    obtain ⟨k0, k1, k2, k3, k4⟩ := (HP.out.below HB2.out).kid1 HTA.out (by omega)
    go_upto_region 8 with (first
      | (go_at_call 23
         refine (IH.out _ (H 1) _ (b - 1) rs (by omega) (HP.out.kids 1 l1) HB2.out HD2.out.tab (HK.out.1 1 l1) (HK.out.2.1 1 l1) (by omega) (by omega) HK.out.2.2.2).mono ?_
         rintro _ w3 ⟨h2', rfl, hi3, hb3⟩
         unfold TH.v
         have HD3 := Lib.hid (HD2.out.below hb3)
         have HI3 : Hid (From wb w0.heap.size g1 w3 h1 (cutT k dark n t.kids[0]) ∧ From wb w2.heap.size w3.heap.size w3 h2' (cutT k dark n t.kids[1])) := Lib.hid ⟨HI2.out.below hb3 (Nat.le_of_lt HX1.out.1.lt), hi3⟩
         have HG3 := Lib.hid hb3.size
         have HX3 := Lib.hid (And.intro (HX1.out.1.below hb3 HX1.out.1.lt) (And.intro HX1.out.2 (Nat.lt_of_lt_of_le HX1.out.1.lt hb3.size)))
         clear hb3 hi3))
    clear x4 k0 k1 k2 k3 k4
    have hb4 : Below w3.heap.size w3 (w3.alloc (.cells #[.int .i64 h2'.k, .slice h2'.ka h2'.kn h2'.kc, .slice h2'.va h2'.vn h2'.vc, .slice h2'.da h2'.dn h2'.dc, .slice h2'.ta h2'.tn h2'.tc] 25)) := (Below.refl _ _).alloc (Nat.le_refl _) _
    have hbx4 := Box.new w3 25 h2'
    generalize w3.alloc (.cells #[.int .i64 h2'.k, .slice h2'.ka h2'.kn h2'.kc, .slice h2'.va h2'.vn h2'.vc, .slice h2'.da h2'.dn h2'.dc, .slice h2'.ta h2'.tn h2'.tc] 25) = w4 at *
    have HD4 := Lib.hid (HD3.out.below hb4)
    have HI4 : Hid (From wb w0.heap.size g1 w4 h1 (cutT k dark n t.kids[0]) ∧ From wb w2.heap.size w3.heap.size w4 h2' (cutT k dark n t.kids[1])) := Lib.hid ⟨HI3.out.1.below hb4 (Nat.le_of_lt HX3.out.2.2), HI3.out.2.below hb4 (Nat.le_refl _)⟩
    have HX4 := Lib.hid (And.intro (HX3.out.1.below hb4 HX3.out.1.lt) HX3.out.2)
    clear hb4 HD3 HI3 HX3 HX1 HI2 HD2
    have HO : Hid (w0.heap.size ≤ g1 ∧ g1 < w2.heap.size ∧ w2.heap.size ≤ w3.heap.size) := Lib.hid ⟨HG1.out.1, HG1.out.2, HG3.out⟩
    generalize w3.heap.size = g2 at *
    have HY4 := Lib.hid hbx4
    clear hbx4
    obtain ⟨x0, x1, x2, x3, x4⟩ := HD4.out.box.cells
    rw [HTA.out] at x4
    obtain ⟨y0, y1, y2, y3, y4⟩ := HX4.out.1.cells
    obtain ⟨z0, z1, z2, z3, z4⟩ := HY4.out.cells
    go_upto_region 9 with fail
    have hb5a : Below w4.heap.size w4 (w4.alloc (.cells #[.int .i64 h1.k, .slice h1.ka h1.kn h1.kc, .slice h1.va h1.vn h1.vc, .slice h1.da h1.dn h1.dc, .slice h1.ta h1.tn h1.tc, .int .i64 h2'.k, .slice h2'.ka h2'.kn h2'.kc, .slice h2'.va h2'.vn h2'.vc, .slice h2'.da h2'.dn h2'.dc, .slice h2'.ta h2'.tn h2'.tc] 25)) := (Below.refl _ _).alloc (Nat.le_refl _) _
    have ht5a := Two5.new w4 25 h1 h2'
    have hs5 : (w4.alloc (.cells #[.int .i64 h1.k, .slice h1.ka h1.kn h1.kc, .slice h1.va h1.vn h1.vc, .slice h1.da h1.dn h1.dc, .slice h1.ta h1.tn h1.tc, .int .i64 h2'.k, .slice h2'.ka h2'.kn h2'.kc, .slice h2'.va h2'.vn h2'.vc, .slice h2'.da h2'.dn h2'.dc, .slice h2'.ta h2'.tn h2'.tc] 25)).heap.size = w4.heap.size + 1 := by simp
    have hb5b : Below (w4.alloc (.cells #[.int .i64 h1.k, .slice h1.ka h1.kn h1.kc, .slice h1.va h1.vn h1.vc, .slice h1.da h1.dn h1.dc, .slice h1.ta h1.tn h1.tc, .int .i64 h2'.k, .slice h2'.ka h2'.kn h2'.kc, .slice h2'.va h2'.vn h2'.vc, .slice h2'.da h2'.dn h2'.dc, .slice h2'.ta h2'.tn h2'.tc] 25)).heap.size (w4.alloc (.cells #[.int .i64 h1.k, .slice h1.ka h1.kn h1.kc, .slice h1.va h1.vn h1.vc, .slice h1.da h1.dn h1.dc, .slice h1.ta h1.tn h1.tc, .int .i64 h2'.k, .slice h2'.ka h2'.kn h2'.kc, .slice h2'.va h2'.vn h2'.vc, .slice h2'.da h2'.dn h2'.dc, .slice h2'.ta h2'.tn h2'.tc] 25)) ((w4.alloc (.cells #[.int .i64 h1.k, .slice h1.ka h1.kn h1.kc, .slice h1.va h1.vn h1.vc, .slice h1.da h1.dn h1.dc, .slice h1.ta h1.tn h1.tc, .int .i64 h2'.k, .slice h2'.ka h2'.kn h2'.kc, .slice h2'.va h2'.vn h2'.vc, .slice h2'.da h2'.dn h2'.dc, .slice h2'.ta h2'.tn h2'.tc] 25)).alloc (.cells #[.int .i64 h.k, .slice h.ka h.kn h.kc, .slice h.va h.vn h.vc, .slice h.da h.dn h.dc, .slice (some ⟨w4.heap.size, 0, none⟩) 2 2] 25)) := (Below.refl _ _).alloc (Nat.le_refl _) _
    have hb5 := hb5a.trans (hb5b.mono hb5a.size)
    have ht5 := ht5a.below hb5b ht5a.lt
    have hx5 : Box ((w4.alloc (.cells #[.int .i64 h1.k, .slice h1.ka h1.kn h1.kc, .slice h1.va h1.vn h1.vc, .slice h1.da h1.dn h1.dc, .slice h1.ta h1.tn h1.tc, .int .i64 h2'.k, .slice h2'.ka h2'.kn h2'.kc, .slice h2'.va h2'.vn h2'.vc, .slice h2'.da h2'.dn h2'.dc, .slice h2'.ta h2'.tn h2'.tc] 25)).alloc (.cells #[.int .i64 h.k, .slice h.ka h.kn h.kc, .slice h.va h.vn h.vc, .slice h.da h.dn h.dc, .slice (some ⟨w4.heap.size, 0, none⟩) 2 2] 25)) 25 (w4.heap.size + 1) ⟨h.k, h.ka, h.kn, h.kc, h.va, h.vn, h.vc, h.da, h.dn, h.dc, some ⟨w4.heap.size, 0, none⟩, 2, 2⟩ := by
      have := Box.new (w4.alloc (.cells #[.int .i64 h1.k, .slice h1.ka h1.kn h1.kc, .slice h1.va h1.vn h1.vc, .slice h1.da h1.dn h1.dc, .slice h1.ta h1.tn h1.tc, .int .i64 h2'.k, .slice h2'.ka h2'.kn h2'.kc, .slice h2'.va h2'.vn h2'.vc, .slice h2'.da h2'.dn h2'.dc, .slice h2'.ta h2'.tn h2'.tc] 25)) 25 ⟨h.k, h.ka, h.kn, h.kc, h.va, h.vn, h.vc, h.da, h.dn, h.dc, some ⟨w4.heap.size, 0, none⟩, 2, 2⟩
      rw [hs5] at this
      exact this
    clear hb5a ht5a hs5 hb5b
    generalize ((w4.alloc (.cells #[.int .i64 h1.k, .slice h1.ka h1.kn h1.kc, .slice h1.va h1.vn h1.vc, .slice h1.da h1.dn h1.dc, .slice h1.ta h1.tn h1.tc, .int .i64 h2'.k, .slice h2'.ka h2'.kn h2'.kc, .slice h2'.va h2'.vn h2'.vc, .slice h2'.da h2'.dn h2'.dc, .slice h2'.ta h2'.tn h2'.tc] 25)).alloc (.cells #[.int .i64 h.k, .slice h.ka h.kn h.kc, .slice h.va h.vn h.vc, .slice h.da h.dn h.dc, .slice (some ⟨w4.heap.size, 0, none⟩) 2 2] 25)) = w5 at *
    have HD5 := Lib.hid (HD4.out.below hb5)
    have hck : CK wb w w5 h t w0.heap.size g1 w2.heap.size g2 w4.heap.size h1 h2' ⟨h.k, h.ka, h.kn, h.kc, h.va, h.vn, h.vc, h.da, h.dn, h.dc, some ⟨w4.heap.size, 0, none⟩, 2, 2⟩ (cutT k dark n t.kids[0]) (cutT k dark n t.kids[1]) :=
      ⟨HD5.out, HX4.out.1.below hb5 HX4.out.1.lt, HY4.out.below hb5 HY4.out.lt, HI4.out.1.below hb5 (Nat.le_of_lt HX4.out.1.lt), HI4.out.2.below hb5 (Nat.le_of_lt HY4.out.lt), hx5, ht5, HD0.out.res.lt, HO.out.1, HO.out.2.1, HO.out.2.2, HY4.out.lt⟩
    have HCK := Lib.hid hck
    clear hb5 ht5 hx5 hck HD4 HX4 HY4 HI4 x0 x1 x2 x3 x4 y0 y1 y2 y3 y4 z0 z1 z2 z3 z4
    generalize w4.heap.size = g3 at *
    generalize w2.heap.size = l2 at *
    generalize w0.heap.size = l1 at *
    obtain ⟨v0, v1, v2, v3, v4⟩ := HCK.out.b3.cells
    obtain ⟨x0, x1, x2, x3, x4⟩ := HCK.out.d.box.cells
    have HKK := Lib.hid HP.out.hk
    cases dark
    · have HDK : Hid (¬ (false && t.k == 1) = true) := Lib.hid (by simp)
      go_wp2_with (first
        | (refine wpList_store_box rfl 25 (.tmp 8) (.tmp 106) rfl (w.heap.size + 1) hZ ⟨h.k, h.ka, h.kn, h.kc, h.va, h.vn, h.vc, h.da, h.dn, h.dc, some ⟨g3, 0, none⟩, 2, 2⟩ rfl rfl 25 HCK.out.d.res infoTree5 ?_
           intro w6 hbx6 hg6
           have HX6 := Lib.hid hbx6
           have HF6 := Lib.hid (HCK.out.fin HCK.out.two (by have := HCK.out.o1; have := HCK.out.o2; have := HCK.out.o3; have := HCK.out.o4; have := HCK.out.o5; omega) hg6 hk01 hk02 HP.out.key HP.out.val (fun X hb _ _ => HP.out.dig.below hb))
           have HB6 : Hid (Below w.heap.size w w6) := Lib.hid (HCK.out.d.b.grown hg6 HCK.out.d.b.size (fun j hj => by injection hj; omega))
           clear hbx6 hg6))
      refine bodyPost_ret (v := .tuple #[(⟨h.k, h.ka, h.kn, h.kc, h.va, h.vn, h.vc, h.da, h.dn, h.dc, some ⟨g3, 0, none⟩, 2, 2⟩ : TH).v, .bool true]) (Box.result Tryd.results23 _ HX6.out rfl Tryd.underlying25 infoTree5) rfl ⟨⟨h.k, h.ka, h.kn, h.kc, h.va, h.vn, h.vc, h.da, h.dn, h.dc, some ⟨g3, 0, none⟩, 2, 2⟩, rfl, ?_, HB6.out⟩
      unfold cutT
      rw [if_pos h2, if_neg HDK.out, map_two _ _ h2, ← HKK.out]
      exact HF6.out
    cases f1 : (h.k == 1)
    · have HDK : Hid (¬ (true && t.k == 1) = true) := Lib.hid (by rw [← HP.out.hk, f1]; simp)
      go_wp2_with (first
        | (refine wpList_store_box rfl 25 (.tmp 8) (.tmp 106) rfl (w.heap.size + 1) hZ ⟨h.k, h.ka, h.kn, h.kc, h.va, h.vn, h.vc, h.da, h.dn, h.dc, some ⟨g3, 0, none⟩, 2, 2⟩ rfl rfl 25 HCK.out.d.res infoTree5 ?_
           intro w6 hbx6 hg6
           have HX6 := Lib.hid hbx6
           have HF6 := Lib.hid (HCK.out.fin HCK.out.two (by have := HCK.out.o1; have := HCK.out.o2; have := HCK.out.o3; have := HCK.out.o4; have := HCK.out.o5; omega) hg6 hk01 hk02 HP.out.key HP.out.val (fun X hb _ _ => HP.out.dig.below hb))
           have HB6 : Hid (Below w.heap.size w w6) := Lib.hid (HCK.out.d.b.grown hg6 HCK.out.d.b.size (fun j hj => by injection hj; omega))
           clear hbx6 hg6))
      refine bodyPost_ret (v := .tuple #[(⟨h.k, h.ka, h.kn, h.kc, h.va, h.vn, h.vc, h.da, h.dn, h.dc, some ⟨g3, 0, none⟩, 2, 2⟩ : TH).v, .bool true]) (Box.result Tryd.results23 _ HX6.out rfl Tryd.underlying25 infoTree5) rfl ⟨⟨h.k, h.ka, h.kn, h.kc, h.va, h.vn, h.vc, h.da, h.dn, h.dc, some ⟨g3, 0, none⟩, 2, 2⟩, rfl, ?_, HB6.out⟩
      unfold cutT
      rw [if_pos h2, if_neg HDK.out, map_two _ _ h2, ← HKK.out]
      exact HF6.out
    have HDK : Hid ((true && t.k == 1) = true) := Lib.hid (by rw [← HP.out.hk, f1]; rfl)
    have hpl := part_lens hpb
    have hvl0 := HP.out.val.len
    have hlv : h.vn ≤ 1024 := by omega
    clear hpl hvl0
    go_upto_region 10 with fail
    clear v0 v1 v2 v3 v4 x0 x1 x2 x3 x4
    refine wp_region_held_drew (S := (fun W => W.cell? ⟨w.heap.size, 0, none⟩ = some (.int .i64 h.k) ∧ W.cell? ⟨w.heap.size, 1, none⟩ = some (.slice h.ka h.kn h.kc) ∧ W.cell? ⟨w.heap.size, 2, none⟩ = some (.slice h.va h.vn h.vc) ∧ W.cell? ⟨w.heap.size, 3, none⟩ = some (.slice h.da h.dn h.dc) ∧ W.cell? ⟨w.heap.size, 4, none⟩ = some (.slice h.ta h.tn h.tc))) (by kernel_rfl) HCK.out.drew.d.box.cells (fun hHeld => ?_)
    refine take_w (i := 1) (oi := ?oZ7) (v := ?vZ7) ?hiZ7 (by kernel_rfl) (by kernel_rfl) (by kernel_rfl) ?hQZ7 ?hwZ7 ?hyZ7 (by assumption) ?restZ7
    case hiZ7 => (simp only [List.getElem?_toArray, List.getElem?_cons_succ, List.getElem?_cons_zero] <;> rfl)
    case hQZ7 => exact (fun _ _ _ h => h)
    case hwZ7 => rfl
    case hyZ7 => (intro w hSw; (try dsimp only at hSw); go_simp; try with_reducible rfl)
    (try simp only [Act.put, List.setIfInBounds_toArray, List.set_cons_zero, List.set_cons_succ])
    refine take_w (i := 2) (oi := ?oZ8) (v := ?vZ8) ?hiZ8 (by kernel_rfl) (by kernel_rfl) (by kernel_rfl) ?hQZ8 ?hwZ8 ?hyZ8 (by assumption) ?restZ8
    case hiZ8 => (simp only [List.getElem?_toArray, List.getElem?_cons_succ, List.getElem?_cons_zero] <;> rfl)
    case hQZ8 => exact (fun _ _ _ h => h)
    case hwZ8 => rfl
    case hyZ8 => (intro w hSw; (try dsimp only at hSw); go_simp; try with_reducible rfl)
    (try simp only [Act.put, List.setIfInBounds_toArray, List.set_cons_zero, List.set_cons_succ])
    refine wpAnyH_ready (rs := [0]) (by kernel_rfl) (by simp) ?_
    refine AllReadyH.cons (o := ?oZ9) ?hiZ9 (fun K hK => ?stZ9) AllReadyH.nil
    case hiZ9 => (simp only [List.getElem?_toArray, List.getElem?_cons_zero] <;> rfl)
    go_simp
    go_at_call 19
    refine (made_any _).mono ?_
    rintro _ w6 ⟨gk, ck, rfl, ho6, hb6⟩
    have HO6 := Lib.hid (own_seg ho6)
    have hgk := (ho6.lt gk rfl).2
    have HCK6 := Lib.hid (HCK.out.drew.below hb6)
    clear ho6 hb6
    go_simp
    refine hK.out _ _ ?_ (fun hHeld => ?_)
    · (first | exact HCK7.out.d.box.cells | exact HCK6.out.d.box.cells | exact HCK.out.drew.d.box.cells)
    clear hK K
    (try simp only [Act.put, List.setIfInBounds_toArray, List.set_cons_zero, List.set_cons_succ])
    refine wpAnyH_ready (rs := [3]) (by kernel_rfl) (by simp) ?_
    refine AllReadyH.cons (o := ?oZ10) ?hiZ10 (fun K hK => ?stZ10) AllReadyH.nil
    case hiZ10 => (simp only [List.getElem?_toArray, List.getElem?_cons_succ, List.getElem?_cons_zero] <;> rfl)
    go_simp
    go_at_call 18
    refine (refDigest_any k hk1 hk2 gk ck t h _ HCK6.out.d.t HC.out.2.2 HO6.out hgk).mono ?_
    rintro _ w7 ⟨a7, n7, c7, is7, rfl, hres7, hb7⟩
    have HCK7 := Lib.hid (HCK6.out.below hb7)
    have HRES := Lib.hid hres7
    clear hres7 hb7
    go_simp
    refine hK.out _ _ ?_ (fun hHeld => ?_)
    · (first | exact HCK7.out.d.box.cells | exact HCK6.out.d.box.cells | exact HCK.out.drew.d.box.cells)
    clear hK K
    (try simp only [Act.put, List.setIfInBounds_toArray, List.set_cons_zero, List.set_cons_succ])
    refine take_w (i := 4) (oi := ?oZ11) (v := ?vZ11) ?hiZ11 (by kernel_rfl) (by kernel_rfl) (by kernel_rfl) ?hQZ11 ?hwZ11 ?hyZ11 (by assumption) ?restZ11
    case hiZ11 => (simp only [List.getElem?_toArray, List.getElem?_cons_succ, List.getElem?_cons_zero] <;> rfl)
    case hQZ11 => exact (fun _ _ _ h => h)
    case hwZ11 => rfl
    case hyZ11 => (intro w hSw; (try dsimp only at hSw); go_simp; try with_reducible rfl)
    (try simp only [Act.put, List.setIfInBounds_toArray, List.set_cons_zero, List.set_cons_succ])
    refine take_w (i := 5) (oi := ?oZ12) (v := ?vZ12) ?hiZ12 (by kernel_rfl) (by kernel_rfl) (by kernel_rfl) ?hQZ12 ?hwZ12 ?hyZ12 (by assumption) ?restZ12
    case hiZ12 => (simp only [List.getElem?_toArray, List.getElem?_cons_succ, List.getElem?_cons_zero] <;> rfl)
    case hQZ12 => exact (fun _ _ _ h => h)
    case hwZ12 => rfl
    case hyZ12 => (intro w hSw; (try dsimp only at hSw); go_simp; try with_reducible rfl)
    (try simp only [Act.put, List.setIfInBounds_toArray, List.set_cons_zero, List.set_cons_succ])
    refine take_w (i := 6) (oi := ?oZ13) (v := ?vZ13) ?hiZ13 (by kernel_rfl) (by kernel_rfl) (by kernel_rfl) ?hQZ13 ?hwZ13 ?hyZ13 (by assumption) ?restZ13
    case hiZ13 => (simp only [List.getElem?_toArray, List.getElem?_cons_succ, List.getElem?_cons_zero] <;> rfl)
    case hQZ13 => exact (fun _ _ _ h => h)
    case hwZ13 => rfl
    case hyZ13 => (intro w hSw; (try dsimp only at hSw); go_simp; try with_reducible rfl)
    (try simp only [Act.put, List.setIfInBounds_toArray, List.set_cons_zero, List.set_cons_succ])
    refine take_w (i := 7) (oi := ?oZ14) (v := ?vZ14) ?hiZ14 (by kernel_rfl) (by kernel_rfl) (by kernel_rfl) ?hQZ14 ?hwZ14 ?hyZ14 (by assumption) ?restZ14
    case hiZ14 => (simp only [List.getElem?_toArray, List.getElem?_cons_succ, List.getElem?_cons_zero] <;> rfl)
    case hQZ14 => exact (fun _ _ _ h => h)
    case hwZ14 => rfl
    case hyZ14 => (intro w hSw; (try dsimp only at hSw); go_simp; try with_reducible rfl)
    (try simp only [Act.put, List.setIfInBounds_toArray, List.set_cons_zero, List.set_cons_succ])
    refine take_w (i := 8) (oi := ?oZ15) (v := ?vZ15) ?hiZ15 (by kernel_rfl) (by kernel_rfl) (by kernel_rfl) ?hQZ15 ?hwZ15 ?hyZ15 (by assumption) ?restZ15
    case hiZ15 => (simp only [List.getElem?_toArray, List.getElem?_cons_succ, List.getElem?_cons_zero] <;> rfl)
    case hQZ15 => exact (fun _ _ _ h => h)
    case hwZ15 => rfl
    case hyZ15 => (intro w hSw; (try dsimp only at hSw); go_simp; try with_reducible rfl)
    (try simp only [Act.put, List.setIfInBounds_toArray, List.set_cons_zero, List.set_cons_succ])
    refine wpAnyH_done (by kernel_rfl) ?_ _
    
    clear hHeld
    have hnk : n7 = k := by
      have hq := HRES.out
      rw [HC.out.2.1] at hq
      rcases hq with ⟨_, zs', e1, hi⟩ | ⟨_, e1⟩
      · injection e1 with e1
        rw [← hi.len, ← e1]
        exact digT_len hk2 HC.out.2.1
      · cases e1
    subst hnk
    have hkk : ((n7 : Int) != (n7 : Int)) = false := by simp
    obtain ⟨i0, hi0, hz0, hz1, hz2⟩ := info_parts infoU8
    go_upto_region 13 with fail
    clear hkk
    go_cut [19] (fun s19 wx => ∃ g10, s19 = .slice (some ⟨g10, 0, none⟩) 32 32 ∧ Row .u8 wx 5 g10 (sumL (valL t.val)) ∧ w.heap.size + 1 < g10 ∧ CK wb w wx h t l1 g1 l2 g2 g3 h1 h2' ⟨h.k, h.ka, h.kn, h.kc, h.va, h.vn, h.vc, h.da, h.dn, h.dc, some ⟨g3, 0, none⟩, 2, 2⟩ (cutT n7 true n t.kids[0]) (cutT n7 true n t.kids[1]))
    case first =>
      have hba : Below w7.heap.size w7 (w7.drew.alloc (.cells #[.int .u8 0] 5)) := ((Below.refl w7.heap.size w7).drew).alloc (Nat.le_refl _) _
      have HCK7a := Lib.hid (HCK7.out.below hba)
      clear hba
      refine wp_region_held_drew (S := (fun W => W.cell? ⟨w.heap.size, 2, none⟩ = some (.slice h.va h.vn h.vc))) (by kernel_rfl) HCK7.out.drew.d.box.cells.2.2.1 (fun hHeld => ?_)
      refine take_w (i := 2) (oi := ?oZ16) (v := ?vZ16) ?hiZ16 (by kernel_rfl) (by kernel_rfl) (by kernel_rfl) ?hQZ16 ?hwZ16 ?hyZ16 (by assumption) ?restZ16
      case hiZ16 => (simp only [List.getElem?_toArray, List.getElem?_cons_succ, List.getElem?_cons_zero] <;> rfl)
      case hQZ16 => exact (fun _ _ _ h => h)
      case hwZ16 => rfl
      case hyZ16 => (intro w hSw; (try dsimp only at hSw); go_simp; try with_reducible rfl)
      (try simp only [Act.put, List.setIfInBounds_toArray, List.set_cons_zero, List.set_cons_succ])
      refine take_w (i := 3) (oi := ?oZ17) (v := ?vZ17) ?hiZ17 (by kernel_rfl) (by kernel_rfl) (by kernel_rfl) ?hQZ17 ?hwZ17 ?hyZ17 (by assumption) ?restZ17
      case hiZ17 => (simp only [List.getElem?_toArray, List.getElem?_cons_succ, List.getElem?_cons_zero] <;> rfl)
      case hQZ17 => exact (fun _ _ _ h => h)
      case hwZ17 => rfl
      case hyZ17 => (intro w hSw; (try dsimp only at hSw); go_simp; try with_reducible rfl)
      (try simp only [Act.put, List.setIfInBounds_toArray, List.set_cons_zero, List.set_cons_succ])
      refine wpAnyH_ready (rs := [0, 1]) (by kernel_rfl) (by simp) ?_
      refine AllReadyH.cons (o := ?oZ18) ?hiZ18 (fun K hK => ?stZ18) (AllReadyH.cons (o := ?oZ19) ?hiZ19 (fun K hK => ?stZ19) AllReadyH.nil)
      case hiZ18 => (simp only [List.getElem?_toArray, List.getElem?_cons_zero] <;> rfl)
      case hiZ19 => (simp only [List.getElem?_toArray, List.getElem?_cons_succ, List.getElem?_cons_zero] <;> rfl)
      case stZ18 =>
        go_simp
        go_at_call 19
        refine (made_any _).mono ?_
        rintro _ w8 ⟨gk, ck, rfl, ho8, hb8⟩
        have HO8 := Lib.hid (own_seg ho8)
        have hgk := (ho8.lt gk rfl).2
        have HCK8 := Lib.hid (HCK7.out.drew.below hb8)
        have HCK8a := Lib.hid (HCK8.out.below ((Below.refl w8.heap.size w8).alloc (Nat.le_refl _) (.cells #[.int .u8 0] 5)))
        clear ho8 hb8
        go_simp
        refine hK.out _ _ ?_ (fun hHeld => ?_)
        · (first | exact HCK10.out.d.box.cells.2.2.1 | exact HCK9.out.d.box.cells.2.2.1 | exact HCK8a.out.d.box.cells.2.2.1 | exact HCK8.out.d.box.cells.2.2.1 | exact HCK7a.out.d.box.cells.2.2.1 | exact HCK7.out.drew.d.box.cells.2.2.1)
        clear hK K
        (try simp only [Act.put, List.setIfInBounds_toArray, List.set_cons_zero, List.set_cons_succ])
        refine wpAnyH_ready (rs := [1]) (by kernel_rfl) (by simp) ?_
        refine AllReadyH.cons (o := ?oZ20) ?hiZ20 (fun K hK => ?stZ20) AllReadyH.nil
        case hiZ20 => (simp only [List.getElem?_toArray, List.getElem?_cons_succ, List.getElem?_cons_zero] <;> rfl)
        go_simp
        refine hK.out _ _ ?_ (fun hHeld => ?_)
        · (first | exact HCK10.out.d.box.cells.2.2.1 | exact HCK9.out.d.box.cells.2.2.1 | exact HCK8a.out.d.box.cells.2.2.1 | exact HCK8.out.d.box.cells.2.2.1 | exact HCK7a.out.d.box.cells.2.2.1 | exact HCK7.out.drew.d.box.cells.2.2.1)
        clear hK K
        (try simp only [Act.put, List.setIfInBounds_toArray, List.set_cons_zero, List.set_cons_succ])
        refine wpAnyH_ready (rs := [4]) (by kernel_rfl) (by simp) ?_
        refine AllReadyH.cons (o := ?oZ21) ?hiZ21 (fun K hK => ?stZ21) AllReadyH.nil
        case hiZ21 => (simp only [List.getElem?_toArray, List.getElem?_cons_succ, List.getElem?_cons_zero] <;> rfl)
        refine step_append_bytes _ rfl (.tmp 92) (.tmp 94) 22 rfl w8.heap.size 5 i0 _ 1 Tryd.underlying22 hi0 hz0 hz1 hz2 rfl w8.heap.size 1 1 [.int .u8 0] rfl (own_new w8 5 .u8 [0] w8.heap.size (Nat.le_refl _) (by simp [maxLen])) h.va h.vn h.vc t.val rfl (HP.out.val.below (HBW.out.trans (HCK8a.out.d.b.mono HBW.out.size))) (by simp only [maxLen]; omega) (by omega) (by simp) ?_
        intro g9 c9 w9 hown9 hg9
        have hb9 : Below w8.heap.size w8 w9 := below_only ((Below.refl _ _).alloc (Nat.le_refl _) _) hg9 (by simp) (Nat.le_refl _)
        have HCK9 := Lib.hid (HCK8.out.below hb9)
        have HI9 : Hid (InBytes w9 (some ⟨g9, 0, none⟩) (1 + h.vn) c9 (valL t.val)) := Lib.hid (InBytes.of_own (zs := valL t.val) hown9 (valL_bytes HP.out.val.bytes))
        have HS9 : Hid (Seg .u32 w9 gk 0 kTab ∧ gk < w9.heap.size) := Lib.hid ⟨HO8.out.below hb9 hgk, Nat.lt_of_lt_of_le hgk hb9.size⟩
        clear hown9 hg9 hb9
        refine hK.out _ _ ?_ (fun hHeld => ?_)
        · (first | exact HCK10.out.d.box.cells.2.2.1 | exact HCK9.out.d.box.cells.2.2.1 | exact HCK8a.out.d.box.cells.2.2.1 | exact HCK8.out.d.box.cells.2.2.1 | exact HCK7a.out.d.box.cells.2.2.1 | exact HCK7.out.drew.d.box.cells.2.2.1)
        clear hK K
        (try simp only [Act.put, List.setIfInBounds_toArray, List.set_cons_zero, List.set_cons_succ])
        refine wpAnyH_ready (rs := [5]) (by kernel_rfl) (by simp) ?_
        refine AllReadyH.cons (o := ?oZ22) ?hiZ22 (fun K hK => ?stZ22) AllReadyH.nil
        case hiZ22 => (simp only [List.getElem?_toArray, List.getElem?_cons_succ, List.getElem?_cons_zero] <;> rfl)
        go_simp
        go_at_call 47
        refine (refSum_any (some ⟨g9, 0, none⟩) (1 + h.vn) c9 gk ck (valL t.val) _ HI9.out (by omega) HS9.out.1 HS9.out.2).mono ?_
        rintro _ w10 ⟨g10, hg10, rfl, hr10, hb10⟩
        have HCK10 := Lib.hid (HCK9.out.below hb10)
        have HR10 := Lib.hid (And.intro hr10 (Nat.lt_of_lt_of_le HCK9.out.d.res.lt hg10))
        clear hg10 hr10 hb10
        go_simp
        refine hK.out _ _ ?_ (fun hHeld => ?_)
        · (first | exact HCK10.out.d.box.cells.2.2.1 | exact HCK9.out.d.box.cells.2.2.1 | exact HCK8a.out.d.box.cells.2.2.1 | exact HCK8.out.d.box.cells.2.2.1 | exact HCK7a.out.d.box.cells.2.2.1 | exact HCK7.out.drew.d.box.cells.2.2.1)
        clear hK K
        (try simp only [Act.put, List.setIfInBounds_toArray, List.set_cons_zero, List.set_cons_succ])
        refine take_w (i := 6) (oi := ?oZ23) (v := ?vZ23) ?hiZ23 (by kernel_rfl) (by kernel_rfl) (by kernel_rfl) ?hQZ23 ?hwZ23 ?hyZ23 (by assumption) ?restZ23
        case hiZ23 => (simp only [List.getElem?_toArray, List.getElem?_cons_succ, List.getElem?_cons_zero] <;> rfl)
        case hQZ23 => exact (fun _ _ _ h => h)
        case hwZ23 => rfl
        case hyZ23 => (intro w hSw; (try dsimp only at hSw); go_simp; try with_reducible rfl)
        (try simp only [Act.put, List.setIfInBounds_toArray, List.set_cons_zero, List.set_cons_succ])
        refine wpAnyH_done (by kernel_rfl) ?_ _
        go_wp2_with fail
        go_meet
        exact ⟨g10, rfl, HR10.out.1, HR10.out.2, HCK10.out⟩
      case stZ19 =>
        go_simp
        refine hK.out _ _ ?_ (fun hHeld => ?_)
        · (first | exact HCK10.out.d.box.cells.2.2.1 | exact HCK9.out.d.box.cells.2.2.1 | exact HCK8a.out.d.box.cells.2.2.1 | exact HCK8.out.d.box.cells.2.2.1 | exact HCK7a.out.d.box.cells.2.2.1 | exact HCK7.out.drew.d.box.cells.2.2.1)
        clear hK K
        (try simp only [Act.put, List.setIfInBounds_toArray, List.set_cons_zero, List.set_cons_succ])
        refine wpAnyH_ready (rs := [0]) (by kernel_rfl) (by simp) ?_
        refine AllReadyH.cons (o := ?oZ24) ?hiZ24 (fun K hK => ?stZ24) AllReadyH.nil
        case hiZ24 => (simp only [List.getElem?_toArray, List.getElem?_cons_zero] <;> rfl)
        go_simp
        go_at_call 19
        refine (made_any _).mono ?_
        rintro _ w8 ⟨gk, ck, rfl, ho8, hb8⟩
        have HO8 := Lib.hid (own_seg ho8)
        have hgk := ho8.lt gk rfl
        have hba : Below w7.heap.size w7 (w7.drew.alloc (.cells #[.int .u8 0] 5)) := ((Below.refl w7.heap.size w7).drew).alloc (Nat.le_refl _) _
        have hb8' : Below (w7.drew.alloc (.cells #[.int .u8 0] 5)).heap.size (w7.drew.alloc (.cells #[.int .u8 0] 5)) w8 := hb8
        have HB8 : Hid (Below w7.heap.size w7 w8) := Lib.hid (hba.trans (hb8'.mono hba.size))
        have HW8 : Hid (w8.ownsRow w7.heap.size 5 1 (.slice (some ⟨w7.heap.size, 0, none⟩) 1 1) 1 [.int .u8 0]) := Lib.hid (own_keep (own_new w7.drew 5 .u8 [0] w7.heap.size (Nat.le_refl _) (by simp [maxLen])) hb8')
        have HGK : Hid (w7.heap.size < gk ∧ gk < w8.heap.size) := Lib.hid ⟨by have h1 := hgk.1; simp at h1; omega, hgk.2⟩
        have HCK8 := Lib.hid (HCK7.out.below HB8.out)
        clear ho8 hb8 hba hb8' hgk
        go_simp
        refine hK.out _ _ ?_ (fun hHeld => ?_)
        · (first | exact HCK10.out.d.box.cells.2.2.1 | exact HCK9.out.d.box.cells.2.2.1 | exact HCK8a.out.d.box.cells.2.2.1 | exact HCK8.out.d.box.cells.2.2.1 | exact HCK7a.out.d.box.cells.2.2.1 | exact HCK7.out.drew.d.box.cells.2.2.1)
        clear hK K
        (try simp only [Act.put, List.setIfInBounds_toArray, List.set_cons_zero, List.set_cons_succ])
        refine wpAnyH_ready (rs := [4]) (by kernel_rfl) (by simp) ?_
        refine AllReadyH.cons (o := ?oZ25) ?hiZ25 (fun K hK => ?stZ25) AllReadyH.nil
        case hiZ25 => (simp only [List.getElem?_toArray, List.getElem?_cons_succ, List.getElem?_cons_zero] <;> rfl)
        refine step_append_bytes _ rfl (.tmp 92) (.tmp 94) 22 rfl w7.heap.size 5 i0 _ 1 Tryd.underlying22 hi0 hz0 hz1 hz2 rfl w7.heap.size 1 1 [.int .u8 0] rfl HW8.out h.va h.vn h.vc t.val rfl (HP.out.val.below (HBW.out.trans (HCK8.out.d.b.mono HBW.out.size))) (by simp only [maxLen]; omega) (by omega) HB8.out.size ?_
        intro g9 c9 w9 hown9 hg9
        have hb9 : Below w7.heap.size w7 w9 := HB8.out.grown hg9 HB8.out.size (fun j hj => by injection hj; omega)
        have HCK9 := Lib.hid (HCK7.out.below hb9)
        have HI9 : Hid (InBytes w9 (some ⟨g9, 0, none⟩) (1 + h.vn) c9 (valL t.val)) := Lib.hid (InBytes.of_own (zs := valL t.val) hown9 (valL_bytes HP.out.val.bytes))
        have HS9 : Hid (Seg .u32 w9 gk 0 kTab ∧ gk < w9.heap.size) := Lib.hid ⟨HO8.out.keep fun o => World.cell?_of_block (a := ⟨gk, o, none⟩) (hg9.block gk HGK.out.2 (fun q => by injection q with q; have := HGK.out.1; omega)), Nat.lt_of_lt_of_le HGK.out.2 hg9.size⟩
        clear hown9 hg9 hb9
        refine hK.out _ _ ?_ (fun hHeld => ?_)
        · (first | exact HCK10.out.d.box.cells.2.2.1 | exact HCK9.out.d.box.cells.2.2.1 | exact HCK8a.out.d.box.cells.2.2.1 | exact HCK8.out.d.box.cells.2.2.1 | exact HCK7a.out.d.box.cells.2.2.1 | exact HCK7.out.drew.d.box.cells.2.2.1)
        clear hK K
        (try simp only [Act.put, List.setIfInBounds_toArray, List.set_cons_zero, List.set_cons_succ])
        refine wpAnyH_ready (rs := [5]) (by kernel_rfl) (by simp) ?_
        refine AllReadyH.cons (o := ?oZ26) ?hiZ26 (fun K hK => ?stZ26) AllReadyH.nil
        case hiZ26 => (simp only [List.getElem?_toArray, List.getElem?_cons_succ, List.getElem?_cons_zero] <;> rfl)
        go_simp
        go_at_call 47
        refine (refSum_any (some ⟨g9, 0, none⟩) (1 + h.vn) c9 gk ck (valL t.val) _ HI9.out (by omega) HS9.out.1 HS9.out.2).mono ?_
        rintro _ w10 ⟨g10, hg10, rfl, hr10, hb10⟩
        have HCK10 := Lib.hid (HCK9.out.below hb10)
        have HR10 := Lib.hid (And.intro hr10 (Nat.lt_of_lt_of_le HCK9.out.d.res.lt hg10))
        clear hg10 hr10 hb10
        go_simp
        refine hK.out _ _ ?_ (fun hHeld => ?_)
        · (first | exact HCK10.out.d.box.cells.2.2.1 | exact HCK9.out.d.box.cells.2.2.1 | exact HCK8a.out.d.box.cells.2.2.1 | exact HCK8.out.d.box.cells.2.2.1 | exact HCK7a.out.d.box.cells.2.2.1 | exact HCK7.out.drew.d.box.cells.2.2.1)
        clear hK K
        (try simp only [Act.put, List.setIfInBounds_toArray, List.set_cons_zero, List.set_cons_succ])
        refine take_w (i := 6) (oi := ?oZ27) (v := ?vZ27) ?hiZ27 (by kernel_rfl) (by kernel_rfl) (by kernel_rfl) ?hQZ27 ?hwZ27 ?hyZ27 (by assumption) ?restZ27
        case hiZ27 => (simp only [List.getElem?_toArray, List.getElem?_cons_succ, List.getElem?_cons_zero] <;> rfl)
        case hQZ27 => exact (fun _ _ _ h => h)
        case hwZ27 => rfl
        case hyZ27 => (intro w hSw; (try dsimp only at hSw); go_simp; try with_reducible rfl)
        (try simp only [Act.put, List.setIfInBounds_toArray, List.set_cons_zero, List.set_cons_succ])
        refine wpAnyH_done (by kernel_rfl) ?_ _
        go_wp2_with fail
        go_meet
        exact ⟨g10, rfl, HR10.out.1, HR10.out.2, HCK10.out⟩
    case rest =>
      obtain ⟨g10, rfl, hr11, hgt, hck⟩ := hcut
      have HCK11 := Lib.hid hck
      have HR11 := Lib.hid hr11
      have HGT := Lib.hid hgt
      clear hck hr11 hgt HCK7 HCK6 HCK
      have hk3 : (n7 : Int) ≤ 32 := by omega
      have hk4 : (0 : Int) ≤ (n7 : Int) := by omega
      go_upto_region 14 with fail
      generalize wc = w11 at *
      have hb12 : Below w11.heap.size w11 (w11.drew.alloc (.cells #[.int .i64 h1.k, .slice h1.ka h1.kn h1.kc, .slice h1.va h1.vn h1.vc, .slice h1.da h1.dn h1.dc, .slice h1.ta h1.tn h1.tc, .int .i64 h2'.k, .slice h2'.ka h2'.kn h2'.kc, .slice h2'.va h2'.vn h2'.vc, .slice h2'.da h2'.dn h2'.dc, .slice h2'.ta h2'.tn h2'.tc] 25)) := ((Below.refl w11.heap.size w11).drew).alloc (Nat.le_refl _) _
      have HCK12 := Lib.hid (HCK11.out.below hb12)
      have HR12 := Lib.hid (HR11.out.below hb12 HR11.out.lt)
      have HT12 : Hid (Two5 (w11.drew.alloc (.cells #[.int .i64 h1.k, .slice h1.ka h1.kn h1.kc, .slice h1.va h1.vn h1.vc, .slice h1.da h1.dn h1.dc, .slice h1.ta h1.tn h1.tc, .int .i64 h2'.k, .slice h2'.ka h2'.kn h2'.kc, .slice h2'.va h2'.vn h2'.vc, .slice h2'.da h2'.dn h2'.dc, .slice h2'.ta h2'.tn h2'.tc] 25)) 25 w11.heap.size h1 h2') := Lib.hid (Two5.new w11.drew 25 h1 h2')
      clear hb12
      refine wp_region_held_drew (S := (fun W => W.cell? ⟨w.heap.size, 1, none⟩ = some (.slice h.ka h.kn h.kc) ∧ (W.cell? ⟨g1, 0, none⟩ = some (.int .i64 h1.k) ∧ W.cell? ⟨g1, 1, none⟩ = some (.slice h1.ka h1.kn h1.kc) ∧ W.cell? ⟨g1, 2, none⟩ = some (.slice h1.va h1.vn h1.vc) ∧ W.cell? ⟨g1, 3, none⟩ = some (.slice h1.da h1.dn h1.dc) ∧ W.cell? ⟨g1, 4, none⟩ = some (.slice h1.ta h1.tn h1.tc)) ∧ W.cell? ⟨g2, 0, none⟩ = some (.int .i64 h2'.k) ∧ W.cell? ⟨g2, 1, none⟩ = some (.slice h2'.ka h2'.kn h2'.kc) ∧ W.cell? ⟨g2, 2, none⟩ = some (.slice h2'.va h2'.vn h2'.vc) ∧ W.cell? ⟨g2, 3, none⟩ = some (.slice h2'.da h2'.dn h2'.dc) ∧ W.cell? ⟨g2, 4, none⟩ = some (.slice h2'.ta h2'.tn h2'.tc))) (by kernel_rfl) ⟨HCK11.out.drew.d.box.cells.2.1, HCK11.out.drew.b1.cells, HCK11.out.drew.b2.cells⟩ (fun hHeld => ?_)
      refine take_w (i := 0) (oi := ?oZ28) (v := ?vZ28) ?hiZ28 (by kernel_rfl) (by kernel_rfl) (by kernel_rfl) ?hQZ28 ?hwZ28 ?hyZ28 (by assumption) ?restZ28
      case hiZ28 => (simp only [List.getElem?_toArray, List.getElem?_cons_zero] <;> rfl)
      case hQZ28 => exact (fun _ _ _ h => h)
      case hwZ28 => rfl
      case hyZ28 => (intro w hSw; (try dsimp only at hSw); go_simp; try with_reducible rfl)
      (try simp only [Act.put, List.setIfInBounds_toArray, List.set_cons_zero, List.set_cons_succ])
      refine take_w (i := 1) (oi := ?oZ29) (v := ?vZ29) ?hiZ29 (by kernel_rfl) (by kernel_rfl) (by kernel_rfl) ?hQZ29 ?hwZ29 ?hyZ29 (by assumption) ?restZ29
      case hiZ29 => (simp only [List.getElem?_toArray, List.getElem?_cons_succ, List.getElem?_cons_zero] <;> rfl)
      case hQZ29 => exact (fun _ _ _ h => h)
      case hwZ29 => rfl
      case hyZ29 => (intro w hSw; (try dsimp only at hSw); go_simp; try with_reducible rfl)
      (try simp only [Act.put, List.setIfInBounds_toArray, List.set_cons_zero, List.set_cons_succ])
      refine take_w (i := 2) (oi := ?oZ30) (v := ?vZ30) ?hiZ30 (by kernel_rfl) (by kernel_rfl) (by kernel_rfl) ?hQZ30 ?hwZ30 ?hyZ30 (by assumption) ?restZ30
      case hiZ30 => (simp only [List.getElem?_toArray, List.getElem?_cons_succ, List.getElem?_cons_zero] <;> rfl)
      case hQZ30 => exact (fun _ _ _ h => h)
      case hwZ30 => rfl
      case hyZ30 => (intro w hSw; (try dsimp only at hSw); go_simp; try with_reducible rfl)
      (try simp only [Act.put, List.setIfInBounds_toArray, List.set_cons_zero, List.set_cons_succ])
      refine take_w (i := 3) (oi := ?oZ31) (v := ?vZ31) ?hiZ31 (by kernel_rfl) (by kernel_rfl) (by kernel_rfl) ?hQZ31 ?hwZ31 ?hyZ31 (by assumption) ?restZ31
      case hiZ31 => (simp only [List.getElem?_toArray, List.getElem?_cons_succ, List.getElem?_cons_zero] <;> rfl)
      case hQZ31 => exact (fun _ _ _ h => h)
      case hwZ31 => rfl
      case hyZ31 => (intro w hSw; (try dsimp only at hSw); go_simp; try with_reducible rfl)
      (try simp only [Act.put, List.setIfInBounds_toArray, List.set_cons_zero, List.set_cons_succ])
      refine take_w (i := 4) (oi := ?oZ32) (v := ?vZ32) ?hiZ32 (by kernel_rfl) (by kernel_rfl) (by kernel_rfl) ?hQZ32 ?hwZ32 ?hyZ32 (by assumption) ?restZ32
      case hiZ32 => (simp only [List.getElem?_toArray, List.getElem?_cons_succ, List.getElem?_cons_zero] <;> rfl)
      case hQZ32 => exact (fun _ _ _ h => h)
      case hwZ32 => rfl
      case hyZ32 => (intro w hSw; (try dsimp only at hSw); go_simp; try with_reducible rfl)
      (try simp only [Act.put, List.setIfInBounds_toArray, List.set_cons_zero, List.set_cons_succ])
      refine take_w (i := 5) (oi := ?oZ33) (v := ?vZ33) ?hiZ33 (by kernel_rfl) (by kernel_rfl) (by kernel_rfl) ?hQZ33 ?hwZ33 ?hyZ33 (by assumption) ?restZ33
      case hiZ33 => (simp only [List.getElem?_toArray, List.getElem?_cons_succ, List.getElem?_cons_zero] <;> rfl)
      case hQZ33 => exact (fun _ _ _ h => h)
      case hwZ33 => rfl
      case hyZ33 => (intro w hSw; (try dsimp only at hSw); go_simp; try with_reducible rfl)
      (try simp only [Act.put, List.setIfInBounds_toArray, List.set_cons_zero, List.set_cons_succ])
      refine take_w (i := 6) (oi := ?oZ34) (v := ?vZ34) ?hiZ34 (by kernel_rfl) (by kernel_rfl) (by kernel_rfl) ?hQZ34 ?hwZ34 ?hyZ34 (by assumption) ?restZ34
      case hiZ34 => (simp only [List.getElem?_toArray, List.getElem?_cons_succ, List.getElem?_cons_zero] <;> rfl)
      case hQZ34 => exact (fun _ _ _ h => h)
      case hwZ34 => rfl
      case hyZ34 => (intro w hSw; (try dsimp only at hSw); go_simp; try with_reducible rfl)
      (try simp only [Act.put, List.setIfInBounds_toArray, List.set_cons_zero, List.set_cons_succ])
      refine wpAnyH_ready (rs := [7]) (by kernel_rfl) (by simp) ?_
      refine AllReadyH.cons (o := ?oZ35) ?hiZ35 (fun K hK => ?stZ35) AllReadyH.nil
      case hiZ35 => (simp only [List.getElem?_toArray, List.getElem?_cons_succ, List.getElem?_cons_zero] <;> rfl)
      go_simp
      refine hK.out _ _ ?_ (fun hHeld => ?_)
      · (first | exact ⟨HCK13.out.d.box.cells.2.1, HCK13.out.b1.cells, HCK13.out.b2.cells⟩ | exact ⟨HCK12.out.d.box.cells.2.1, HCK12.out.b1.cells, HCK12.out.b2.cells⟩ | exact ⟨HCK11.out.drew.d.box.cells.2.1, HCK11.out.drew.b1.cells, HCK11.out.drew.b2.cells⟩)
      clear hK K
      (try simp only [Act.put, List.setIfInBounds_toArray, List.set_cons_zero, List.set_cons_succ])
      refine take_w (i := 8) (oi := ?oZ36) (v := ?vZ36) ?hiZ36 (by kernel_rfl) (by kernel_rfl) (by kernel_rfl) ?hQZ36 ?hwZ36 ?hyZ36 (by assumption) ?restZ36
      case hiZ36 => (simp only [List.getElem?_toArray, List.getElem?_cons_succ, List.getElem?_cons_zero] <;> rfl)
      case hQZ36 => exact (fun _ _ _ h => h)
      case hwZ36 => rfl
      case hyZ36 => (intro w hSw; (try dsimp only at hSw); go_simp; try with_reducible rfl)
      (try simp only [Act.put, List.setIfInBounds_toArray, List.set_cons_zero, List.set_cons_succ])
      refine wpAnyH_ready (rs := [9]) (by kernel_rfl) (by simp) ?_
      refine AllReadyH.cons (o := ?oZ37) ?hiZ37 (fun K hK => ?stZ37) AllReadyH.nil
      case hiZ37 => (simp only [List.getElem?_toArray, List.getElem?_cons_succ, List.getElem?_cons_zero] <;> rfl)
      refine step_store_box rfl 25 (.tmp 16) (.tmp 105) rfl (g3 + 1) ⟨h.k, h.ka, h.kn, h.kc, h.va, h.vn, h.vc, h.da, h.dn, h.dc, some ⟨g3, 0, none⟩, 2, 2⟩ ⟨2, h.ka, h.kn, h.kc, none, 0, 0, some ⟨g10, 0, none⟩, n7, 32, some ⟨w11.heap.size, 0, none⟩, 2, 2⟩ rfl rfl 25 HCK12.out.b3 infoTree5 ?_
      intro w13 hbx13 hg13
      have hne : ∀ j, j ≠ g3 + 1 → some j ≠ some (g3 + 1) := fun j hj q => by injection q; omega
      have hbb : Below w.heap.size w w13 := HCK12.out.d.b.grown hg13 HCK12.out.d.b.size (fun j hj => by injection hj with hj; have := HCK12.out.o1; have := HCK12.out.o2; have := HCK12.out.o3; have := HCK12.out.o4; have := HCK12.out.o5; omega)
      have HB13 := Lib.hid (HBW.out.trans (hbb.mono HBW.out.size))
      have HCK13 := Lib.hid (HCK12.out.put3 hbx13 hg13 (HTB.out.below hbb (Nat.le_refl _)) (HP.out.inTree.lower HB13.out))
      have HT13 : Hid (Two5 w13 25 w11.heap.size h1 h2') := Lib.hid ((hg13.block _ HT12.out.lt (hne _ (by have := HCK11.out.b3.lt; omega))).trans HT12.out)
      have HR13 : Hid (Row .u8 w13 5 g10 (sumL (valL t.val))) := Lib.hid (HR12.out.grown hg13 (hne _ (fun e => by rw [e] at HR12; exact row_box (by decide) HR12.out HCK12.out.b3)))
      clear hbx13 hg13 hne hbb
      refine hK.out _ _ ?_ (fun hHeld => ?_)
      · (first | exact ⟨HCK13.out.d.box.cells.2.1, HCK13.out.b1.cells, HCK13.out.b2.cells⟩ | exact ⟨HCK12.out.d.box.cells.2.1, HCK12.out.b1.cells, HCK12.out.b2.cells⟩ | exact ⟨HCK11.out.drew.d.box.cells.2.1, HCK11.out.drew.b1.cells, HCK11.out.drew.b2.cells⟩)
      clear hK K
      (try simp only [Act.put])
      refine wpAnyH_done (by kernel_rfl) ?_ _
      
      clear hHeld
      obtain ⟨v0, v1, v2, v3, v4⟩ := HCK13.out.b3.cells
      go_wp2_with (first
        | (refine wpList_store_box rfl 25 (.tmp 8) (.tmp 106) rfl (w.heap.size + 1) hZ ⟨2, h.ka, h.kn, h.kc, none, 0, 0, some ⟨g10, 0, none⟩, n7, 32, some ⟨w11.heap.size, 0, none⟩, 2, 2⟩ rfl rfl 25 HCK13.out.d.res infoTree5 ?_
           intro w14 hbx14 hg14
           have HX14 := Lib.hid hbx14
           have HF14 := Lib.hid (HCK13.out.fin HT13.out (by have := HCK11.out.d.res.lt; omega) hg14 (k := 2) (by omega) (by omega) HP.out.key (none_in wb) (fun X hb hs ha => (of_in32 HR13.out hk2).agree (Nat.le_trans hg14.size hs) (fun ad e => by
             injection e with e
             rw [← e]
             have hlt := HR13.out.lt
             have hgt := HGT.out
             rw [ha g10 (by omega) (Nat.lt_of_lt_of_le hlt hg14.size)]
             exact hg14.block g10 hlt (fun q => by injection q; omega))))
           have HB14 : Hid (Below w.heap.size w w14) := Lib.hid (HCK13.out.d.b.grown hg14 HCK13.out.d.b.size (fun j hj => by injection hj; omega))
           clear hbx14 hg14))
      refine bodyPost_ret (v := .tuple #[(⟨2, h.ka, h.kn, h.kc, none, 0, 0, some ⟨g10, 0, none⟩, n7, 32, some ⟨w11.heap.size, 0, none⟩, 2, 2⟩ : TH).v, .bool true]) (Box.result Tryd.results23 _ HX14.out rfl Tryd.underlying25 infoTree5) rfl ⟨⟨2, h.ka, h.kn, h.kc, none, 0, 0, some ⟨g10, 0, none⟩, n7, 32, some ⟨w11.heap.size, 0, none⟩, 2, 2⟩, rfl, ?_, HB14.out⟩
      unfold cutT
      rw [if_pos h2, if_pos HDK.out, map_two _ _ h2]
      exact HF14.out
end Go.Proofs.YtcplfpnaepdddaaDoor
