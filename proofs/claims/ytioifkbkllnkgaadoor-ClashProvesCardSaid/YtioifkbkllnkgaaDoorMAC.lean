/- In a tree and itself nothing is found, nor in a tree and what hides parts of it. No program is named here. The contracts of the program's images of a node's pair and of trees. The contract of bytes.Equal. In a region that draws its order: what may be taken first. No program is named here. The contract of the program's search in two images. The contracts of the program's checks of trees. The contract of the program's check of a tree. What stands in memory inside a closure over a tree. The contracts of the program's look at the widths of a tree's digests. The contracts of the program's digests of a tree's parts. The contracts of the program's trees: Digest. The program's digest of any tree by any width: bytes in new memory, or an error. -/
import Derived.Test.YtioifkbkllnkgaaDoorMAB
import Derived.Test.YtioifkbkllnkgaaDoorMAA
import Derived.Deep.RegionHeld3
import Derived.Deep.CutBlock
import Derived.Lib.SliceRun
/- In a tree and itself nothing is found, nor in a tree and what hides parts of it. No program is named here. -/
namespace Go.Proofs.YtioifkbkllnkgaaDoor
open Go.RowKit
set_option linter.unusedVariables false

theorem deep_mono : ∀ (t : Tr) (b c : Int), 0 ≤ b → b ≤ c → deepT t b = false → deepT t c = false := by
  intro t
  induction t using Tr.ind with
  | h t ih =>
  intro b c hb hc hd
  rw [deepT_eq] at hd ⊢
  rw [Bool.or_eq_false_iff] at hd ⊢
  obtain ⟨h1, h2⟩ := hd
  rw [List.any_eq_false] at h2
  have h1' : (isNode t && c == 0) = false := by
    by_cases hc0 : c = 0
    · have : b = 0 := by omega
      rw [hc0]
      rw [this] at h1
      exact h1
    · have : (c == 0) = false := by simpa using hc0
      rw [this, Bool.and_false]
  refine ⟨h1', ?_⟩
  rw [List.any_eq_false]
  intro x hx
  have q := h2 x hx
  have hn : isNode t = true := by
    unfold isNode
    have : 0 < t.kids.length := List.length_pos_of_mem hx
    simp [this]
  rw [hn, Bool.true_and] at h1
  have hb0 : b ≠ 0 := by simpa using h1
  have := ih x hx (b - 1) (c - 1) (by omega) (by omega) (by simpa using q)
  simpa using this
theorem check_kids {t : Tr} (h : checkT t = 0) {a b : Tr} (e : t.kids = [a, b]) : checkT a = 0 ∧ checkT b = 0 := by
  obtain ⟨hf, hd⟩ := check_zeroR h
  have hk := (formed_kids hf).2
  have l2 : t.kids.length = 2 := by rw [e]; rfl
  have hq := (deep_kids hd (by omega)).2
  have one : ∀ i (hi : i < t.kids.length), checkT t.kids[i] = 0 := fun i hi => by
    unfold checkT
    rw [deep_mono _ _ 64 (by omega) (by omega) (hq i hi), hk i hi]
    rfl
  have q0 := one 0 (by omega)
  have q1 := one 1 (by omega)
  have e0 : t.kids[0]'(by omega) = a := by simp only [e]; rfl
  have e1 : t.kids[1]'(by omega) = b := by simp only [e]; rfl
  rw [e0] at q0
  rw [e1] at q1
  exact ⟨q0, q1⟩
theorem check_leaf (zs : List Int) : checkT (.mk 3 [] [] zs []) = 0 := by
  unfold checkT
  rw [deepT_eq, formedT_eq]
  rfl
theorem dig_leaf {k : Nat} {zs : List Int} (h : zs.length = k) : digT k (.mk 3 [] [] zs []) = some zs := by
  have q : digT k (.mk 3 [] [] zs []) = if zs.length = k then some zs else none := digT_3 rfl
  rw [q, if_pos h]
theorem find_none {k : Nat} {P Q : PT} (t1 : toldD k P.tr = 0) (t2 : toldD k Q.tr = 0) (hd : digT k P.tr = digT k Q.tr) (hs : searchP k P Q = none) : findX k P.tr Q.tr = (9, [], []) := by
  rw [findX_found t1 t2 hd, hs]
  rfl
theorem find_same {k : Nat} {p : Tr} (h1 : 1 ≤ k) (h2 : k ≤ 32) (hc : checkT p = 0) {zs : List Int} (hz : digT k p = some zs) : findX k p p = (9, [], []) := by
  obtain ⟨P, rfl⟩ := PT.of p (check_zeroR hc).1
  exact find_none (toldD_some h1 h2 hc hz) (toldD_some h1 h2 hc hz) rfl (search_same P)
theorem find_cut {k : Nat} {p : Tr} (h1 : 1 ≤ k) (h2 : k ≤ 32) (hc : checkT p = 0) {zs : List Int} (hz : digT k p = some zs) : findX k p (.mk 3 [] [] zs []) = (9, [], []) := by
  obtain ⟨P, rfl⟩ := PT.of p (check_zeroR hc).1
  have hl := digT_len h2 hz
  exact find_none (Q := .cut zs) (toldD_some h1 h2 hc hz) (toldD_some h1 h2 (check_leaf zs) (dig_leaf hl)) (by rw [hz]; exact (dig_leaf hl).symm) (search_cut P zs)
/-- A node whose left part is hidden. -/
def PT.hide (k : Nat) : PT → PT
  | .shown l key v r => .shown (.cut (l.dgP k)) key v r
  | .dark l key d r => .dark (.cut (l.dgP k)) key d r
  | p => p
theorem PT.hide_tr {k : Nat} {p : PT} (h : p.isNode = true) : (p.hide k).tr = .mk p.tr.k p.tr.key p.tr.val p.tr.dig [.mk 3 [] [] (p.left.dgP k) [], p.right.tr] := by
  cases p <;> first | rfl | cases h
theorem PT.hide_ok {k : Nat} (hk : k ≤ 32) {p : PT} (h : p.isNode = true) (ok : p.okP k) : (p.hide k).okP k ∧ (p.hide k).dgP k = p.dgP k := by
  cases p with
  | nil => cases h
  | cut d => cases h
  | shown l key v r => exact ⟨⟨PT.dg_len hk l ok.1, ok.2⟩, rfl⟩
  | dark l key d r => exact ⟨⟨PT.dg_len hk l ok.1, ok.2.1, ok.2.2⟩, rfl⟩
theorem PT.hide_check {k : Nat} {p : PT} (h : p.isNode = true) (hc : checkT p.tr = 0) : checkT (p.hide k).tr = 0 := by
  obtain ⟨hf, hd⟩ := check_zeroR hc
  have hk := PT.node_kids h
  have e := PT.hide_tr (k := k) h
  have hp := (Go.Proofs.YtioifkbkllnkgaaDoor.formed_kids hf).1
  have fr := (PT.formed_kids h hf).2
  have dr : deepT p.right.tr 63 = false := by
    have q := (deep_kids hd (by rw [hk]; exact Nat.zero_lt_two)).2 1 (by rw [hk]; exact Nat.one_lt_two)
    have e1 : p.tr.kids[1]'(by rw [hk]; exact Nat.one_lt_two) = p.right.tr := by simp only [hk]; rfl
    rw [e1] at q
    exact q
  have pb : partB (p.hide k).tr = partB p.tr := by
    cases p <;> first | rfl | cases h
  unfold checkT
  rw [deepT_eq, formedT_eq, pb, hp, e]
  have d0 : deepT (.mk 3 [] [] (p.left.dgP k) []) 63 = false := by rw [deepT_eq]; rfl
  have f0 : formedT (.mk 3 [] [] (p.left.dgP k) []) = true := by rw [formedT_eq]; rfl
  have da : ([Tr.mk 3 [] [] (p.left.dgP k) [], p.right.tr].any fun x => deepT x (64 - 1)) = false := by
    rw [List.any_cons, List.any_cons]
    show (deepT (.mk 3 [] [] (p.left.dgP k) []) 63 || (deepT p.right.tr 63 || false)) = false
    rw [d0, dr]
    rfl
  have fa : ([Tr.mk 3 [] [] (p.left.dgP k) [], p.right.tr].all formedT) = true := by
    rw [List.all_cons, List.all_cons, f0, fr]
    rfl
  show (if (_ && (64 : Int) == 0 || ([Tr.mk 3 [] [] (p.left.dgP k) [], p.right.tr].any fun x => deepT x (64 - 1))) = true then 5 else if (true && [Tr.mk 3 [] [] (p.left.dgP k) [], p.right.tr].all formedT) = true then 0 else 3) = 0
  rw [da, fa]
  have e64 : ((64 : Int) == 0) = false := rfl
  rw [e64, Bool.and_false]
  rfl
theorem find_left {k : Nat} {P : PT} (h1 : 1 ≤ k) (h2 : k ≤ 32) (hn : P.isNode = true) (hc : checkT P.tr = 0) {zs : List Int} (hz : digT k P.tr = some zs) : findX k (.mk P.tr.k P.tr.key P.tr.val P.tr.dig [.mk 3 [] [] (P.left.dgP k) [], P.right.tr]) P.tr = (9, [], []) := by
  have ok := PT.ok_of h2 P zs hz
  have ho := PT.hide_ok h2 hn ok
  have hd : digT k (P.hide k).tr = digT k P.tr := by rw [PT.dg_ok h2 _ ho.1, PT.dg_ok h2 P ok, ho.2]
  rw [← PT.hide_tr hn]
  refine find_none (toldD_some h1 h2 (PT.hide_check hn hc) (hd.trans hz)) (toldD_some h1 h2 hc hz) hd ?_
  cases P with
  | nil => cases hn
  | cut d => cases hn
  | shown l key v r => exact search_left
  | dark l key d r => exact search_left'
end Go.Proofs.YtioifkbkllnkgaaDoor

/- The contracts of the program's images of a node's pair and of trees. -/
namespace Go.Proofs.YtioifkbkllnkgaaDoor
open Go.RowKit
set_option linter.unusedVariables false

/-- An image in a box. -/
structure KI (k B lo : Nat) (W : World) (g : Nat) (h : IMH) (sm : List Int) (pre : List (List Int)) (kids : List PT) : Prop where
  box : RBox recIm W 66 g h
  f : FrA k B lo W.heap.size W h sm pre kids
section
variable {k B lo : Nat} {W W' : World} {g : Nat} {h : IMH} {sm : List Int} {pre : List (List Int)} {kids : List PT}
theorem FrA.step (f : FrA k B lo W.heap.size W h sm pre kids) (hb : Below W.heap.size W W') : FrA k B lo W'.heap.size W' h sm pre kids := (f.below hb (Nat.le_refl _)).wide (Nat.le_refl _) (Nat.le_refl _) hb.size
theorem KI.below (x : KI k B lo W g h sm pre kids) (hb : Below W.heap.size W W') : KI k B lo W' g h sm pre kids := ⟨x.box.below hb x.box.lt, x.f.step hb⟩
theorem KI.cells (x : KI k B lo W g h sm pre kids) : W.cell? ⟨g, 0, none⟩ = some (.slice h.sa h.sn h.sc) ∧ W.cell? ⟨g, 1, none⟩ = some (.slice h.pa h.pn h.pc) ∧ W.cell? ⟨g, 2, none⟩ = some (.slice h.ka h.kn h.kc) := ⟨x.box.cell 0 _ rfl, x.box.cell 1 _ rfl, x.box.cell 2 _ rfl⟩
theorem KI.sum (x : KI k B lo W g h sm pre kids) : InBytes W h.sa h.sn h.sc sm := x.f.sum.self (Nat.le_refl _)
theorem KI.pn (x : KI k B lo W g h sm pre kids) : pre.length = h.pn := by
  obtain ⟨D, q⟩ := x.f.pre.self (Nat.le_refl _)
  exact q.len
end
theorem PT.form_len {p : PT} (hn : p.isNode = true) (hf : formedT p.tr = true) : p.tr.key.length ≤ 80 ∧ p.tr.val.length ≤ 2000 := by
  have hp := (Go.Proofs.YtioifkbkllnkgaaDoor.formed_kids hf).1
  cases p with
  | nil => cases hn
  | cut d => cases hn
  | shown l key v r =>
    have q : (decide (key.length ≤ 80) && (decide (v.length ≤ 1024) && true)) = true := hp
    simp only [Bool.and_eq_true, decide_eq_true_eq] at q
    exact ⟨q.1, show v.length ≤ 2000 by omega⟩
  | dark l key d r =>
    have q : (decide (key.length ≤ 80) && true) = true := hp
    rw [Bool.and_eq_true, decide_eq_true_eq] at q
    exact ⟨q.1, Nat.zero_le _⟩

set_option maxRecDepth 100000 in
set_option maxHeartbeats 4000000 in
theorem pairImage_any (k : Nat) (hk1 : 1 ≤ k) (hk2 : k ≤ 32) (wb : World) (P : PT) (hn : P.isNode = true) (hvl : (valT k P.tr).length = k) (h : TH) (w : World) (ht : InTree wb h P.tr) (hb : Below wb.heap.size wb w) (hT : TabLies wb) (hkn : P.tr.key.length ≤ 80) (hvn : P.tr.val.length ≤ 2000) :
    Calls Tryd.prog 53 #[.int .i64 k, h.v] w (ImgPost k wb.heap.size w.heap.size w ((sumL (P.pairP k)).take k) (P.pairP k :: P.valsP) []) := by
  unfold TH.v
  rw [PT.node_pair hn]
  obtain ⟨H, hp⟩ := ht.parts
  have HP := Lib.hid hp
  have HTI := Lib.hid ht
  have HBW := Lib.hid hb
  have HTT := Lib.hid hT
  have hbs := hb.size
  have hkl := hp.key.len
  have HD := Lib.hid (ZM.enter w h)
  clear hp ht hb hT
  go_enter Tryd.func53, Tryd.ntmps53
  go_upto_region 1 with fail
  generalize ((w.alloc (.cells #[.int .i64 h.k, .slice h.ka h.kn h.kc, .slice h.va h.vn h.vc, .slice h.da h.dn h.dc, .slice h.ta h.tn h.tc] 25)).alloc (.cells #[.slice none 0 0, .slice none 0 0, .slice none 0 0] 66)) = w0 at *
  have HB0 : Hid (Below wb.heap.size wb w0) := Lib.hid (HBW.out.trans (HD.out.b.mono hbs))
  obtain ⟨x0, x1, x2, x3, x4⟩ := HD.out.box.cells
  go_upto_region 2 with (first
    | (go_at_call 72
       refine (valueImage_any k hk1 hk2 wb P hn h _ HTI.out HB0.out HTT.out hvn).mono ?_
       rintro _ w1 ⟨h1, rfl, f1, hb1⟩
       unfold IMH.v
       have HD1 := Lib.hid (HD.out.below hb1)
       have HF1 : Hid (FrA k wb.heap.size (w.heap.size + 2) w1.heap.size w1 h1 (valT k P.tr) P.valsP []) := Lib.hid (f1.wide (Nat.le_refl _) HD.out.sz (Nat.le_refl _))
       clear f1 hb1 x0 x1 x2 x3 x4)
    | (refine wpList_store_rec rfl 66 (.tmp 6) (.tmp 13) rfl recIm w1.heap.size imZ h1 rfl rfl 66 (heap_alloc_new w1 _) infoIm ?_
       intro w2 hx hg
       have HL2 : Hid (Below w1.heap.size w1 w2) := Lib.hid (below_only ((Below.refl _ _).alloc (Nat.le_refl _) _) hg (by simp) (Nat.le_refl _))
       have HX2 := Lib.hid hx
       clear hx hg))
  have HD2 := Lib.hid (HD1.out.below HL2.out)
  have HK2 : Hid (KI k wb.heap.size (w.heap.size + 2) w2 w1.heap.size h1 (valT k P.tr) P.valsP []) := Lib.hid ⟨HX2.out, HF1.out.step HL2.out⟩
  have HB2 : Hid (Below wb.heap.size wb w2) := Lib.hid (HBW.out.trans (HD2.out.b.mono hbs))
  obtain ⟨x0, x1, x2, x3, x4⟩ := HD2.out.box.cells
  obtain ⟨y0, y1, y2⟩ := HK2.out.cells
  have HSN : Hid (h1.sn = k) := Lib.hid (HK2.out.sum.len.symm.trans hvl)
  go_wp2_with (first
    | (go_at_call 65
       (with_reducible refine (pair_ok (k : Int) h.ka h.kn h.kc P.tr.key h1.sa h1.sn h1.sc (valT k P.tr) _ ?_ (by omega) ?_ (by omega) (by omega) ?_).mono ?_)
       · exact HP.out.key.below HB2.out
       · exact HK2.out.sum
       · have := HSN.out
         omega
       rintro _ w3 ⟨g3, c3, rfl, ho3, hb3⟩
       have HD3 := Lib.hid (HD2.out.below hb3)
       have HK3 := Lib.hid (HK2.out.below hb3)
       have HT3 : Hid (TabLies w3) := Lib.hid (HTT.out.below (HB2.out.trans (hb3.mono HB2.out.size)) (Nat.le_refl _))
       have HF3 := Lib.hid (fresh_own (lo := w.heap.size + 2) ho3 (pairL_bytes HP.out.key.bytes (by omega) HK2.out.sum.bytes) HD2.out.sz)
       clear ho3 hb3 x0 x1 x2 x3 x4 y0 y1 y2
       obtain ⟨y0, y1, y2⟩ := HK3.out.cells)
    | (go_at_call 52
       (with_reducible refine (imageWith_any k wb.heap.size (w.heap.size + 2) hk1 hk2 _ (some ⟨g3, 0, none⟩) (pairL P.tr.key (valT k P.tr)).length c3 (pairL P.tr.key (valT k P.tr)) HF3.out ?_ HT3.out h1.pa h1.pn h1.pc P.valsP HK3.out.f.pre ?_ none 0 0 [] (Fr.kidNil _ _ _ _ _ _ _) HD3.out.sz).mono ?_)
       · have q := pairL_len (a := P.tr.key) (b := valT k P.tr) (by omega)
         omega
       · have q1 := HK3.out.pn
         have q2 := P.vals_len
         omega
       rintro _ w4 ⟨h4, rfl, f4, hb4⟩
       unfold IMH.v
       have HD4 := Lib.hid (HD3.out.below hb4)
       have HF4 := Lib.hid f4
       clear f4 hb4 y0 y1 y2)
    | (refine wpList_store_rec rfl 66 (.tmp 4) (.tmp 37) rfl recIm (w.heap.size + 1) imZ h4 rfl rfl 66 HD4.out.res infoIm ?_
       intro w9 hx9 hg9
       have HX9 := Lib.hid hx9
       have HB9 := Lib.hid (HD4.out.wrote hg9)
       have HF9 := Lib.hid ((HF4.out.grown hg9 (Nat.le_refl _) (.inl ⟨by omega, by omega⟩)).wide (Nat.le_refl _) (Nat.le_add_right _ _) hg9.size)
       clear hx9 hg9))
  exact bodyPost_ret (result_im Tryd.results53 _ HX9.out rfl Tryd.underlying66 infoIm) rfl ⟨_, rfl, HF9.out, HB9.out⟩

set_option maxRecDepth 100000 in
set_option maxHeartbeats 4000000 in
theorem imageOf_any (k : Nat) (hk1 : 1 ≤ k) (hk2 : k ≤ 32) (wb : World) (hT : TabLies wb) : ∀ (P : PT) (h : TH) (w : World), InTree wb h P.tr → Below wb.heap.size wb w → P.okP k → formedT P.tr = true →
    Calls Tryd.prog 26 #[.int .i64 k, .agg #[.int .i64 h.k, .slice h.ka h.kn h.kc, .slice h.va h.vn h.vc, .slice h.da h.dn h.dc, .slice h.ta h.tn h.tc]] w (ImgPost k wb.heap.size w.heap.size w (P.dgP k) (P.preP k) P.kidsP) := by
  intro P
  induction P using PT.ind with
  | h0 =>
    intro h w ht hb ok hf
    obtain ⟨H, hp⟩ := ht.parts
    have e0 : (h.k == 0) = true := by rw [hp.hk]; rfl
    have HBW := Lib.hid hb
    have HTT := Lib.hid hT
    have hbs := hb.size
    have HD := Lib.hid (ZM.enter w h)
    clear hp ht hb ok hf hT
    go_enter Tryd.func26, Tryd.ntmps26
    go_upto_region 1 with fail
    generalize ((w.alloc (.cells #[.int .i64 h.k, .slice h.ka h.kn h.kc, .slice h.va h.vn h.vc, .slice h.da h.dn h.dc, .slice h.ta h.tn h.tc] 25)).alloc (.cells #[.slice none 0 0, .slice none 0 0, .slice none 0 0] 66)) = w0 at *
    have HB0 : Hid (Below wb.heap.size wb w0) := Lib.hid (HBW.out.trans (HD.out.b.mono hbs))
    obtain ⟨x0, x1, x2, x3, x4⟩ := HD.out.box.cells
    go_wp2_with (first
      | (go_at_call 42
         refine (none_any _).mono ?_
         rintro _ w1 ⟨g1, c1, rfl, ho1, hb1⟩
         have HD1 := Lib.hid (HD.out.below hb1)
         have HT1 : Hid (TabLies w1) := Lib.hid (HTT.out.below (HB0.out.trans (hb1.mono HB0.out.size)) (Nat.le_refl _))
         have HF1 := Lib.hid (fresh_own (lo := w.heap.size + 2) ho1 (by intro z hz; simp at hz; omega) HD.out.sz)
         clear ho1 hb1 x0 x1 x2 x3 x4)
      | (go_at_call 52
         (with_reducible refine (imageWith_any k wb.heap.size (w.heap.size + 2) hk1 hk2 _ (some ⟨g1, 0, none⟩) 1 c1 [3] HF1.out (by omega) HT1.out none 0 0 [] (Fr.preNil _ _ _ _ _ _) (by omega) none 0 0 [] (Fr.kidNil _ _ _ _ _ _ _) HD1.out.sz).mono ?_)
         rintro _ w2 ⟨h2, rfl, f2, hb2⟩
         unfold IMH.v
         have HD2 := Lib.hid (HD1.out.below hb2)
         have HF2 := Lib.hid f2
         clear f2 hb2)
      | (refine wpList_store_rec rfl 66 (.tmp 4) (.tmp 18) rfl recIm (w.heap.size + 1) imZ h2 rfl rfl 66 HD2.out.res infoIm ?_
         intro w9 hx9 hg9
         have HX9 := Lib.hid hx9
         have HB9 := Lib.hid (HD2.out.wrote hg9)
         have HF9 := Lib.hid ((HF2.out.grown hg9 (Nat.le_refl _) (.inl ⟨by omega, by omega⟩)).wide (Nat.le_refl _) (Nat.le_add_right _ _) hg9.size)
         clear hx9 hg9))
    exact bodyPost_ret (result_im Tryd.results26 _ HX9.out rfl Tryd.underlying66 infoIm) rfl ⟨_, rfl, HF9.out, HB9.out⟩
  | hc d =>
    intro h w ht hb ok hf
    obtain ⟨H, hp⟩ := ht.parts
    have e0 : (h.k == 0) = false := by rw [hp.hk]; rfl
    have e3 : (h.k == 3) = true := by rw [hp.hk]; rfl
    have HP := Lib.hid hp
    have HBW := Lib.hid hb
    have hbs := hb.size
    have HD := Lib.hid (ZM.enter w h)
    clear hp ht hb ok hf hT
    go_enter Tryd.func26, Tryd.ntmps26
    go_upto_region 1 with fail
    generalize ((w.alloc (.cells #[.int .i64 h.k, .slice h.ka h.kn h.kc, .slice h.va h.vn h.vc, .slice h.da h.dn h.dc, .slice h.ta h.tn h.tc] 25)).alloc (.cells #[.slice none 0 0, .slice none 0 0, .slice none 0 0] 66)) = w0 at *
    obtain ⟨x0, x1, x2, x3, x4⟩ := HD.out.box.cells
    go_wp2_with (first
      | (refine wpList_store_rec rfl 66 (.tmp 4) (.tmp 24) rfl recIm (w.heap.size + 1) imZ ⟨h.da, h.dn, h.dc, none, 0, 0, none, 0, 0⟩ rfl rfl 66 HD.out.res infoIm ?_
         intro w9 hx9 hg9
         have HX9 := Lib.hid hx9
         have HB9 := Lib.hid (HD.out.wrote hg9)
         clear hx9 hg9))
    exact bodyPost_ret (result_im Tryd.results26 _ HX9.out rfl Tryd.underlying66 infoIm) rfl ⟨_, rfl, ⟨HP.out.dig.frB (HBW.out.trans (HB9.out.mono hbs)) (Nat.le_trans hbs HB9.out.size), Fr.preNil _ _ _ _ _ _, Fr.kidNil _ _ _ _ _ _ _⟩, HB9.out⟩
  | hn P hn ihl ihr =>
    intro h w ht hb ok hf
    obtain ⟨ok1, ok2, hvl⟩ := PT.node_ok hk2 hn ok
    obtain ⟨hfl, hfr⟩ := PT.formed_kids hn hf
    obtain ⟨hkn, hvn⟩ := PT.form_len hn hf
    have hkids := PT.node_kids hn
    have HLL := Lib.hid (PT.dg_len hk2 _ ok1)
    have HLR := Lib.hid (PT.dg_len hk2 _ ok2)
    obtain ⟨H, hp⟩ := ht.parts
    have e0 : (h.k == 0) = false := by rw [hp.hk]; exact PT.nil_kind hn
    have e3 : (h.k == 3) = false := by rw [hp.hk, PT.cut_kind]; exact PT.node_cut hn
    have HTN : Hid (h.tn = 2) := Lib.hid (by rw [← hp.len, hkids]; rfl)
    have hcn : (1 : Int) < (h.tn : Int) := by rw [HTN.out]; decide
    have hcn0 : (0 : Int) < (h.tn : Int) := by omega
    have hq0 : 0 < P.tr.kids.length := by rw [hkids]; exact Nat.zero_lt_two
    have hq1 : 1 < P.tr.kids.length := by rw [hkids]; exact Nat.one_lt_two
    have HQL : Hid (InTree wb (H 0) P.left.tr) := Lib.hid (by
      have q := hp.kids 0 hq0
      have e : P.tr.kids[0] = P.left.tr := by simp only [hkids]; rfl
      rw [e] at q
      exact q)
    have HQR : Hid (InTree wb (H 1) P.right.tr) := Lib.hid (by
      have q := hp.kids 1 hq1
      have e : P.tr.kids[1] = P.right.tr := by simp only [hkids]; rfl
      rw [e] at q
      exact q)
    have HIL : Hid (∀ W, Below wb.heap.size wb W → Calls Tryd.prog 26 #[.int .i64 k, .agg #[.int .i64 (H 0).k, .slice (H 0).ka (H 0).kn (H 0).kc, .slice (H 0).va (H 0).vn (H 0).vc, .slice (H 0).da (H 0).dn (H 0).dc, .slice (H 0).ta (H 0).tn (H 0).tc]] W (ImgPost k wb.heap.size W.heap.size W (P.left.dgP k) (P.left.preP k) P.left.kidsP)) := Lib.hid (fun W q => ihl (H 0) W HQL.out q ok1 hfl)
    have HIR : Hid (∀ W, Below wb.heap.size wb W → Calls Tryd.prog 26 #[.int .i64 k, .agg #[.int .i64 (H 1).k, .slice (H 1).ka (H 1).kn (H 1).kc, .slice (H 1).va (H 1).vn (H 1).vc, .slice (H 1).da (H 1).dn (H 1).dc, .slice (H 1).ta (H 1).tn (H 1).tc]] W (ImgPost k wb.heap.size W.heap.size W (P.right.dgP k) (P.right.preP k) P.right.kidsP)) := Lib.hid (fun W q => ihr (H 1) W HQR.out q ok2 hfr)
    obtain ⟨g, off, hta, -, -⟩ := hp.place (by omega)
    have HTA := Lib.hid hta
    have HP := Lib.hid hp
    have HTI := Lib.hid ht
    have HBW := Lib.hid hb
    have HTT := Lib.hid hT
    have hbs := hb.size
    have HD := Lib.hid (ZM.enter w h)
    have HDG : Hid (P.dgP k = (sumL (nodeL (P.left.dgP k) ((sumL (P.pairP k)).take k) (P.right.dgP k))).take k ∧ P.preP k = nodeL (P.left.dgP k) ((sumL (P.pairP k)).take k) (P.right.dgP k) :: P.pairP k :: P.valsP ∧ P.kidsP = [P.left, P.right]) := Lib.hid (by
      refine ⟨?_, ?_, PT.kids_node hn⟩
      · rw [PT.dg_own (PT.node_cut hn), PT.node_own hn]
      · rw [PT.pre_vals hn, PT.node_own hn])
    have HPL : Hid (((sumL (P.pairP k)).take k).length = k) := Lib.hid (take_sum_len hk2 _)
    clear hp ht hb ok hf hT ihl ihr hta ok1 ok2 hfl hfr hq0 hq1 hkids
    go_enter Tryd.func26, Tryd.ntmps26
    go_upto_region 1 with fail
    generalize ((w.alloc (.cells #[.int .i64 h.k, .slice h.ka h.kn h.kc, .slice h.va h.vn h.vc, .slice h.da h.dn h.dc, .slice h.ta h.tn h.tc] 25)).alloc (.cells #[.slice none 0 0, .slice none 0 0, .slice none 0 0] 66)) = w0 at *
    have HB0 : Hid (Below wb.heap.size wb w0) := Lib.hid (HBW.out.trans (HD.out.b.mono hbs))
    obtain ⟨x0, x1, x2, x3, x4⟩ := HD.out.box.cells
    go_upto_region 6 with fail
    rw [HTA.out] at x4
    obtain ⟨y0, y1, y2, y3, y4⟩ := (HP.out.below HB0.out).kid0 HTA.out (by omega)
    go_upto_region 7 with (first
      | (go_at_call 26
         refine (HIL.out _ HB0.out).mono ?_
         rintro _ w1 ⟨h1, rfl, f1, hb1⟩
         unfold IMH.v
         have HD1 := Lib.hid (HD.out.below hb1)
         have HF1 := Lib.hid (f1.wide (Nat.le_refl _) HD.out.sz (Nat.le_refl _))
         clear f1 hb1 x0 x1 x2 x3 x4 y0 y1 y2 y3 y4)
      | (refine wpList_store_rec rfl 66 (.tmp 6) (.tmp 32) rfl recIm w1.heap.size imZ h1 rfl rfl 66 (heap_alloc_new w1 _) infoIm ?_
         intro w2 hx hg
         have HL2 : Hid (Below w1.heap.size w1 w2) := Lib.hid (below_only ((Below.refl _ _).alloc (Nat.le_refl _) _) hg (by simp) (Nat.le_refl _))
         have HX2 := Lib.hid hx
         clear hx hg))
    have HD2 := Lib.hid (HD1.out.below HL2.out)
    have HA2 : Hid (KI k wb.heap.size (w.heap.size + 2) w2 w1.heap.size h1 (P.left.dgP k) (P.left.preP k) P.left.kidsP) := Lib.hid ⟨HX2.out, HF1.out.step HL2.out⟩
    have HB2 : Hid (Below wb.heap.size wb w2) := Lib.hid (HBW.out.trans (HD2.out.b.mono hbs))
    clear HX2 HF1 HL2
    obtain ⟨x0, x1, x2, x3, x4⟩ := HD2.out.box.cells
    go_upto_region 10 with (first
      | (go_at_call 53
         refine (pairImage_any k hk1 hk2 wb P hn hvl h _ HTI.out HB2.out HTT.out hkn hvn).mono ?_
         rintro _ w3 ⟨h3, rfl, f3, hb3⟩
         unfold IMH.v
         have HD3 := Lib.hid (HD2.out.below hb3)
         have HA3 := Lib.hid (HA2.out.below hb3)
         have HF3 := Lib.hid (f3.wide (Nat.le_refl _) HD2.out.sz (Nat.le_refl _))
         clear f3 hb3 x0 x1 x2 x3 x4)
      | (refine wpList_store_rec rfl 66 (.tmp 8) (.tmp 42) rfl recIm w3.heap.size imZ h3 rfl rfl 66 (heap_alloc_new w3 _) infoIm ?_
         intro w4 hx hg
         have HL4 : Hid (Below w3.heap.size w3 w4) := Lib.hid (below_only ((Below.refl _ _).alloc (Nat.le_refl _) _) hg (by simp) (Nat.le_refl _))
         have HX4 := Lib.hid hx
         clear hx hg))
    have HD4 := Lib.hid (HD3.out.below HL4.out)
    have HA4 := Lib.hid (HA3.out.below HL4.out)
    have HM4 : Hid (KI k wb.heap.size (w.heap.size + 2) w4 w3.heap.size h3 ((sumL (P.pairP k)).take k) (P.pairP k :: P.valsP) []) := Lib.hid ⟨HX4.out, HF3.out.step HL4.out⟩
    have HB4 : Hid (Below wb.heap.size wb w4) := Lib.hid (HBW.out.trans (HD4.out.b.mono hbs))
    clear HX4 HF3 HL4
    obtain ⟨x0, x1, x2, x3, x4⟩ := HD4.out.box.cells
    rw [HTA.out] at x4
    obtain ⟨y0, y1, y2, y3, y4⟩ := (HP.out.below HB4.out).kid1 HTA.out (by omega)
    go_upto_region 13 with (first
      | (go_at_call 26
         refine (HIR.out _ HB4.out).mono ?_
         rintro _ w5 ⟨h5, rfl, f5, hb5⟩
         unfold IMH.v
         have HD5 := Lib.hid (HD4.out.below hb5)
         have HA5 := Lib.hid (HA4.out.below hb5)
         have HM5 := Lib.hid (HM4.out.below hb5)
         have HF5 := Lib.hid (f5.wide (Nat.le_refl _) HD4.out.sz (Nat.le_refl _))
         clear f5 hb5 x0 x1 x2 x3 x4 y0 y1 y2 y3 y4)
      | (refine wpList_store_rec rfl 66 (.tmp 9) (.tmp 55) rfl recIm w5.heap.size imZ h5 rfl rfl 66 (heap_alloc_new w5 _) infoIm ?_
         intro w6 hx hg
         have HL6 : Hid (Below w5.heap.size w5 w6) := Lib.hid (below_only ((Below.refl _ _).alloc (Nat.le_refl _) _) hg (by simp) (Nat.le_refl _))
         have HX6 := Lib.hid hx
         clear hx hg))
    have HD6 := Lib.hid (HD5.out.below HL6.out)
    have HA6 := Lib.hid (HA5.out.below HL6.out)
    have HM6 := Lib.hid (HM5.out.below HL6.out)
    have HC6 : Hid (KI k wb.heap.size (w.heap.size + 2) w6 w5.heap.size h5 (P.right.dgP k) (P.right.preP k) P.right.kidsP) := Lib.hid ⟨HX6.out, HF5.out.step HL6.out⟩
    have HB6 : Hid (Below wb.heap.size wb w6) := Lib.hid (HBW.out.trans (HD6.out.b.mono hbs))
    clear HX6 HF5 HL6
    obtain ⟨x0, x1, x2⟩ := HA6.out.cells
    obtain ⟨y0, y1, y2⟩ := HM6.out.cells
    obtain ⟨z0, z1, z2⟩ := HC6.out.cells
    have N1 : Hid (h1.sn = k) := Lib.hid (HA6.out.sum.len.symm.trans HLL.out)
    have N3 : Hid (h3.sn = k) := Lib.hid (HM6.out.sum.len.symm.trans HPL.out)
    have N5 : Hid (h5.sn = k) := Lib.hid (HC6.out.sum.len.symm.trans HLR.out)
    go_upto_region 16 with (first
      | (go_at_call 45
         (with_reducible refine (node_ok (k : Int) h1.sa h1.sn h1.sc (P.left.dgP k) h3.sa h3.sn h3.sc ((sumL (P.pairP k)).take k) h5.sa h5.sn h5.sc (P.right.dgP k) _ HA6.out.sum HM6.out.sum HC6.out.sum (by omega) (by omega) (by have := N1.out; omega) (by have := N3.out; omega) (by have := N5.out; omega)).mono ?_)
         rintro _ w7 ⟨g7, c7, rfl, ho7, hb7⟩
         have HD7 := Lib.hid (HD6.out.below hb7)
         have HA7 := Lib.hid (HA6.out.below hb7)
         have HM7 := Lib.hid (HM6.out.below hb7)
         have HC7 := Lib.hid (HC6.out.below hb7)
         have HB7 : Hid (Below wb.heap.size wb w7) := Lib.hid (HB6.out.trans (hb7.mono HB6.out.size))
         have HN7 := Lib.hid (fresh_own (lo := w.heap.size + 2) ho7 (nodeL_bytes HA6.out.sum.bytes HM6.out.sum.bytes HC6.out.sum.bytes) HD6.out.sz)
         clear ho7 hb7 x0 x1 x2 y0 y1 y2 z0 z1 z2))
    obtain ⟨x0, x1, x2⟩ := HA7.out.cells
    obtain ⟨y0, y1, y2⟩ := HM7.out.cells
    obtain ⟨z0, z1, z2⟩ := HC7.out.cells
    have HBA : Hid (Below w7.heap.size w7 (w7.alloc (.cells #[.slice h1.sa h1.sn h1.sc, .slice h1.pa h1.pn h1.pc, .slice h1.ka h1.kn h1.kc, .slice h5.sa h5.sn h5.sc, .slice h5.pa h5.pn h5.pc, .slice h5.ka h5.kn h5.kc] 66))) := Lib.hid ((Below.refl _ _).alloc (Nat.le_refl _) _)
    have HO8 : Hid (OwnR recIm (w7.alloc (.cells #[.slice h1.sa h1.sn h1.sc, .slice h1.pa h1.pn h1.pc, .slice h1.ka h1.kn h1.kc, .slice h5.sa h5.sn h5.sc, .slice h5.pa h5.pn h5.pc, .slice h5.ka h5.kn h5.kc] 66)) w7.heap.size 66 (.slice (some ⟨w7.heap.size, 0, none⟩) 2 2) [h1, h5]) := Lib.hid (ownR_new recIm w7 66 w7.heap.size [h1, h5] (Nat.le_refl _) (by simp [maxLen]))
    have HS8 : Hid ((w7.alloc (.cells #[.slice h1.sa h1.sn h1.sc, .slice h1.pa h1.pn h1.pc, .slice h1.ka h1.kn h1.kc, .slice h5.sa h5.sn h5.sc, .slice h5.pa h5.pn h5.pc, .slice h5.ka h5.kn h5.kc] 66)).heap.size = w7.heap.size + 1) := Lib.hid (by simp)
    go_wp2_with (first
      | (go_at_call 52
         (with_reducible refine (imageWith_any k wb.heap.size (w.heap.size + 2) hk1 hk2 (w7.alloc (.cells #[.slice h1.sa h1.sn h1.sc, .slice h1.pa h1.pn h1.pc, .slice h1.ka h1.kn h1.kc, .slice h5.sa h5.sn h5.sc, .slice h5.pa h5.pn h5.pc, .slice h5.ka h5.kn h5.kc] 66)) (some ⟨g7, 0, none⟩) (nodeL (P.left.dgP k) ((sumL (P.pairP k)).take k) (P.right.dgP k)).length c7 (nodeL (P.left.dgP k) ((sumL (P.pairP k)).take k) (P.right.dgP k)) ?_ ?_ ?_ h3.pa h3.pn h3.pc (P.pairP k :: P.valsP) (HM7.out.f.step HBA.out).pre ?_ (some ⟨w7.heap.size, 0, none⟩) 2 2 [P.left, P.right] ?_ ?_).mono ?_)
         · exact (HN7.out.below HBA.out (Nat.le_refl _)).wide (Nat.le_refl _) HBA.out.size
         · rw [nodeL_len, HLL.out, HPL.out, HLR.out]; omega
         · exact HTT.out.below (HB7.out.trans (HBA.out.mono HB7.out.size)) (Nat.le_refl _)
         · have q1 := HM7.out.pn
           have q2 := P.vals_len
           rw [List.length_cons] at q1
           omega
         · exact KidX.two HO8.out HD7.out.sz (fun g e => by
             injection e with e
             injection e with e
             rw [HS8.out, ← e]
             exact Nat.lt_succ_self _) (HA7.out.f.step HBA.out).img (HC7.out.f.step HBA.out).img
         · exact Nat.le_trans HD7.out.sz HBA.out.size
         rintro _ w8 ⟨h8, rfl, f8, hb8⟩
         unfold IMH.v
         have HD8 := Lib.hid ((HD7.out.below HBA.out).below hb8)
         have HF8 := Lib.hid f8
         clear f8 hb8 x0 x1 x2 y0 y1 y2 z0 z1 z2)
      | (refine wpList_store_rec rfl 66 (.tmp 4) (.tmp 84) rfl recIm (w.heap.size + 1) imZ h8 rfl rfl 66 HD8.out.res infoIm ?_
         intro w9 hx9 hg9
         have HX9 := Lib.hid hx9
         have HB9 := Lib.hid (HD8.out.wrote hg9)
         have HF9 := Lib.hid ((HF8.out.grown hg9 (Nat.le_refl _) (.inl ⟨by omega, by omega⟩)).wide (Nat.le_refl _) (Nat.le_add_right _ _) hg9.size)
         clear hx9 hg9))
    rw [HDG.out.1, HDG.out.2.1, HDG.out.2.2]
    exact bodyPost_ret (result_im Tryd.results26 _ HX9.out rfl Tryd.underlying66 infoIm) rfl ⟨_, rfl, HF9.out, HB9.out⟩
end Go.Proofs.YtioifkbkllnkgaaDoor

/- The contract of bytes.Equal. -/
namespace Go.Proofs.YtioifkbkllnkgaaDoor
open Go.RowKit
set_option linter.unusedVariables false

set_option maxRecDepth 100000 in
set_option maxHeartbeats 4000000 in
theorem equal_any (xs ys : List Int) (a b : Option Addr) (n m c d : Nat) (w : World) (hx : InBytes w a n c xs) (hy : InBytes w b m d ys) : Calls Tryd.prog 25 #[.slice a n c, .slice b m d] w (fun e w' => e = .returned (.bool (xs == ys)) ∧ w' = w) := by
  have cvx := conv_key hx
  have cvy := conv_key hy
  have hse := str_eq hx.bytes hy.bytes
  clear hx hy
  generalize (xs == ys) = bb at *
  go_enter Tryd.func25, Tryd.ntmps25
  go_wp2_with fail
  go_ret
  exact ⟨rfl, rfl⟩
end Go.Proofs.YtioifkbkllnkgaaDoor

/- In a region that draws its order: what may be taken first. No program is named here. -/
namespace Go.Proofs.YtioifkbkllnkgaaDoor
open Go.RowKit
set_option linter.unusedVariables false

section
variable {P : Program} {md : Region.Mode} {ops : Array Oper} {Q : Exit → Act → World → Prop} {S : World → Prop}
/-- In a region that draws its order: an operation that yields v in every world that meets S is taken first. -/
theorem take_w {i : Nat} {oi : Oper} {v : Value} {fuel : Nat} {listed : Array Bool} {a : Act} {w : World} (hi : ops[i]? = some oi)
    (hs : Region.noSelect ops = true) (hf : Region.free md ops listed i = true) (hr : (Region.ready md ops listed).contains i = true)
    (hQ : ∀ c a w, Q (.panic c) (a.put oi.dst v) w → Q (.panic c) a w) (hw : Region.wanted oi (yielded ops a.tmps) = true) (hy : ∀ w, S w → (execOp a.eval oi).run P w = .ok (.value v) w) (hS : S w)
    (h : wpAnyH P md ops Q S fuel (listed.setIfInBounds i true) (a.put oi.dst v) w) : wpAnyH P md ops Q S (fuel + 1) listed a w :=
  wpAnyH_take hi hs hf hr hQ (.inl ⟨hw, hy⟩) hS h
/-- One whose guard is false. -/
theorem take_u {i : Nat} {oi : Oper} {fuel : Nat} {listed : Array Bool} {a : Act} {w : World} (hi : ops[i]? = some oi)
    (hs : Region.noSelect ops = true) (hf : Region.free md ops listed i = true) (hr : (Region.ready md ops listed).contains i = true)
    (hQ : ∀ c a w, Q (.panic c) (a.put oi.dst undef) w → Q (.panic c) a w) (hw : Region.wanted oi (yielded ops a.tmps) = false) (hS : S w)
    (h : wpAnyH P md ops Q S fuel (listed.setIfInBounds i true) (a.put oi.dst undef) w) : wpAnyH P md ops Q S (fuel + 1) listed a w :=
  wpAnyH_take hi hs hf hr hQ (.inr ⟨hw, rfl⟩) hS h
end
end Go.Proofs.YtioifkbkllnkgaaDoor

/- The contract of the program's search in two images. -/
namespace Go.Proofs.YtioifkbkllnkgaaDoor
open Go.RowKit
set_option linter.unusedVariables false

/-- What is found, or no texts. -/
def foundX (o : Option (List Int × List Int)) : List Int × List Int := o.getD ([], [])
def Search (lo hi : Nat) (w : World) (o : Option (List Int × List Int)) (e : Ending) (w' : World) : Prop := ∃ a n c a' n' c', e = .returned (.tuple #[.slice a n c, .slice a' n' c', .bool o.isSome]) ∧ FreshB lo hi w' a n c (foundX o).1 ∧ FreshB lo hi w' a' n' c' (foundX o).2 ∧ Below w.heap.size w w'
theorem Search.found {lo hi : Nat} {w w' : World} {a a' : Option Addr} {n c n' c' : Nat} {s : List Int × List Int} (h1 : FreshB lo hi w' a n c s.1) (h2 : FreshB lo hi w' a' n' c' s.2) (hb : Below w.heap.size w w') : Search lo hi w (some s) (.returned (.tuple #[.slice a n c, .slice a' n' c', .bool true])) w' := ⟨a, n, c, a', n', c', rfl, h1, h2, hb⟩
theorem Search.none_ {lo hi : Nat} {w w' : World} (hb : Below w.heap.size w w') : Search lo hi w none (.returned (.tuple #[.slice none 0 0, .slice none 0 0, .bool false])) w' := ⟨none, 0, 0, none, 0, 0, rfl, FreshB.none _ _ _, FreshB.none _ _ _, hb⟩
/-- Nothing is found yet: in the first preimages, in the first kids. -/
def NoneYet (k : Nat) (P Q : PT) (i : Nat) : Prop := (((P.preP k).zip (Q.preP k)).take i).findSome? unlikeX = none
def NoneBelow (k : Nat) (P Q : PT) (i : Nat) : Prop := ((P.kidsP.zip Q.kidsP).take i).findSome? (fun x => searchP k x.1 x.2) = none
theorem NoneYet.all {k : Nat} {P Q : PT} {i : Nat} (h : NoneYet k P Q i) (hi : ((P.preP k).zip (Q.preP k)).length ≤ i) : searchP k P Q = belowX k P.kidsP Q.kidsP := by
  unfold NoneYet at h
  rw [List.take_of_length_le hi] at h
  rw [search_img]
  show (match (List.findSome? unlikeX ((P.preP k).zip (Q.preP k))) with | some s => some s | none => belowX k P.kidsP Q.kidsP) = _
  rw [h]
theorem NoneBelow.all {k : Nat} {P Q : PT} {i : Nat} (h : NoneBelow k P Q i) (hi : (P.kidsP.zip Q.kidsP).length ≤ i) : belowX k P.kidsP Q.kidsP = none := by
  unfold NoneBelow at h
  rw [List.take_of_length_le hi] at h
  exact h
theorem PT.kid_ind {k lo hi : Nat} {P : PT} {X : PT → Prop} (h : P.isNode = true → X P.left ∧ X P.right) (i : Nat) (hi : i < P.kidsP.length) : X P.kidsP[i] := by
  cases hn : P.isNode with
  | false =>
    rw [PT.kids_cut hn] at hi
    exact absurd hi (Nat.not_lt_zero i)
  | true =>
    obtain ⟨h1, h2⟩ := h hn
    have e := PT.kids_node hn
    match i, hi with
    | 0, hi =>
      have e0 : P.kidsP[0] = P.left := by simp only [e]; rfl
      rw [e0]
      exact h1
    | 1, hi =>
      have e0 : P.kidsP[1] = P.right := by simp only [e]; rfl
      rw [e0]
      exact h2
    | i + 2, hi =>
      rw [e] at hi
      have : i + 2 < 2 := hi
      omega
/-- The boxes of two images. -/
structure SB (w W : World) (h h2 : IMH) : Prop where
  b1 : RBox recIm W 66 w.heap.size h
  b2 : RBox recIm W 66 (w.heap.size + 1) h2
  b : Below w.heap.size w W
section
variable {w W W' : World} {h h2 : IMH}
theorem SB.below (d : SB w W h h2) (hb : Below W.heap.size W W') : SB w W' h h2 := ⟨d.b1.below hb d.b1.lt, d.b2.below hb d.b2.lt, d.b.trans (hb.mono d.b.size)⟩
theorem SB.drew (d : SB w W h h2) : SB w W.drew h h2 := d.below (Below.refl _ _).drew
theorem SB.enter (w : World) (h h2 : IMH) : SB w ((w.alloc (.cells #[.slice h.sa h.sn h.sc, .slice h.pa h.pn h.pc, .slice h.ka h.kn h.kc] 66)).alloc (.cells #[.slice h2.sa h2.sn h2.sc, .slice h2.pa h2.pn h2.pc, .slice h2.ka h2.kn h2.kc] 66)) h h2 := by
  have q1 : Below w.heap.size w (w.alloc (.cells #[.slice h.sa h.sn h.sc, .slice h.pa h.pn h.pc, .slice h.ka h.kn h.kc] 66)) := (Below.refl _ _).alloc (Nat.le_refl _) _
  have s1 : (w.alloc (.cells #[.slice h.sa h.sn h.sc, .slice h.pa h.pn h.pc, .slice h.ka h.kn h.kc] 66)).heap.size = w.heap.size + 1 := by simp
  have x1 : RBox recIm (w.alloc (.cells #[.slice h.sa h.sn h.sc, .slice h.pa h.pn h.pc, .slice h.ka h.kn h.kc] 66)) 66 w.heap.size h := heap_alloc_new w _
  have b1 : Below (w.alloc (.cells #[.slice h.sa h.sn h.sc, .slice h.pa h.pn h.pc, .slice h.ka h.kn h.kc] 66)).heap.size (w.alloc (.cells #[.slice h.sa h.sn h.sc, .slice h.pa h.pn h.pc, .slice h.ka h.kn h.kc] 66)) ((w.alloc (.cells #[.slice h.sa h.sn h.sc, .slice h.pa h.pn h.pc, .slice h.ka h.kn h.kc] 66)).alloc (.cells #[.slice h2.sa h2.sn h2.sc, .slice h2.pa h2.pn h2.pc, .slice h2.ka h2.kn h2.kc] 66)) := (Below.refl _ _).alloc (Nat.le_refl _) _
  have x2 : RBox recIm ((w.alloc (.cells #[.slice h.sa h.sn h.sc, .slice h.pa h.pn h.pc, .slice h.ka h.kn h.kc] 66)).alloc (.cells #[.slice h2.sa h2.sn h2.sc, .slice h2.pa h2.pn h2.pc, .slice h2.ka h2.kn h2.kc] 66)) 66 (w.alloc (.cells #[.slice h.sa h.sn h.sc, .slice h.pa h.pn h.pc, .slice h.ka h.kn h.kc] 66)).heap.size h2 := heap_alloc_new _ _
  rw [s1] at x2
  exact ⟨x1.below b1 x1.lt, x2, q1.trans (b1.mono (by rw [s1]; omega))⟩
theorem SB.pre (d : SB w W h h2) : W.cell? ⟨w.heap.size, 1, none⟩ = some (.slice h.pa h.pn h.pc) ∧ W.cell? ⟨w.heap.size + 1, 1, none⟩ = some (.slice h2.pa h2.pn h2.pc) := ⟨d.b1.cell 1 _ rfl, d.b2.cell 1 _ rfl⟩
theorem SB.kids (d : SB w W h h2) : W.cell? ⟨w.heap.size, 2, none⟩ = some (.slice h.ka h.kn h.kc) ∧ W.cell? ⟨w.heap.size + 1, 2, none⟩ = some (.slice h2.ka h2.kn h2.kc) := ⟨d.b1.cell 2 _ rfl, d.b2.cell 2 _ rfl⟩
end
theorem pre_cell {lo hi : Nat} {W : World} {a : Option Addr} {n c : Nat} {pre : List (List Int)} {D : Nat → SLH} (x : PreAt lo hi W a n c pre D) (h0 : 0 < n) : ∃ g off, a = some ⟨g, off, none⟩ ∧ ∀ W', Below W.heap.size W W' → ∀ i, i < n → W'.cell? ⟨g, off + i, none⟩ = some (.slice (D i).a (D i).n (D i).c) := by
  obtain ⟨g, off, e, hg, hc⟩ := x.row.at h0
  refine ⟨g, off, e, fun W' hb i hi => (hb.cell (p := ⟨g, off + i, none⟩) hg).trans ?_⟩
  have := hc i hi 0 _ rfl
  rwa [show recSl.sz = 1 from rfl, Nat.mul_one, Nat.add_zero] at this
theorem kid_cell {k lo hi : Nat} {W : World} {a : Option Addr} {n c : Nat} {kids : List PT} {H : Nat → IMH} (x : KidAt k lo hi W a n c kids H) (h0 : 0 < n) : ∃ g off, a = some ⟨g, off, none⟩ ∧ ∀ W', Below W.heap.size W W' → ∀ i, i < n → W'.cell? ⟨g, off + i * 3, none⟩ = some (.slice (H i).sa (H i).sn (H i).sc) ∧ W'.cell? ⟨g, off + i * 3 + 1, none⟩ = some (.slice (H i).pa (H i).pn (H i).pc) ∧ W'.cell? ⟨g, off + i * 3 + 2, none⟩ = some (.slice (H i).ka (H i).kn (H i).kc) := by
  obtain ⟨g, off, e, hg, hc⟩ := x.row.at h0
  refine ⟨g, off, e, fun W' hb i hi => ?_⟩
  exact ⟨(hb.cell (p := ⟨g, off + i * 3, none⟩) hg).trans (hc i hi 0 _ rfl), (hb.cell (p := ⟨g, off + i * 3 + 1, none⟩) hg).trans (hc i hi 1 _ rfl), (hb.cell (p := ⟨g, off + i * 3 + 2, none⟩) hg).trans (hc i hi 2 _ rfl)⟩

set_option maxRecDepth 100000 in
set_option maxHeartbeats 4000000 in
theorem search_any (k lo hi : Nat) : ∀ (P Q : PT) (h h2 : IMH) (w : World), InImg k lo hi w h P → InImg k lo hi w h2 Q → hi ≤ w.heap.size → Calls Tryd.prog 27 #[.agg #[.slice h.sa h.sn h.sc, .slice h.pa h.pn h.pc, .slice h.ka h.kn h.kc], .agg #[.slice h2.sa h2.sn h2.sc, .slice h2.pa h2.pn h2.pc, .slice h2.ka h2.kn h2.kc]] w (Search lo hi w (searchP k P Q)) := by
  intro P
  induction P using PT.ind2 with
  | h P ih =>
  rintro Q ⟨sa, sn, sc, pa, pn, pc, ka, kn, kc⟩ ⟨sa2, sn2, sc2, pa2, pn2, pc2, ka2, kn2, kc2⟩ w hp hq hhi
  have HD := Lib.hid (SB.enter w ⟨sa, sn, sc, pa, pn, pc, ka, kn, kc⟩ ⟨sa2, sn2, sc2, pa2, pn2, pc2, ka2, kn2, kc2⟩)
  obtain ⟨-, ⟨D, hpa⟩, H, hka⟩ := hp.parts
  obtain ⟨-, ⟨D2, hpb⟩, H2, hkb⟩ := hq.parts
  dsimp only at hpa hpb hka hkb
  have HPA := Lib.hid hpa
  have HPB := Lib.hid hpb
  have HKA := Lib.hid hka
  have HKB := Lib.hid hkb
  have hl1 := hpa.len
  have hl2 := hpb.len
  have hl3 := hka.len
  have hl4 := hkb.len
  have m1 := Nat.le_trans hpa.row.le hpa.row.max
  have m2 := Nat.le_trans hpb.row.le hpb.row.max
  have m3 := Nat.le_trans hka.row.le hka.row.max
  have m4 := Nat.le_trans hkb.row.le hkb.row.max
  simp only [maxLen] at m1 m2 m3 m4
  have HIK : Hid (∀ i (hi0 : i < P.kidsP.length) (Q' : PT) (h h2 : IMH) (w : World), InImg k lo hi w h P.kidsP[i] → InImg k lo hi w h2 Q' → hi ≤ w.heap.size → Calls Tryd.prog 27 #[.agg #[.slice h.sa h.sn h.sc, .slice h.pa h.pn h.pc, .slice h.ka h.kn h.kc], .agg #[.slice h2.sa h2.sn h2.sc, .slice h2.pa h2.pn h2.pc, .slice h2.ka h2.kn h2.kc]] w (Search lo hi w (searchP k P.kidsP[i] Q'))) := Lib.hid (PT.kid_ind (k := k) (lo := lo) (hi := hi) (X := fun p => ∀ (Q' : PT) (h h2 : IMH) (w : World), InImg k lo hi w h p → InImg k lo hi w h2 Q' → hi ≤ w.heap.size → Calls Tryd.prog 27 #[.agg #[.slice h.sa h.sn h.sc, .slice h.pa h.pn h.pc, .slice h.ka h.kn h.kc], .agg #[.slice h2.sa h2.sn h2.sc, .slice h2.pa h2.pn h2.pc, .slice h2.ka h2.kn h2.kc]] w (Search lo hi w (searchP k p Q'))) ih)
  have HSI := Lib.hid (search_img k P Q)
  clear hp hq hpa hpb hka hkb ih
  go_enter Tryd.func27, Tryd.ntmps27
  go_upto_region 1 with fail
  generalize ((w.alloc (.cells #[.slice sa sn sc, .slice pa pn pc, .slice ka kn kc] 66)).alloc (.cells #[.slice sa2 sn2 sc2, .slice pa2 pn2 pc2, .slice ka2 kn2 kc2] 66)) = w0 at *
  obtain ⟨M, hM⟩ : ∃ M : Nat, M = min pn pn2 := ⟨_, rfl⟩
  obtain ⟨M2, hM2⟩ : ∃ M2 : Nat, M2 = min kn kn2 := ⟨_, rfl⟩
  have HZL : Hid (((P.preP k).zip (Q.preP k)).length = M ∧ (P.kidsP.zip Q.kidsP).length = M2) := Lib.hid (by rw [List.length_zip, List.length_zip]; omega)
  have HM := Lib.hid hM
  have HM2 := Lib.hid hM2
  have hp1 : M ≤ pn := by omega
  have hp2 : M ≤ pn2 := by omega
  have hp3 : M2 ≤ kn := by omega
  have hp4 : M2 ≤ kn2 := by omega
  clear hM hM2
  go_cut [15, 16] (fun s15 s16 wx => s15 = .int .i64 (M : Nat) ∧ s16 = .int .i64 0 ∧ wx = w0)
  case first =>
    obtain ⟨x0, x1⟩ := HD.out.pre
    by_cases q : (pn2 : Int) < (pn : Int)
    · go_wp2_with fail
      go_meet
      exact ⟨by have := HM.out; congr 1; omega, rfl, rfl⟩
    · go_wp2_with fail
      go_meet
      exact ⟨by have := HM.out; congr 1; omega, rfl, rfl⟩
  case rest =>
    obtain ⟨rfl, rfl, hw0⟩ := hcut
    rw [hw0]
    clear hw0
    go_wp2_with fail
    go_loopw [16] (fun s16 wx => ∃ i : Nat, i ≤ M ∧ s16 = .int .i64 i ∧ SB w wx ⟨sa, sn, sc, pa, pn, pc, ka, kn, kc⟩ ⟨sa2, sn2, sc2, pa2, pn2, pc2, ka2, kn2, kc2⟩ ∧ NoneYet k P Q i) (fun s16 _ => M - (intOf s16).toNat)
    case atStart => exact ⟨0, Nat.zero_le _, rfl, HD.out, rfl⟩
    case round =>
      clear HD
      obtain ⟨i, hi1, rfl, hd, hfn⟩ := hrel
      have HFN := Lib.hid hfn
      have HD := Lib.hid hd
      clear hfn hd
      by_cases hlt : i < M
      · have q1 : (i : Int) < (M : Int) := by omega
        have q2 : (i : Int) < (pn : Int) := by omega
        have q3 : (i : Int) < (pn2 : Int) := by omega
        obtain ⟨g, off, hga, hca⟩ := pre_cell HPA.out (by omega)
        obtain ⟨g2, off2, hgb, hcb⟩ := pre_cell HPB.out (by omega)
        subst hga hgb
        have HD4 := Lib.hid HD.out.drew
        have HS4 : Hid ((fun W => W.cell? ⟨w.heap.size, 1, none⟩ = some (.slice (some ⟨g, off, none⟩) pn pc) ∧ W.cell? ⟨w.heap.size + 1, 1, none⟩ = some (.slice (some ⟨g2, off2, none⟩) pn2 pc2) ∧ W.cell? ⟨g, off + i, none⟩ = some (.slice (D i).a (D i).n (D i).c) ∧ W.cell? ⟨g2, off2 + i, none⟩ = some (.slice (D2 i).a (D2 i).n (D2 i).c)) wr.drew) := Lib.hid ⟨HD4.out.pre.1, HD4.out.pre.2, hca _ HD4.out.b i (by omega), hcb _ HD4.out.b i (by omega)⟩
        have hix : i < (P.preP k).length := by omega
        have hiy : i < (Q.preP k).length := by omega
        have hfx := HPA.out.all i hix
        have hfy := HPB.out.all i hiy
        have HEL : Hid (((P.preP k).zip (Q.preP k))[i]'(by have := HZL.out.1; omega) = ((P.preP k)[i], (Q.preP k)[i])) := Lib.hid List.getElem_zip
        generalize (P.preP k)[i] = x at hfx HEL
        generalize (Q.preP k)[i] = y at hfy HEL
        have HFX := Lib.hid hfx
        have HFY := Lib.hid hfy
        have HKX : Hid (InBytes wr.drew (D i).a (D i).n (D i).c x) := Lib.hid ((hfx.below HD4.out.b hhi) _ (Nat.le_trans hhi HD4.out.b.size) (fun _ _ _ => rfl))
        have HKY : Hid (InBytes wr.drew (D2 i).a (D2 i).n (D2 i).c y) := Lib.hid ((hfy.below HD4.out.b hhi) _ (Nat.le_trans hhi HD4.out.b.size) (fun _ _ _ => rfl))
        clear hca hcb hfx hfy hix hiy
        cases he : x == y with
        | true =>
          have HE := Lib.hid he
          clear he
          go_upto_region 4 with fail
          refine wp_region_held_drew (S := (fun W => W.cell? ⟨w.heap.size, 1, none⟩ = some (.slice (some ⟨g, off, none⟩) pn pc) ∧ W.cell? ⟨w.heap.size + 1, 1, none⟩ = some (.slice (some ⟨g2, off2, none⟩) pn2 pc2) ∧ W.cell? ⟨g, off + i, none⟩ = some (.slice (D i).a (D i).n (D i).c) ∧ W.cell? ⟨g2, off2 + i, none⟩ = some (.slice (D2 i).a (D2 i).n (D2 i).c))) (by kernel_rfl) HS4.out (fun hHeld => ?_)
          refine take_w (i := 0) (oi := ?oZ1) (v := ?vZ1) ?hiZ1 (by kernel_rfl) (by kernel_rfl) (by kernel_rfl) ?hQZ1 ?hwZ1 ?hyZ1 (by assumption) ?restZ1
          case hiZ1 => (simp only [List.getElem?_toArray, List.getElem?_cons_zero] <;> rfl)
          case hQZ1 => exact (fun _ _ _ h => h)
          case hwZ1 => rfl
          case hyZ1 => (intro w hSw; (try dsimp only at hSw); go_simp; try with_reducible rfl)
          (try simp only [Act.put, List.setIfInBounds_toArray, List.set_cons_zero, List.set_cons_succ])
          refine take_w (i := 1) (oi := ?oZ2) (v := ?vZ2) ?hiZ2 (by kernel_rfl) (by kernel_rfl) (by kernel_rfl) ?hQZ2 ?hwZ2 ?hyZ2 (by assumption) ?restZ2
          case hiZ2 => (simp only [List.getElem?_toArray, List.getElem?_cons_succ, List.getElem?_cons_zero] <;> rfl)
          case hQZ2 => exact (fun _ _ _ h => h)
          case hwZ2 => rfl
          case hyZ2 => (intro w hSw; (try dsimp only at hSw); go_simp; try with_reducible rfl)
          (try simp only [Act.put, List.setIfInBounds_toArray, List.set_cons_zero, List.set_cons_succ])
          refine take_w (i := 2) (oi := ?oZ3) (v := ?vZ3) ?hiZ3 (by kernel_rfl) (by kernel_rfl) (by kernel_rfl) ?hQZ3 ?hwZ3 ?hyZ3 (by assumption) ?restZ3
          case hiZ3 => (simp only [List.getElem?_toArray, List.getElem?_cons_succ, List.getElem?_cons_zero] <;> rfl)
          case hQZ3 => exact (fun _ _ _ h => h)
          case hwZ3 => rfl
          case hyZ3 => (intro w hSw; (try dsimp only at hSw); go_simp; try with_reducible rfl)
          (try simp only [Act.put, List.setIfInBounds_toArray, List.set_cons_zero, List.set_cons_succ])
          refine take_w (i := 3) (oi := ?oZ4) (v := ?vZ4) ?hiZ4 (by kernel_rfl) (by kernel_rfl) (by kernel_rfl) ?hQZ4 ?hwZ4 ?hyZ4 (by assumption) ?restZ4
          case hiZ4 => (simp only [List.getElem?_toArray, List.getElem?_cons_succ, List.getElem?_cons_zero] <;> rfl)
          case hQZ4 => exact (fun _ _ _ h => h)
          case hwZ4 => rfl
          case hyZ4 => (intro w hSw; (try dsimp only at hSw); go_simp; try with_reducible rfl)
          (try simp only [Act.put, List.setIfInBounds_toArray, List.set_cons_zero, List.set_cons_succ])
          refine take_w (i := 4) (oi := ?oZ5) (v := ?vZ5) ?hiZ5 (by kernel_rfl) (by kernel_rfl) (by kernel_rfl) ?hQZ5 ?hwZ5 ?hyZ5 (by assumption) ?restZ5
          case hiZ5 => (simp only [List.getElem?_toArray, List.getElem?_cons_succ, List.getElem?_cons_zero] <;> rfl)
          case hQZ5 => exact (fun _ _ _ h => h)
          case hwZ5 => rfl
          case hyZ5 => (intro w hSw; (try dsimp only at hSw); go_simp; try with_reducible rfl)
          (try simp only [Act.put, List.setIfInBounds_toArray, List.set_cons_zero, List.set_cons_succ])
          refine take_w (i := 5) (oi := ?oZ6) (v := ?vZ6) ?hiZ6 (by kernel_rfl) (by kernel_rfl) (by kernel_rfl) ?hQZ6 ?hwZ6 ?hyZ6 (by assumption) ?restZ6
          case hiZ6 => (simp only [List.getElem?_toArray, List.getElem?_cons_succ, List.getElem?_cons_zero] <;> rfl)
          case hQZ6 => exact (fun _ _ _ h => h)
          case hwZ6 => rfl
          case hyZ6 => (intro w hSw; (try dsimp only at hSw); go_simp; try with_reducible rfl)
          (try simp only [Act.put, List.setIfInBounds_toArray, List.set_cons_zero, List.set_cons_succ])
          refine take_w (i := 6) (oi := ?oZ7) (v := ?vZ7) ?hiZ7 (by kernel_rfl) (by kernel_rfl) (by kernel_rfl) ?hQZ7 ?hwZ7 ?hyZ7 (by assumption) ?restZ7
          case hiZ7 => (simp only [List.getElem?_toArray, List.getElem?_cons_succ, List.getElem?_cons_zero] <;> rfl)
          case hQZ7 => exact (fun _ _ _ h => h)
          case hwZ7 => rfl
          case hyZ7 => (intro w hSw; (try dsimp only at hSw); go_simp; try with_reducible rfl)
          (try simp only [Act.put, List.setIfInBounds_toArray, List.set_cons_zero, List.set_cons_succ])
          refine take_w (i := 7) (oi := ?oZ8) (v := ?vZ8) ?hiZ8 (by kernel_rfl) (by kernel_rfl) (by kernel_rfl) ?hQZ8 ?hwZ8 ?hyZ8 (by assumption) ?restZ8
          case hiZ8 => (simp only [List.getElem?_toArray, List.getElem?_cons_succ, List.getElem?_cons_zero] <;> rfl)
          case hQZ8 => exact (fun _ _ _ h => h)
          case hwZ8 => rfl
          case hyZ8 => (intro w hSw; (try dsimp only at hSw); go_simp; try with_reducible rfl)
          (try simp only [Act.put, List.setIfInBounds_toArray, List.set_cons_zero, List.set_cons_succ])
          refine take_w (i := 8) (oi := ?oZ9) (v := ?vZ9) ?hiZ9 (by kernel_rfl) (by kernel_rfl) (by kernel_rfl) ?hQZ9 ?hwZ9 ?hyZ9 (by assumption) ?restZ9
          case hiZ9 => (simp only [List.getElem?_toArray, List.getElem?_cons_succ, List.getElem?_cons_zero] <;> rfl)
          case hQZ9 => exact (fun _ _ _ h => h)
          case hwZ9 => rfl
          case hyZ9 => (intro w hSw; (try dsimp only at hSw); go_simp; try with_reducible rfl)
          (try simp only [Act.put, List.setIfInBounds_toArray, List.set_cons_zero, List.set_cons_succ])
          refine take_w (i := 9) (oi := ?oZ10) (v := ?vZ10) ?hiZ10 (by kernel_rfl) (by kernel_rfl) (by kernel_rfl) ?hQZ10 ?hwZ10 ?hyZ10 (by assumption) ?restZ10
          case hiZ10 => (simp only [List.getElem?_toArray, List.getElem?_cons_succ, List.getElem?_cons_zero] <;> rfl)
          case hQZ10 => exact (fun _ _ _ h => h)
          case hwZ10 => rfl
          case hyZ10 => (intro w hSw; (try dsimp only at hSw); go_simp; try with_reducible rfl)
          (try simp only [Act.put, List.setIfInBounds_toArray, List.set_cons_zero, List.set_cons_succ])
          refine wpAnyH_ready (rs := [10]) (by kernel_rfl) (by simp) ?_
          refine AllReadyH.cons (o := ?oZ11) ?hiZ11 (fun K hK => ?stZ11) AllReadyH.nil
          case hiZ11 => (simp only [List.getElem?_toArray, List.getElem?_cons_succ, List.getElem?_cons_zero] <;> rfl)
          go_simp
          go_at_call 25
          (with_reducible refine (equal_any x y _ _ _ _ _ _ _ HKX.out HKY.out).mono ?_)
          rintro _ w6 ⟨rfl, hw6⟩
          rw [hw6]
          clear hw6
          rw [HE.out]
          go_simp
          refine hK.out _ _ ?_ (fun hHeld => ?_)
          · (exact HS4.out)
          clear hK K
          (try simp only [Act.put, List.setIfInBounds_toArray, List.set_cons_zero, List.set_cons_succ])
          refine take_w (i := 11) (oi := ?oZ12) (v := ?vZ12) ?hiZ12 (by kernel_rfl) (by kernel_rfl) (by kernel_rfl) ?hQZ12 ?hwZ12 ?hyZ12 (by assumption) ?restZ12
          case hiZ12 => (simp only [List.getElem?_toArray, List.getElem?_cons_succ, List.getElem?_cons_zero] <;> rfl)
          case hQZ12 => exact (fun _ _ _ h => h)
          case hwZ12 => rfl
          case hyZ12 => (intro w hSw; (try dsimp only at hSw); go_simp; try with_reducible rfl)
          (try simp only [Act.put, List.setIfInBounds_toArray, List.set_cons_zero, List.set_cons_succ])
          refine wpAnyH_done (by kernel_rfl) ?_ _
          clear hHeld
          go_wp2_with fail
          exact ⟨⟨i + 1, by omega, by go_num, HD4.out, some_more unlikeX _ i (by have := HZL.out.1; omega) HFN.out (by
            have e : x = y := by simpa using HE.out
            rw [HEL.out, e]
            exact unlike_eq)⟩, by simp [intOf]; omega⟩
        | false =>
          have HE := Lib.hid he
          clear he
          have HSF : Hid (searchP k P Q = some (x, y)) := Lib.hid (by
            have e : firstL (P.preP k) (Q.preP k) = some (x, y) := some_here unlikeX _ i (by have := HZL.out.1; omega) HFN.out (by rw [HEL.out]; exact unlike_ne HE.out)
            rw [HSI.out, e])
          rw [HSF.out]
          go_upto_region 4 with fail
          refine wp_region_held_drew (S := (fun W => W.cell? ⟨w.heap.size, 1, none⟩ = some (.slice (some ⟨g, off, none⟩) pn pc) ∧ W.cell? ⟨w.heap.size + 1, 1, none⟩ = some (.slice (some ⟨g2, off2, none⟩) pn2 pc2) ∧ W.cell? ⟨g, off + i, none⟩ = some (.slice (D i).a (D i).n (D i).c) ∧ W.cell? ⟨g2, off2 + i, none⟩ = some (.slice (D2 i).a (D2 i).n (D2 i).c))) (by kernel_rfl) HS4.out (fun hHeld => ?_)
          refine take_w (i := 0) (oi := ?oZ13) (v := ?vZ13) ?hiZ13 (by kernel_rfl) (by kernel_rfl) (by kernel_rfl) ?hQZ13 ?hwZ13 ?hyZ13 (by assumption) ?restZ13
          case hiZ13 => (simp only [List.getElem?_toArray, List.getElem?_cons_zero] <;> rfl)
          case hQZ13 => exact (fun _ _ _ h => h)
          case hwZ13 => rfl
          case hyZ13 => (intro w hSw; (try dsimp only at hSw); go_simp; try with_reducible rfl)
          (try simp only [Act.put, List.setIfInBounds_toArray, List.set_cons_zero, List.set_cons_succ])
          refine take_w (i := 1) (oi := ?oZ14) (v := ?vZ14) ?hiZ14 (by kernel_rfl) (by kernel_rfl) (by kernel_rfl) ?hQZ14 ?hwZ14 ?hyZ14 (by assumption) ?restZ14
          case hiZ14 => (simp only [List.getElem?_toArray, List.getElem?_cons_succ, List.getElem?_cons_zero] <;> rfl)
          case hQZ14 => exact (fun _ _ _ h => h)
          case hwZ14 => rfl
          case hyZ14 => (intro w hSw; (try dsimp only at hSw); go_simp; try with_reducible rfl)
          (try simp only [Act.put, List.setIfInBounds_toArray, List.set_cons_zero, List.set_cons_succ])
          refine take_w (i := 2) (oi := ?oZ15) (v := ?vZ15) ?hiZ15 (by kernel_rfl) (by kernel_rfl) (by kernel_rfl) ?hQZ15 ?hwZ15 ?hyZ15 (by assumption) ?restZ15
          case hiZ15 => (simp only [List.getElem?_toArray, List.getElem?_cons_succ, List.getElem?_cons_zero] <;> rfl)
          case hQZ15 => exact (fun _ _ _ h => h)
          case hwZ15 => rfl
          case hyZ15 => (intro w hSw; (try dsimp only at hSw); go_simp; try with_reducible rfl)
          (try simp only [Act.put, List.setIfInBounds_toArray, List.set_cons_zero, List.set_cons_succ])
          refine take_w (i := 3) (oi := ?oZ16) (v := ?vZ16) ?hiZ16 (by kernel_rfl) (by kernel_rfl) (by kernel_rfl) ?hQZ16 ?hwZ16 ?hyZ16 (by assumption) ?restZ16
          case hiZ16 => (simp only [List.getElem?_toArray, List.getElem?_cons_succ, List.getElem?_cons_zero] <;> rfl)
          case hQZ16 => exact (fun _ _ _ h => h)
          case hwZ16 => rfl
          case hyZ16 => (intro w hSw; (try dsimp only at hSw); go_simp; try with_reducible rfl)
          (try simp only [Act.put, List.setIfInBounds_toArray, List.set_cons_zero, List.set_cons_succ])
          refine take_w (i := 4) (oi := ?oZ17) (v := ?vZ17) ?hiZ17 (by kernel_rfl) (by kernel_rfl) (by kernel_rfl) ?hQZ17 ?hwZ17 ?hyZ17 (by assumption) ?restZ17
          case hiZ17 => (simp only [List.getElem?_toArray, List.getElem?_cons_succ, List.getElem?_cons_zero] <;> rfl)
          case hQZ17 => exact (fun _ _ _ h => h)
          case hwZ17 => rfl
          case hyZ17 => (intro w hSw; (try dsimp only at hSw); go_simp; try with_reducible rfl)
          (try simp only [Act.put, List.setIfInBounds_toArray, List.set_cons_zero, List.set_cons_succ])
          refine take_w (i := 5) (oi := ?oZ18) (v := ?vZ18) ?hiZ18 (by kernel_rfl) (by kernel_rfl) (by kernel_rfl) ?hQZ18 ?hwZ18 ?hyZ18 (by assumption) ?restZ18
          case hiZ18 => (simp only [List.getElem?_toArray, List.getElem?_cons_succ, List.getElem?_cons_zero] <;> rfl)
          case hQZ18 => exact (fun _ _ _ h => h)
          case hwZ18 => rfl
          case hyZ18 => (intro w hSw; (try dsimp only at hSw); go_simp; try with_reducible rfl)
          (try simp only [Act.put, List.setIfInBounds_toArray, List.set_cons_zero, List.set_cons_succ])
          refine take_w (i := 6) (oi := ?oZ19) (v := ?vZ19) ?hiZ19 (by kernel_rfl) (by kernel_rfl) (by kernel_rfl) ?hQZ19 ?hwZ19 ?hyZ19 (by assumption) ?restZ19
          case hiZ19 => (simp only [List.getElem?_toArray, List.getElem?_cons_succ, List.getElem?_cons_zero] <;> rfl)
          case hQZ19 => exact (fun _ _ _ h => h)
          case hwZ19 => rfl
          case hyZ19 => (intro w hSw; (try dsimp only at hSw); go_simp; try with_reducible rfl)
          (try simp only [Act.put, List.setIfInBounds_toArray, List.set_cons_zero, List.set_cons_succ])
          refine take_w (i := 7) (oi := ?oZ20) (v := ?vZ20) ?hiZ20 (by kernel_rfl) (by kernel_rfl) (by kernel_rfl) ?hQZ20 ?hwZ20 ?hyZ20 (by assumption) ?restZ20
          case hiZ20 => (simp only [List.getElem?_toArray, List.getElem?_cons_succ, List.getElem?_cons_zero] <;> rfl)
          case hQZ20 => exact (fun _ _ _ h => h)
          case hwZ20 => rfl
          case hyZ20 => (intro w hSw; (try dsimp only at hSw); go_simp; try with_reducible rfl)
          (try simp only [Act.put, List.setIfInBounds_toArray, List.set_cons_zero, List.set_cons_succ])
          refine take_w (i := 8) (oi := ?oZ21) (v := ?vZ21) ?hiZ21 (by kernel_rfl) (by kernel_rfl) (by kernel_rfl) ?hQZ21 ?hwZ21 ?hyZ21 (by assumption) ?restZ21
          case hiZ21 => (simp only [List.getElem?_toArray, List.getElem?_cons_succ, List.getElem?_cons_zero] <;> rfl)
          case hQZ21 => exact (fun _ _ _ h => h)
          case hwZ21 => rfl
          case hyZ21 => (intro w hSw; (try dsimp only at hSw); go_simp; try with_reducible rfl)
          (try simp only [Act.put, List.setIfInBounds_toArray, List.set_cons_zero, List.set_cons_succ])
          refine take_w (i := 9) (oi := ?oZ22) (v := ?vZ22) ?hiZ22 (by kernel_rfl) (by kernel_rfl) (by kernel_rfl) ?hQZ22 ?hwZ22 ?hyZ22 (by assumption) ?restZ22
          case hiZ22 => (simp only [List.getElem?_toArray, List.getElem?_cons_succ, List.getElem?_cons_zero] <;> rfl)
          case hQZ22 => exact (fun _ _ _ h => h)
          case hwZ22 => rfl
          case hyZ22 => (intro w hSw; (try dsimp only at hSw); go_simp; try with_reducible rfl)
          (try simp only [Act.put, List.setIfInBounds_toArray, List.set_cons_zero, List.set_cons_succ])
          refine wpAnyH_ready (rs := [10]) (by kernel_rfl) (by simp) ?_
          refine AllReadyH.cons (o := ?oZ23) ?hiZ23 (fun K hK => ?stZ23) AllReadyH.nil
          case hiZ23 => (simp only [List.getElem?_toArray, List.getElem?_cons_succ, List.getElem?_cons_zero] <;> rfl)
          go_simp
          go_at_call 25
          (with_reducible refine (equal_any x y _ _ _ _ _ _ _ HKX.out HKY.out).mono ?_)
          rintro _ w6 ⟨rfl, hw6⟩
          rw [hw6]
          clear hw6
          rw [HE.out]
          go_simp
          refine hK.out _ _ ?_ (fun hHeld => ?_)
          · (exact HS4.out)
          clear hK K
          (try simp only [Act.put, List.setIfInBounds_toArray, List.set_cons_zero, List.set_cons_succ])
          refine take_w (i := 11) (oi := ?oZ24) (v := ?vZ24) ?hiZ24 (by kernel_rfl) (by kernel_rfl) (by kernel_rfl) ?hQZ24 ?hwZ24 ?hyZ24 (by assumption) ?restZ24
          case hiZ24 => (simp only [List.getElem?_toArray, List.getElem?_cons_succ, List.getElem?_cons_zero] <;> rfl)
          case hQZ24 => exact (fun _ _ _ h => h)
          case hwZ24 => rfl
          case hyZ24 => (intro w hSw; (try dsimp only at hSw); go_simp; try with_reducible rfl)
          (try simp only [Act.put, List.setIfInBounds_toArray, List.set_cons_zero, List.set_cons_succ])
          refine wpAnyH_done (by kernel_rfl) ?_ _
          clear hHeld
          go_upto_region 5 with fail
          have HD5 := Lib.hid HD4.out.drew
          have HS5 : Hid ((fun W => W.cell? ⟨w.heap.size, 1, none⟩ = some (.slice (some ⟨g, off, none⟩) pn pc) ∧ W.cell? ⟨w.heap.size + 1, 1, none⟩ = some (.slice (some ⟨g2, off2, none⟩) pn2 pc2) ∧ W.cell? ⟨g, off + i, none⟩ = some (.slice (D i).a (D i).n (D i).c) ∧ W.cell? ⟨g2, off2 + i, none⟩ = some (.slice (D2 i).a (D2 i).n (D2 i).c)) wr.drew.drew) := Lib.hid HS4.out
          refine wp_region_held_drew (S := (fun W => W.cell? ⟨w.heap.size, 1, none⟩ = some (.slice (some ⟨g, off, none⟩) pn pc) ∧ W.cell? ⟨w.heap.size + 1, 1, none⟩ = some (.slice (some ⟨g2, off2, none⟩) pn2 pc2) ∧ W.cell? ⟨g, off + i, none⟩ = some (.slice (D i).a (D i).n (D i).c) ∧ W.cell? ⟨g2, off2 + i, none⟩ = some (.slice (D2 i).a (D2 i).n (D2 i).c))) (by kernel_rfl) HS5.out (fun hHeld => ?_)
          refine take_w (i := 0) (oi := ?oZ25) (v := ?vZ25) ?hiZ25 (by kernel_rfl) (by kernel_rfl) (by kernel_rfl) ?hQZ25 ?hwZ25 ?hyZ25 (by assumption) ?restZ25
          case hiZ25 => (simp only [List.getElem?_toArray, List.getElem?_cons_zero] <;> rfl)
          case hQZ25 => exact (fun _ _ _ h => h)
          case hwZ25 => rfl
          case hyZ25 => (intro w hSw; (try dsimp only at hSw); go_simp; try with_reducible rfl)
          (try simp only [Act.put, List.setIfInBounds_toArray, List.set_cons_zero, List.set_cons_succ])
          refine take_w (i := 1) (oi := ?oZ26) (v := ?vZ26) ?hiZ26 (by kernel_rfl) (by kernel_rfl) (by kernel_rfl) ?hQZ26 ?hwZ26 ?hyZ26 (by assumption) ?restZ26
          case hiZ26 => (simp only [List.getElem?_toArray, List.getElem?_cons_succ, List.getElem?_cons_zero] <;> rfl)
          case hQZ26 => exact (fun _ _ _ h => h)
          case hwZ26 => rfl
          case hyZ26 => (intro w hSw; (try dsimp only at hSw); go_simp; try with_reducible rfl)
          (try simp only [Act.put, List.setIfInBounds_toArray, List.set_cons_zero, List.set_cons_succ])
          refine take_w (i := 2) (oi := ?oZ27) (v := ?vZ27) ?hiZ27 (by kernel_rfl) (by kernel_rfl) (by kernel_rfl) ?hQZ27 ?hwZ27 ?hyZ27 (by assumption) ?restZ27
          case hiZ27 => (simp only [List.getElem?_toArray, List.getElem?_cons_succ, List.getElem?_cons_zero] <;> rfl)
          case hQZ27 => exact (fun _ _ _ h => h)
          case hwZ27 => rfl
          case hyZ27 => (intro w hSw; (try dsimp only at hSw); go_simp; try with_reducible rfl)
          (try simp only [Act.put, List.setIfInBounds_toArray, List.set_cons_zero, List.set_cons_succ])
          refine take_w (i := 3) (oi := ?oZ28) (v := ?vZ28) ?hiZ28 (by kernel_rfl) (by kernel_rfl) (by kernel_rfl) ?hQZ28 ?hwZ28 ?hyZ28 (by assumption) ?restZ28
          case hiZ28 => (simp only [List.getElem?_toArray, List.getElem?_cons_succ, List.getElem?_cons_zero] <;> rfl)
          case hQZ28 => exact (fun _ _ _ h => h)
          case hwZ28 => rfl
          case hyZ28 => (intro w hSw; (try dsimp only at hSw); go_simp; try with_reducible rfl)
          (try simp only [Act.put, List.setIfInBounds_toArray, List.set_cons_zero, List.set_cons_succ])
          refine take_w (i := 4) (oi := ?oZ29) (v := ?vZ29) ?hiZ29 (by kernel_rfl) (by kernel_rfl) (by kernel_rfl) ?hQZ29 ?hwZ29 ?hyZ29 (by assumption) ?restZ29
          case hiZ29 => (simp only [List.getElem?_toArray, List.getElem?_cons_succ, List.getElem?_cons_zero] <;> rfl)
          case hQZ29 => exact (fun _ _ _ h => h)
          case hwZ29 => rfl
          case hyZ29 => (intro w hSw; (try dsimp only at hSw); go_simp; try with_reducible rfl)
          (try simp only [Act.put, List.setIfInBounds_toArray, List.set_cons_zero, List.set_cons_succ])
          refine take_w (i := 5) (oi := ?oZ30) (v := ?vZ30) ?hiZ30 (by kernel_rfl) (by kernel_rfl) (by kernel_rfl) ?hQZ30 ?hwZ30 ?hyZ30 (by assumption) ?restZ30
          case hiZ30 => (simp only [List.getElem?_toArray, List.getElem?_cons_succ, List.getElem?_cons_zero] <;> rfl)
          case hQZ30 => exact (fun _ _ _ h => h)
          case hwZ30 => rfl
          case hyZ30 => (intro w hSw; (try dsimp only at hSw); go_simp; try with_reducible rfl)
          (try simp only [Act.put, List.setIfInBounds_toArray, List.set_cons_zero, List.set_cons_succ])
          refine take_w (i := 6) (oi := ?oZ31) (v := ?vZ31) ?hiZ31 (by kernel_rfl) (by kernel_rfl) (by kernel_rfl) ?hQZ31 ?hwZ31 ?hyZ31 (by assumption) ?restZ31
          case hiZ31 => (simp only [List.getElem?_toArray, List.getElem?_cons_succ, List.getElem?_cons_zero] <;> rfl)
          case hQZ31 => exact (fun _ _ _ h => h)
          case hwZ31 => rfl
          case hyZ31 => (intro w hSw; (try dsimp only at hSw); go_simp; try with_reducible rfl)
          (try simp only [Act.put, List.setIfInBounds_toArray, List.set_cons_zero, List.set_cons_succ])
          refine take_w (i := 7) (oi := ?oZ32) (v := ?vZ32) ?hiZ32 (by kernel_rfl) (by kernel_rfl) (by kernel_rfl) ?hQZ32 ?hwZ32 ?hyZ32 (by assumption) ?restZ32
          case hiZ32 => (simp only [List.getElem?_toArray, List.getElem?_cons_succ, List.getElem?_cons_zero] <;> rfl)
          case hQZ32 => exact (fun _ _ _ h => h)
          case hwZ32 => rfl
          case hyZ32 => (intro w hSw; (try dsimp only at hSw); go_simp; try with_reducible rfl)
          (try simp only [Act.put, List.setIfInBounds_toArray, List.set_cons_zero, List.set_cons_succ])
          refine take_w (i := 8) (oi := ?oZ33) (v := ?vZ33) ?hiZ33 (by kernel_rfl) (by kernel_rfl) (by kernel_rfl) ?hQZ33 ?hwZ33 ?hyZ33 (by assumption) ?restZ33
          case hiZ33 => (simp only [List.getElem?_toArray, List.getElem?_cons_succ, List.getElem?_cons_zero] <;> rfl)
          case hQZ33 => exact (fun _ _ _ h => h)
          case hwZ33 => rfl
          case hyZ33 => (intro w hSw; (try dsimp only at hSw); go_simp; try with_reducible rfl)
          (try simp only [Act.put, List.setIfInBounds_toArray, List.set_cons_zero, List.set_cons_succ])
          refine take_w (i := 9) (oi := ?oZ34) (v := ?vZ34) ?hiZ34 (by kernel_rfl) (by kernel_rfl) (by kernel_rfl) ?hQZ34 ?hwZ34 ?hyZ34 (by assumption) ?restZ34
          case hiZ34 => (simp only [List.getElem?_toArray, List.getElem?_cons_succ, List.getElem?_cons_zero] <;> rfl)
          case hQZ34 => exact (fun _ _ _ h => h)
          case hwZ34 => rfl
          case hyZ34 => (intro w hSw; (try dsimp only at hSw); go_simp; try with_reducible rfl)
          (try simp only [Act.put, List.setIfInBounds_toArray, List.set_cons_zero, List.set_cons_succ])
          refine take_w (i := 10) (oi := ?oZ35) (v := ?vZ35) ?hiZ35 (by kernel_rfl) (by kernel_rfl) (by kernel_rfl) ?hQZ35 ?hwZ35 ?hyZ35 (by assumption) ?restZ35
          case hiZ35 => (simp only [List.getElem?_toArray, List.getElem?_cons_succ, List.getElem?_cons_zero] <;> rfl)
          case hQZ35 => exact (fun _ _ _ h => h)
          case hwZ35 => rfl
          case hyZ35 => (intro w hSw; (try dsimp only at hSw); go_simp; try with_reducible rfl)
          (try simp only [Act.put, List.setIfInBounds_toArray, List.set_cons_zero, List.set_cons_succ])
          refine take_w (i := 11) (oi := ?oZ36) (v := ?vZ36) ?hiZ36 (by kernel_rfl) (by kernel_rfl) (by kernel_rfl) ?hQZ36 ?hwZ36 ?hyZ36 (by assumption) ?restZ36
          case hiZ36 => (simp only [List.getElem?_toArray, List.getElem?_cons_succ, List.getElem?_cons_zero] <;> rfl)
          case hQZ36 => exact (fun _ _ _ h => h)
          case hwZ36 => rfl
          case hyZ36 => (intro w hSw; (try dsimp only at hSw); go_simp; try with_reducible rfl)
          (try simp only [Act.put, List.setIfInBounds_toArray, List.set_cons_zero, List.set_cons_succ])
          refine take_w (i := 12) (oi := ?oZ37) (v := ?vZ37) ?hiZ37 (by kernel_rfl) (by kernel_rfl) (by kernel_rfl) ?hQZ37 ?hwZ37 ?hyZ37 (by assumption) ?restZ37
          case hiZ37 => (simp only [List.getElem?_toArray, List.getElem?_cons_succ, List.getElem?_cons_zero] <;> rfl)
          case hQZ37 => exact (fun _ _ _ h => h)
          case hwZ37 => rfl
          case hyZ37 => (intro w hSw; (try dsimp only at hSw); go_simp; try with_reducible rfl)
          (try simp only [Act.put, List.setIfInBounds_toArray, List.set_cons_zero, List.set_cons_succ])
          refine wpAnyH_done (by kernel_rfl) ?_ _
          clear hHeld
          go_wp2_with fail
          go_ret3
          exact Search.found (s := (x, y)) (HFX.out.below HD5.out.b hhi) (HFY.out.below HD5.out.b hhi) HD5.out.b
      · have q1 : ¬ (i : Int) < (M : Int) := by omega
        have HSB : Hid (searchP k P Q = belowX k P.kidsP Q.kidsP) := Lib.hid (HFN.out.all (by have := HZL.out.1; omega))
        clear HFN
        go_upto_region 7 with fail
        go_cut [48, 49] (fun s48 s49 wx => s48 = .int .i64 (M2 : Nat) ∧ s49 = .int .i64 0 ∧ wx = wr)
        case first =>
          obtain ⟨x0, x1⟩ := HD.out.kids
          by_cases q : (kn2 : Int) < (kn : Int)
          · go_wp2_with fail
            go_meet
            exact ⟨by have := HM2.out; congr 1; omega, rfl, rfl⟩
          · go_wp2_with fail
            go_meet
            exact ⟨by have := HM2.out; congr 1; omega, rfl, rfl⟩
        case rest =>
          obtain ⟨rfl, rfl, hw0⟩ := hcut
          rw [hw0]
          clear hw0 q1 hlt hi1
          generalize wr = w1 at *
          go_wp2_with fail
          go_loopw [49] (fun s49 wx => ∃ i : Nat, i ≤ M2 ∧ s49 = .int .i64 i ∧ SB w wx ⟨sa, sn, sc, pa, pn, pc, ka, kn, kc⟩ ⟨sa2, sn2, sc2, pa2, pn2, pc2, ka2, kn2, kc2⟩ ∧ NoneBelow k P Q i) (fun s49 _ => M2 - (intOf s49).toNat)
          case atStart => exact ⟨0, Nat.zero_le _, rfl, HD.out, rfl⟩
          case round =>
            clear HD
            obtain ⟨i, hi1, rfl, hd, hfn⟩ := hrel
            have HFN := Lib.hid hfn
            have HD := Lib.hid hd
            clear hfn hd
            by_cases hlt : i < M2
            · have q1 : (i : Int) < (M2 : Int) := by omega
              have q2 : (i : Int) < (kn : Int) := by omega
              have q3 : (i : Int) < (kn2 : Int) := by omega
              obtain ⟨g, off, hga, hca⟩ := kid_cell HKA.out (by omega)
              obtain ⟨g2, off2, hgb, hcb⟩ := kid_cell HKB.out (by omega)
              subst hga hgb
              have HCA := Lib.hid hca
              have HCB := Lib.hid hcb
              have HD4 := Lib.hid HD.out.drew
              have HS4 : Hid ((fun W => W.cell? ⟨w.heap.size, 2, none⟩ = some (.slice (some ⟨g, off, none⟩) kn kc) ∧ W.cell? ⟨w.heap.size + 1, 2, none⟩ = some (.slice (some ⟨g2, off2, none⟩) kn2 kc2) ∧ (W.cell? ⟨g, off + i * 3, none⟩ = some (.slice (H i).sa (H i).sn (H i).sc) ∧ W.cell? ⟨g, off + i * 3 + 1, none⟩ = some (.slice (H i).pa (H i).pn (H i).pc) ∧ W.cell? ⟨g, off + i * 3 + 2, none⟩ = some (.slice (H i).ka (H i).kn (H i).kc)) ∧ (W.cell? ⟨g2, off2 + i * 3, none⟩ = some (.slice (H2 i).sa (H2 i).sn (H2 i).sc) ∧ W.cell? ⟨g2, off2 + i * 3 + 1, none⟩ = some (.slice (H2 i).pa (H2 i).pn (H2 i).pc) ∧ W.cell? ⟨g2, off2 + i * 3 + 2, none⟩ = some (.slice (H2 i).ka (H2 i).kn (H2 i).kc))) wr.drew) := Lib.hid ⟨HD4.out.kids.1, HD4.out.kids.2, hca _ HD4.out.b i (by omega), hcb _ HD4.out.b i (by omega)⟩
              have hix : i < P.kidsP.length := by omega
              have hiy : i < Q.kidsP.length := by omega
              have hik := HIK.out i hix
              have hxx := (HKA.out.all i hix).low HD4.out.b hhi
              have hyy := (HKB.out.all i hiy).low HD4.out.b hhi
              have HHI : Hid (hi ≤ wr.drew.heap.size) := Lib.hid (Nat.le_trans hhi HD4.out.b.size)
              have HEL : Hid ((P.kidsP.zip Q.kidsP)[i]'(by have := HZL.out.2; omega) = (P.kidsP[i], Q.kidsP[i])) := Lib.hid List.getElem_zip
              generalize P.kidsP[i] = p' at hik hxx HEL
              generalize Q.kidsP[i] = q' at hyy HEL
              have HIX1 := Lib.hid hik
              have HIX := Lib.hid hxx
              have HIY := Lib.hid hyy
              clear hca hcb hik hxx hyy hix hiy
              cases hr : searchP k p' q' with
              | none =>
                have HR := Lib.hid hr
                clear hr
                go_upto_region 10 with fail
                refine wp_region_held_drew (S := (fun W => W.cell? ⟨w.heap.size, 2, none⟩ = some (.slice (some ⟨g, off, none⟩) kn kc) ∧ W.cell? ⟨w.heap.size + 1, 2, none⟩ = some (.slice (some ⟨g2, off2, none⟩) kn2 kc2) ∧ (W.cell? ⟨g, off + i * 3, none⟩ = some (.slice (H i).sa (H i).sn (H i).sc) ∧ W.cell? ⟨g, off + i * 3 + 1, none⟩ = some (.slice (H i).pa (H i).pn (H i).pc) ∧ W.cell? ⟨g, off + i * 3 + 2, none⟩ = some (.slice (H i).ka (H i).kn (H i).kc)) ∧ (W.cell? ⟨g2, off2 + i * 3, none⟩ = some (.slice (H2 i).sa (H2 i).sn (H2 i).sc) ∧ W.cell? ⟨g2, off2 + i * 3 + 1, none⟩ = some (.slice (H2 i).pa (H2 i).pn (H2 i).pc) ∧ W.cell? ⟨g2, off2 + i * 3 + 2, none⟩ = some (.slice (H2 i).ka (H2 i).kn (H2 i).kc)))) (by kernel_rfl) HS4.out (fun hHeld => ?_)
                refine take_w (i := 0) (oi := ?oZ38) (v := ?vZ38) ?hiZ38 (by kernel_rfl) (by kernel_rfl) (by kernel_rfl) ?hQZ38 ?hwZ38 ?hyZ38 (by assumption) ?restZ38
                case hiZ38 => (simp only [List.getElem?_toArray, List.getElem?_cons_zero] <;> rfl)
                case hQZ38 => exact (fun _ _ _ h => h)
                case hwZ38 => rfl
                case hyZ38 => (intro w hSw; (try dsimp only at hSw); go_simp; try with_reducible rfl)
                (try simp only [Act.put, List.setIfInBounds_toArray, List.set_cons_zero, List.set_cons_succ])
                refine take_w (i := 1) (oi := ?oZ39) (v := ?vZ39) ?hiZ39 (by kernel_rfl) (by kernel_rfl) (by kernel_rfl) ?hQZ39 ?hwZ39 ?hyZ39 (by assumption) ?restZ39
                case hiZ39 => (simp only [List.getElem?_toArray, List.getElem?_cons_succ, List.getElem?_cons_zero] <;> rfl)
                case hQZ39 => exact (fun _ _ _ h => h)
                case hwZ39 => rfl
                case hyZ39 => (intro w hSw; (try dsimp only at hSw); go_simp; try with_reducible rfl)
                (try simp only [Act.put, List.setIfInBounds_toArray, List.set_cons_zero, List.set_cons_succ])
                refine take_w (i := 2) (oi := ?oZ40) (v := ?vZ40) ?hiZ40 (by kernel_rfl) (by kernel_rfl) (by kernel_rfl) ?hQZ40 ?hwZ40 ?hyZ40 (by assumption) ?restZ40
                case hiZ40 => (simp only [List.getElem?_toArray, List.getElem?_cons_succ, List.getElem?_cons_zero] <;> rfl)
                case hQZ40 => exact (fun _ _ _ h => h)
                case hwZ40 => rfl
                case hyZ40 => (intro w hSw; (try dsimp only at hSw); go_simp; try with_reducible rfl)
                (try simp only [Act.put, List.setIfInBounds_toArray, List.set_cons_zero, List.set_cons_succ])
                refine take_w (i := 3) (oi := ?oZ41) (v := ?vZ41) ?hiZ41 (by kernel_rfl) (by kernel_rfl) (by kernel_rfl) ?hQZ41 ?hwZ41 ?hyZ41 (by assumption) ?restZ41
                case hiZ41 => (simp only [List.getElem?_toArray, List.getElem?_cons_succ, List.getElem?_cons_zero] <;> rfl)
                case hQZ41 => exact (fun _ _ _ h => h)
                case hwZ41 => rfl
                case hyZ41 => (intro w hSw; (try dsimp only at hSw); go_simp; try with_reducible rfl)
                (try simp only [Act.put, List.setIfInBounds_toArray, List.set_cons_zero, List.set_cons_succ])
                refine take_w (i := 4) (oi := ?oZ42) (v := ?vZ42) ?hiZ42 (by kernel_rfl) (by kernel_rfl) (by kernel_rfl) ?hQZ42 ?hwZ42 ?hyZ42 (by assumption) ?restZ42
                case hiZ42 => (simp only [List.getElem?_toArray, List.getElem?_cons_succ, List.getElem?_cons_zero] <;> rfl)
                case hQZ42 => exact (fun _ _ _ h => h)
                case hwZ42 => rfl
                case hyZ42 => (intro w hSw; (try dsimp only at hSw); go_simp; try with_reducible rfl)
                (try simp only [Act.put, List.setIfInBounds_toArray, List.set_cons_zero, List.set_cons_succ])
                refine take_w (i := 5) (oi := ?oZ43) (v := ?vZ43) ?hiZ43 (by kernel_rfl) (by kernel_rfl) (by kernel_rfl) ?hQZ43 ?hwZ43 ?hyZ43 (by assumption) ?restZ43
                case hiZ43 => (simp only [List.getElem?_toArray, List.getElem?_cons_succ, List.getElem?_cons_zero] <;> rfl)
                case hQZ43 => exact (fun _ _ _ h => h)
                case hwZ43 => rfl
                case hyZ43 => (intro w hSw; (try dsimp only at hSw); go_simp; try with_reducible rfl)
                (try simp only [Act.put, List.setIfInBounds_toArray, List.set_cons_zero, List.set_cons_succ])
                refine take_w (i := 6) (oi := ?oZ44) (v := ?vZ44) ?hiZ44 (by kernel_rfl) (by kernel_rfl) (by kernel_rfl) ?hQZ44 ?hwZ44 ?hyZ44 (by assumption) ?restZ44
                case hiZ44 => (simp only [List.getElem?_toArray, List.getElem?_cons_succ, List.getElem?_cons_zero] <;> rfl)
                case hQZ44 => exact (fun _ _ _ h => h)
                case hwZ44 => rfl
                case hyZ44 => (intro w hSw; (try dsimp only at hSw); go_simp; try with_reducible rfl)
                (try simp only [Act.put, List.setIfInBounds_toArray, List.set_cons_zero, List.set_cons_succ])
                refine take_w (i := 7) (oi := ?oZ45) (v := ?vZ45) ?hiZ45 (by kernel_rfl) (by kernel_rfl) (by kernel_rfl) ?hQZ45 ?hwZ45 ?hyZ45 (by assumption) ?restZ45
                case hiZ45 => (simp only [List.getElem?_toArray, List.getElem?_cons_succ, List.getElem?_cons_zero] <;> rfl)
                case hQZ45 => exact (fun _ _ _ h => h)
                case hwZ45 => rfl
                case hyZ45 => (intro w hSw; (try dsimp only at hSw); go_simp; try with_reducible rfl)
                (try simp only [Act.put, List.setIfInBounds_toArray, List.set_cons_zero, List.set_cons_succ])
                refine take_w (i := 8) (oi := ?oZ46) (v := ?vZ46) ?hiZ46 (by kernel_rfl) (by kernel_rfl) (by kernel_rfl) ?hQZ46 ?hwZ46 ?hyZ46 (by assumption) ?restZ46
                case hiZ46 => (simp only [List.getElem?_toArray, List.getElem?_cons_succ, List.getElem?_cons_zero] <;> rfl)
                case hQZ46 => exact (fun _ _ _ h => h)
                case hwZ46 => rfl
                case hyZ46 => (intro w hSw; (try dsimp only at hSw); go_simp; try with_reducible rfl)
                (try simp only [Act.put, List.setIfInBounds_toArray, List.set_cons_zero, List.set_cons_succ])
                refine take_w (i := 9) (oi := ?oZ47) (v := ?vZ47) ?hiZ47 (by kernel_rfl) (by kernel_rfl) (by kernel_rfl) ?hQZ47 ?hwZ47 ?hyZ47 (by assumption) ?restZ47
                case hiZ47 => (simp only [List.getElem?_toArray, List.getElem?_cons_succ, List.getElem?_cons_zero] <;> rfl)
                case hQZ47 => exact (fun _ _ _ h => h)
                case hwZ47 => rfl
                case hyZ47 => (intro w hSw; (try dsimp only at hSw); go_simp; try with_reducible rfl)
                (try simp only [Act.put, List.setIfInBounds_toArray, List.set_cons_zero, List.set_cons_succ])
                refine wpAnyH_ready (rs := [10]) (by kernel_rfl) (by simp) ?_
                refine AllReadyH.cons (o := ?oZ48) ?hiZ48 (fun K hK => ?stZ48) AllReadyH.nil
                case hiZ48 => (simp only [List.getElem?_toArray, List.getElem?_cons_succ, List.getElem?_cons_zero] <;> rfl)
                go_simp
                go_at_call 27
                have hcall := HIX1.out q' (H i) (H2 i) wr.drew HIX.out HIY.out HHI.out
                rw [HR.out] at hcall
                refine hcall.mono ?_
                rintro _ w6 ⟨a6, n6, c6, b6, m6, d6, rfl, fx6, fy6, hb6⟩
                have HD6 := Lib.hid (HD4.out.below hb6)
                have HS6 : Hid ((fun W => W.cell? ⟨w.heap.size, 2, none⟩ = some (.slice (some ⟨g, off, none⟩) kn kc) ∧ W.cell? ⟨w.heap.size + 1, 2, none⟩ = some (.slice (some ⟨g2, off2, none⟩) kn2 kc2) ∧ (W.cell? ⟨g, off + i * 3, none⟩ = some (.slice (H i).sa (H i).sn (H i).sc) ∧ W.cell? ⟨g, off + i * 3 + 1, none⟩ = some (.slice (H i).pa (H i).pn (H i).pc) ∧ W.cell? ⟨g, off + i * 3 + 2, none⟩ = some (.slice (H i).ka (H i).kn (H i).kc)) ∧ (W.cell? ⟨g2, off2 + i * 3, none⟩ = some (.slice (H2 i).sa (H2 i).sn (H2 i).sc) ∧ W.cell? ⟨g2, off2 + i * 3 + 1, none⟩ = some (.slice (H2 i).pa (H2 i).pn (H2 i).pc) ∧ W.cell? ⟨g2, off2 + i * 3 + 2, none⟩ = some (.slice (H2 i).ka (H2 i).kn (H2 i).kc))) w6) := Lib.hid ⟨HD6.out.kids.1, HD6.out.kids.2, HCA.out _ HD6.out.b i (by omega), HCB.out _ HD6.out.b i (by omega)⟩
                have HFX6 := Lib.hid fx6
                have HFY6 := Lib.hid fy6
                clear hcall fx6 fy6 hb6
                go_simp
                refine hK.out _ _ ?_ (fun hHeld => ?_)
                · (first | exact HS6.out | exact HS4.out)
                clear hK K
                (try simp only [Act.put, List.setIfInBounds_toArray, List.set_cons_zero, List.set_cons_succ])
                refine take_w (i := 11) (oi := ?oZ49) (v := ?vZ49) ?hiZ49 (by kernel_rfl) (by kernel_rfl) (by kernel_rfl) ?hQZ49 ?hwZ49 ?hyZ49 (by assumption) ?restZ49
                case hiZ49 => (simp only [List.getElem?_toArray, List.getElem?_cons_succ, List.getElem?_cons_zero] <;> rfl)
                case hQZ49 => exact (fun _ _ _ h => h)
                case hwZ49 => rfl
                case hyZ49 => (intro w hSw; (try dsimp only at hSw); go_simp; try with_reducible rfl)
                (try simp only [Act.put, List.setIfInBounds_toArray, List.set_cons_zero, List.set_cons_succ])
                refine take_w (i := 12) (oi := ?oZ50) (v := ?vZ50) ?hiZ50 (by kernel_rfl) (by kernel_rfl) (by kernel_rfl) ?hQZ50 ?hwZ50 ?hyZ50 (by assumption) ?restZ50
                case hiZ50 => (simp only [List.getElem?_toArray, List.getElem?_cons_succ, List.getElem?_cons_zero] <;> rfl)
                case hQZ50 => exact (fun _ _ _ h => h)
                case hwZ50 => rfl
                case hyZ50 => (intro w hSw; (try dsimp only at hSw); go_simp; try with_reducible rfl)
                (try simp only [Act.put, List.setIfInBounds_toArray, List.set_cons_zero, List.set_cons_succ])
                refine take_w (i := 13) (oi := ?oZ51) (v := ?vZ51) ?hiZ51 (by kernel_rfl) (by kernel_rfl) (by kernel_rfl) ?hQZ51 ?hwZ51 ?hyZ51 (by assumption) ?restZ51
                case hiZ51 => (simp only [List.getElem?_toArray, List.getElem?_cons_succ, List.getElem?_cons_zero] <;> rfl)
                case hQZ51 => exact (fun _ _ _ h => h)
                case hwZ51 => rfl
                case hyZ51 => (intro w hSw; (try dsimp only at hSw); go_simp; try with_reducible rfl)
                (try simp only [Act.put, List.setIfInBounds_toArray, List.set_cons_zero, List.set_cons_succ])
                refine take_w (i := 14) (oi := ?oZ52) (v := ?vZ52) ?hiZ52 (by kernel_rfl) (by kernel_rfl) (by kernel_rfl) ?hQZ52 ?hwZ52 ?hyZ52 (by assumption) ?restZ52
                case hiZ52 => (simp only [List.getElem?_toArray, List.getElem?_cons_succ, List.getElem?_cons_zero] <;> rfl)
                case hQZ52 => exact (fun _ _ _ h => h)
                case hwZ52 => rfl
                case hyZ52 => (intro w hSw; (try dsimp only at hSw); go_simp; try with_reducible rfl)
                (try simp only [Act.put, List.setIfInBounds_toArray, List.set_cons_zero, List.set_cons_succ])
                refine take_w (i := 15) (oi := ?oZ53) (v := ?vZ53) ?hiZ53 (by kernel_rfl) (by kernel_rfl) (by kernel_rfl) ?hQZ53 ?hwZ53 ?hyZ53 (by assumption) ?restZ53
                case hiZ53 => (simp only [List.getElem?_toArray, List.getElem?_cons_succ, List.getElem?_cons_zero] <;> rfl)
                case hQZ53 => exact (fun _ _ _ h => h)
                case hwZ53 => rfl
                case hyZ53 => (intro w hSw; (try dsimp only at hSw); go_simp; try with_reducible rfl)
                (try simp only [Act.put, List.setIfInBounds_toArray, List.set_cons_zero, List.set_cons_succ])
                refine take_w (i := 16) (oi := ?oZ54) (v := ?vZ54) ?hiZ54 (by kernel_rfl) (by kernel_rfl) (by kernel_rfl) ?hQZ54 ?hwZ54 ?hyZ54 (by assumption) ?restZ54
                case hiZ54 => (simp only [List.getElem?_toArray, List.getElem?_cons_succ, List.getElem?_cons_zero] <;> rfl)
                case hQZ54 => exact (fun _ _ _ h => h)
                case hwZ54 => rfl
                case hyZ54 => (intro w hSw; (try dsimp only at hSw); go_simp; try with_reducible rfl)
                (try simp only [Act.put, List.setIfInBounds_toArray, List.set_cons_zero, List.set_cons_succ])
                refine take_w (i := 17) (oi := ?oZ55) (v := ?vZ55) ?hiZ55 (by kernel_rfl) (by kernel_rfl) (by kernel_rfl) ?hQZ55 ?hwZ55 ?hyZ55 (by assumption) ?restZ55
                case hiZ55 => (simp only [List.getElem?_toArray, List.getElem?_cons_succ, List.getElem?_cons_zero] <;> rfl)
                case hQZ55 => exact (fun _ _ _ h => h)
                case hwZ55 => rfl
                case hyZ55 => (intro w hSw; (try dsimp only at hSw); go_simp; try with_reducible rfl)
                (try simp only [Act.put, List.setIfInBounds_toArray, List.set_cons_zero, List.set_cons_succ])
                refine wpAnyH_done (by kernel_rfl) ?_ _
                clear hHeld
                go_wp2_with fail
                exact ⟨⟨i + 1, by omega, by go_num, HD6.out, some_more _ _ i (by have := HZL.out.2; omega) HFN.out (by
                  rw [HEL.out]
                  exact HR.out)⟩, by simp [intOf]; omega⟩
              | some s =>
                have HR := Lib.hid hr
                clear hr
                have HSF : Hid (searchP k P Q = some s) := Lib.hid (by
                  rw [HSB.out]
                  exact some_here _ _ i (by have := HZL.out.2; omega) HFN.out (by rw [HEL.out]; exact HR.out))
                rw [HSF.out]
                go_upto_region 10 with fail
                refine wp_region_held_drew (S := (fun W => W.cell? ⟨w.heap.size, 2, none⟩ = some (.slice (some ⟨g, off, none⟩) kn kc) ∧ W.cell? ⟨w.heap.size + 1, 2, none⟩ = some (.slice (some ⟨g2, off2, none⟩) kn2 kc2) ∧ (W.cell? ⟨g, off + i * 3, none⟩ = some (.slice (H i).sa (H i).sn (H i).sc) ∧ W.cell? ⟨g, off + i * 3 + 1, none⟩ = some (.slice (H i).pa (H i).pn (H i).pc) ∧ W.cell? ⟨g, off + i * 3 + 2, none⟩ = some (.slice (H i).ka (H i).kn (H i).kc)) ∧ (W.cell? ⟨g2, off2 + i * 3, none⟩ = some (.slice (H2 i).sa (H2 i).sn (H2 i).sc) ∧ W.cell? ⟨g2, off2 + i * 3 + 1, none⟩ = some (.slice (H2 i).pa (H2 i).pn (H2 i).pc) ∧ W.cell? ⟨g2, off2 + i * 3 + 2, none⟩ = some (.slice (H2 i).ka (H2 i).kn (H2 i).kc)))) (by kernel_rfl) HS4.out (fun hHeld => ?_)
                refine take_w (i := 0) (oi := ?oZ56) (v := ?vZ56) ?hiZ56 (by kernel_rfl) (by kernel_rfl) (by kernel_rfl) ?hQZ56 ?hwZ56 ?hyZ56 (by assumption) ?restZ56
                case hiZ56 => (simp only [List.getElem?_toArray, List.getElem?_cons_zero] <;> rfl)
                case hQZ56 => exact (fun _ _ _ h => h)
                case hwZ56 => rfl
                case hyZ56 => (intro w hSw; (try dsimp only at hSw); go_simp; try with_reducible rfl)
                (try simp only [Act.put, List.setIfInBounds_toArray, List.set_cons_zero, List.set_cons_succ])
                refine take_w (i := 1) (oi := ?oZ57) (v := ?vZ57) ?hiZ57 (by kernel_rfl) (by kernel_rfl) (by kernel_rfl) ?hQZ57 ?hwZ57 ?hyZ57 (by assumption) ?restZ57
                case hiZ57 => (simp only [List.getElem?_toArray, List.getElem?_cons_succ, List.getElem?_cons_zero] <;> rfl)
                case hQZ57 => exact (fun _ _ _ h => h)
                case hwZ57 => rfl
                case hyZ57 => (intro w hSw; (try dsimp only at hSw); go_simp; try with_reducible rfl)
                (try simp only [Act.put, List.setIfInBounds_toArray, List.set_cons_zero, List.set_cons_succ])
                refine take_w (i := 2) (oi := ?oZ58) (v := ?vZ58) ?hiZ58 (by kernel_rfl) (by kernel_rfl) (by kernel_rfl) ?hQZ58 ?hwZ58 ?hyZ58 (by assumption) ?restZ58
                case hiZ58 => (simp only [List.getElem?_toArray, List.getElem?_cons_succ, List.getElem?_cons_zero] <;> rfl)
                case hQZ58 => exact (fun _ _ _ h => h)
                case hwZ58 => rfl
                case hyZ58 => (intro w hSw; (try dsimp only at hSw); go_simp; try with_reducible rfl)
                (try simp only [Act.put, List.setIfInBounds_toArray, List.set_cons_zero, List.set_cons_succ])
                refine take_w (i := 3) (oi := ?oZ59) (v := ?vZ59) ?hiZ59 (by kernel_rfl) (by kernel_rfl) (by kernel_rfl) ?hQZ59 ?hwZ59 ?hyZ59 (by assumption) ?restZ59
                case hiZ59 => (simp only [List.getElem?_toArray, List.getElem?_cons_succ, List.getElem?_cons_zero] <;> rfl)
                case hQZ59 => exact (fun _ _ _ h => h)
                case hwZ59 => rfl
                case hyZ59 => (intro w hSw; (try dsimp only at hSw); go_simp; try with_reducible rfl)
                (try simp only [Act.put, List.setIfInBounds_toArray, List.set_cons_zero, List.set_cons_succ])
                refine take_w (i := 4) (oi := ?oZ60) (v := ?vZ60) ?hiZ60 (by kernel_rfl) (by kernel_rfl) (by kernel_rfl) ?hQZ60 ?hwZ60 ?hyZ60 (by assumption) ?restZ60
                case hiZ60 => (simp only [List.getElem?_toArray, List.getElem?_cons_succ, List.getElem?_cons_zero] <;> rfl)
                case hQZ60 => exact (fun _ _ _ h => h)
                case hwZ60 => rfl
                case hyZ60 => (intro w hSw; (try dsimp only at hSw); go_simp; try with_reducible rfl)
                (try simp only [Act.put, List.setIfInBounds_toArray, List.set_cons_zero, List.set_cons_succ])
                refine take_w (i := 5) (oi := ?oZ61) (v := ?vZ61) ?hiZ61 (by kernel_rfl) (by kernel_rfl) (by kernel_rfl) ?hQZ61 ?hwZ61 ?hyZ61 (by assumption) ?restZ61
                case hiZ61 => (simp only [List.getElem?_toArray, List.getElem?_cons_succ, List.getElem?_cons_zero] <;> rfl)
                case hQZ61 => exact (fun _ _ _ h => h)
                case hwZ61 => rfl
                case hyZ61 => (intro w hSw; (try dsimp only at hSw); go_simp; try with_reducible rfl)
                (try simp only [Act.put, List.setIfInBounds_toArray, List.set_cons_zero, List.set_cons_succ])
                refine take_w (i := 6) (oi := ?oZ62) (v := ?vZ62) ?hiZ62 (by kernel_rfl) (by kernel_rfl) (by kernel_rfl) ?hQZ62 ?hwZ62 ?hyZ62 (by assumption) ?restZ62
                case hiZ62 => (simp only [List.getElem?_toArray, List.getElem?_cons_succ, List.getElem?_cons_zero] <;> rfl)
                case hQZ62 => exact (fun _ _ _ h => h)
                case hwZ62 => rfl
                case hyZ62 => (intro w hSw; (try dsimp only at hSw); go_simp; try with_reducible rfl)
                (try simp only [Act.put, List.setIfInBounds_toArray, List.set_cons_zero, List.set_cons_succ])
                refine take_w (i := 7) (oi := ?oZ63) (v := ?vZ63) ?hiZ63 (by kernel_rfl) (by kernel_rfl) (by kernel_rfl) ?hQZ63 ?hwZ63 ?hyZ63 (by assumption) ?restZ63
                case hiZ63 => (simp only [List.getElem?_toArray, List.getElem?_cons_succ, List.getElem?_cons_zero] <;> rfl)
                case hQZ63 => exact (fun _ _ _ h => h)
                case hwZ63 => rfl
                case hyZ63 => (intro w hSw; (try dsimp only at hSw); go_simp; try with_reducible rfl)
                (try simp only [Act.put, List.setIfInBounds_toArray, List.set_cons_zero, List.set_cons_succ])
                refine take_w (i := 8) (oi := ?oZ64) (v := ?vZ64) ?hiZ64 (by kernel_rfl) (by kernel_rfl) (by kernel_rfl) ?hQZ64 ?hwZ64 ?hyZ64 (by assumption) ?restZ64
                case hiZ64 => (simp only [List.getElem?_toArray, List.getElem?_cons_succ, List.getElem?_cons_zero] <;> rfl)
                case hQZ64 => exact (fun _ _ _ h => h)
                case hwZ64 => rfl
                case hyZ64 => (intro w hSw; (try dsimp only at hSw); go_simp; try with_reducible rfl)
                (try simp only [Act.put, List.setIfInBounds_toArray, List.set_cons_zero, List.set_cons_succ])
                refine take_w (i := 9) (oi := ?oZ65) (v := ?vZ65) ?hiZ65 (by kernel_rfl) (by kernel_rfl) (by kernel_rfl) ?hQZ65 ?hwZ65 ?hyZ65 (by assumption) ?restZ65
                case hiZ65 => (simp only [List.getElem?_toArray, List.getElem?_cons_succ, List.getElem?_cons_zero] <;> rfl)
                case hQZ65 => exact (fun _ _ _ h => h)
                case hwZ65 => rfl
                case hyZ65 => (intro w hSw; (try dsimp only at hSw); go_simp; try with_reducible rfl)
                (try simp only [Act.put, List.setIfInBounds_toArray, List.set_cons_zero, List.set_cons_succ])
                refine wpAnyH_ready (rs := [10]) (by kernel_rfl) (by simp) ?_
                refine AllReadyH.cons (o := ?oZ66) ?hiZ66 (fun K hK => ?stZ66) AllReadyH.nil
                case hiZ66 => (simp only [List.getElem?_toArray, List.getElem?_cons_succ, List.getElem?_cons_zero] <;> rfl)
                go_simp
                go_at_call 27
                have hcall := HIX1.out q' (H i) (H2 i) wr.drew HIX.out HIY.out HHI.out
                rw [HR.out] at hcall
                refine hcall.mono ?_
                rintro _ w6 ⟨a6, n6, c6, b6, m6, d6, rfl, fx6, fy6, hb6⟩
                have HD6 := Lib.hid (HD4.out.below hb6)
                have HS6 : Hid ((fun W => W.cell? ⟨w.heap.size, 2, none⟩ = some (.slice (some ⟨g, off, none⟩) kn kc) ∧ W.cell? ⟨w.heap.size + 1, 2, none⟩ = some (.slice (some ⟨g2, off2, none⟩) kn2 kc2) ∧ (W.cell? ⟨g, off + i * 3, none⟩ = some (.slice (H i).sa (H i).sn (H i).sc) ∧ W.cell? ⟨g, off + i * 3 + 1, none⟩ = some (.slice (H i).pa (H i).pn (H i).pc) ∧ W.cell? ⟨g, off + i * 3 + 2, none⟩ = some (.slice (H i).ka (H i).kn (H i).kc)) ∧ (W.cell? ⟨g2, off2 + i * 3, none⟩ = some (.slice (H2 i).sa (H2 i).sn (H2 i).sc) ∧ W.cell? ⟨g2, off2 + i * 3 + 1, none⟩ = some (.slice (H2 i).pa (H2 i).pn (H2 i).pc) ∧ W.cell? ⟨g2, off2 + i * 3 + 2, none⟩ = some (.slice (H2 i).ka (H2 i).kn (H2 i).kc))) w6) := Lib.hid ⟨HD6.out.kids.1, HD6.out.kids.2, HCA.out _ HD6.out.b i (by omega), HCB.out _ HD6.out.b i (by omega)⟩
                have HFX6 := Lib.hid fx6
                have HFY6 := Lib.hid fy6
                clear hcall fx6 fy6 hb6
                go_simp
                refine hK.out _ _ ?_ (fun hHeld => ?_)
                · (first | exact HS6.out | exact HS4.out)
                clear hK K
                (try simp only [Act.put, List.setIfInBounds_toArray, List.set_cons_zero, List.set_cons_succ])
                refine take_w (i := 11) (oi := ?oZ67) (v := ?vZ67) ?hiZ67 (by kernel_rfl) (by kernel_rfl) (by kernel_rfl) ?hQZ67 ?hwZ67 ?hyZ67 (by assumption) ?restZ67
                case hiZ67 => (simp only [List.getElem?_toArray, List.getElem?_cons_succ, List.getElem?_cons_zero] <;> rfl)
                case hQZ67 => exact (fun _ _ _ h => h)
                case hwZ67 => rfl
                case hyZ67 => (intro w hSw; (try dsimp only at hSw); go_simp; try with_reducible rfl)
                (try simp only [Act.put, List.setIfInBounds_toArray, List.set_cons_zero, List.set_cons_succ])
                refine take_w (i := 12) (oi := ?oZ68) (v := ?vZ68) ?hiZ68 (by kernel_rfl) (by kernel_rfl) (by kernel_rfl) ?hQZ68 ?hwZ68 ?hyZ68 (by assumption) ?restZ68
                case hiZ68 => (simp only [List.getElem?_toArray, List.getElem?_cons_succ, List.getElem?_cons_zero] <;> rfl)
                case hQZ68 => exact (fun _ _ _ h => h)
                case hwZ68 => rfl
                case hyZ68 => (intro w hSw; (try dsimp only at hSw); go_simp; try with_reducible rfl)
                (try simp only [Act.put, List.setIfInBounds_toArray, List.set_cons_zero, List.set_cons_succ])
                refine take_w (i := 13) (oi := ?oZ69) (v := ?vZ69) ?hiZ69 (by kernel_rfl) (by kernel_rfl) (by kernel_rfl) ?hQZ69 ?hwZ69 ?hyZ69 (by assumption) ?restZ69
                case hiZ69 => (simp only [List.getElem?_toArray, List.getElem?_cons_succ, List.getElem?_cons_zero] <;> rfl)
                case hQZ69 => exact (fun _ _ _ h => h)
                case hwZ69 => rfl
                case hyZ69 => (intro w hSw; (try dsimp only at hSw); go_simp; try with_reducible rfl)
                (try simp only [Act.put, List.setIfInBounds_toArray, List.set_cons_zero, List.set_cons_succ])
                refine take_w (i := 14) (oi := ?oZ70) (v := ?vZ70) ?hiZ70 (by kernel_rfl) (by kernel_rfl) (by kernel_rfl) ?hQZ70 ?hwZ70 ?hyZ70 (by assumption) ?restZ70
                case hiZ70 => (simp only [List.getElem?_toArray, List.getElem?_cons_succ, List.getElem?_cons_zero] <;> rfl)
                case hQZ70 => exact (fun _ _ _ h => h)
                case hwZ70 => rfl
                case hyZ70 => (intro w hSw; (try dsimp only at hSw); go_simp; try with_reducible rfl)
                (try simp only [Act.put, List.setIfInBounds_toArray, List.set_cons_zero, List.set_cons_succ])
                refine take_w (i := 15) (oi := ?oZ71) (v := ?vZ71) ?hiZ71 (by kernel_rfl) (by kernel_rfl) (by kernel_rfl) ?hQZ71 ?hwZ71 ?hyZ71 (by assumption) ?restZ71
                case hiZ71 => (simp only [List.getElem?_toArray, List.getElem?_cons_succ, List.getElem?_cons_zero] <;> rfl)
                case hQZ71 => exact (fun _ _ _ h => h)
                case hwZ71 => rfl
                case hyZ71 => (intro w hSw; (try dsimp only at hSw); go_simp; try with_reducible rfl)
                (try simp only [Act.put, List.setIfInBounds_toArray, List.set_cons_zero, List.set_cons_succ])
                refine take_w (i := 16) (oi := ?oZ72) (v := ?vZ72) ?hiZ72 (by kernel_rfl) (by kernel_rfl) (by kernel_rfl) ?hQZ72 ?hwZ72 ?hyZ72 (by assumption) ?restZ72
                case hiZ72 => (simp only [List.getElem?_toArray, List.getElem?_cons_succ, List.getElem?_cons_zero] <;> rfl)
                case hQZ72 => exact (fun _ _ _ h => h)
                case hwZ72 => rfl
                case hyZ72 => (intro w hSw; (try dsimp only at hSw); go_simp; try with_reducible rfl)
                (try simp only [Act.put, List.setIfInBounds_toArray, List.set_cons_zero, List.set_cons_succ])
                refine take_w (i := 17) (oi := ?oZ73) (v := ?vZ73) ?hiZ73 (by kernel_rfl) (by kernel_rfl) (by kernel_rfl) ?hQZ73 ?hwZ73 ?hyZ73 (by assumption) ?restZ73
                case hiZ73 => (simp only [List.getElem?_toArray, List.getElem?_cons_succ, List.getElem?_cons_zero] <;> rfl)
                case hQZ73 => exact (fun _ _ _ h => h)
                case hwZ73 => rfl
                case hyZ73 => (intro w hSw; (try dsimp only at hSw); go_simp; try with_reducible rfl)
                (try simp only [Act.put, List.setIfInBounds_toArray, List.set_cons_zero, List.set_cons_succ])
                refine wpAnyH_done (by kernel_rfl) ?_ _
                clear hHeld
                go_wp2_with fail
                go_ret3
                exact Search.found (s := s) HFX6.out HFY6.out HD6.out.b
            · have q1 : ¬ (i : Int) < (M2 : Int) := by omega
              have HSF : Hid (searchP k P Q = none) := Lib.hid (HSB.out.trans (HFN.out.all (by have := HZL.out.2; omega)))
              go_wp2_with fail
              go_ret3
              rw [HSF.out]
              exact Search.none_ HD.out.b
end Go.Proofs.YtioifkbkllnkgaaDoor

/- The contracts of the program's checks of trees. -/
namespace Go.Proofs.YtioifkbkllnkgaaDoor
open Go.RowKit
set_option linter.unusedVariables false

/-- A pointer to a variable. -/
def ptrV (g : Nat) : Value := .pointer (some ⟨g, 0, none⟩)
/-- Counts a part as a node by its kind? -/
def nodeK (t : Tr) : Bool := t.k == 1 || t.k == 2
/-- Is a part told itself? -/
def toldK (t : Tr) : Bool := t.k != 2 && t.k != 3
/-- Is a part told itself, or has its digest the width? -/
def fitsK (k : Nat) (t : Tr) : Bool := toldK t || decide (t.dig.length = k)
/-- All parts of a tree. -/
def allT (p : Tr → Bool) (t : Tr) : Bool := t.fold fun t rs => p t && rs.all id
theorem allT_eq (p : Tr → Bool) (t : Tr) : allT p t = (p t && t.kids.all (allT p)) := by
  unfold allT
  rw [Tr.fold_eq]
  simp [List.all_map, Function.comp_def]
theorem allT_part (t : Tr) : allT partB t = formedT t := rfl
set_option maxRecDepth 100000 in
set_option maxHeartbeats 4000000 in
theorem isNode_any (t : Tr) (h : TH) (w : World) (ht : InTree w h t) : Calls Tryd.prog 67 #[h.v] w (Says w (.bool (nodeK t))) := by
  unfold TH.v
  obtain ⟨H, hp⟩ := ht.parts
  have HK := Lib.hid hp.hk
  have hk1 := hp.hk1
  have hk2 := hp.hk2
  clear hp ht
  have hbox := Box.new w 25 h
  obtain ⟨x0, x1, x2, x3, x4⟩ := hbox.cells
  clear hbox
  have hw1 : Below w.heap.size w (w.alloc (.cells #[.int .i64 h.k, .slice h.ka h.kn h.kc, .slice h.va h.vn h.vc, .slice h.da h.dn h.dc, .slice h.ta h.tn h.tc] 25)) := (Below.refl _ _).alloc (Nat.le_refl _) _
  have HB := Lib.hid hw1
  clear hw1
  go_enter Tryd.func67, Tryd.ntmps67
  cases f1 : (h.k == 1)
  · go_wp2_with fail
    go_ret
    refine ⟨?_, HB.out⟩
    unfold nodeK
    rw [← HK.out, f1]
    rfl
  · go_wp2_with fail
    go_ret
    refine ⟨?_, HB.out⟩
    unfold nodeK
    rw [← HK.out, f1]
    rfl

set_option maxRecDepth 100000 in
set_option maxHeartbeats 4000000 in
theorem isTold_any (t : Tr) (h : TH) (w : World) (ht : InTree w h t) : Calls Tryd.prog 39 #[h.v] w (Says w (.bool (toldK t))) := by
  unfold TH.v
  obtain ⟨H, hp⟩ := ht.parts
  have HK := Lib.hid hp.hk
  have hk1 := hp.hk1
  have hk2 := hp.hk2
  clear hp ht
  have hbox := Box.new w 25 h
  obtain ⟨x0, x1, x2, x3, x4⟩ := hbox.cells
  clear hbox
  have hw1 : Below w.heap.size w (w.alloc (.cells #[.int .i64 h.k, .slice h.ka h.kn h.kc, .slice h.va h.vn h.vc, .slice h.da h.dn h.dc, .slice h.ta h.tn h.tc] 25)) := (Below.refl _ _).alloc (Nat.le_refl _) _
  have HB := Lib.hid hw1
  clear hw1
  go_enter Tryd.func39, Tryd.ntmps39
  cases f1 : (h.k == 2)
  · have f2 : (h.k != 2) = true := by rw [bne, f1]; rfl
    go_wp2_with fail
    go_ret
    refine ⟨?_, HB.out⟩
    unfold toldK
    rw [← HK.out, f2]
    rfl
  · have f2 : (h.k != 2) = false := by rw [bne, f1]; rfl
    go_wp2_with fail
    go_ret
    refine ⟨?_, HB.out⟩
    unfold toldK
    rw [← HK.out, f2]
    rfl

set_option maxRecDepth 100000 in
set_option maxHeartbeats 4000000 in
theorem wellFormed_any (t : Tr) (h : TH) (w : World) (ht : InTree w h t) : Calls Tryd.prog 62 #[h.v] w (Says w (.bool (partB t))) := by
  unfold TH.v
  obtain ⟨H, hp⟩ := ht.parts
  have hk1 := hp.hk1
  have hk2 := hp.hk2
  have HI := Lib.hid (partB_head hp)
  clear hp ht
  have hbox := Box.new w 25 h
  obtain ⟨x0, x1, x2, x3, x4⟩ := hbox.cells
  clear hbox
  have hw1 : Below w.heap.size w (w.alloc (.cells #[.int .i64 h.k, .slice h.ka h.kn h.kc, .slice h.va h.vn h.vc, .slice h.da h.dn h.dc, .slice h.ta h.tn h.tc] 25)) := (Below.refl _ _).alloc (Nat.le_refl _) _
  have HB := Lib.hid (fun m => below_drewN hw1 m)
  clear hw1
  go_enter Tryd.func62, Tryd.ntmps62
  go_upto_region 1 with fail
  go_quiet (fail)
  cases k0 : (h.k == 0)
  · cases k1 : (h.k == 1)
    · cases k2 : (h.k == 2)
      · cases k3 : (h.k == 3)
        · go_wp2_with fail
          go_ret
          refine ⟨?_, HB.out _⟩
          rw [HI.out]
          simp [k0, k1, k2, k3]
        · cases f5 : ((h.kn : Int) == 0)
          · go_wp2_with fail
            go_ret
            refine ⟨?_, HB.out _⟩
            rw [HI.out]
            simp [k0, k1, k2, k3, f5]
          · cases f6 : ((h.vn : Int) == 0)
            · go_wp2_with fail
              go_ret
              refine ⟨?_, HB.out _⟩
              rw [HI.out]
              simp [k0, k1, k2, k3, f6]
            · cases f7 : ((h.tn : Int) == 0)
              · go_wp2_with fail
                go_ret
                refine ⟨?_, HB.out _⟩
                rw [HI.out]
                simp [k0, k1, k2, k3, f7]
              · go_wp2_with fail
                go_ret
                refine ⟨?_, HB.out _⟩
                rw [HI.out]
                simp [k0, k1, k2, k3, f5, f6, f7]
      · by_cases f5 : (h.kn : Int) ≤ 80
        · cases f6 : ((h.vn : Int) == 0)
          · go_wp2_with fail
            go_ret
            refine ⟨?_, HB.out _⟩
            rw [HI.out]
            simp [k0, k1, k2, f6]
          · cases f7 : ((h.tn : Int) == 2)
            · go_wp2_with fail
              go_ret
              refine ⟨?_, HB.out _⟩
              rw [HI.out]
              simp [k0, k1, k2, f7]
            · go_wp2_with fail
              go_ret
              refine ⟨?_, HB.out _⟩
              rw [HI.out]
              simp [k0, k1, k2, f5, f6, f7]
        · go_wp2_with fail
          go_ret
          refine ⟨?_, HB.out _⟩
          rw [HI.out]
          simp [k0, k1, k2, show ¬ (h.kn : Int) ≤ 80 by omega]
    · by_cases f5 : (h.kn : Int) ≤ 80
      · by_cases f6 : (h.vn : Int) ≤ 1024
        · cases f7 : ((h.dn : Int) == 0)
          · go_wp2_with fail
            go_ret
            refine ⟨?_, HB.out _⟩
            rw [HI.out]
            simp [k0, k1, f7]
          · cases f8 : ((h.tn : Int) == 2)
            · go_wp2_with fail
              go_ret
              refine ⟨?_, HB.out _⟩
              rw [HI.out]
              simp [k0, k1, f8]
            · go_wp2_with fail
              go_ret
              refine ⟨?_, HB.out _⟩
              rw [HI.out]
              simp [k0, k1, f5, f6, f7, f8]
        · go_wp2_with fail
          go_ret
          refine ⟨?_, HB.out _⟩
          rw [HI.out]
          simp [k0, k1, show ¬ (h.vn : Int) ≤ 1024 by omega]
      · go_wp2_with fail
        go_ret
        refine ⟨?_, HB.out _⟩
        rw [HI.out]
        simp [k0, k1, show ¬ (h.kn : Int) ≤ 80 by omega]
  · cases f5 : ((h.kn : Int) == 0)
    · go_wp2_with fail
      go_ret
      refine ⟨?_, HB.out _⟩
      rw [HI.out]
      simp [k0, f5]
    · cases f6 : ((h.vn : Int) == 0)
      · go_wp2_with fail
        go_ret
        refine ⟨?_, HB.out _⟩
        rw [HI.out]
        simp [k0, f6]
      · cases f7 : ((h.dn : Int) == 0)
        · go_wp2_with fail
          go_ret
          refine ⟨?_, HB.out _⟩
          rw [HI.out]
          simp [k0, f7]
        · cases f8 : ((h.tn : Int) == 0)
          · go_wp2_with fail
            go_ret
            refine ⟨?_, HB.out _⟩
            rw [HI.out]
            simp [k0, f8]
          · go_wp2_with fail
            go_ret
            refine ⟨?_, HB.out _⟩
            rw [HI.out]
            simp [k0, f5, f6, f7, f8]

/-- A variable that holds the closure of a function which calls itself, and has pointers to variables. -/
def CloV (fn : Nat) (caps : Array Value) : Value := .func (.func fn) #[] caps
theorem deep_node {t : Tr} (hn : nodeK t = false) (h0 : t.kids.length = 0) (b : Int) : deepT t b = false := by
  have hk : t.kids = [] := List.length_eq_zero_iff.1 h0
  have e : isNode t = false := by
    unfold nodeK at hn
    unfold isNode
    rw [Bool.or_eq_false_iff] at hn
    rw [hn.1, hn.2, hk]
    rfl
  rw [deepT_eq, e, hk]
  rfl
theorem node_is {t : Tr} (h : nodeK t = true ∨ t.kids.length ≠ 0) : isNode t = true := by
  unfold isNode
  rcases h with h | h
  · unfold nodeK at h
    rw [← Bool.or_assoc, h]
    rfl
  · have : decide (0 < t.kids.length) = true := by simp; omega
    rw [this]
    simp

set_option maxRecDepth 100000 in
set_option maxHeartbeats 4000000 in
theorem deepC_any : ∀ (t : Tr) (h : TH) (a : Int) (w : World) (gc : Nat), InTree w h t → 0 ≤ a → a ≤ 64 → Var1 w 89 gc (.func (.func 80) #[] #[.pointer (some ⟨gc, 0, none⟩)]) →
    Calls Tryd.prog 80 #[h.v, .int .i64 a, .pointer (some ⟨gc, 0, none⟩)] w (Says w (.bool (deepT t (64 - a)))) := by
  intro t
  induction t using Tr.ind with
  | h t ih =>
  intro h a w gc ht ha0 ha1 hcl
  unfold TH.v
  obtain ⟨H, hp⟩ := ht.parts
  have htl := hp.len
  have htc := hp.sl.le
  have htm := Nat.le_trans hp.sl.le hp.sl.max
  simp only [maxLen] at htm
  have HP := Lib.hid hp
  have HTT := Lib.hid ht
  have IH := Lib.hid ih
  have HCL := Lib.hid hcl
  clear hp ht ih hcl
  have hbox := Box.new w 25 h
  have HX := Lib.hid hbox
  obtain ⟨x0, x1, x2, x3, x4⟩ := hbox.cells
  clear hbox
  have hw1 : Below w.heap.size w (w.alloc (.cells #[.int .i64 h.k, .slice h.ka h.kn h.kc, .slice h.va h.vn h.vc, .slice h.da h.dn h.dc, .slice h.ta h.tn h.tc] 25)) := (Below.refl _ _).alloc (Nat.le_refl _) _
  have HB := Lib.hid hw1
  clear hw1
  go_enter Tryd.func80, Tryd.ntmps80
  cases hr : nodeK t
  · have HR := Lib.hid hr
    clear hr
    cases ftn : ((h.tn : Int) == 0)
    · have HNI : Hid (nodeK t = true ∨ t.kids.length ≠ 0) := Lib.hid (Or.inr (by rw [beq_eq_false_iff_ne] at ftn; omega))
      go_upto_if 18 with (first
        | (go_at_call 67
           refine (isNode_any t h _ (HTT.out.lower HB.out)).mono ?_
           rintro _ w1 ⟨rfl, hb1⟩
           rw [HR.out]
           have HB1 : Hid (Below w.heap.size w w1) := Lib.hid (HB.out.trans (hb1.mono HB.out.size))
           have hx1 := HX.out.below hb1 HX.out.lt
           obtain ⟨y0, y1, y2, y3, y4⟩ := hx1.cells
           have HX1 := Lib.hid hx1
           clear hb1 hx1 x0 x1 x2 x3 x4))
      have HN : Hid (isNode t = true) := Lib.hid (node_is HNI.out)
      by_cases fa : ¬ a = 64
      · have HNB : Hid ((isNode t && (64 - a == 0)) = false) := Lib.hid (by rw [Bool.and_eq_false_iff]; right; rw [beq_eq_false_iff_ne]; omega)
        have ha2 : a ≤ 63 := by omega
        have fb : (a == 64) = false := by simp [fa]
        rw [fb]
        have HCL1 := Lib.hid (HCL.out.below HB1.out HCL.out.lt)
        go_wp2_with fail
        clear y0 y1 y2 y3 y4 fa fb
        go_loopw [22] (fun s22 wx => ∃ i : Nat, i ≤ h.tn ∧ s22 = .int .i64 i ∧ Var1 wx 89 gc (.func (.func 80) #[] #[.pointer (some ⟨gc, 0, none⟩)]) ∧ Below w.heap.size w wx ∧ (t.kids.take i).any (fun x => deepT x (64 - (a + 1))) = false) (fun s22 _ => h.tn - (intOf s22).toNat)
        case atStart => exact ⟨0, by omega, rfl, HCL1.out, HB1.out, by simp⟩
        case round =>
          clear HCL1 HB1 HX1
          obtain ⟨i, hi, rfl, hcl, hbw, hall⟩ := hrel
          have hcc := hcl.cell
          have HC := Lib.hid hcl
          have HBW := Lib.hid hbw
          have HA := Lib.hid hall
          clear hcl hbw hall
          by_cases hlt : i < h.tn
          · have q1 : (i : Int) < (h.tn : Int) := by omega
            obtain ⟨g, off, hta, hg, hcs⟩ := (HP.out.below HBW.out).place (by omega)
            obtain ⟨k0, k1, k2, k3, k4⟩ := hcs i hlt
            have him : i < t.kids.length := by omega
            clear hcs
            rw [hta]
            go_upto_region 8 with fail
            have b2 : Below wr.heap.size wr (wr.alloc (.cells #[.int .i64 (H i).k, .slice (H i).ka (H i).kn (H i).kc, .slice (H i).va (H i).vn (H i).vc, .slice (H i).da (H i).dn (H i).dc, .slice (H i).ta (H i).tn (H i).tc] 25)) := (Below.refl _ _).alloc (Nat.le_refl _) _
            have bx := Box.new wr 25 (H i)
            generalize (wr.alloc (.cells #[.int .i64 (H i).k, .slice (H i).ka (H i).kn (H i).kc, .slice (H i).va (H i).vn (H i).vc, .slice (H i).da (H i).dn (H i).dc, .slice (H i).ta (H i).tn (H i).tc] 25)) = w2 at *
            have HB2 : Hid (Below w.heap.size w w2) := Lib.hid (HBW.out.trans (b2.mono HBW.out.size))
            have HC2 := Lib.hid (HC.out.below b2 HC.out.lt)
            have hc2 := HC2.out.cell
            obtain ⟨y0, y1, y2, y3, y4⟩ := bx.cells
            clear b2 bx k0 k1 k2 k3 k4 hcc
            go_upto_if 30 with (first
              | (go_at_call 80
                 refine (IH.out _ (List.getElem_mem him) (H i) (a + 1) _ gc ((HP.out.below HB2.out).kids i him) (by omega) (by omega) HC2.out).mono ?_
                 rintro _ w3 ⟨rfl, hb3⟩
                 have HB3 : Hid (Below w.heap.size w w3) := Lib.hid (HB2.out.trans (hb3.mono HB2.out.size))
                 have HC3 := Lib.hid (HC2.out.below hb3 HC2.out.lt)
                 generalize hr : deepT t.kids[i] (64 - (a + 1)) = q
                 have HQ := Lib.hid hr
                 clear hb3 hr))
            clear y0 y1 y2 y3 y4 hc2
            cases q
            · clear hta
              go_wp2_with fail
              exact ⟨⟨i + 1, by omega, by go_num, HC3.out, HB3.out, by rw [any_take _ _ i him, HA.out, HQ.out]; rfl⟩, by simp [intOf]; omega⟩
            · go_wp2_with fail
              go_ret
              have e : deepT t (64 - a) = true := by
                rw [deepT_eq, show (64 : Int) - a - 1 = 64 - (a + 1) by omega, any_at (p := fun x => deepT x (64 - (a + 1))) i him HQ.out, Bool.or_true]
              exact ⟨by rw [e]; rfl, HB3.out⟩
          · obtain rfl : i = h.tn := by omega
            have q1 : ¬ (h.tn : Int) < (h.tn : Int) := by omega
            go_wp2_with fail
            go_ret
            have hA := HA.out
            rw [List.take_of_length_le (by omega)] at hA
            have e : deepT t (64 - a) = false := by
              rw [deepT_eq, HNB.out, show (64 : Int) - a - 1 = 64 - (a + 1) by omega, hA]
              rfl
            exact ⟨by rw [e]; rfl, HBW.out⟩
      · obtain rfl : a = 64 := by omega
        go_wp2_with fail
        go_ret
        have e : deepT t 0 = true := by
          rw [deepT_eq, HN.out]
          rfl
        exact ⟨by rw [e]; rfl, HB1.out⟩
    · have HT0 : Hid (t.kids.length = 0) := Lib.hid (by rw [beq_iff_eq] at ftn; omega)
      go_upto_if 16 with (first
        | (go_at_call 67
           refine (isNode_any t h _ (HTT.out.lower HB.out)).mono ?_
           rintro _ w1 ⟨rfl, hb1⟩
           rw [HR.out]
           have HB1 : Hid (Below w.heap.size w w1) := Lib.hid (HB.out.trans (hb1.mono HB.out.size))
           have hx1 := HX.out.below hb1 HX.out.lt
           obtain ⟨y0, y1, y2, y3, y4⟩ := hx1.cells
           have HX1 := Lib.hid hx1
           clear hb1 hx1 x0 x1 x2 x3 x4))
      go_wp2_with fail
      go_ret
      exact ⟨by rw [deep_node HR.out HT0.out]; rfl, HB1.out⟩
  · have HR := Lib.hid hr
    have HNI : Hid (nodeK t = true ∨ t.kids.length ≠ 0) := Lib.hid (Or.inl hr)
    clear hr
    go_upto_if 18 with (first
      | (go_at_call 67
         refine (isNode_any t h _ (HTT.out.lower HB.out)).mono ?_
         rintro _ w1 ⟨rfl, hb1⟩
         rw [HR.out]
         have HB1 : Hid (Below w.heap.size w w1) := Lib.hid (HB.out.trans (hb1.mono HB.out.size))
         have hx1 := HX.out.below hb1 HX.out.lt
         obtain ⟨y0, y1, y2, y3, y4⟩ := hx1.cells
         have HX1 := Lib.hid hx1
         clear hb1 hx1 x0 x1 x2 x3 x4))
    have HN : Hid (isNode t = true) := Lib.hid (node_is HNI.out)
    by_cases fa : ¬ a = 64
    · have HNB : Hid ((isNode t && (64 - a == 0)) = false) := Lib.hid (by rw [Bool.and_eq_false_iff]; right; rw [beq_eq_false_iff_ne]; omega)
      have ha2 : a ≤ 63 := by omega
      have fb : (a == 64) = false := by simp [fa]
      rw [fb]
      have HCL1 := Lib.hid (HCL.out.below HB1.out HCL.out.lt)
      go_wp2_with fail
      clear y0 y1 y2 y3 y4 fa fb
      go_loopw [22] (fun s22 wx => ∃ i : Nat, i ≤ h.tn ∧ s22 = .int .i64 i ∧ Var1 wx 89 gc (.func (.func 80) #[] #[.pointer (some ⟨gc, 0, none⟩)]) ∧ Below w.heap.size w wx ∧ (t.kids.take i).any (fun x => deepT x (64 - (a + 1))) = false) (fun s22 _ => h.tn - (intOf s22).toNat)
      case atStart => exact ⟨0, by omega, rfl, HCL1.out, HB1.out, by simp⟩
      case round =>
        clear HCL1 HB1 HX1
        obtain ⟨i, hi, rfl, hcl, hbw, hall⟩ := hrel
        have hcc := hcl.cell
        have HC := Lib.hid hcl
        have HBW := Lib.hid hbw
        have HA := Lib.hid hall
        clear hcl hbw hall
        by_cases hlt : i < h.tn
        · have q1 : (i : Int) < (h.tn : Int) := by omega
          obtain ⟨g, off, hta, hg, hcs⟩ := (HP.out.below HBW.out).place (by omega)
          obtain ⟨k0, k1, k2, k3, k4⟩ := hcs i hlt
          have him : i < t.kids.length := by omega
          clear hcs
          rw [hta]
          go_upto_region 8 with fail
          have b2 : Below wr.heap.size wr (wr.alloc (.cells #[.int .i64 (H i).k, .slice (H i).ka (H i).kn (H i).kc, .slice (H i).va (H i).vn (H i).vc, .slice (H i).da (H i).dn (H i).dc, .slice (H i).ta (H i).tn (H i).tc] 25)) := (Below.refl _ _).alloc (Nat.le_refl _) _
          have bx := Box.new wr 25 (H i)
          generalize (wr.alloc (.cells #[.int .i64 (H i).k, .slice (H i).ka (H i).kn (H i).kc, .slice (H i).va (H i).vn (H i).vc, .slice (H i).da (H i).dn (H i).dc, .slice (H i).ta (H i).tn (H i).tc] 25)) = w2 at *
          have HB2 : Hid (Below w.heap.size w w2) := Lib.hid (HBW.out.trans (b2.mono HBW.out.size))
          have HC2 := Lib.hid (HC.out.below b2 HC.out.lt)
          have hc2 := HC2.out.cell
          obtain ⟨y0, y1, y2, y3, y4⟩ := bx.cells
          clear b2 bx k0 k1 k2 k3 k4 hcc
          go_upto_if 30 with (first
            | (go_at_call 80
               refine (IH.out _ (List.getElem_mem him) (H i) (a + 1) _ gc ((HP.out.below HB2.out).kids i him) (by omega) (by omega) HC2.out).mono ?_
               rintro _ w3 ⟨rfl, hb3⟩
               have HB3 : Hid (Below w.heap.size w w3) := Lib.hid (HB2.out.trans (hb3.mono HB2.out.size))
               have HC3 := Lib.hid (HC2.out.below hb3 HC2.out.lt)
               generalize hr : deepT t.kids[i] (64 - (a + 1)) = q
               have HQ := Lib.hid hr
               clear hb3 hr))
          clear y0 y1 y2 y3 y4 hc2
          cases q
          · clear hta
            go_wp2_with fail
            exact ⟨⟨i + 1, by omega, by go_num, HC3.out, HB3.out, by rw [any_take _ _ i him, HA.out, HQ.out]; rfl⟩, by simp [intOf]; omega⟩
          · go_wp2_with fail
            go_ret
            have e : deepT t (64 - a) = true := by
              rw [deepT_eq, show (64 : Int) - a - 1 = 64 - (a + 1) by omega, any_at (p := fun x => deepT x (64 - (a + 1))) i him HQ.out, Bool.or_true]
            exact ⟨by rw [e]; rfl, HB3.out⟩
        · obtain rfl : i = h.tn := by omega
          have q1 : ¬ (h.tn : Int) < (h.tn : Int) := by omega
          go_wp2_with fail
          go_ret
          have hA := HA.out
          rw [List.take_of_length_le (by omega)] at hA
          have e : deepT t (64 - a) = false := by
            rw [deepT_eq, HNB.out, show (64 : Int) - a - 1 = 64 - (a + 1) by omega, hA]
            rfl
          exact ⟨by rw [e]; rfl, HBW.out⟩
    · obtain rfl : a = 64 := by omega
      go_wp2_with fail
      go_ret
      have e : deepT t 0 = true := by
        rw [deepT_eq, HN.out]
        rfl
      exact ⟨by rw [e]; rfl, HB1.out⟩

set_option maxRecDepth 100000 in
set_option maxHeartbeats 4000000 in
theorem tooDeep_any (t : Tr) (h : TH) (w : World) (ht : InTree w h t) : Calls Tryd.prog 61 #[h.v] w (Says w (.bool (deepT t 64))) := by
  have hmf : ∀ (fn : Fn) (first cap : Array Value) (w : World), (Instr.makeFunc fn first cap).run Tryd.prog w = .ok (.func fn first cap) w := fun _ _ _ _ => rfl
  unfold TH.v
  have HTT := Lib.hid ht
  clear ht
  go_enter Tryd.func61, Tryd.ntmps61
  have hnf : Var1 ((w.alloc (.cells #[.int .i64 h.k, .slice h.ka h.kn h.kc, .slice h.va h.vn h.vc, .slice h.da h.dn h.dc, .slice h.ta h.tn h.tc] 25)).alloc (.cells #[.nilFunc] 89)) 89 (w.heap.size + 1) .nilFunc := by
    have := Var1.new (w.alloc (.cells #[.int .i64 h.k, .slice h.ka h.kn h.kc, .slice h.va h.vn h.vc, .slice h.da h.dn h.dc, .slice h.ta h.tn h.tc] 25)) 89 .nilFunc
    simpa using this
  have hbx : Box ((w.alloc (.cells #[.int .i64 h.k, .slice h.ka h.kn h.kc, .slice h.va h.vn h.vc, .slice h.da h.dn h.dc, .slice h.ta h.tn h.tc] 25)).alloc (.cells #[.nilFunc] 89)) 25 w.heap.size h := (Box.new w 25 h).below ((Below.refl _ _).alloc (Nat.le_refl _) _) (by simp)
  have hb2 : Below w.heap.size w ((w.alloc (.cells #[.int .i64 h.k, .slice h.ka h.kn h.kc, .slice h.va h.vn h.vc, .slice h.da h.dn h.dc, .slice h.ta h.tn h.tc] 25)).alloc (.cells #[.nilFunc] 89)) := ((Below.refl w.heap.size w).alloc (Nat.le_refl _) _).alloc (by simp) _
  go_upto_region 2 with fail
  generalize (w.alloc (.cells #[.int .i64 h.k, .slice h.ka h.kn h.kc, .slice h.va h.vn h.vc, .slice h.da h.dn h.dc, .slice h.ta h.tn h.tc] 25)).alloc (.cells #[.nilFunc] 89) = w2 at *
  have c0 := hnf.cell
  have c1 := hnf.frozen 0
  have HN := Lib.hid (hnf.set (.func (.func 80) #[] #[.pointer (some ⟨w.heap.size + 1, 0, none⟩)]))
  have hbx3 : Box (w2.setCell ⟨w.heap.size + 1, 0, none⟩ (.func (.func 80) #[] #[.pointer (some ⟨w.heap.size + 1, 0, none⟩)])) 25 w.heap.size h := (Below.heap_setCell w2 ⟨w.heap.size + 1, 0, none⟩ _ w.heap.size (by simp)).trans hbx
  have hb3 : Below w.heap.size w (w2.setCell ⟨w.heap.size + 1, 0, none⟩ (.func (.func 80) #[] #[.pointer (some ⟨w.heap.size + 1, 0, none⟩)])) := hb2.setCell (by simp) _
  clear hnf hbx hb2
  go_upto_region 3 with fail
  generalize (w2.setCell ⟨w.heap.size + 1, 0, none⟩ (.func (.func 80) #[] #[.pointer (some ⟨w.heap.size + 1, 0, none⟩)])) = w3 at *
  obtain ⟨x0, x1, x2, x3, x4⟩ := hbx3.cells
  have c2 := HN.out.cell
  have HB3 := Lib.hid hb3
  clear c0 c1 hbx3 hb3
  go_wp2_with (first
    | (go_at_call 80
       refine (deepC_any t h 0 _ (w.heap.size + 1) (HTT.out.lower HB3.out) (by omega) (by omega) HN.out).mono ?_
       rintro _ w4 ⟨rfl, hb4⟩
       have HB4 : Hid (Below w.heap.size w w4) := Lib.hid (HB3.out.trans (hb4.mono HB3.out.size))
       clear hb4))
  go_ret
  exact ⟨rfl, HB4.out⟩

set_option maxRecDepth 100000 in
set_option maxHeartbeats 4000000 in
theorem everyPartC : ∀ (t : Tr) (h : TH) (w : World) (gp ga : Nat), InTree w h t → Var1 w 27 gp (.func (.func 62) #[] #[]) → Var1 w 27 ga (.func (.func 63) #[] #[.pointer (some ⟨gp, 0, none⟩), .pointer (some ⟨ga, 0, none⟩)]) →
    Calls Tryd.prog 63 #[h.v, .pointer (some ⟨gp, 0, none⟩), .pointer (some ⟨ga, 0, none⟩)] w (Says w (.bool (allT partB t))) := by
  intro t
  induction t using Tr.ind with
  | h t ih =>
  intro h w gp ga ht hpv hcl
  unfold TH.v
  obtain ⟨H, hp⟩ := ht.parts
  have htl := hp.len
  have htc := hp.sl.le
  have htm := Nat.le_trans hp.sl.le hp.sl.max
  simp only [maxLen] at htm
  have HP := Lib.hid hp
  have HTT := Lib.hid ht
  have IH := Lib.hid ih
  have hbox := Box.new w 25 h
  have HX := Lib.hid hbox
  obtain ⟨x0, x1, x2, x3, x4⟩ := hbox.cells
  have hw1 : Below w.heap.size w (w.alloc (.cells #[.int .i64 h.k, .slice h.ka h.kn h.kc, .slice h.va h.vn h.vc, .slice h.da h.dn h.dc, .slice h.ta h.tn h.tc] 25)) := (Below.refl _ _).alloc (Nat.le_refl _) _
  have HB := Lib.hid hw1
  have hpv1 := hpv.below hw1 hpv.lt
  have HCL1 := Lib.hid (hcl.below hw1 hcl.lt)
  have HPV1 := Lib.hid hpv1
  have xp := hpv1.cell
  skip
  clear hp ht ih hcl hpv hpv1 hw1 hbox
  go_enter Tryd.func63, Tryd.ntmps63
  go_upto_if 10 with (first
    | (go_at_call 62
       refine (wellFormed_any t h _ (HTT.out.lower HB.out)).mono ?_
       rintro _ w1 ⟨rfl, hb1⟩
       have HB1 : Hid (Below w.heap.size w w1) := Lib.hid (HB.out.trans (hb1.mono HB.out.size))
       have HX1 := Lib.hid (HX.out.below hb1 HX.out.lt)
       have HCL2 := Lib.hid (HCL1.out.below hb1 HCL1.out.lt)
       have HPV2 := Lib.hid (HPV1.out.below hb1 HPV1.out.lt)
       skip
       generalize hr : partB t = r
       have HR := Lib.hid hr
       clear hb1 hr))
  clear x0 x1 x2 x3 x4 xp HX HB HCL1 HPV1
  cases r
  · go_wp2_with fail
    go_ret
    have e : allT partB t = false := by rw [allT_eq, HR.out]; rfl
    exact ⟨by rw [e]; rfl, HB1.out⟩
  simp only [Bool.not_true]
  have x4 := HX1.out.cells.2.2.2.2
  go_wp2_with fail
  clear x4 HX1
  go_loopw [14] (fun s14 wx => ∃ i : Nat, i ≤ h.tn ∧ s14 = .int .i64 i ∧ Var1 wx 27 gp (.func (.func 62) #[] #[]) ∧ Var1 wx 27 ga (.func (.func 63) #[] #[.pointer (some ⟨gp, 0, none⟩), .pointer (some ⟨ga, 0, none⟩)]) ∧ Below w.heap.size w wx ∧ (t.kids.take i).all (allT partB) = true) (fun s14 _ => h.tn - (intOf s14).toNat)
  case atStart => exact ⟨0, by omega, rfl, HPV2.out, HCL2.out, HB1.out, by simp⟩
  case round =>
    clear HCL2 HB1 HPV2
    obtain ⟨i, hi, rfl, hpv, hcl, hbw, hall⟩ := hrel
    have hcc := hcl.cell
    have HC := Lib.hid hcl
    have HV := Lib.hid hpv
    have HBW := Lib.hid hbw
    have HA := Lib.hid hall
    skip
    clear hcl hbw hall hpv
    by_cases hlt : i < h.tn
    · have q1 : (i : Int) < (h.tn : Int) := by omega
      obtain ⟨g, off, hta, hg, hcs⟩ := (HP.out.below HBW.out).place (by omega)
      obtain ⟨k0, k1, k2, k3, k4⟩ := hcs i hlt
      have him : i < t.kids.length := by omega
      clear hcs
      rw [hta]
      go_upto_region 6 with fail
      have b2 : Below wr.heap.size wr (wr.alloc (.cells #[.int .i64 (H i).k, .slice (H i).ka (H i).kn (H i).kc, .slice (H i).va (H i).vn (H i).vc, .slice (H i).da (H i).dn (H i).dc, .slice (H i).ta (H i).tn (H i).tc] 25)) := (Below.refl _ _).alloc (Nat.le_refl _) _
      have bx := Box.new wr 25 (H i)
      generalize (wr.alloc (.cells #[.int .i64 (H i).k, .slice (H i).ka (H i).kn (H i).kc, .slice (H i).va (H i).vn (H i).vc, .slice (H i).da (H i).dn (H i).dc, .slice (H i).ta (H i).tn (H i).tc] 25)) = w2 at *
      have HB2 : Hid (Below w.heap.size w w2) := Lib.hid (HBW.out.trans (b2.mono HBW.out.size))
      have HC2 := Lib.hid (HC.out.below b2 HC.out.lt)
      have HV2 := Lib.hid (HV.out.below b2 HV.out.lt)
      skip
      have hc2 := HC2.out.cell
      obtain ⟨y0, y1, y2, y3, y4⟩ := bx.cells
      clear b2 bx k0 k1 k2 k3 k4 hcc
      go_upto_if 21 with (first
        | (go_at_call 63
           refine (IH.out _ (List.getElem_mem him) (H i) _ gp ga ((HP.out.below HB2.out).kids i him) HV2.out HC2.out).mono ?_
           rintro _ w3 ⟨rfl, hb3⟩
           have HB3 : Hid (Below w.heap.size w w3) := Lib.hid (HB2.out.trans (hb3.mono HB2.out.size))
           have HC3 := Lib.hid (HC2.out.below hb3 HC2.out.lt)
           have HV3 := Lib.hid (HV2.out.below hb3 HV2.out.lt)
           skip
           generalize hr : allT partB t.kids[i] = q
           have HQ := Lib.hid hr
           clear hb3 hr))
      clear y0 y1 y2 y3 y4 hc2
      cases q
      · go_wp2_with fail
        go_ret
        have e : allT partB t = false := by rw [allT_eq, all_not i him HQ.out, Bool.and_false]
        exact ⟨by rw [e]; rfl, HB3.out⟩
      · clear hta
        go_wp2_with fail
        exact ⟨⟨i + 1, by omega, by go_num, HV3.out, HC3.out, HB3.out, by rw [all_take _ _ i him, HA.out, HQ.out]; rfl⟩, by simp [intOf]; omega⟩
    · obtain rfl : i = h.tn := by omega
      have q1 : ¬ (h.tn : Int) < (h.tn : Int) := by omega
      go_wp2_with fail
      go_ret
      have hA := HA.out
      rw [List.take_of_length_le (by omega)] at hA
      have e : allT partB t = true := by rw [allT_eq, HR.out, hA]; rfl
      exact ⟨by rw [e]; rfl, HBW.out⟩
set_option maxRecDepth 100000 in
set_option maxHeartbeats 4000000 in
theorem everyPart (t : Tr) (h : TH) (w : World) (ht : InTree w h t) : Calls Tryd.prog 40 #[h.v, .func (.func 62) #[] #[]] w (Says w (.bool (allT partB t))) := by
  have hmf : ∀ (fn : Fn) (first cap : Array Value) (w : World), (Instr.makeFunc fn first cap).run Tryd.prog w = .ok (.func fn first cap) w := fun _ _ _ _ => rfl
  unfold TH.v
  have HTT := Lib.hid ht
  clear ht
  go_enter Tryd.func40, Tryd.ntmps40
  have hbw1 : Below w.heap.size w (w.alloc (.cells #[.int .i64 h.k, .slice h.ka h.kn h.kc, .slice h.va h.vn h.vc, .slice h.da h.dn h.dc, .slice h.ta h.tn h.tc] 25)) := (Below.refl _ _).alloc (Nat.le_refl _) _
  have hbx1 := Box.new w 25 h
  have e1 : (w.alloc (.cells #[.int .i64 h.k, .slice h.ka h.kn h.kc, .slice h.va h.vn h.vc, .slice h.da h.dn h.dc, .slice h.ta h.tn h.tc] 25)).heap.size = w.heap.size + 1 := by simp
  have hbw2 : Below w.heap.size w ((w.alloc (.cells #[.int .i64 h.k, .slice h.ka h.kn h.kc, .slice h.va h.vn h.vc, .slice h.da h.dn h.dc, .slice h.ta h.tn h.tc] 25)).alloc (.cells #[.func (.func 62) #[] #[]] 27)) := hbw1.alloc (by rw [e1]; omega) _
  have hbx2 := hbx1.below ((Below.refl _ _).alloc (Nat.le_refl _) (.cells #[.func (.func 62) #[] #[]] 27)) hbx1.lt
  have hpv2 := Var1.new (w.alloc (.cells #[.int .i64 h.k, .slice h.ka h.kn h.kc, .slice h.va h.vn h.vc, .slice h.da h.dn h.dc, .slice h.ta h.tn h.tc] 25)) 27 (.func (.func 62) #[] #[])
  have e2 : ((w.alloc (.cells #[.int .i64 h.k, .slice h.ka h.kn h.kc, .slice h.va h.vn h.vc, .slice h.da h.dn h.dc, .slice h.ta h.tn h.tc] 25)).alloc (.cells #[.func (.func 62) #[] #[]] 27)).heap.size = w.heap.size + 2 := by simp
  have hbw3 : Below w.heap.size w (((w.alloc (.cells #[.int .i64 h.k, .slice h.ka h.kn h.kc, .slice h.va h.vn h.vc, .slice h.da h.dn h.dc, .slice h.ta h.tn h.tc] 25)).alloc (.cells #[.func (.func 62) #[] #[]] 27)).alloc (.cells #[.nilFunc] 27)) := hbw2.alloc (by rw [e2]; omega) _
  have hbx3 := hbx2.below ((Below.refl _ _).alloc (Nat.le_refl _) (.cells #[.nilFunc] 27)) hbx2.lt
  have hpv3 := hpv2.below ((Below.refl _ _).alloc (Nat.le_refl _) (.cells #[.nilFunc] 27)) hpv2.lt
  have hnf := Var1.new ((w.alloc (.cells #[.int .i64 h.k, .slice h.ka h.kn h.kc, .slice h.va h.vn h.vc, .slice h.da h.dn h.dc, .slice h.ta h.tn h.tc] 25)).alloc (.cells #[.func (.func 62) #[] #[]] 27)) 27 .nilFunc
  rw [e2] at hnf
  rw [e1] at hpv3
  clear hbw1 hbx1 e1 hbw2 hbx2 hpv2 e2
  go_upto_region 2 with fail
  generalize (((w.alloc (.cells #[.int .i64 h.k, .slice h.ka h.kn h.kc, .slice h.va h.vn h.vc, .slice h.da h.dn h.dc, .slice h.ta h.tn h.tc] 25)).alloc (.cells #[.func (.func 62) #[] #[]] 27)).alloc (.cells #[.nilFunc] 27)) = w2 at *
  have c0 := hnf.cell
  have c1 := hnf.frozen 0
  have hn4 := hnf.set (.func (.func 63) #[] #[.pointer (some ⟨w.heap.size + 1, 0, none⟩), .pointer (some ⟨w.heap.size + 2, 0, none⟩)])
  have hbx4 : Box (w2.setCell ⟨w.heap.size + 2, 0, none⟩ (.func (.func 63) #[] #[.pointer (some ⟨w.heap.size + 1, 0, none⟩), .pointer (some ⟨w.heap.size + 2, 0, none⟩)])) 25 w.heap.size h := (Below.heap_setCell w2 ⟨w.heap.size + 2, 0, none⟩ _ w.heap.size (by simp)).trans hbx3
  have hpv4 := hpv3.far (p := ⟨w.heap.size + 2, 0, none⟩) (by simp) (.func (.func 63) #[] #[.pointer (some ⟨w.heap.size + 1, 0, none⟩), .pointer (some ⟨w.heap.size + 2, 0, none⟩)])
  have hb4 : Below w.heap.size w (w2.setCell ⟨w.heap.size + 2, 0, none⟩ (.func (.func 63) #[] #[.pointer (some ⟨w.heap.size + 1, 0, none⟩), .pointer (some ⟨w.heap.size + 2, 0, none⟩)])) := hbw3.setCell (by simp) _
  clear hnf hbx3 hpv3 hbw3
  go_upto_region 3 with fail
  generalize (w2.setCell ⟨w.heap.size + 2, 0, none⟩ (.func (.func 63) #[] #[.pointer (some ⟨w.heap.size + 1, 0, none⟩), .pointer (some ⟨w.heap.size + 2, 0, none⟩)])) = w3 at *
  obtain ⟨x0, x1, x2, x3, x4⟩ := hbx4.cells
  have c2 := hn4.cell
  have HN := Lib.hid hn4
  have HPV := Lib.hid hpv4
  have HB3 := Lib.hid hb4
  skip
  clear c0 c1 hbx4 hb4 hpv4 hn4
  go_wp2_with (first
    | (go_at_call 63
       refine (everyPartC t h _ (w.heap.size + 1) (w.heap.size + 2) (HTT.out.lower HB3.out) HPV.out HN.out).mono ?_
       rintro _ w4 ⟨rfl, hb4⟩
       have HB4 : Hid (Below w.heap.size w w4) := Lib.hid (HB3.out.trans (hb4.mono HB3.out.size))
       clear hb4))
  go_ret
  exact ⟨rfl, HB4.out⟩

end Go.Proofs.YtioifkbkllnkgaaDoor

/- The contract of the program's check of a tree. -/
namespace Go.Proofs.YtioifkbkllnkgaaDoor
open Go.RowKit
set_option linter.unusedVariables false

set_option maxRecDepth 100000 in
set_option maxHeartbeats 4000000 in
theorem check_any (t : Tr) (h : TH) (w : World) (ht : InTree w h t) : Calls Tryd.prog 37 #[h.v] w (Says w (codeV (checkT t))) := by
  unfold TH.v
  have hbox := Box.new w 25 h
  have HX := Lib.hid hbox
  have HT := Lib.hid ht
  obtain ⟨x0, x1, x2, x3, x4⟩ := hbox.cells
  clear hbox ht
  go_enter Tryd.func37, Tryd.ntmps37
  go_upto_if 4 with (first
    | (go_at_call 61
       refine (tooDeep_any t h _ ?_).mono ?_
       · exact HT.out.lower ((Below.refl _ _).alloc (Nat.le_refl _) _)
       rintro _ w1 ⟨rfl, hb1⟩
       have HB1 : Hid (Below w.heap.size w w1) := Lib.hid (((Below.refl w.heap.size w).alloc (Nat.le_refl _) _).trans (hb1.mono (by simp)))
       obtain ⟨y0, y1, y2, y3, y4⟩ := (HX.out.below hb1 HX.out.lt).cells
       generalize hr : deepT t 64 = r
       have HR := Lib.hid hr
       clear hb1 hr x0 x1 x2 x3 x4))
  cases r
  · go_upto_if 8 with (first
      | (go_at_call 40
         refine (everyPart t h _ ?_).mono ?_
         · exact HT.out.lower HB1.out
         rintro _ w2 ⟨rfl, hb2⟩
         have HB2 : Hid (Below w.heap.size w w2) := Lib.hid (HB1.out.trans (hb2.mono HB1.out.size))
         rw [allT_part]
         generalize hq : formedT t = q
         have HQ := Lib.hid hq
         clear hb2 hq y0 y1 y2 y3 y4))
    cases q
    · go_wp2_with fail
      go_ret
      have e : checkT t = 3 := by unfold checkT; rw [HR.out, HQ.out]; rfl
      exact ⟨by rw [e]; rfl, HB2.out⟩
    · simp only [Bool.not_true]
      go_wp2_with fail
      go_ret
      have e : checkT t = 0 := by unfold checkT; rw [HR.out, HQ.out]; rfl
      exact ⟨by rw [e]; rfl, HB2.out⟩
  · go_wp2_with fail
    go_ret
    have e : checkT t = 5 := by unfold checkT; rw [HR.out]; rfl
    exact ⟨by rw [e]; rfl, HB1.out⟩
theorem check_zero {t : Tr} (h : checkT t = 0) : formedT t = true ∧ deepT t 64 = false := by
  unfold checkT at h
  split at h
  · cases h
  · split at h
    · exact ⟨by assumption, by rename_i q _; simpa using q⟩
    · cases h
theorem codeV_pos {k : Nat} (h : k ≠ 0) : codeV k = .iface 42 (.int .i64 k) := by
  unfold codeV
  rw [if_neg h]
end Go.Proofs.YtioifkbkllnkgaaDoor

/- What stands in memory inside a closure over a tree. -/
namespace Go.Proofs.YtioifkbkllnkgaaDoor
open Go.RowKit
set_option linter.unusedVariables false
/-- What the world is like inside a closure: its own box of a tree, the closure's variable. -/
structure KW (ty : TypeId) (v : Value) (gc : Nat) (w W : World) (h : TH) : Prop where
  box : Box W 25 w.heap.size h
  clo : Var1 W ty gc v
  b : Below w.heap.size w W
end Go.Proofs.YtioifkbkllnkgaaDoor

/- The contracts of the program's look at the widths of a tree's digests. -/
namespace Go.Proofs.YtioifkbkllnkgaaDoor
open Go.RowKit
set_option linter.unusedVariables false

set_option maxRecDepth 100000 in
set_option maxHeartbeats 4000000 in
theorem fits_any (k : Nat) (t : Tr) (h : TH) (w : World) (gw : Nat) (ht : InTree w h t) (hv : Var1 w 3 gw (.int .i64 k)) : Calls Tryd.prog 38 #[h.v, .pointer (some ⟨gw, 0, none⟩)] w (Says w (.bool (fitsK k t))) := by
  unfold TH.v
  obtain ⟨H, hp⟩ := ht.parts
  have HDL := Lib.hid hp.dig.len
  have HTT := Lib.hid ht
  clear hp ht
  have hbox := Box.new w 25 h
  have HX := Lib.hid hbox
  obtain ⟨x0, x1, x2, x3, x4⟩ := hbox.cells
  clear hbox
  have hw1 : Below w.heap.size w (w.alloc (.cells #[.int .i64 h.k, .slice h.ka h.kn h.kc, .slice h.va h.vn h.vc, .slice h.da h.dn h.dc, .slice h.ta h.tn h.tc] 25)) := (Below.refl _ _).alloc (Nat.le_refl _) _
  have HV1 := Lib.hid (hv.below hw1 hv.lt)
  have HB := Lib.hid hw1
  clear hw1 hv
  go_enter Tryd.func38, Tryd.ntmps38
  cases hr : toldK t
  all_goals
    have HR := Lib.hid hr
    clear hr
    go_wp2_with (first
      | (go_at_call 39
         refine (isTold_any t h _ (HTT.out.lower HB.out)).mono ?_
         rintro _ w1 ⟨rfl, hb1⟩
         rw [HR.out]
         have HB1 : Hid (Below w.heap.size w w1) := Lib.hid (HB.out.trans (hb1.mono HB.out.size))
         have hx1 := HX.out.below hb1 HX.out.lt
         obtain ⟨y0, y1, y2, y3, y4⟩ := hx1.cells
         have yv := (HV1.out.below hb1 HV1.out.lt).cell
         clear hb1 hx1 x0 x1 x2 x3 x4))
    go_ret
    refine ⟨?_, HB1.out⟩
    unfold fitsK
    rw [HR.out]
  · have e : decide (t.dig.length = k) = ((h.dn : Int) == (k : Int)) := by rw [HDL.out, Bool.eq_iff_iff]; simp; omega
    rw [e]
    rfl
  · rfl

set_option maxRecDepth 100000 in
set_option maxHeartbeats 4000000 in
theorem everyFitsC (k : Nat) (gw : Nat) : ∀ (t : Tr) (h : TH) (w : World) (gp ga : Nat), InTree w h t → Var1 w 3 gw (.int .i64 k) → Var1 w 27 gp (.func (.func 38) #[] #[.pointer (some ⟨gw, 0, none⟩)]) → Var1 w 27 ga (.func (.func 63) #[] #[.pointer (some ⟨gp, 0, none⟩), .pointer (some ⟨ga, 0, none⟩)]) →
    Calls Tryd.prog 63 #[h.v, .pointer (some ⟨gp, 0, none⟩), .pointer (some ⟨ga, 0, none⟩)] w (Says w (.bool (allT (fitsK k) t))) := by
  intro t
  induction t using Tr.ind with
  | h t ih =>
  intro h w gp ga ht hR hpv hcl
  unfold TH.v
  obtain ⟨H, hp⟩ := ht.parts
  have htl := hp.len
  have htc := hp.sl.le
  have htm := Nat.le_trans hp.sl.le hp.sl.max
  simp only [maxLen] at htm
  have HP := Lib.hid hp
  have HTT := Lib.hid ht
  have IH := Lib.hid ih
  have hbox := Box.new w 25 h
  have HX := Lib.hid hbox
  obtain ⟨x0, x1, x2, x3, x4⟩ := hbox.cells
  have hw1 : Below w.heap.size w (w.alloc (.cells #[.int .i64 h.k, .slice h.ka h.kn h.kc, .slice h.va h.vn h.vc, .slice h.da h.dn h.dc, .slice h.ta h.tn h.tc] 25)) := (Below.refl _ _).alloc (Nat.le_refl _) _
  have HB := Lib.hid hw1
  have hpv1 := hpv.below hw1 hpv.lt
  have HCL1 := Lib.hid (hcl.below hw1 hcl.lt)
  have HPV1 := Lib.hid hpv1
  have xp := hpv1.cell
  have HR1 := Lib.hid (hR.below hw1 hR.lt)
  clear hp ht ih hcl hpv hpv1 hw1 hbox hR
  go_enter Tryd.func63, Tryd.ntmps63
  go_upto_if 10 with (first
    | (go_at_call 38
       refine (fits_any k t h _ gw (HTT.out.lower HB.out) HR1.out).mono ?_
       rintro _ w1 ⟨rfl, hb1⟩
       have HB1 : Hid (Below w.heap.size w w1) := Lib.hid (HB.out.trans (hb1.mono HB.out.size))
       have HX1 := Lib.hid (HX.out.below hb1 HX.out.lt)
       have HCL2 := Lib.hid (HCL1.out.below hb1 HCL1.out.lt)
       have HPV2 := Lib.hid (HPV1.out.below hb1 HPV1.out.lt)
       have HR2 := Lib.hid (HR1.out.below hb1 HR1.out.lt)
       generalize hr : (fitsK k) t = r
       have HR := Lib.hid hr
       clear hb1 hr))
  clear x0 x1 x2 x3 x4 xp HX HB HCL1 HPV1 HR1
  cases r
  · go_wp2_with fail
    go_ret
    have e : allT (fitsK k) t = false := by rw [allT_eq, HR.out]; rfl
    exact ⟨by rw [e]; rfl, HB1.out⟩
  simp only [Bool.not_true]
  have x4 := HX1.out.cells.2.2.2.2
  go_wp2_with fail
  clear x4 HX1
  go_loopw [14] (fun s14 wx => ∃ i : Nat, i ≤ h.tn ∧ s14 = .int .i64 i ∧ Var1 wx 3 gw (.int .i64 k) ∧ Var1 wx 27 gp (.func (.func 38) #[] #[.pointer (some ⟨gw, 0, none⟩)]) ∧ Var1 wx 27 ga (.func (.func 63) #[] #[.pointer (some ⟨gp, 0, none⟩), .pointer (some ⟨ga, 0, none⟩)]) ∧ Below w.heap.size w wx ∧ (t.kids.take i).all (allT (fitsK k)) = true) (fun s14 _ => h.tn - (intOf s14).toNat)
  case atStart => exact ⟨0, by omega, rfl, HR2.out, HPV2.out, HCL2.out, HB1.out, by simp⟩
  case round =>
    clear HCL2 HB1 HPV2 HR2
    obtain ⟨i, hi, rfl, hR, hpv, hcl, hbw, hall⟩ := hrel
    have hcc := hcl.cell
    have HC := Lib.hid hcl
    have HV := Lib.hid hpv
    have HBW := Lib.hid hbw
    have HA := Lib.hid hall
    have HRR := Lib.hid hR
    clear hcl hbw hall hpv hR
    by_cases hlt : i < h.tn
    · have q1 : (i : Int) < (h.tn : Int) := by omega
      obtain ⟨g, off, hta, hg, hcs⟩ := (HP.out.below HBW.out).place (by omega)
      obtain ⟨k0, k1, k2, k3, k4⟩ := hcs i hlt
      have him : i < t.kids.length := by omega
      clear hcs
      rw [hta]
      go_upto_region 6 with fail
      have b2 : Below wr.heap.size wr (wr.alloc (.cells #[.int .i64 (H i).k, .slice (H i).ka (H i).kn (H i).kc, .slice (H i).va (H i).vn (H i).vc, .slice (H i).da (H i).dn (H i).dc, .slice (H i).ta (H i).tn (H i).tc] 25)) := (Below.refl _ _).alloc (Nat.le_refl _) _
      have bx := Box.new wr 25 (H i)
      generalize (wr.alloc (.cells #[.int .i64 (H i).k, .slice (H i).ka (H i).kn (H i).kc, .slice (H i).va (H i).vn (H i).vc, .slice (H i).da (H i).dn (H i).dc, .slice (H i).ta (H i).tn (H i).tc] 25)) = w2 at *
      have HB2 : Hid (Below w.heap.size w w2) := Lib.hid (HBW.out.trans (b2.mono HBW.out.size))
      have HC2 := Lib.hid (HC.out.below b2 HC.out.lt)
      have HV2 := Lib.hid (HV.out.below b2 HV.out.lt)
      have HRR2 := Lib.hid (HRR.out.below b2 HRR.out.lt)
      have hc2 := HC2.out.cell
      obtain ⟨y0, y1, y2, y3, y4⟩ := bx.cells
      clear b2 bx k0 k1 k2 k3 k4 hcc
      go_upto_if 21 with (first
        | (go_at_call 63
           refine (IH.out _ (List.getElem_mem him) (H i) _ gp ga ((HP.out.below HB2.out).kids i him) HRR2.out HV2.out HC2.out).mono ?_
           rintro _ w3 ⟨rfl, hb3⟩
           have HB3 : Hid (Below w.heap.size w w3) := Lib.hid (HB2.out.trans (hb3.mono HB2.out.size))
           have HC3 := Lib.hid (HC2.out.below hb3 HC2.out.lt)
           have HV3 := Lib.hid (HV2.out.below hb3 HV2.out.lt)
           have HRR3 := Lib.hid (HRR2.out.below hb3 HRR2.out.lt)
           generalize hr : allT (fitsK k) t.kids[i] = q
           have HQ := Lib.hid hr
           clear hb3 hr))
      clear y0 y1 y2 y3 y4 hc2
      cases q
      · go_wp2_with fail
        go_ret
        have e : allT (fitsK k) t = false := by rw [allT_eq, all_not i him HQ.out, Bool.and_false]
        exact ⟨by rw [e]; rfl, HB3.out⟩
      · clear hta
        go_wp2_with fail
        exact ⟨⟨i + 1, by omega, by go_num, HRR3.out, HV3.out, HC3.out, HB3.out, by rw [all_take _ _ i him, HA.out, HQ.out]; rfl⟩, by simp [intOf]; omega⟩
    · obtain rfl : i = h.tn := by omega
      have q1 : ¬ (h.tn : Int) < (h.tn : Int) := by omega
      go_wp2_with fail
      go_ret
      have hA := HA.out
      rw [List.take_of_length_le (by omega)] at hA
      have e : allT (fitsK k) t = true := by rw [allT_eq, HR.out, hA]; rfl
      exact ⟨by rw [e]; rfl, HBW.out⟩
set_option maxRecDepth 100000 in
set_option maxHeartbeats 4000000 in
theorem everyFits (k : Nat) (gw : Nat) (t : Tr) (h : TH) (w : World) (ht : InTree w h t) (hR : Var1 w 3 gw (.int .i64 k)) : Calls Tryd.prog 40 #[h.v, .func (.func 38) #[] #[.pointer (some ⟨gw, 0, none⟩)]] w (Says w (.bool (allT (fitsK k) t))) := by
  have hmf : ∀ (fn : Fn) (first cap : Array Value) (w : World), (Instr.makeFunc fn first cap).run Tryd.prog w = .ok (.func fn first cap) w := fun _ _ _ _ => rfl
  unfold TH.v
  have HTT := Lib.hid ht
  clear ht
  go_enter Tryd.func40, Tryd.ntmps40
  have hbw1 : Below w.heap.size w (w.alloc (.cells #[.int .i64 h.k, .slice h.ka h.kn h.kc, .slice h.va h.vn h.vc, .slice h.da h.dn h.dc, .slice h.ta h.tn h.tc] 25)) := (Below.refl _ _).alloc (Nat.le_refl _) _
  have hbx1 := Box.new w 25 h
  have e1 : (w.alloc (.cells #[.int .i64 h.k, .slice h.ka h.kn h.kc, .slice h.va h.vn h.vc, .slice h.da h.dn h.dc, .slice h.ta h.tn h.tc] 25)).heap.size = w.heap.size + 1 := by simp
  have hbw2 : Below w.heap.size w ((w.alloc (.cells #[.int .i64 h.k, .slice h.ka h.kn h.kc, .slice h.va h.vn h.vc, .slice h.da h.dn h.dc, .slice h.ta h.tn h.tc] 25)).alloc (.cells #[.func (.func 38) #[] #[.pointer (some ⟨gw, 0, none⟩)]] 27)) := hbw1.alloc (by rw [e1]; omega) _
  have hbx2 := hbx1.below ((Below.refl _ _).alloc (Nat.le_refl _) (.cells #[.func (.func 38) #[] #[.pointer (some ⟨gw, 0, none⟩)]] 27)) hbx1.lt
  have hpv2 := Var1.new (w.alloc (.cells #[.int .i64 h.k, .slice h.ka h.kn h.kc, .slice h.va h.vn h.vc, .slice h.da h.dn h.dc, .slice h.ta h.tn h.tc] 25)) 27 (.func (.func 38) #[] #[.pointer (some ⟨gw, 0, none⟩)])
  have e2 : ((w.alloc (.cells #[.int .i64 h.k, .slice h.ka h.kn h.kc, .slice h.va h.vn h.vc, .slice h.da h.dn h.dc, .slice h.ta h.tn h.tc] 25)).alloc (.cells #[.func (.func 38) #[] #[.pointer (some ⟨gw, 0, none⟩)]] 27)).heap.size = w.heap.size + 2 := by simp
  have hbw3 : Below w.heap.size w (((w.alloc (.cells #[.int .i64 h.k, .slice h.ka h.kn h.kc, .slice h.va h.vn h.vc, .slice h.da h.dn h.dc, .slice h.ta h.tn h.tc] 25)).alloc (.cells #[.func (.func 38) #[] #[.pointer (some ⟨gw, 0, none⟩)]] 27)).alloc (.cells #[.nilFunc] 27)) := hbw2.alloc (by rw [e2]; omega) _
  have hbx3 := hbx2.below ((Below.refl _ _).alloc (Nat.le_refl _) (.cells #[.nilFunc] 27)) hbx2.lt
  have hpv3 := hpv2.below ((Below.refl _ _).alloc (Nat.le_refl _) (.cells #[.nilFunc] 27)) hpv2.lt
  have hnf := Var1.new ((w.alloc (.cells #[.int .i64 h.k, .slice h.ka h.kn h.kc, .slice h.va h.vn h.vc, .slice h.da h.dn h.dc, .slice h.ta h.tn h.tc] 25)).alloc (.cells #[.func (.func 38) #[] #[.pointer (some ⟨gw, 0, none⟩)]] 27)) 27 .nilFunc
  rw [e2] at hnf
  rw [e1] at hpv3
  clear hbw1 hbx1 e1 hbw2 hbx2 hpv2 e2
  go_upto_region 2 with fail
  generalize (((w.alloc (.cells #[.int .i64 h.k, .slice h.ka h.kn h.kc, .slice h.va h.vn h.vc, .slice h.da h.dn h.dc, .slice h.ta h.tn h.tc] 25)).alloc (.cells #[.func (.func 38) #[] #[.pointer (some ⟨gw, 0, none⟩)]] 27)).alloc (.cells #[.nilFunc] 27)) = w2 at *
  have c0 := hnf.cell
  have c1 := hnf.frozen 0
  have hn4 := hnf.set (.func (.func 63) #[] #[.pointer (some ⟨w.heap.size + 1, 0, none⟩), .pointer (some ⟨w.heap.size + 2, 0, none⟩)])
  have hbx4 : Box (w2.setCell ⟨w.heap.size + 2, 0, none⟩ (.func (.func 63) #[] #[.pointer (some ⟨w.heap.size + 1, 0, none⟩), .pointer (some ⟨w.heap.size + 2, 0, none⟩)])) 25 w.heap.size h := (Below.heap_setCell w2 ⟨w.heap.size + 2, 0, none⟩ _ w.heap.size (by simp)).trans hbx3
  have hpv4 := hpv3.far (p := ⟨w.heap.size + 2, 0, none⟩) (by simp) (.func (.func 63) #[] #[.pointer (some ⟨w.heap.size + 1, 0, none⟩), .pointer (some ⟨w.heap.size + 2, 0, none⟩)])
  have hb4 : Below w.heap.size w (w2.setCell ⟨w.heap.size + 2, 0, none⟩ (.func (.func 63) #[] #[.pointer (some ⟨w.heap.size + 1, 0, none⟩), .pointer (some ⟨w.heap.size + 2, 0, none⟩)])) := hbw3.setCell (by simp) _
  clear hnf hbx3 hpv3 hbw3
  go_upto_region 3 with fail
  generalize (w2.setCell ⟨w.heap.size + 2, 0, none⟩ (.func (.func 63) #[] #[.pointer (some ⟨w.heap.size + 1, 0, none⟩), .pointer (some ⟨w.heap.size + 2, 0, none⟩)])) = w3 at *
  obtain ⟨x0, x1, x2, x3, x4⟩ := hbx4.cells
  have c2 := hn4.cell
  have HN := Lib.hid hn4
  have HPV := Lib.hid hpv4
  have HB3 := Lib.hid hb4
  have HR := Lib.hid (hR.below hb4 hR.lt)
  clear c0 c1 hbx4 hb4 hpv4 hn4 hR
  go_wp2_with (first
    | (go_at_call 63
       refine (everyFitsC k gw t h _ (w.heap.size + 1) (w.heap.size + 2) (HTT.out.lower HB3.out) HR.out HPV.out HN.out).mono ?_
       rintro _ w4 ⟨rfl, hb4⟩
       have HB4 : Hid (Below w.heap.size w w4) := Lib.hid (HB3.out.trans (hb4.mono HB3.out.size))
       clear hb4))
  go_ret
  exact ⟨rfl, HB4.out⟩
end Go.Proofs.YtioifkbkllnkgaaDoor

/- The contracts of the program's digests of a tree's parts. -/
namespace Go.Proofs.YtioifkbkllnkgaaDoor
open Go.RowKit
set_option linter.unusedVariables false

/-- Bytes in new memory. -/
structure NewB (w w' : World) (a : Option Addr) (n c : Nat) (zs : List Int) : Prop where
  inb : InBytes w' a n c zs
  new : ∀ ad, a = some ad → w.heap.size ≤ ad.block
  free : ∀ ad o, a = some ad → w'.frozen? ⟨ad.block, o, none⟩ = false
/-- No bytes, and an error. -/
def ErrPost (w : World) (k : Nat) (e : Ending) (w' : World) : Prop := ∃ a c, e = .returned (.tuple #[.slice a 0 c, codeV k]) ∧ Below w.heap.size w w'
/-- New bytes, and no error. -/
def BytesPost (w : World) (zs : List Int) (e : Ending) (w' : World) : Prop := ∃ a c, e = .returned (.tuple #[.slice a zs.length c, .nilIface]) ∧ NewB w w' a zs.length c zs ∧ Below w.heap.size w w'
theorem own_free {w : World} {base g n c : Nat} {e : TypeId} {xs : List Value} (h : w.ownsRow base e 1 (.slice (some ⟨g, 0, none⟩) n c) n xs) (o : Nat) : base ≤ g ∧ w.frozen? ⟨g, o, none⟩ = false := by
  rcases h.2 with ⟨h1, _⟩ | ⟨g', cap, cur, h1, h2, h3, _⟩
  · cases h1
  · injection h1 with h1
    injection h1 with h1
    injection h1 with h1
    subst h1
    exact ⟨h2, by simp [World.frozen?, h3]⟩
/-- What digest.Of answers is bytes in new memory. -/
theorem OfPost2.bytes {w w' : World} {k : Nat} {bs : List Int} {e : Ending} (hk : k ≤ 32) (h : OfPost2 w k bs e w') : BytesPost w ((sumL bs).take k) e w' := by
  obtain ⟨g, hg, rfl, hr, hb⟩ := h
  have hl := take_sum_len hk bs
  refine ⟨some ⟨g, 0, none⟩, k, by rw [hl], ⟨by rw [hl]; exact of_in hr hk, fun ad h => ?_, fun ad o h => ?_⟩, hb⟩
  · injection h with h
    rw [← h]
    exact hg
  · injection h with h
    rw [← h]
    exact hr.frozen o

set_option maxRecDepth 100000 in
set_option maxHeartbeats 4000000 in
theorem cloneN_any (ad : Addr) (n cap : Nat) (bs : List Int) (w : World) (hin : InBytes w (some ad) n cap bs) (hn : n ≤ 140737488355328) :
    Calls Tryd.prog 43 #[.slice (some ad) n cap] w (fun e w' => ∃ g c, e = .returned (.slice (some ⟨g, 0, none⟩) n c) ∧ w'.ownsRow w.heap.size 5 1 (.slice (some ⟨g, 0, none⟩) n c) n (bs.map (Value.int .u8)) ∧ Below w.heap.size w w') := by
  obtain ⟨i0, hi0, hz0, hz1, hz2⟩ := info_parts infoU8
  have hq : ∀ (w : World) (a : Option Addr) (n c n' c' : Nat), (binOp .eql 22 (.slice a n c) (.slice none n' c')).run Tryd.prog w = .ok (.bool a.isNone) w := fun w a n c n' c' => Lib.run_eql_slice_nil w _ _ a n c n' c' Tryd.underlying22
  have HIN := Lib.hid hin
  clear hin
  have e : (some ad : Option Addr).isNone = false := rfl
  go_enter Tryd.func43, Tryd.ntmps43
  go_wp2_with (first
    | (at_builtin
       refine wpList_append_bytes' _ rfl (.tmp 5) (.tmp 6) 22 rfl w.heap.size 5 i0 _ 1 Tryd.underlying22 hi0 hz0 hz1 hz2 rfl w.heap.size 0 0 [] rfl (own_new w 5 .u8 [] w.heap.size (Nat.le_refl _) (by simp [maxLen])) (some ad) n cap bs rfl (HIN.out.below ((Below.refl _ _).alloc (Nat.le_refl _) _)) (by simp only [maxLen]; omega) (by omega) (by simp) ?_
       intro g1 c1 w1 hown1 hg1
       have HO1 := Lib.hid hown1
       have HB1 : Hid (Below w.heap.size w w1) := Lib.hid (below_only ((Below.refl _ _).alloc (Nat.le_refl _) _) hg1 (by simp) (Nat.le_refl _))
       clear hown1 hg1))
  go_ret
  have ho := HO1.out
  rw [List.nil_append, Nat.zero_add] at ho
  exact ⟨g1, c1, rfl, ho, HB1.out⟩

theorem cloneP_any (a : Option Addr) (n cap : Nat) (bs : List Int) (w : World) (hin : InBytes w a n cap bs) (hn : n ≤ 140737488355328) (h0 : 0 < n) :
    Calls Tryd.prog 43 #[.slice a n cap] w (fun e w' => ∃ g c, e = .returned (.slice (some ⟨g, 0, none⟩) n c) ∧ w'.ownsRow w.heap.size 5 1 (.slice (some ⟨g, 0, none⟩) n c) n (bs.map (Value.int .u8)) ∧ Below w.heap.size w w') := by
  obtain ⟨g, off, rfl, _, _⟩ := hin.place h0
  exact cloneN_any _ n cap bs w hin hn

theorem part_lens {t : Tr} (hp : partB t = true) : t.key.length ≤ 80 ∧ t.val.length ≤ 1024 := by
  unfold partB at hp
  split at hp
  · simp only [Bool.and_eq_true, decide_eq_true_eq] at hp; omega
  · split at hp
    · simp only [Bool.and_eq_true, decide_eq_true_eq] at hp; omega
    · split at hp
      · simp only [Bool.and_eq_true, decide_eq_true_eq] at hp; omega
      · split at hp
        · simp only [Bool.and_eq_true, decide_eq_true_eq] at hp; omega
        · cases hp

set_option maxRecDepth 100000 in
set_option maxHeartbeats 4000000 in
theorem pairDigest_any (k : Nat) (hk1 : 1 ≤ k) (hk2 : k ≤ 32) (t : Tr) (h : TH) (w : World) (ht : InTree w h t) (hT : TabLies w) (hpb : partB t = true) (hv : (valT k t).length = k) :
    Calls Tryd.prog 44 #[.int .i64 k, h.v] w (OfPost2 w k (pairL t.key (valT k t))) := by
  unfold TH.v
  obtain ⟨hl1, hl2⟩ := part_lens hpb
  obtain ⟨H, hp⟩ := ht.parts
  have hkl := hp.key.len
  have hvl := hp.val.len
  have hdl := hp.dig.len
  have HK := Lib.hid hp.hk
  have HP := Lib.hid hp
  have HT := Lib.hid hT
  have hbox := Box.new w 25 h
  have HX := Lib.hid hbox
  obtain ⟨x0, x1, x2, x3, x4⟩ := hbox.cells
  have hw1 : Below w.heap.size w (w.alloc (.cells #[.int .i64 h.k, .slice h.ka h.kn h.kc, .slice h.va h.vn h.vc, .slice h.da h.dn h.dc, .slice h.ta h.tn h.tc] 25)) := (Below.refl _ _).alloc (Nat.le_refl _) _
  have HB := Lib.hid hw1
  clear hp ht hT hbox hw1
  go_enter Tryd.func44, Tryd.ntmps44
  cases f1 : (h.k == 1)
  · have hne : ¬ t.k = 1 := by rw [← HK.out]; simpa using f1
    have hval : valT k t = t.dig := by unfold valT; rw [if_neg hne]
    rw [hval] at hv ⊢
    have hdn : (h.dn : Int) = k := by omega
    have HDB := Lib.hid HP.out.dig.bytes
    clear hval hne
    go_wp2_with (first
      | (go_at_call 65
         (with_reducible refine (pair_ok (k : Int) h.ka h.kn h.kc t.key h.da h.dn h.dc t.dig _ (HP.out.key.below HB.out) (by omega) (HP.out.dig.below HB.out) (by omega) (by omega) (by omega)).mono ?_)
         rintro _ w5 ⟨g5, c5, rfl, ho5, hb5⟩
         have HB5 : Hid (Below w.heap.size w w5) := Lib.hid (HB.out.trans (hb5.mono HB.out.size))
         have HI5 := Lib.hid (InBytes.of_own ho5 (pairL_bytes HP.out.key.bytes (by omega) HDB.out))
         clear ho5 hb5)
      | (go_at_call 16
         (with_reducible refine (of_ok k _ _ _ _ _ HI5.out ?_ (HT.out.below HB5.out (Nat.le_refl _)) hk1 hk2).mono ?_)
         · have hq := pairL_len (a := t.key) (b := t.dig) (by omega)
           omega
         rintro _ w6 hof
         obtain ⟨g6, hg6, rfl, hr6, hb6⟩ := hof
         have HB6 : Hid (Below w.heap.size w w6) := Lib.hid (HB5.out.trans (hb6.mono HB5.out.size))
         have HR6 := Lib.hid (And.intro (Nat.le_trans HB5.out.size hg6) hr6)
         clear hg6 hr6 hb6))
    go_ret2
    exact ⟨g6, HR6.out.1, rfl, HR6.out.2, HB6.out⟩
  · have he : t.k = 1 := by rw [← HK.out]; simpa using f1
    have hval : valT k t = (sumL (valL t.val)).take k := by unfold valT; rw [if_pos he]
    rw [hval] at hv ⊢
    have HDB : Hid (Bytes8 ((sumL (valL t.val)).take k)) := Lib.hid (fun z hz => sumL_bytes _ z (List.mem_of_mem_take hz))
    clear hval he
    go_wp2_with (first
      | (go_at_call 64
         (with_reducible refine (value_any h.va h.vn h.vc t.val _ (HP.out.val.below HB.out) (by omega)).mono ?_)
         rintro _ w2 ⟨g2, c2, rfl, ho2, hb2⟩
         have HB2 : Hid (Below w.heap.size w w2) := Lib.hid (HB.out.trans (hb2.mono HB.out.size))
         have HI2 := Lib.hid (InBytes.of_own ho2 (valL_bytes HP.out.val.bytes))
         have HX2 := Lib.hid (HX.out.below hb2 HX.out.lt)
         clear ho2 hb2)
      | (go_at_call 16
         (with_reducible refine (of_ok k (some ⟨g2, 0, none⟩) (valL t.val).length c2 (valL t.val) w2 HI2.out ?_ (HT.out.below HB2.out (Nat.le_refl _)) hk1 hk2).mono ?_)
         · rw [valL_len]; omega
         rintro _ w3 ⟨g3, hg3, rfl, hr3, hb3⟩
         have HB3 : Hid (Below w.heap.size w w3) := Lib.hid (HB2.out.trans (hb3.mono HB2.out.size))
         have HI3 := Lib.hid (of_in hr3 hk2)
         have hx3 := HX2.out.below hb3 HX2.out.lt
         clear x0 x1 x2 x3 x4
         obtain ⟨x0, x1, x2, x3, x4⟩ := hx3.cells
         clear hg3 hr3 hb3 hx3)
      | (go_at_call 65
         (with_reducible refine (pair_ok (k : Int) h.ka h.kn h.kc t.key (some ⟨g3, 0, none⟩) k k ((sumL (valL t.val)).take k) _ (HP.out.key.below HB3.out) (by omega) HI3.out (by omega) (by omega) (by omega)).mono ?_)
         rintro _ w5 ⟨g5, c5, rfl, ho5, hb5⟩
         have HB5 : Hid (Below w.heap.size w w5) := Lib.hid (HB3.out.trans (hb5.mono HB3.out.size))
         have HI5 := Lib.hid (InBytes.of_own ho5 (pairL_bytes HP.out.key.bytes (by omega) HDB.out))
         clear ho5 hb5)
      | (go_at_call 16
         (with_reducible refine (of_ok k _ _ _ _ _ HI5.out ?_ (HT.out.below HB5.out (Nat.le_refl _)) hk1 hk2).mono ?_)
         · have hq := pairL_len (a := t.key) (b := ((sumL (valL t.val)).take k)) (by omega)
           omega
         rintro _ w6 hof
         obtain ⟨g6, hg6, rfl, hr6, hb6⟩ := hof
         have HB6 : Hid (Below w.heap.size w w6) := Lib.hid (HB5.out.trans (hb6.mono HB5.out.size))
         have HR6 := Lib.hid (And.intro (Nat.le_trans HB5.out.size hg6) hr6)
         clear hg6 hr6 hb6))
    go_ret2
    exact ⟨g6, HR6.out.1, rfl, HR6.out.2, HB6.out⟩

/-- What the world is like inside the closure of Digest. -/
structure QW (k gw gc : Nat) (w W : World) (h : TH) (t : Tr) : Prop where
  box : Box W 25 w.heap.size h
  clo : Var1 W 81 gc (.func (.func 41) #[] #[.pointer (some ⟨gw, 0, none⟩), .pointer (some ⟨gc, 0, none⟩)])
  wid : Var1 W 3 gw (.int .i64 k)
  tab : TabLies W
  t : InTree W h t
  b : Below w.heap.size w W
theorem QW.below {k gw gc : Nat} {w W W' : World} {h : TH} {t : Tr} (d : QW k gw gc w W h t) (hb : Below W.heap.size W W') : QW k gw gc w W' h t :=
  ⟨d.box.below hb d.box.lt, d.clo.below hb d.clo.lt, d.wid.below hb d.wid.lt, d.tab.below hb (Nat.le_refl _), d.t.lower hb, d.b.trans (hb.mono d.b.size)⟩
theorem QW.drew {k gw gc : Nat} {w W : World} {h : TH} {t : Tr} (d : QW k gw gc w W h t) : QW k gw gc w W.drew h t := d.below (Below.refl _ _).drew
theorem QW.new {k gw gc : Nat} (w : World) {h : TH} {t : Tr} (hc : Var1 w 81 gc (.func (.func 41) #[] #[.pointer (some ⟨gw, 0, none⟩), .pointer (some ⟨gc, 0, none⟩)])) (hw : Var1 w 3 gw (.int .i64 k)) (hT : TabLies w) (ht : InTree w h t) : QW k gw gc w (w.alloc (.cells #[.int .i64 h.k, .slice h.ka h.kn h.kc, .slice h.va h.vn h.vc, .slice h.da h.dn h.dc, .slice h.ta h.tn h.tc] 25)) h t :=
  ⟨Box.new w _ h, hc.below ((Below.refl _ _).alloc (Nat.le_refl _) _) hc.lt, hw.below ((Below.refl _ _).alloc (Nat.le_refl _) _) hw.lt, hT.below ((Below.refl w.heap.size w).alloc (Nat.le_refl _) _) (Nat.le_refl _), ht.lower ((Below.refl _ _).alloc (Nat.le_refl _) _), (Below.refl _ _).alloc (Nat.le_refl _) _⟩
theorem digT_split {k : Nat} {t : Tr} {zs : List Int} (h0 : t.k ≠ 0) (h3 : t.k ≠ 3) (h2 : t.kids.length = 2) (hd : digT k t = some zs) :
    (valT k t).length = k ∧ ∃ l r, digT k (t.kids[0]'(by omega)) = some l ∧ digT k (t.kids[1]'(by omega)) = some r ∧ zs = (sumL (nodeL l ((sumL (pairL t.key (valT k t))).take k) r)).take k := by
  by_cases hv : (valT k t).length = k
  · refine ⟨hv, ?_⟩
    rw [digT_node h0 h3 hv h2] at hd
    split at hd
    · rename_i l r e1 e2
      injection hd with hd
      exact ⟨l, r, e1, e2, hd.symm⟩
    · cases hd
  · rw [digT_bad h0 h3 hv] at hd
    cases hd

set_option maxRecDepth 100000 in
set_option maxHeartbeats 4000000 in
theorem digC_any (k : Nat) (hk1 : 1 ≤ k) (hk2 : k ≤ 32) : ∀ (t : Tr) (h : TH) (w : World) (gw gc : Nat), InTree w h t → TabLies w → formedT t = true → Var1 w 3 gw (.int .i64 k) → Var1 w 81 gc (.func (.func 41) #[] #[.pointer (some ⟨gw, 0, none⟩), .pointer (some ⟨gc, 0, none⟩)]) → ∀ zs, digT k t = some zs →
    Calls Tryd.prog 41 #[h.v, .pointer (some ⟨gw, 0, none⟩), .pointer (some ⟨gc, 0, none⟩)] w (BytesPost w zs) := by
  intro t
  induction t using Tr.ind with
  | h t ih =>
  intro h w gw gc ht hT hf hw hc zs hdg
  obtain ⟨hpb, hfk⟩ := formed_kids hf
  obtain ⟨hlk, hlv⟩ := part_lens hpb
  unfold TH.v
  obtain ⟨H, hp⟩ := ht.parts
  have htl := hp.len
  have htc := hp.sl.le
  have htm := Nat.le_trans hp.sl.le hp.sl.max
  have hdl := hp.dig.len
  simp only [maxLen] at htm
  have HK := Lib.hid hp.hk
  have HP := Lib.hid hp
  have IH := Lib.hid ih
  have hd0 := QW.new w hc hw hT ht
  have HD0 := Lib.hid hd0
  obtain ⟨x0, x1, x2, x3, x4⟩ := hd0.box.cells
  have HF := Lib.hid hfk
  clear hp ht ih hT hc hw hd0 hf hfk
  go_enter Tryd.func41, Tryd.ntmps41
  by_cases k0 : t.k = 0
  · have e1 : zs = (sumL [3]).take k := by rw [digT_0 k0] at hdg; injection hdg with hdg; exact hdg.symm
    have hk0 : h.k = 0 := by rw [HK.out, k0]
    have hkb : (h.k == 0) = true := by rw [hk0]; rfl
    have b3 : Bytes8 [3] := fun z hz => by simp at hz; omega
    clear hdg k0 hk0
    go_upto_region 3 with fail
    generalize (w.alloc (.cells #[.int .i64 h.k, .slice h.ka h.kn h.kc, .slice h.va h.vn h.vc, .slice h.da h.dn h.dc, .slice h.ta h.tn h.tc] 25)) = w0 at *
    refine wp_region_held_drew (S := (fun W => W.cell? ⟨gw, 0, none⟩ = some (.int .i64 k))) (by kernel_rfl) HD0.out.drew.wid.cell (fun hHeld => ?_)
    refine take_w (i := 0) (oi := ?oZ1) (v := ?vZ1) ?hiZ1 (by kernel_rfl) (by kernel_rfl) (by kernel_rfl) ?hQZ1 ?hwZ1 ?hyZ1 (by assumption) ?restZ1
    case hiZ1 => (simp only [List.getElem?_toArray, List.getElem?_cons_zero] <;> rfl)
    case hQZ1 => exact (fun _ _ _ h => h)
    case hwZ1 => rfl
    case hyZ1 => (intro w hSw; (try dsimp only at hSw); go_simp; try with_reducible rfl)
    (try simp only [Act.put, List.setIfInBounds_toArray, List.set_cons_zero, List.set_cons_succ])
    refine wpAnyH_ready (rs := [1]) (by kernel_rfl) (by simp) ?_
    refine AllReadyH.cons (o := ?oZ2) ?hiZ2 (fun K hK => ?stZ2) AllReadyH.nil
    case hiZ2 => (simp only [List.getElem?_toArray, List.getElem?_cons_succ, List.getElem?_cons_zero] <;> rfl)
    go_simp
    go_at_call 42
    (with_reducible refine (none_any _).mono ?_)
    rintro _ w1 ⟨g1, c1, rfl, ho1, hb1⟩
    have HD1 := Lib.hid (HD0.out.drew.below hb1)
    have HI1 : Hid (InBytes w1 (some ⟨g1, 0, none⟩) 1 c1 [3]) := Lib.hid (InBytes.of_own ho1 b3)
    clear ho1 hb1
    go_simp
    refine hK.out _ _ ?_ (fun hHeld => ?_)
    · (first | exact HD2.out.wid.cell | exact HD1.out.wid.cell | exact HD0.out.drew.wid.cell)
    clear hK K
    (try simp only [Act.put, List.setIfInBounds_toArray, List.set_cons_zero, List.set_cons_succ])
    refine wpAnyH_ready (rs := [2]) (by kernel_rfl) (by simp) ?_
    refine AllReadyH.cons (o := ?oZ3) ?hiZ3 (fun K hK => ?stZ3) AllReadyH.nil
    case hiZ3 => (simp only [List.getElem?_toArray, List.getElem?_cons_succ, List.getElem?_cons_zero] <;> rfl)
    go_simp
    go_at_call 16
    (with_reducible refine (of_ok k (some ⟨g1, 0, none⟩) 1 c1 [3] _ HI1.out (by omega) HD1.out.tab hk1 hk2).mono ?_)
    rintro _ w2 ⟨g2, hg2, rfl, hr2, hb2⟩
    have HD2 := Lib.hid (HD1.out.below hb2)
    have HR2 := Lib.hid (And.intro (Nat.le_trans HD1.out.b.size hg2) hr2)
    clear hg2 hr2 hb2
    go_simp
    refine hK.out _ _ ?_ (fun hHeld => ?_)
    · (first | exact HD2.out.wid.cell | exact HD1.out.wid.cell | exact HD0.out.drew.wid.cell)
    clear hK K
    (try simp only [Act.put, List.setIfInBounds_toArray, List.set_cons_zero, List.set_cons_succ])
    refine take_w (i := 3) (oi := ?oZ4) (v := ?vZ4) ?hiZ4 (by kernel_rfl) (by kernel_rfl) (by kernel_rfl) ?hQZ4 ?hwZ4 ?hyZ4 (by assumption) ?restZ4
    case hiZ4 => (simp only [List.getElem?_toArray, List.getElem?_cons_succ, List.getElem?_cons_zero] <;> rfl)
    case hQZ4 => exact (fun _ _ _ h => h)
    case hwZ4 => rfl
    case hyZ4 => (intro w hSw; (try dsimp only at hSw); go_simp; try with_reducible rfl)
    (try simp only [Act.put, List.setIfInBounds_toArray, List.set_cons_zero, List.set_cons_succ])
    refine take_w (i := 4) (oi := ?oZ5) (v := ?vZ5) ?hiZ5 (by kernel_rfl) (by kernel_rfl) (by kernel_rfl) ?hQZ5 ?hwZ5 ?hyZ5 (by assumption) ?restZ5
    case hiZ5 => (simp only [List.getElem?_toArray, List.getElem?_cons_succ, List.getElem?_cons_zero] <;> rfl)
    case hQZ5 => exact (fun _ _ _ h => h)
    case hwZ5 => rfl
    case hyZ5 => (intro w hSw; (try dsimp only at hSw); go_simp; try with_reducible rfl)
    (try simp only [Act.put, List.setIfInBounds_toArray, List.set_cons_zero, List.set_cons_succ])
    refine take_w (i := 5) (oi := ?oZ6) (v := ?vZ6) ?hiZ6 (by kernel_rfl) (by kernel_rfl) (by kernel_rfl) ?hQZ6 ?hwZ6 ?hyZ6 (by assumption) ?restZ6
    case hiZ6 => (simp only [List.getElem?_toArray, List.getElem?_cons_succ, List.getElem?_cons_zero] <;> rfl)
    case hQZ6 => exact (fun _ _ _ h => h)
    case hwZ6 => rfl
    case hyZ6 => (intro w hSw; (try dsimp only at hSw); go_simp; try with_reducible rfl)
    (try simp only [Act.put, List.setIfInBounds_toArray, List.set_cons_zero, List.set_cons_succ])
    refine take_w (i := 6) (oi := ?oZ7) (v := ?vZ7) ?hiZ7 (by kernel_rfl) (by kernel_rfl) (by kernel_rfl) ?hQZ7 ?hwZ7 ?hyZ7 (by assumption) ?restZ7
    case hiZ7 => (simp only [List.getElem?_toArray, List.getElem?_cons_succ, List.getElem?_cons_zero] <;> rfl)
    case hQZ7 => exact (fun _ _ _ h => h)
    case hwZ7 => rfl
    case hyZ7 => (intro w hSw; (try dsimp only at hSw); go_simp; try with_reducible rfl)
    (try simp only [Act.put, List.setIfInBounds_toArray, List.set_cons_zero, List.set_cons_succ])
    refine wpAnyH_done (by kernel_rfl) ?_ _
    
    go_wp2_with fail
    go_ret2
    subst e1
    exact OfPost2.bytes hk2 ⟨g2, HR2.out.1, rfl, HR2.out.2, HD2.out.b⟩
  have hkb0 : (h.k == 0) = false := by rw [HK.out]; simpa using k0
  by_cases k3 : t.k = 3
  · have hkb3 : (h.k == 3) = true := by rw [HK.out]; simpa using k3
    rw [digT_3 k3] at hdg
    split at hdg
    · rename_i hdw
      injection hdg with hdg
      subst hdg
      have hd0 : 0 < h.dn := by omega
      have hd1 : h.dn ≤ 32 := by omega
      have HDW := Lib.hid (And.intro hdl hdw)
      clear k3 k0 hdl hdw
      go_upto_region 5 with fail
      generalize (w.alloc (.cells #[.int .i64 h.k, .slice h.ka h.kn h.kc, .slice h.va h.vn h.vc, .slice h.da h.dn h.dc, .slice h.ta h.tn h.tc] 25)) = w0 at *
      go_wp2_with (first
        | (go_at_call 43
           (with_reducible refine (cloneP_any h.da h.dn h.dc t.dig _ (HP.out.dig.below HD0.out.b) (by omega) hd0).mono ?_)
           rintro _ w1 ⟨g1, c1, rfl, ho1, hb1⟩
           have HD1 := Lib.hid (HD0.out.below hb1)
           have HO1 := Lib.hid ho1
           clear ho1 hb1))
      go_ret2
      refine ⟨some ⟨g1, 0, none⟩, c1, by rw [HDW.out.1]; rfl, ⟨by rw [HDW.out.1]; exact InBytes.of_own HO1.out HP.out.dig.bytes, fun ad hh => ?_, fun ad o hh => ?_⟩, HD1.out.b⟩
      · injection hh with hh
        rw [← hh]
        exact Nat.le_trans HD0.out.b.size (own_free HO1.out 0).1
      · injection hh with hh
        rw [← hh]
        exact (own_free HO1.out o).2
    · cases hdg
  have hkb3 : (h.k == 3) = false := by rw [HK.out]; simpa using k3
  rcases part_kids hpb with ⟨_, hk | hk⟩ | ⟨h2, hk⟩
  · exact absurd hk k0
  · exact absurd hk k3
  obtain ⟨hvl, ls, rs, hdL, hdR, hzs⟩ := digT_split k0 k3 h2 hdg
  have l0 : 0 < t.kids.length := by omega
  have l1 : 1 < t.kids.length := by omega
  have hll := digT_len hk2 hdL
  have hlr := digT_len hk2 hdR
  have HDL := Lib.hid hdL
  have HDR := Lib.hid hdR
  clear hdL hdR hdg hk k0 k3
  go_upto_region 6 with fail
  obtain ⟨g, off, hta, hg, -⟩ := (HP.out.below HD0.out.b).place (by omega)
  have HTA := Lib.hid hta
  rw [hta]
  generalize hW0 : (w.alloc (.cells #[.int .i64 h.k, .slice h.ka h.kn h.kc, .slice h.va h.vn h.vc, .slice h.da h.dn h.dc, .slice (some ⟨g, off, none⟩) h.tn h.tc] 25)) = w0
  have hW1 : (w.alloc (.cells #[.int .i64 h.k, .slice h.ka h.kn h.kc, .slice h.va h.vn h.vc, .slice h.da h.dn h.dc, .slice h.ta h.tn h.tc] 25)) = w0 := by rw [hta]; exact hW0
  rw [hW1] at HD0
  clear hta hW0 hW1 hg x0 x1 x2 x3 x4
  have ht1 : (1 : Int) < (h.tn : Int) := by omega
  have ht0 : 0 < h.tn := by omega
  refine wp_region_held_drew (S := (fun W => W.cell? ⟨gc, 0, none⟩ = some (.func (.func 41) #[] #[.pointer (some ⟨gw, 0, none⟩), .pointer (some ⟨gc, 0, none⟩)]) ∧ W.cell? ⟨w.heap.size, 4, none⟩ = some (.slice (some ⟨g, off, none⟩) h.tn h.tc) ∧ W.cell? ⟨g, off, none⟩ = some (.int .i64 (H 0).k) ∧ W.cell? ⟨g, off + 1, none⟩ = some (.slice (H 0).ka (H 0).kn (H 0).kc) ∧ W.cell? ⟨g, off + 2, none⟩ = some (.slice (H 0).va (H 0).vn (H 0).vc) ∧ W.cell? ⟨g, off + 3, none⟩ = some (.slice (H 0).da (H 0).dn (H 0).dc) ∧ W.cell? ⟨g, off + 4, none⟩ = some (.slice (H 0).ta (H 0).tn (H 0).tc))) (by kernel_rfl) ⟨HD0.out.drew.clo.cell, (HD0.out.drew.box.cells.2.2.2.2).trans (by rw [HTA.out]), (HP.out.below HD0.out.drew.b).kid0 HTA.out (by omega)⟩ (fun hHeld => ?_)
  refine take_w (i := 0) (oi := ?oZ8) (v := ?vZ8) ?hiZ8 (by kernel_rfl) (by kernel_rfl) (by kernel_rfl) ?hQZ8 ?hwZ8 ?hyZ8 (by assumption) ?restZ8
  case hiZ8 => (simp only [List.getElem?_toArray, List.getElem?_cons_zero] <;> rfl)
  case hQZ8 => exact (fun _ _ _ h => h)
  case hwZ8 => rfl
  case hyZ8 => (intro w hSw; (try dsimp only at hSw); go_simp; try with_reducible rfl)
  (try simp only [Act.put, List.setIfInBounds_toArray, List.set_cons_zero, List.set_cons_succ])
  refine take_w (i := 1) (oi := ?oZ9) (v := ?vZ9) ?hiZ9 (by kernel_rfl) (by kernel_rfl) (by kernel_rfl) ?hQZ9 ?hwZ9 ?hyZ9 (by assumption) ?restZ9
  case hiZ9 => (simp only [List.getElem?_toArray, List.getElem?_cons_succ, List.getElem?_cons_zero] <;> rfl)
  case hQZ9 => exact (fun _ _ _ h => h)
  case hwZ9 => rfl
  case hyZ9 => (intro w hSw; (try dsimp only at hSw); go_simp; try with_reducible rfl)
  (try simp only [Act.put, List.setIfInBounds_toArray, List.set_cons_zero, List.set_cons_succ])
  refine take_w (i := 2) (oi := ?oZ10) (v := ?vZ10) ?hiZ10 (by kernel_rfl) (by kernel_rfl) (by kernel_rfl) ?hQZ10 ?hwZ10 ?hyZ10 (by assumption) ?restZ10
  case hiZ10 => (simp only [List.getElem?_toArray, List.getElem?_cons_succ, List.getElem?_cons_zero] <;> rfl)
  case hQZ10 => exact (fun _ _ _ h => h)
  case hwZ10 => rfl
  case hyZ10 => (intro w hSw; (try dsimp only at hSw); go_simp; try with_reducible rfl)
  (try simp only [Act.put, List.setIfInBounds_toArray, List.set_cons_zero, List.set_cons_succ])
  refine take_w (i := 3) (oi := ?oZ11) (v := ?vZ11) ?hiZ11 (by kernel_rfl) (by kernel_rfl) (by kernel_rfl) ?hQZ11 ?hwZ11 ?hyZ11 (by assumption) ?restZ11
  case hiZ11 => (simp only [List.getElem?_toArray, List.getElem?_cons_succ, List.getElem?_cons_zero] <;> rfl)
  case hQZ11 => exact (fun _ _ _ h => h)
  case hwZ11 => rfl
  case hyZ11 => (intro w hSw; (try dsimp only at hSw); go_simp; try with_reducible rfl)
  (try simp only [Act.put, List.setIfInBounds_toArray, List.set_cons_zero, List.set_cons_succ])
  refine take_w (i := 4) (oi := ?oZ12) (v := ?vZ12) ?hiZ12 (by kernel_rfl) (by kernel_rfl) (by kernel_rfl) ?hQZ12 ?hwZ12 ?hyZ12 (by assumption) ?restZ12
  case hiZ12 => (simp only [List.getElem?_toArray, List.getElem?_cons_succ, List.getElem?_cons_zero] <;> rfl)
  case hQZ12 => exact (fun _ _ _ h => h)
  case hwZ12 => rfl
  case hyZ12 => (intro w hSw; (try dsimp only at hSw); go_simp; try with_reducible rfl)
  (try simp only [Act.put, List.setIfInBounds_toArray, List.set_cons_zero, List.set_cons_succ])
  refine wpAnyH_ready (rs := [5]) (by kernel_rfl) (by simp) ?_
  refine AllReadyH.cons (o := ?oZ13) ?hiZ13 (fun K hK => ?stZ13) AllReadyH.nil
  case hiZ13 => (simp only [List.getElem?_toArray, List.getElem?_cons_succ, List.getElem?_cons_zero] <;> rfl)
  go_simp
  go_at_call 41
  refine (IH.out _ (List.getElem_mem l0) (H 0) _ gw gc ((HP.out.below HD0.out.drew.b).kids 0 l0) HD0.out.drew.tab (HF.out 0 l0) HD0.out.drew.wid HD0.out.drew.clo ls HDL.out).mono ?_
  rintro _ w1 ⟨a1, c1, rfl, hn1, hb1⟩
  have HD1 := Lib.hid (HD0.out.drew.below hb1)
  have HI1 := Lib.hid hn1.inb
  skip
  clear hn1 hb1
  go_simp
  refine hK.out _ _ ?_ (fun hHeld => ?_)
  · (first | exact ⟨HD1.out.clo.cell, (HD1.out.box.cells.2.2.2.2).trans (by rw [HTA.out]), (HP.out.below HD1.out.b).kid0 HTA.out (by omega)⟩ | exact ⟨HD0.out.drew.clo.cell, (HD0.out.drew.box.cells.2.2.2.2).trans (by rw [HTA.out]), (HP.out.below HD0.out.drew.b).kid0 HTA.out (by omega)⟩)
  clear hK K
  (try simp only [Act.put, List.setIfInBounds_toArray, List.set_cons_zero, List.set_cons_succ])
  refine take_w (i := 6) (oi := ?oZ14) (v := ?vZ14) ?hiZ14 (by kernel_rfl) (by kernel_rfl) (by kernel_rfl) ?hQZ14 ?hwZ14 ?hyZ14 (by assumption) ?restZ14
  case hiZ14 => (simp only [List.getElem?_toArray, List.getElem?_cons_succ, List.getElem?_cons_zero] <;> rfl)
  case hQZ14 => exact (fun _ _ _ h => h)
  case hwZ14 => rfl
  case hyZ14 => (intro w hSw; (try dsimp only at hSw); go_simp; try with_reducible rfl)
  (try simp only [Act.put, List.setIfInBounds_toArray, List.set_cons_zero, List.set_cons_succ])
  refine take_w (i := 7) (oi := ?oZ15) (v := ?vZ15) ?hiZ15 (by kernel_rfl) (by kernel_rfl) (by kernel_rfl) ?hQZ15 ?hwZ15 ?hyZ15 (by assumption) ?restZ15
  case hiZ15 => (simp only [List.getElem?_toArray, List.getElem?_cons_succ, List.getElem?_cons_zero] <;> rfl)
  case hQZ15 => exact (fun _ _ _ h => h)
  case hwZ15 => rfl
  case hyZ15 => (intro w hSw; (try dsimp only at hSw); go_simp; try with_reducible rfl)
  (try simp only [Act.put, List.setIfInBounds_toArray, List.set_cons_zero, List.set_cons_succ])
  refine take_w (i := 8) (oi := ?oZ16) (v := ?vZ16) ?hiZ16 (by kernel_rfl) (by kernel_rfl) (by kernel_rfl) ?hQZ16 ?hwZ16 ?hyZ16 (by assumption) ?restZ16
  case hiZ16 => (simp only [List.getElem?_toArray, List.getElem?_cons_succ, List.getElem?_cons_zero] <;> rfl)
  case hQZ16 => exact (fun _ _ _ h => h)
  case hwZ16 => rfl
  case hyZ16 => (intro w hSw; (try dsimp only at hSw); go_simp; try with_reducible rfl)
  (try simp only [Act.put, List.setIfInBounds_toArray, List.set_cons_zero, List.set_cons_succ])
  refine take_w (i := 9) (oi := ?oZ17) (v := ?vZ17) ?hiZ17 (by kernel_rfl) (by kernel_rfl) (by kernel_rfl) ?hQZ17 ?hwZ17 ?hyZ17 (by assumption) ?restZ17
  case hiZ17 => (simp only [List.getElem?_toArray, List.getElem?_cons_succ, List.getElem?_cons_zero] <;> rfl)
  case hQZ17 => exact (fun _ _ _ h => h)
  case hwZ17 => rfl
  case hyZ17 => (intro w hSw; (try dsimp only at hSw); go_simp; try with_reducible rfl)
  (try simp only [Act.put, List.setIfInBounds_toArray, List.set_cons_zero, List.set_cons_succ])
  refine take_w (i := 10) (oi := ?oZ18) (v := ?vZ18) ?hiZ18 (by kernel_rfl) (by kernel_rfl) (by kernel_rfl) ?hQZ18 ?hwZ18 ?hyZ18 (by assumption) ?restZ18
  case hiZ18 => (simp only [List.getElem?_toArray, List.getElem?_cons_succ, List.getElem?_cons_zero] <;> rfl)
  case hQZ18 => exact (fun _ _ _ h => h)
  case hwZ18 => rfl
  case hyZ18 => (intro w hSw; (try dsimp only at hSw); go_simp; try with_reducible rfl)
  (try simp only [Act.put, List.setIfInBounds_toArray, List.set_cons_zero, List.set_cons_succ])
  refine wpAnyH_done (by kernel_rfl) ?_ _
  
  clear hHeld
  obtain ⟨x0, x1, x2, x3, x4⟩ := HD1.out.box.cells
  have xw := HD1.out.wid.cell
  go_upto_region 12 with (first
    | (go_at_call 44
       refine (pairDigest_any k hk1 hk2 t h _ HD1.out.t HD1.out.tab hpb hvl).mono ?_
       rintro _ w2 ⟨g2, hg2, rfl, hr2, hb2⟩
       have HD2 := Lib.hid (HD1.out.below hb2)
       have HI2 := Lib.hid (of_in hr2 hk2)
       have HI12 := Lib.hid (HI1.out.below hb2)
       clear hg2 hr2 hb2))
  clear x0 x1 x2 x3 x4 xw
  refine wp_region_held_drew (S := (fun W => W.cell? ⟨gc, 0, none⟩ = some (.func (.func 41) #[] #[.pointer (some ⟨gw, 0, none⟩), .pointer (some ⟨gc, 0, none⟩)]) ∧ W.cell? ⟨w.heap.size, 4, none⟩ = some (.slice (some ⟨g, off, none⟩) h.tn h.tc) ∧ W.cell? ⟨g, off + 5, none⟩ = some (.int .i64 (H 1).k) ∧ W.cell? ⟨g, off + 5 + 1, none⟩ = some (.slice (H 1).ka (H 1).kn (H 1).kc) ∧ W.cell? ⟨g, off + 5 + 2, none⟩ = some (.slice (H 1).va (H 1).vn (H 1).vc) ∧ W.cell? ⟨g, off + 5 + 3, none⟩ = some (.slice (H 1).da (H 1).dn (H 1).dc) ∧ W.cell? ⟨g, off + 5 + 4, none⟩ = some (.slice (H 1).ta (H 1).tn (H 1).tc))) (by kernel_rfl) ⟨HD2.out.drew.clo.cell, (HD2.out.drew.box.cells.2.2.2.2).trans (by rw [HTA.out]), (HP.out.below HD2.out.drew.b).kid1 HTA.out (by omega)⟩ (fun hHeld => ?_)
  refine take_w (i := 0) (oi := ?oZ19) (v := ?vZ19) ?hiZ19 (by kernel_rfl) (by kernel_rfl) (by kernel_rfl) ?hQZ19 ?hwZ19 ?hyZ19 (by assumption) ?restZ19
  case hiZ19 => (simp only [List.getElem?_toArray, List.getElem?_cons_zero] <;> rfl)
  case hQZ19 => exact (fun _ _ _ h => h)
  case hwZ19 => rfl
  case hyZ19 => (intro w hSw; (try dsimp only at hSw); go_simp; try with_reducible rfl)
  (try simp only [Act.put, List.setIfInBounds_toArray, List.set_cons_zero, List.set_cons_succ])
  refine take_w (i := 1) (oi := ?oZ20) (v := ?vZ20) ?hiZ20 (by kernel_rfl) (by kernel_rfl) (by kernel_rfl) ?hQZ20 ?hwZ20 ?hyZ20 (by assumption) ?restZ20
  case hiZ20 => (simp only [List.getElem?_toArray, List.getElem?_cons_succ, List.getElem?_cons_zero] <;> rfl)
  case hQZ20 => exact (fun _ _ _ h => h)
  case hwZ20 => rfl
  case hyZ20 => (intro w hSw; (try dsimp only at hSw); go_simp; try with_reducible rfl)
  (try simp only [Act.put, List.setIfInBounds_toArray, List.set_cons_zero, List.set_cons_succ])
  refine take_w (i := 2) (oi := ?oZ21) (v := ?vZ21) ?hiZ21 (by kernel_rfl) (by kernel_rfl) (by kernel_rfl) ?hQZ21 ?hwZ21 ?hyZ21 (by assumption) ?restZ21
  case hiZ21 => (simp only [List.getElem?_toArray, List.getElem?_cons_succ, List.getElem?_cons_zero] <;> rfl)
  case hQZ21 => exact (fun _ _ _ h => h)
  case hwZ21 => rfl
  case hyZ21 => (intro w hSw; (try dsimp only at hSw); go_simp; try with_reducible rfl)
  (try simp only [Act.put, List.setIfInBounds_toArray, List.set_cons_zero, List.set_cons_succ])
  refine take_w (i := 3) (oi := ?oZ22) (v := ?vZ22) ?hiZ22 (by kernel_rfl) (by kernel_rfl) (by kernel_rfl) ?hQZ22 ?hwZ22 ?hyZ22 (by assumption) ?restZ22
  case hiZ22 => (simp only [List.getElem?_toArray, List.getElem?_cons_succ, List.getElem?_cons_zero] <;> rfl)
  case hQZ22 => exact (fun _ _ _ h => h)
  case hwZ22 => rfl
  case hyZ22 => (intro w hSw; (try dsimp only at hSw); go_simp; try with_reducible rfl)
  (try simp only [Act.put, List.setIfInBounds_toArray, List.set_cons_zero, List.set_cons_succ])
  refine take_w (i := 4) (oi := ?oZ23) (v := ?vZ23) ?hiZ23 (by kernel_rfl) (by kernel_rfl) (by kernel_rfl) ?hQZ23 ?hwZ23 ?hyZ23 (by assumption) ?restZ23
  case hiZ23 => (simp only [List.getElem?_toArray, List.getElem?_cons_succ, List.getElem?_cons_zero] <;> rfl)
  case hQZ23 => exact (fun _ _ _ h => h)
  case hwZ23 => rfl
  case hyZ23 => (intro w hSw; (try dsimp only at hSw); go_simp; try with_reducible rfl)
  (try simp only [Act.put, List.setIfInBounds_toArray, List.set_cons_zero, List.set_cons_succ])
  refine wpAnyH_ready (rs := [5]) (by kernel_rfl) (by simp) ?_
  refine AllReadyH.cons (o := ?oZ24) ?hiZ24 (fun K hK => ?stZ24) AllReadyH.nil
  case hiZ24 => (simp only [List.getElem?_toArray, List.getElem?_cons_succ, List.getElem?_cons_zero] <;> rfl)
  go_simp
  go_at_call 41
  refine (IH.out _ (List.getElem_mem l1) (H 1) _ gw gc ((HP.out.below HD2.out.drew.b).kids 1 l1) HD2.out.drew.tab (HF.out 1 l1) HD2.out.drew.wid HD2.out.drew.clo rs HDR.out).mono ?_
  rintro _ w3 ⟨a3, c3, rfl, hn3, hb3⟩
  have HD3 := Lib.hid (HD2.out.drew.below hb3)
  have HI3 := Lib.hid hn3.inb
  have HI13 := Lib.hid ((HI12.out.below (Below.refl _ _).drew).below hb3)
  have HI23 := Lib.hid ((HI2.out.below (Below.refl _ _).drew).below hb3)
  clear hn3 hb3
  go_simp
  refine hK.out _ _ ?_ (fun hHeld => ?_)
  · (first | exact ⟨HD3.out.clo.cell, (HD3.out.box.cells.2.2.2.2).trans (by rw [HTA.out]), (HP.out.below HD3.out.b).kid1 HTA.out (by omega)⟩ | exact ⟨HD2.out.drew.clo.cell, (HD2.out.drew.box.cells.2.2.2.2).trans (by rw [HTA.out]), (HP.out.below HD2.out.drew.b).kid1 HTA.out (by omega)⟩)
  clear hK K
  (try simp only [Act.put, List.setIfInBounds_toArray, List.set_cons_zero, List.set_cons_succ])
  refine take_w (i := 6) (oi := ?oZ25) (v := ?vZ25) ?hiZ25 (by kernel_rfl) (by kernel_rfl) (by kernel_rfl) ?hQZ25 ?hwZ25 ?hyZ25 (by assumption) ?restZ25
  case hiZ25 => (simp only [List.getElem?_toArray, List.getElem?_cons_succ, List.getElem?_cons_zero] <;> rfl)
  case hQZ25 => exact (fun _ _ _ h => h)
  case hwZ25 => rfl
  case hyZ25 => (intro w hSw; (try dsimp only at hSw); go_simp; try with_reducible rfl)
  (try simp only [Act.put, List.setIfInBounds_toArray, List.set_cons_zero, List.set_cons_succ])
  refine take_w (i := 7) (oi := ?oZ26) (v := ?vZ26) ?hiZ26 (by kernel_rfl) (by kernel_rfl) (by kernel_rfl) ?hQZ26 ?hwZ26 ?hyZ26 (by assumption) ?restZ26
  case hiZ26 => (simp only [List.getElem?_toArray, List.getElem?_cons_succ, List.getElem?_cons_zero] <;> rfl)
  case hQZ26 => exact (fun _ _ _ h => h)
  case hwZ26 => rfl
  case hyZ26 => (intro w hSw; (try dsimp only at hSw); go_simp; try with_reducible rfl)
  (try simp only [Act.put, List.setIfInBounds_toArray, List.set_cons_zero, List.set_cons_succ])
  refine take_w (i := 8) (oi := ?oZ27) (v := ?vZ27) ?hiZ27 (by kernel_rfl) (by kernel_rfl) (by kernel_rfl) ?hQZ27 ?hwZ27 ?hyZ27 (by assumption) ?restZ27
  case hiZ27 => (simp only [List.getElem?_toArray, List.getElem?_cons_succ, List.getElem?_cons_zero] <;> rfl)
  case hQZ27 => exact (fun _ _ _ h => h)
  case hwZ27 => rfl
  case hyZ27 => (intro w hSw; (try dsimp only at hSw); go_simp; try with_reducible rfl)
  (try simp only [Act.put, List.setIfInBounds_toArray, List.set_cons_zero, List.set_cons_succ])
  refine take_w (i := 9) (oi := ?oZ28) (v := ?vZ28) ?hiZ28 (by kernel_rfl) (by kernel_rfl) (by kernel_rfl) ?hQZ28 ?hwZ28 ?hyZ28 (by assumption) ?restZ28
  case hiZ28 => (simp only [List.getElem?_toArray, List.getElem?_cons_succ, List.getElem?_cons_zero] <;> rfl)
  case hQZ28 => exact (fun _ _ _ h => h)
  case hwZ28 => rfl
  case hyZ28 => (intro w hSw; (try dsimp only at hSw); go_simp; try with_reducible rfl)
  (try simp only [Act.put, List.setIfInBounds_toArray, List.set_cons_zero, List.set_cons_succ])
  refine take_w (i := 10) (oi := ?oZ29) (v := ?vZ29) ?hiZ29 (by kernel_rfl) (by kernel_rfl) (by kernel_rfl) ?hQZ29 ?hwZ29 ?hyZ29 (by assumption) ?restZ29
  case hiZ29 => (simp only [List.getElem?_toArray, List.getElem?_cons_succ, List.getElem?_cons_zero] <;> rfl)
  case hQZ29 => exact (fun _ _ _ h => h)
  case hwZ29 => rfl
  case hyZ29 => (intro w hSw; (try dsimp only at hSw); go_simp; try with_reducible rfl)
  (try simp only [Act.put, List.setIfInBounds_toArray, List.set_cons_zero, List.set_cons_succ])
  refine wpAnyH_done (by kernel_rfl) ?_ _
  
  clear hHeld
  have hi1 := HI13.out
  have hi3 := HI3.out
  rw [hll] at hi1
  rw [hlr] at hi3
  have HIA := Lib.hid hi1
  have HIB := Lib.hid hi3
  have xw := HD3.out.wid.cell
  have HZS := Lib.hid hzs
  clear hi1 hi3 hzs hvl hll hlr
  go_wp2_with (first
    | (go_at_call 45
       (with_reducible refine (node_ok (k : Int) a1 k c1 ls (some ⟨g2, 0, none⟩) k k ((sumL (pairL t.key (valT k t))).take k) a3 k c3 rs _ HIA.out HI23.out HIB.out (by omega) (by omega) rfl rfl rfl).mono ?_)
       rintro _ w4 ⟨g4, c4, rfl, ho4, hb4⟩
       have HD4 := Lib.hid (HD3.out.below hb4)
       have HI4 := Lib.hid (InBytes.of_own ho4 (nodeL_bytes HIA.out.bytes HI23.out.bytes HIB.out.bytes))
       clear xw
       have xw := HD4.out.wid.cell
       clear ho4 hb4)
    | (go_at_call 16
       (with_reducible refine (of_ok k _ _ _ _ _ HI4.out ?_ HD4.out.tab hk1 hk2).mono ?_)
       · rw [nodeL_len, HIA.out.len, HI23.out.len, HIB.out.len]; omega
       rintro _ w5 ⟨g5, hg5, rfl, hr5, hb5⟩
       have HD5 := Lib.hid (HD4.out.below hb5)
       have HR5 := Lib.hid (And.intro (Nat.le_trans HD4.out.b.size hg5) hr5)
       clear hg5 hr5 hb5))
  go_ret2
  rw [HZS.out]
  exact OfPost2.bytes hk2 ⟨g5, HR5.out.1, rfl, HR5.out.2, HD5.out.b⟩
end Go.Proofs.YtioifkbkllnkgaaDoor

/- The contracts of the program's trees: Digest. -/
namespace Go.Proofs.YtioifkbkllnkgaaDoor
open Go.RowKit
set_option linter.unusedVariables false

theorem fits_dig {k : Nat} (hk : k ≤ 32) : ∀ t : Tr, formedT t = true → (allT (fitsK k) t = true ↔ ∃ zs, digT k t = some zs) := by
  intro t
  induction t using Tr.ind with
  | h t ih =>
  intro hf
  obtain ⟨hp, hkf⟩ := formed_kids hf
  rw [allT_eq, Bool.and_eq_true]
  rcases part_kids hp with ⟨h0, h | h⟩ | ⟨h2, h⟩
  · have e : t.kids = [] := List.length_eq_zero_iff.1 h0
    rw [digT_0 h, e]
    simp [fitsK, toldK, h]
  · have e : t.kids = [] := List.length_eq_zero_iff.1 h0
    rw [digT_3 h, e]
    simp [fitsK, toldK, h]
  · have n0 : t.k ≠ 0 := by omega
    have n3 : t.k ≠ 3 := by omega
    have i0 := ih _ (List.getElem_mem (by omega : 0 < t.kids.length)) (hkf 0 (by omega))
    have i1 := ih _ (List.getElem_mem (by omega : 1 < t.kids.length)) (hkf 1 (by omega))
    have ev : fitsK k t = true ↔ (valT k t).length = k := by
      unfold fitsK toldK valT
      rcases h with h | h
      · rw [if_pos h]
        simp [h, take_sum_len hk]
      · rw [if_neg (by omega)]
        simp [h]
    have ek : t.kids.all (allT (fitsK k)) = true ↔ allT (fitsK k) (t.kids[0]'(by omega)) = true ∧ allT (fitsK k) (t.kids[1]'(by omega)) = true := by
      rw [List.all_eq_true]
      constructor
      · exact fun hh => ⟨hh _ (List.getElem_mem _), hh _ (List.getElem_mem _)⟩
      · intro hh x hx
        obtain ⟨i, hi, rfl⟩ := List.getElem_of_mem hx
        rcases (by omega : i = 0 ∨ i = 1) with rfl | rfl
        · exact hh.1
        · exact hh.2
    rw [ev, ek, i0, i1]
    constructor
    · rintro ⟨hv, ⟨l, hl⟩, ⟨r, hr⟩⟩
      rw [digT_node n0 n3 hv h2, hl, hr]
      exact ⟨_, rfl⟩
    · rintro ⟨zs, hz⟩
      obtain ⟨hv, l, r, hl, hr, -⟩ := digT_split n0 n3 h2 hz
      exact ⟨hv, ⟨l, hl⟩, ⟨r, hr⟩⟩
theorem fits_none {k : Nat} (hk : k ≤ 32) {t : Tr} (hf : formedT t = true) (hd : digT k t = none) : allT (fitsK k) t = false := by
  rw [Bool.eq_false_iff]
  intro h
  obtain ⟨zs, hz⟩ := (fits_dig hk t hf).1 h
  rw [hd] at hz
  cases hz

set_option maxRecDepth 100000 in
set_option maxHeartbeats 4000000 in
theorem digest_arg (x : Int) (t : Tr) (h : TH) (w : World) (ht : InTree w h t) (hx1 : -9223372036854775808 ≤ x) (hxx : x ≤ 9223372036854775807) (hx : ¬ (1 ≤ x ∧ x ≤ 32)) :
    Calls Tryd.prog 17 #[.int .i64 x, h.v] w (ErrPost w 1) := by
  unfold TH.v
  have hb1 : Below w.heap.size w (w.alloc (.cells #[.int .i64 x] 3)) := (Below.refl _ _).alloc (Nat.le_refl _) _
  have hv1 := Var1.new w 3 (.int .i64 x)
  have hs1 : (w.alloc (.cells #[.int .i64 x] 3)).heap.size = w.heap.size + 1 := by simp
  have hb2 : Below w.heap.size w ((w.alloc (.cells #[.int .i64 x] 3)).alloc (.cells #[.int .i64 h.k, .slice h.ka h.kn h.kc, .slice h.va h.vn h.vc, .slice h.da h.dn h.dc, .slice h.ta h.tn h.tc] 25)) := hb1.alloc (by rw [hs1]; omega) _
  have hv2 := hv1.below ((Below.refl _ _).alloc (Nat.le_refl _) (.cells #[.int .i64 h.k, .slice h.ka h.kn h.kc, .slice h.va h.vn h.vc, .slice h.da h.dn h.dc, .slice h.ta h.tn h.tc] 25)) hv1.lt
  have hx2 := Box.new (w.alloc (.cells #[.int .i64 x] 3)) 25 h
  rw [hs1] at hx2
  clear hb1 hv1 hs1
  go_enter Tryd.func17, Tryd.ntmps17
  go_upto_region 1 with fail
  generalize ((w.alloc (.cells #[.int .i64 x] 3)).alloc (.cells #[.int .i64 h.k, .slice h.ka h.kn h.kc, .slice h.va h.vn h.vc, .slice h.da h.dn h.dc, .slice h.ta h.tn h.tc] 25)) = w2 at *
  have xv := hv2.cell
  obtain ⟨x0, x1, x2, x3, x4⟩ := hx2.cells
  have HB2 := Lib.hid hb2
  have HV2 := Lib.hid hv2
  have HX2 := Lib.hid hx2
  clear hb2 hv2 hx2
  by_cases hq : x < 1
  · go_wp2_with fail
    go_ret2
    exact ⟨none, 0, rfl, HB2.out⟩
  · have hq2 : 32 < x := by omega
    go_wp2_with fail
    go_ret2
    exact ⟨none, 0, rfl, HB2.out⟩

set_option maxRecDepth 100000 in
set_option maxHeartbeats 4000000 in
theorem digest_err (k : Nat) (hk1 : 1 ≤ k) (hk2 : k ≤ 32) (t : Tr) (h : TH) (w : World) (ht : InTree w h t) (hc : checkT t ≠ 0) :
    Calls Tryd.prog 17 #[.int .i64 k, h.v] w (ErrPost w (checkT t)) := by
  have HTT := Lib.hid ht
  have HCZ := Lib.hid hc
  clear ht hc
  unfold TH.v
  have hb1 : Below w.heap.size w (w.alloc (.cells #[.int .i64 k] 3)) := (Below.refl _ _).alloc (Nat.le_refl _) _
  have hv1 := Var1.new w 3 (.int .i64 k)
  have hs1 : (w.alloc (.cells #[.int .i64 k] 3)).heap.size = w.heap.size + 1 := by simp
  have hb2 : Below w.heap.size w ((w.alloc (.cells #[.int .i64 k] 3)).alloc (.cells #[.int .i64 h.k, .slice h.ka h.kn h.kc, .slice h.va h.vn h.vc, .slice h.da h.dn h.dc, .slice h.ta h.tn h.tc] 25)) := hb1.alloc (by rw [hs1]; omega) _
  have hv2 := hv1.below ((Below.refl _ _).alloc (Nat.le_refl _) (.cells #[.int .i64 h.k, .slice h.ka h.kn h.kc, .slice h.va h.vn h.vc, .slice h.da h.dn h.dc, .slice h.ta h.tn h.tc] 25)) hv1.lt
  have hx2 := Box.new (w.alloc (.cells #[.int .i64 k] 3)) 25 h
  rw [hs1] at hx2
  clear hb1 hv1 hs1
  go_enter Tryd.func17, Tryd.ntmps17
  go_upto_region 1 with fail
  generalize ((w.alloc (.cells #[.int .i64 k] 3)).alloc (.cells #[.int .i64 h.k, .slice h.ka h.kn h.kc, .slice h.va h.vn h.vc, .slice h.da h.dn h.dc, .slice h.ta h.tn h.tc] 25)) = w2 at *
  have xv := hv2.cell
  obtain ⟨x0, x1, x2, x3, x4⟩ := hx2.cells
  have HB2 := Lib.hid hb2
  have HV2 := Lib.hid hv2
  have HX2 := Lib.hid hx2
  clear hb2 hv2 hx2
  have q1 : ¬ (k : Int) < 1 := by omega
  have q2 : ¬ (32 : Int) < k := by omega
  go_wp2_with (first
    | (go_at_call 37
       refine (check_any t h _ (HTT.out.lower HB2.out)).mono ?_
       rintro _ w3 ⟨rfl, hb3⟩
       have HB3 : Hid (Below w.heap.size w w3) := Lib.hid (HB2.out.trans (hb3.mono HB2.out.size))
       have HV3 := Lib.hid (HV2.out.below hb3 HV2.out.lt)
       have HX3 := Lib.hid (HX2.out.below hb3 HX2.out.lt)
       rw [codeV_pos HCZ.out]
       clear xv x0 x1 x2 x3 x4 hb3))
  go_ret2
  exact ⟨none, 0, by rw [codeV_pos HCZ.out]; rfl, HB3.out⟩

set_option maxRecDepth 100000 in
set_option maxHeartbeats 4000000 in
theorem digest_none (k : Nat) (hk1 : 1 ≤ k) (hk2 : k ≤ 32) (t : Tr) (h : TH) (w : World) (ht : InTree w h t) (hT : TabLies w) (hc : checkT t = 0) (hd : digT k t = none) :
    Calls Tryd.prog 17 #[.int .i64 k, h.v] w (ErrPost w 3) := by
  have HTT := Lib.hid ht
  have HFI := Lib.hid (fits_none hk2 (check_zero hc).1 hd)
  have HCZ := Lib.hid hc
  clear ht hc hd hT
  unfold TH.v
  have hb1 : Below w.heap.size w (w.alloc (.cells #[.int .i64 k] 3)) := (Below.refl _ _).alloc (Nat.le_refl _) _
  have hv1 := Var1.new w 3 (.int .i64 k)
  have hs1 : (w.alloc (.cells #[.int .i64 k] 3)).heap.size = w.heap.size + 1 := by simp
  have hb2 : Below w.heap.size w ((w.alloc (.cells #[.int .i64 k] 3)).alloc (.cells #[.int .i64 h.k, .slice h.ka h.kn h.kc, .slice h.va h.vn h.vc, .slice h.da h.dn h.dc, .slice h.ta h.tn h.tc] 25)) := hb1.alloc (by rw [hs1]; omega) _
  have hv2 := hv1.below ((Below.refl _ _).alloc (Nat.le_refl _) (.cells #[.int .i64 h.k, .slice h.ka h.kn h.kc, .slice h.va h.vn h.vc, .slice h.da h.dn h.dc, .slice h.ta h.tn h.tc] 25)) hv1.lt
  have hx2 := Box.new (w.alloc (.cells #[.int .i64 k] 3)) 25 h
  rw [hs1] at hx2
  clear hb1 hv1 hs1
  go_enter Tryd.func17, Tryd.ntmps17
  go_upto_region 1 with fail
  generalize ((w.alloc (.cells #[.int .i64 k] 3)).alloc (.cells #[.int .i64 h.k, .slice h.ka h.kn h.kc, .slice h.va h.vn h.vc, .slice h.da h.dn h.dc, .slice h.ta h.tn h.tc] 25)) = w2 at *
  have xv := hv2.cell
  obtain ⟨x0, x1, x2, x3, x4⟩ := hx2.cells
  have HB2 := Lib.hid hb2
  have HV2 := Lib.hid hv2
  have HX2 := Lib.hid hx2
  clear hb2 hv2 hx2
  have q1 : ¬ (k : Int) < 1 := by omega
  have q2 : ¬ (32 : Int) < k := by omega
  have hmf : ∀ (fn : Fn) (first cap : Array Value) (w : World), (Instr.makeFunc fn first cap).run Tryd.prog w = .ok (.func fn first cap) w := fun _ _ _ _ => rfl
  go_upto_region 6 with (first
    | (go_at_call 37
       refine (check_any t h _ (HTT.out.lower HB2.out)).mono ?_
       rintro _ w3 ⟨rfl, hb3⟩
       have HB3 : Hid (Below w.heap.size w w3) := Lib.hid (HB2.out.trans (hb3.mono HB2.out.size))
       have HV3 := Lib.hid (HV2.out.below hb3 HV2.out.lt)
       have HX3 := Lib.hid (HX2.out.below hb3 HX2.out.lt)
       have hcv : codeV (checkT t) = .nilIface := by rw [HCZ.out]; rfl
       rw [hcv]
       clear hcv
       clear xv x0 x1 x2 x3 x4 hb3))
  obtain ⟨x0, x1, x2, x3, x4⟩ := HX3.out.cells
  go_upto_if 25 with (first
    | (go_at_call 40
       refine (everyFits k w.heap.size t h _ (HTT.out.lower HB3.out) HV3.out).mono ?_
       rintro _ w4 ⟨rfl, hb4⟩
       have HB4 : Hid (Below w.heap.size w w4) := Lib.hid (HB3.out.trans (hb4.mono HB3.out.size))
       have HV4 := Lib.hid (HV3.out.below hb4 HV3.out.lt)
       have HX4 := Lib.hid (HX3.out.below hb4 HX3.out.lt)
       rw [HFI.out]
       clear hb4))
  clear x0 x1 x2 x3 x4
  go_wp2_with fail
  go_ret2
  exact ⟨none, 0, rfl, HB4.out⟩

set_option maxRecDepth 100000 in
set_option maxHeartbeats 4000000 in
theorem digest_ok (k : Nat) (hk1 : 1 ≤ k) (hk2 : k ≤ 32) (t : Tr) (h : TH) (w : World) (ht : InTree w h t) (hT : TabLies w) (hc : checkT t = 0) {zs : List Int} (hd : digT k t = some zs) :
    Calls Tryd.prog 17 #[.int .i64 k, h.v] w (BytesPost w zs) := by
  have HTT := Lib.hid ht
  have HT := Lib.hid hT
  have HFI := Lib.hid ((fits_dig hk2 t (check_zero hc).1).2 ⟨zs, hd⟩)
  have HCZ := Lib.hid hc
  have HDG := Lib.hid hd
  clear ht hc hd hT
  unfold TH.v
  have hb1 : Below w.heap.size w (w.alloc (.cells #[.int .i64 k] 3)) := (Below.refl _ _).alloc (Nat.le_refl _) _
  have hv1 := Var1.new w 3 (.int .i64 k)
  have hs1 : (w.alloc (.cells #[.int .i64 k] 3)).heap.size = w.heap.size + 1 := by simp
  have hb2 : Below w.heap.size w ((w.alloc (.cells #[.int .i64 k] 3)).alloc (.cells #[.int .i64 h.k, .slice h.ka h.kn h.kc, .slice h.va h.vn h.vc, .slice h.da h.dn h.dc, .slice h.ta h.tn h.tc] 25)) := hb1.alloc (by rw [hs1]; omega) _
  have hv2 := hv1.below ((Below.refl _ _).alloc (Nat.le_refl _) (.cells #[.int .i64 h.k, .slice h.ka h.kn h.kc, .slice h.va h.vn h.vc, .slice h.da h.dn h.dc, .slice h.ta h.tn h.tc] 25)) hv1.lt
  have hx2 := Box.new (w.alloc (.cells #[.int .i64 k] 3)) 25 h
  rw [hs1] at hx2
  clear hb1 hv1 hs1
  go_enter Tryd.func17, Tryd.ntmps17
  go_upto_region 1 with fail
  generalize ((w.alloc (.cells #[.int .i64 k] 3)).alloc (.cells #[.int .i64 h.k, .slice h.ka h.kn h.kc, .slice h.va h.vn h.vc, .slice h.da h.dn h.dc, .slice h.ta h.tn h.tc] 25)) = w2 at *
  have xv := hv2.cell
  obtain ⟨x0, x1, x2, x3, x4⟩ := hx2.cells
  have HB2 := Lib.hid hb2
  have HV2 := Lib.hid hv2
  have HX2 := Lib.hid hx2
  clear hb2 hv2 hx2
  have q1 : ¬ (k : Int) < 1 := by omega
  have q2 : ¬ (32 : Int) < k := by omega
  have hmf : ∀ (fn : Fn) (first cap : Array Value) (w : World), (Instr.makeFunc fn first cap).run Tryd.prog w = .ok (.func fn first cap) w := fun _ _ _ _ => rfl
  go_upto_region 6 with (first
    | (go_at_call 37
       refine (check_any t h _ (HTT.out.lower HB2.out)).mono ?_
       rintro _ w3 ⟨rfl, hb3⟩
       have HB3 : Hid (Below w.heap.size w w3) := Lib.hid (HB2.out.trans (hb3.mono HB2.out.size))
       have HV3 := Lib.hid (HV2.out.below hb3 HV2.out.lt)
       have HX3 := Lib.hid (HX2.out.below hb3 HX2.out.lt)
       have hcv : codeV (checkT t) = .nilIface := by rw [HCZ.out]; rfl
       rw [hcv]
       clear hcv
       clear xv x0 x1 x2 x3 x4 hb3))
  obtain ⟨x0, x1, x2, x3, x4⟩ := HX3.out.cells
  go_upto_if 25 with (first
    | (go_at_call 40
       refine (everyFits k w.heap.size t h _ (HTT.out.lower HB3.out) HV3.out).mono ?_
       rintro _ w4 ⟨rfl, hb4⟩
       have HB4 : Hid (Below w.heap.size w w4) := Lib.hid (HB3.out.trans (hb4.mono HB3.out.size))
       have HV4 := Lib.hid (HV3.out.below hb4 HV3.out.lt)
       have HX4 := Lib.hid (HX3.out.below hb4 HX3.out.lt)
       rw [HFI.out]
       clear hb4))
  clear x0 x1 x2 x3 x4
  go_upto_region 10 with fail
  have hb5 : Below w4.heap.size w4 (w4.alloc (.cells #[.nilFunc] 81)) := (Below.refl _ _).alloc (Nat.le_refl _) _
  have hnf := Var1.new w4 81 .nilFunc
  have hbx := HX4.out.below hb5 HX4.out.lt
  have hvw := HV4.out.below hb5 HV4.out.lt
  have hsz := HB4.out.size
  generalize w4.alloc (.cells #[.nilFunc] 81) = w5 at *
  have c0 := hnf.cell
  have c1 := hnf.frozen 0
  have hne : w.heap.size + 1 ≠ w4.heap.size := Nat.ne_of_lt HX4.out.lt
  have hne2 : w.heap.size ≠ w4.heap.size := Nat.ne_of_lt HV4.out.lt
  have hn6 := hnf.set (.func (.func 41) #[] #[.pointer (some ⟨w.heap.size, 0, none⟩), .pointer (some ⟨w4.heap.size, 0, none⟩)])
  have hbx6 : Box (w5.setCell ⟨w4.heap.size, 0, none⟩ (.func (.func 41) #[] #[.pointer (some ⟨w.heap.size, 0, none⟩), .pointer (some ⟨w4.heap.size, 0, none⟩)])) 25 (w.heap.size + 1) h := (Below.heap_setCell w5 ⟨w4.heap.size, 0, none⟩ _ (w.heap.size + 1) hne).trans hbx
  have hvw6 := hvw.far (p := ⟨w4.heap.size, 0, none⟩) hne2 (.func (.func 41) #[] #[.pointer (some ⟨w.heap.size, 0, none⟩), .pointer (some ⟨w4.heap.size, 0, none⟩)])
  have hb6 : Below w4.heap.size w4 (w5.setCell ⟨w4.heap.size, 0, none⟩ (.func (.func 41) #[] #[.pointer (some ⟨w.heap.size, 0, none⟩), .pointer (some ⟨w4.heap.size, 0, none⟩)])) := hb5.setCell (Nat.le_refl _) _
  clear hnf hbx hb5 hne hne2 hvw
  generalize w4.heap.size = gc at *
  go_upto_region 11 with fail
  generalize (w5.setCell ⟨gc, 0, none⟩ (.func (.func 41) #[] #[.pointer (some ⟨w.heap.size, 0, none⟩), .pointer (some ⟨gc, 0, none⟩)])) = w6 at *
  obtain ⟨x0, x1, x2, x3, x4⟩ := hbx6.cells
  have c2 := hn6.cell
  have HN := Lib.hid hn6
  have HW6 := Lib.hid hvw6
  have HB6 : Hid (Below w.heap.size w w6) := Lib.hid (HB4.out.trans (hb6.mono hsz))
  clear c0 c1 hbx6 hb6 hn6 hsz hvw6
  go_wp2_with (first
    | (go_at_call 41
       refine (digC_any k hk1 hk2 t h _ w.heap.size gc (HTT.out.lower HB6.out) (HT.out.below HB6.out (Nat.le_refl _)) (check_zero HCZ.out).1 HW6.out HN.out zs HDG.out).mono ?_
       rintro _ w7 ⟨a7, c7, rfl, hn7, hb7⟩
       have HB7 : Hid (Below w.heap.size w w7) := Lib.hid (HB6.out.trans (hb7.mono HB6.out.size))
       have HN7 : Hid (NewB w w7 a7 zs.length c7 zs) := Lib.hid ⟨hn7.inb, fun ad hh => Nat.le_trans HB6.out.size (hn7.new ad hh), hn7.free⟩
       clear hb7 hn7))
  go_ret2
  exact ⟨a7, c7, rfl, HN7.out, HB7.out⟩
end Go.Proofs.YtioifkbkllnkgaaDoor

/- The program's digest of any tree by any width: bytes in new memory, or an error. -/
namespace Go.Proofs.YtioifkbkllnkgaaDoor
open Go.RowKit
set_option linter.unusedVariables false

/-- There is a digest. -/
def DigIs (x : Int) (p : Tr) (k : Nat) (zs : List Int) : Prop := x = k ∧ 1 ≤ k ∧ k ≤ 32 ∧ checkT p = 0 ∧ digT k p = some zs
theorem digest_bad (x : Int) (p : Tr) (h : TH) (w : World) (ht : InTree w h p) (hT : TabLies w) (hx1 : -9223372036854775808 ≤ x) (hx2 : x ≤ 9223372036854775807) (hno : ¬ ∃ k zs, DigIs x p k zs) :
    Calls Tryd.prog 17 #[.int .i64 x, h.v] w (fun e w' => ∃ m a c, m ≠ 0 ∧ e = .returned (.tuple #[.slice a 0 c, .iface 42 (.int .i64 (m : Nat))]) ∧ Below w.heap.size w w') := by
  have post : ∀ (m : Nat), m ≠ 0 → ∀ e w', ErrPost w m e w' → ∃ m a c, m ≠ 0 ∧ e = .returned (.tuple #[.slice a 0 c, .iface 42 (.int .i64 (m : Nat))]) ∧ Below w.heap.size w w' := fun m hm e w' ⟨a, c, q1, q2⟩ => ⟨m, a, c, hm, by rw [q1]; unfold codeV; rw [if_neg hm], q2⟩
  by_cases hx : 1 ≤ x ∧ x ≤ 32
  · obtain ⟨k, rfl⟩ : ∃ k : Nat, x = (k : Int) := ⟨x.toNat, by omega⟩
    by_cases hc : checkT p = 0
    · cases hd : digT k p with
      | none => exact (digest_none k (by omega) (by omega) p h w ht hT hc hd).mono fun e w' q => post 3 (by omega) e w' q
      | some zs => exact absurd ⟨k, zs, rfl, by omega, by omega, hc, hd⟩ hno
    · exact (digest_err k (by omega) (by omega) p h w ht hc).mono fun e w' q => post _ hc e w' q
  · exact (digest_arg x p h w ht hx1 hx2 hx).mono fun e w' q => post 1 (by omega) e w' q
theorem digest_is (x : Int) (p : Tr) (h : TH) (w : World) (ht : InTree w h p) (hT : TabLies w) {k : Nat} {zs : List Int} (hi : DigIs x p k zs) : Calls Tryd.prog 17 #[.int .i64 x, h.v] w (fun e w' => ∃ a c, e = .returned (.tuple #[.slice a k c, .nilIface]) ∧ InBytes w' a k c zs ∧ Below w.heap.size w w') := by
  obtain ⟨rfl, h1, h2, h3, h4⟩ := hi
  have hl := digT_len h2 h4
  refine (digest_ok k h1 h2 p h w ht hT h3 h4).mono ?_
  rintro _ w' ⟨a, c, rfl, hn, hb⟩
  rw [hl] at hn
  exact ⟨a, c, by rw [hl], hn.inb, hb⟩
end Go.Proofs.YtioifkbkllnkgaaDoor
