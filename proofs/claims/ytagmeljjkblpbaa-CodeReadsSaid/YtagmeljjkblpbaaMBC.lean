/- The contract of Read's closure, of a node that shows its value. The contract of Read's closure, of a dark node. The contracts of the program's Write and Read of trees. The document's measure of a tree: has it few enough parts? One byte in a block of its own. No program is named here. The heads of the statements of layer 10: the document's examples; whether a tree is small. The contract of the document's read of layer 10, of what has no kids. The contract of the document's read of layer 10, of a node that shows its value. The contract of the document's read of layer 10, of a dark node. The contracts of the document's read and Read of layer 10. The contract of the document's comparison of trees: of one and the same tree. The walk of the law CodeReads. -/
import Derived.Test.YtagmeljjkblpbaaMAB
import Derived.Laws.EntriesVeiled
import Derived.Test.YtagmeljjkblpbaaMAA
import Derived.Lib.SlBytesConst
/- The contract of Read's closure, of a node that shows its value. -/
namespace Go.Proofs.Ytagmeljjkblpbaa
open Go.RowKit
set_option linter.unusedVariables false

set_option maxRecDepth 100000 in
set_option maxHeartbeats 8000000 in
theorem ptNode1_any (d : Nat) (hd : d + 1 ≤ 64) (g gr gf : Nat) (gb : Option Nat) (l : List Int) (w : World) (hev : EV w g gr gf gb (some (1 :: l)))
    (ih : ∀ (s : Option (List Int)) (W : World), EV W g gr gf gb s → Calls Try.prog 24 #[.int .i64 d, .pointer (some ⟨gr, 0, none⟩), .pointer (some ⟨gf, 0, none⟩)] W (PtPost W g gb (rdP d s))) :
    Calls Try.prog 24 #[.int .i64 ((d + 1 : Nat) : Int), .pointer (some ⟨gr, 0, none⟩), .pointer (some ⟨gf, 0, none⟩)] w (PtPost w g gb (rdP (d + 1) (some (1 :: l)))) := by
  obtain ⟨o, ho⟩ : ∃ o, rdP (d + 1) (some (1 :: l)) = o := ⟨_, rfl⟩
  rw [ho]
  have HO : Hid (o = (rdP d (rdBytes 1024 (rdBytes 80 (some l)).2).2).bind fun x => (rdP d (some x.2)).map fun y => (PT.shown x.1 (rdBytes 80 (some l)).1 (rdBytes 1024 (rdBytes 80 (some l)).2).1 y.1, y.2)) := Lib.hid (by rw [← ho]; exact rdP_node d l (.inl rfl))
  have hd1 : ((d + 1 : Nat) : Int) - 1 = (d : Int) := by omega
  have e64 : IntKind.i64.wrap (d : Int) = (d : Int) := IntWalk.i64_in _ (by omega)
  obtain ⟨D, hD⟩ : ∃ D : Int, ((d + 1 : Nat) : Int) = D := ⟨_, rfl⟩
  have hD0 : (D == 0) = false := by rw [← hD]; simp; omega
  rw [hD] at hd1 ⊢
  clear ho hD
  have HZ0 : Hid ((w.alloc (.cells #[.int .i64 hZ.k, .slice hZ.ka hZ.kn hZ.kc, .slice hZ.va hZ.vn hZ.vc, .slice hZ.da hZ.dn hZ.dc, .slice hZ.ta hZ.tn hZ.tc] 25)) = w.alloc (.cells #[.int .i64 hZ.k, .slice hZ.ka hZ.kn hZ.kc, .slice hZ.va hZ.vn hZ.vc, .slice hZ.da hZ.dn hZ.dc, .slice hZ.ta hZ.tn hZ.tc] 25)) := Lib.hid rfl
  have hb0 : Below w.heap.size w (w.alloc (.cells #[.int .i64 hZ.k, .slice hZ.ka hZ.kn hZ.kc, .slice hZ.va hZ.vn hZ.vc, .slice hZ.da hZ.dn hZ.dc, .slice hZ.ta hZ.tn hZ.tc] 25)) := (Below.refl _ _).alloc (Nat.le_refl _) _
  have HE0 := Lib.hid (hev.below hb0)
  have HEV := Lib.hid hev
  have IH := Lib.hid ih
  clear hb0 hev ih
  go_enter Try.func24, Try.ntmps24
  go_upto_region 1 with fail
  have HQ0 : Hid ((w.alloc (.cells #[.int .i64 0, .slice none 0 0, .slice none 0 0, .slice none 0 0, .slice none 0 0] 25)) = w.alloc (.cells #[.int .i64 hZ.k, .slice hZ.ka hZ.kn hZ.kc, .slice hZ.va hZ.vn hZ.vc, .slice hZ.da hZ.dn hZ.dc, .slice hZ.ta hZ.tn hZ.tc] 25)) := Lib.hid rfl
  change Hid (EV (w.alloc (.cells #[.int .i64 0, .slice none 0 0, .slice none 0 0, .slice none 0 0, .slice none 0 0] 25)) g gr gf gb (some (1 :: l))) at HE0
  clear HZ0
  generalize (w.alloc (.cells #[.int .i64 0, .slice none 0 0, .slice none 0 0, .slice none 0 0, .slice none 0 0] 25)) = w0 at *
  have xr := HE0.out.vr.cell
  go_upto_region 2 with (first
    | (go_at_call 25
       refine (rdByte_any g gb (some (1 :: l)) _ HE0.out.rd).mono ?_
       rintro _ w1 ⟨rfl, hr1, hg1⟩
       have e1 : rdByte (some ((1 : Int) :: l)) = (1, some l) := rfl
       rw [e1] at hr1 ⊢
       have HS := Lib.hid (PS.enter HQ0.out HEV.out (HE0.out.rdr hg1 hr1) hg1 ⟨1, none, 0, 0, none, 0, 0, none, 0, 0, none, 0, 0⟩)
       clear hr1 hg1 e1 xr))
  generalize (w1.alloc (.cells #[.int .i64 1, .slice none 0 0, .slice none 0 0, .slice none 0 0, .slice none 0 0] 25)) = w2 at *
  generalize w1.heap.size = B at *
  clear HQ0 HE0
  obtain ⟨x0, x1, x2, x3, x4⟩ := HS.out.tb.cells
  have xr := HS.out.ev.vr.cell
  have f1 := HS.out.tb.frozen 1
  go_upto_region 11 with (first
    | (go_at_call 26
       refine (rdBytes_any g gb (some l) 80 _ HS.out.ev.rd (by omega) (by omega)).mono ?_
       rintro _ w4 ⟨a4, c4, rfl, hi4, hr4, hg4, hf4⟩
       have HS4 := Lib.hid (HS.out.rdr hg4 hr4)
       have HI4 : Hid (FreshB (B + 1) w4.heap.size w4 a4 _ c4 _) := Lib.hid (FreshB.ofLo hi4 (fun y hy => by have q1 := hf4 y hy; have q2 := HS.out.tb.lt; omega))
       
       clear hi4 hr4 hg4 hf4 x0 x1 x2 x3 x4 xr
       obtain ⟨x0, x1, x2, x3, x4⟩ := HS4.out.tb.cells
       have xr := HS4.out.ev.vr.cell
       clear f1
       have f1 := HS4.out.tb.frozen 1))
  have HX5 : Hid (Box (w4.setCell ⟨B, 1, none⟩ (.slice a4 (rdBytes 80 (some l)).1.length c4)) 25 B ⟨1, a4, (rdBytes 80 (some l)).1.length, c4, none, 0, 0, none, 0, 0, none, 0, 0⟩) := Lib.hid (HS4.out.tb.set1 a4 (rdBytes 80 (some l)).1.length c4)
  have HG5 := Lib.hid (only_set (only_refl w4 (some B)) 1 (.slice a4 (rdBytes 80 (some l)).1.length c4))
  have HI5 := Lib.hid (HI4.out.upon (Upon.grown HG5.out (Nat.lt_succ_self _)))
  have HS5 := Lib.hid (HS4.out.wr HG5.out HX5.out)
  clear x0 x1 x2 x3 x4 f1 xr HX5 HG5 HI4 HS4 HS
  generalize (w4.setCell ⟨B, 1, none⟩ (.slice a4 (rdBytes 80 (some l)).1.length c4)) = w5 at *
  obtain ⟨x0, x1, x2, x3, x4⟩ := HS5.out.tb.cells
  have xr := HS5.out.ev.vr.cell
  have f2 := HS5.out.tb.frozen 2
  go_upto_region 15 with (first
    | (go_at_call 26
       refine (rdBytes_any g gb (rdBytes 80 (some l)).2 1024 _ HS5.out.ev.rd (by omega) (by omega)).mono ?_
       rintro _ w6 ⟨a6, c6, rfl, hi6, hr6, hg6, hf6⟩
       have HS6 := Lib.hid (HS5.out.rdr hg6 hr6)
       have HS5G := Lib.hid hg6
       have HI6 : Hid (FreshB (B + 1) w6.heap.size w6 a6 _ c6 _) := Lib.hid (FreshB.ofLo hi6 (fun y hy => by have q1 := hf6 y hy; have q2 := HS5.out.tb.lt; omega))
       
       clear hi6 hr6 hg6 hf6 x0 x1 x2 x3 x4 xr
       obtain ⟨x0, x1, x2, x3, x4⟩ := HS6.out.tb.cells
       have xr := HS6.out.ev.vr.cell
       have HJ6 := Lib.hid (HI5.out.upon (Upon.grown HS5G.out (Nat.lt_succ_of_lt (Nat.lt_trans HS5.out.lo.1 HS5.out.lt))))
       clear f2
       have f2 := HS6.out.tb.frozen 2))
  have HX7 : Hid (Box (w6.setCell ⟨B, 2, none⟩ (.slice a6 (rdBytes 1024 (rdBytes 80 (some l)).2).1.length c6)) 25 B ⟨1, a4, (rdBytes 80 (some l)).1.length, c4, a6, (rdBytes 1024 (rdBytes 80 (some l)).2).1.length, c6, none, 0, 0, none, 0, 0⟩) := Lib.hid (HS6.out.tb.set2 a6 (rdBytes 1024 (rdBytes 80 (some l)).2).1.length c6)
  have HG7 := Lib.hid (only_set (only_refl w6 (some B)) 2 (.slice a6 (rdBytes 1024 (rdBytes 80 (some l)).2).1.length c6))
  have HI7 := Lib.hid (HI6.out.upon (Upon.grown HG7.out (Nat.lt_succ_self _)))
  have HJ7 := Lib.hid (HJ6.out.upon (Upon.grown HG7.out (Nat.lt_succ_self _)))
  have HS7 := Lib.hid (HS6.out.wr HG7.out HX7.out)
  clear x0 x1 x2 x3 x4 f2 xr HX7 HG7 HI6 HJ6 HS6 HS5 HI5
  generalize (w6.setCell ⟨B, 2, none⟩ (.slice a6 (rdBytes 1024 (rdBytes 80 (some l)).2).1.length c6)) = w7 at *
  generalize rdBytes 1024 (rdBytes 80 (some l)).2 = zz at *
  generalize rdBytes 80 (some l) = kk at *
  obtain ⟨z, zs⟩ := zz
  obtain ⟨key, ks⟩ := kk
  obtain ⟨x0, x1, x2, x3, x4⟩ := HS7.out.tb.cells
  obtain ⟨o1, ho1⟩ : ∃ o1, rdP d zs = o1 := ⟨_, rfl⟩
  have HO1 : Hid (o = o1.bind fun x => (rdP d (some x.2)).map fun y => (PT.shown x.1 key z y.1, y.2)) := Lib.hid (by rw [HO.out, ← ho1])
  have HQ1 := Lib.hid ho1
  clear ho1 HO
  have xf := HS7.out.ev.vf.cell
  go_upto_if 53 with (first
    | (go_at_call 24
       refine (IH.out zs _ HS7.out.ev).mono ?_
       unfold PtPost TH.v
       rw [HQ1.out]
       rintro _ w8 ⟨hl, ok1, s1, rfl, hr8, hg8, ht8⟩
       have HS8 := Lib.hid ((HS7.out.rdr hg8 hr8).below ((Below.refl _ _).alloc (Nat.le_refl _) (.cells #[.int .i64 hl.k, .slice hl.ka hl.kn hl.kc, .slice hl.va hl.vn hl.vc, .slice hl.da hl.dn hl.dc, .slice hl.ta hl.tn hl.tc] 25)))
       have HU8 : Hid (Upon (B + 1) w7 (w8.alloc (.cells #[.int .i64 hl.k, .slice hl.ka hl.kn hl.kc, .slice hl.va hl.vn hl.vc, .slice hl.da hl.dn hl.dc, .slice hl.ta hl.tn hl.tc] 25))) := Lib.hid ⟨Nat.le_trans hg8.size (by simp), fun j h1 h2 => (Below.heap_alloc w8 _ j (Nat.lt_of_lt_of_le h2 hg8.size)).trans ((Upon.grown (lo := B + 1) hg8 (Nat.lt_succ_of_lt (Nat.lt_trans HS7.out.lo.1 HS7.out.lt))).2 j h1 h2)⟩
       have HL8 := Lib.hid (Box.new w8 25 hl)
       have HLB : Hid (w8.heap.size ≠ g ∧ B < w8.heap.size ∧ w7.heap.size ≤ w8.heap.size) := Lib.hid ⟨by have q1 := hg8.size; have q2 := HS7.out.lo.1; have q3 := HS7.out.lt; have q4 := HS7.out.tb.lt; omega, Nat.lt_of_lt_of_le HS7.out.tb.lt hg8.size, hg8.size⟩
       have HT8 := Lib.hid ht8
       clear hr8 hg8 ht8 x0 x1 x2 x3 x4 xf))
  have HT9 : Hid ((o1 = none ∧ (ok1 = false ∨ s1 = none)) ∨ ∃ p r, o1 = some (p, r) ∧ ok1 = true ∧ s1 = some r ∧ FreshT (B + 1) (w8.alloc (.cells #[.int .i64 hl.k, .slice hl.ka hl.kn hl.kc, .slice hl.va hl.vn hl.vc, .slice hl.da hl.dn hl.dc, .slice hl.ta hl.tn hl.tc] 25)).heap.size (w8.alloc (.cells #[.int .i64 hl.k, .slice hl.ka hl.kn hl.kc, .slice hl.va hl.vn hl.vc, .slice hl.da hl.dn hl.dc, .slice hl.ta hl.tn hl.tc] 25)) hl p.tr) := Lib.hid (HT8.out.imp id (fun ⟨p, r, e1, e2, e3, f⟩ => ⟨p, r, e1, e2, e3, (f.upon (Upon.below ((Below.refl _ _).alloc (Nat.le_refl _) (.cells #[.int .i64 hl.k, .slice hl.ka hl.kn hl.kc, .slice hl.va hl.vn hl.vc, .slice hl.da hl.dn hl.dc, .slice hl.ta hl.tn hl.tc] 25)))).wide (by have := HS7.out.tb.lt; omega) (Nat.le_refl _)⟩))
  have HI9 := Lib.hid (HI7.out.upon HU8.out)
  have HJ9 := Lib.hid (HJ7.out.upon HU8.out)
  clear HT8 HI7 HJ7 HU8 HS7
  generalize (w8.alloc (.cells #[.int .i64 hl.k, .slice hl.ka hl.kn hl.kc, .slice hl.va hl.vn hl.vc, .slice hl.da hl.dn hl.dc, .slice hl.ta hl.tn hl.tc] 25)) = w9 at *
  generalize w8.heap.size = L at *
  cases ok1 with
  | false =>
    have HN : Hid (o = none) := Lib.hid (by
      rcases HT9.out with ⟨e, -⟩ | ⟨p, r, -, e, -⟩
      · rw [HO1.out, e]; rfl
      · cases e)
    go_wp2_with (first
      | (refine wpList_store_box rfl 25 (.tmp 4) (.tmp 54) rfl w.heap.size hZ hZ rfl rfl 25 HS8.out.res infoTree5 ?_
         intro w9 hbx9 hg9
         have HX9 := Lib.hid hbx9
         have HG9 := Lib.hid hg9
         clear hbx9 hg9))
    obtain ⟨hr9, hu9⟩ := HS8.out.ret HG9.out
    exact bodyPost_ret (v := .tuple #[TH.v hZ, .bool false]) (Box.result Try.results24 _ HX9.out rfl Try.underlying25 infoTree5) rfl ⟨hZ, false, _, rfl, hr9, hu9, .inl ⟨HN.out, .inl rfl⟩⟩
  | true =>
    simp only [Bool.not_true]
    have xf := HS8.out.ev.vf.cell
    obtain ⟨o2, ho2⟩ : ∃ o2, rdP d s1 = o2 := ⟨_, rfl⟩
    have HQ2 := Lib.hid ho2
    clear ho2
    go_upto_region 21 with (first
      | (go_at_call 24
         refine (IH.out s1 _ HS8.out.ev).mono ?_
         unfold PtPost TH.v
         rw [HQ2.out]
         rintro _ w10 ⟨hr, ok2, s2, rfl, hr10, hg10, ht10⟩
         have HS10 := Lib.hid ((HS8.out.rdr hg10 hr10).below ((Below.refl _ _).alloc (Nat.le_refl _) (.cells #[.int .i64 hr.k, .slice hr.ka hr.kn hr.kc, .slice hr.va hr.vn hr.vc, .slice hr.da hr.dn hr.dc, .slice hr.ta hr.tn hr.tc] 25)))
         have HU10 : Hid (Upon (B + 1) w9 (w10.alloc (.cells #[.int .i64 hr.k, .slice hr.ka hr.kn hr.kc, .slice hr.va hr.vn hr.vc, .slice hr.da hr.dn hr.dc, .slice hr.ta hr.tn hr.tc] 25))) := Lib.hid ⟨Nat.le_trans hg10.size (by simp), fun j h1 h2 => (Below.heap_alloc w10 _ j (Nat.lt_of_lt_of_le h2 hg10.size)).trans ((Upon.grown (lo := B + 1) hg10 (Nat.lt_succ_of_lt (Nat.lt_trans HS8.out.lo.1 HS8.out.lt))).2 j h1 h2)⟩
         have HL10 := Lib.hid ((HL8.out.grown hg10 (fun e => by injection e with e; exact HLB.out.1 e)).below ((Below.refl _ _).alloc (Nat.le_refl _) (.cells #[.int .i64 hr.k, .slice hr.ka hr.kn hr.kc, .slice hr.va hr.vn hr.vc, .slice hr.da hr.dn hr.dc, .slice hr.ta hr.tn hr.tc] 25)) (HL8.out.grown hg10 (fun e => by injection e with e; exact HLB.out.1 e)).lt)
         have HR10 := Lib.hid (Box.new w10 25 hr)
         have HT10 := Lib.hid ht10
         have HZ10 := Lib.hid (Nat.lt_of_lt_of_le HS8.out.tb.lt hg10.size)
         clear hr10 hg10 ht10 xf))
    try clear xf
    have HT11 : Hid ((o2 = none ∧ (ok2 = false ∨ s2 = none)) ∨ ∃ p r, o2 = some (p, r) ∧ ok2 = true ∧ s2 = some r ∧ FreshT (B + 1) (w10.alloc (.cells #[.int .i64 hr.k, .slice hr.ka hr.kn hr.kc, .slice hr.va hr.vn hr.vc, .slice hr.da hr.dn hr.dc, .slice hr.ta hr.tn hr.tc] 25)).heap.size (w10.alloc (.cells #[.int .i64 hr.k, .slice hr.ka hr.kn hr.kc, .slice hr.va hr.vn hr.vc, .slice hr.da hr.dn hr.dc, .slice hr.ta hr.tn hr.tc] 25)) hr p.tr) := Lib.hid (HT10.out.imp id (fun ⟨p, r, e1, e2, e3, f⟩ => ⟨p, r, e1, e2, e3, (f.upon (Upon.below ((Below.refl _ _).alloc (Nat.le_refl _) (.cells #[.int .i64 hr.k, .slice hr.ka hr.kn hr.kc, .slice hr.va hr.vn hr.vc, .slice hr.da hr.dn hr.dc, .slice hr.ta hr.tn hr.tc] 25)))).wide (by have := HS8.out.tb.lt; omega) (Nat.le_refl _)⟩))
    have HT12 : Hid ((o1 = none ∧ s1 = none) ∨ ∃ p r, o1 = some (p, r) ∧ s1 = some r ∧ FreshT (B + 1) (w10.alloc (.cells #[.int .i64 hr.k, .slice hr.ka hr.kn hr.kc, .slice hr.va hr.vn hr.vc, .slice hr.da hr.dn hr.dc, .slice hr.ta hr.tn hr.tc] 25)).heap.size (w10.alloc (.cells #[.int .i64 hr.k, .slice hr.ka hr.kn hr.kc, .slice hr.va hr.vn hr.vc, .slice hr.da hr.dn hr.dc, .slice hr.ta hr.tn hr.tc] 25)) hl p.tr) := Lib.hid (HT9.out.imp (fun ⟨e1, e2⟩ => ⟨e1, e2.elim (fun q => by cases q) id⟩) (fun ⟨p, r, e1, e2, e3, f⟩ => ⟨p, r, e1, e3, f.upon HU10.out⟩))
    have HI11 := Lib.hid (HI9.out.upon HU10.out)
    have HJ11 := Lib.hid (HJ9.out.upon HU10.out)
    clear HT10 HT9 HI9 HJ9 HU10 HS8 HL8
    generalize (w10.alloc (.cells #[.int .i64 hr.k, .slice hr.ka hr.kn hr.kc, .slice hr.va hr.vn hr.vc, .slice hr.da hr.dn hr.dc, .slice hr.ta hr.tn hr.tc] 25)) = w11 at *
    generalize w10.heap.size = R at *
    obtain ⟨y0, y1, y2, y3, y4⟩ := HL10.out.cells
    obtain ⟨z0, z1, z2, z3, z4⟩ := HR10.out.cells
    have f4 := HS10.out.tb.frozen 4
    have x4 := HS10.out.tb.cells.2.2.2.2
    have HS11 := Lib.hid (HS10.out.alloc (.cells #[.int .i64 hl.k, .slice hl.ka hl.kn hl.kc, .slice hl.va hl.vn hl.vc, .slice hl.da hl.dn hl.dc, .slice hl.ta hl.tn hl.tc, .int .i64 hr.k, .slice hr.ka hr.kn hr.kc, .slice hr.va hr.vn hr.vc, .slice hr.da hr.dn hr.dc, .slice hr.ta hr.tn hr.tc] 25))
    have g4 := HS11.out.tb.frozen 4
    have v4 := HS11.out.tb.cells.2.2.2.2
    go_upto_region 22 with fail
    clear y0 y1 y2 y3 y4 z0 z1 z2 z3 z4 f4 x4 g4 v4
    have b11 : Below w11.heap.size w11 (w11.alloc (.cells #[.int .i64 hl.k, .slice hl.ka hl.kn hl.kc, .slice hl.va hl.vn hl.vc, .slice hl.da hl.dn hl.dc, .slice hl.ta hl.tn hl.tc, .int .i64 hr.k, .slice hr.ka hr.kn hr.kc, .slice hr.va hr.vn hr.vc, .slice hr.da hr.dn hr.dc, .slice hr.ta hr.tn hr.tc] 25)) := (Below.refl _ _).alloc (Nat.le_refl _) _
    have HX12 : Hid (Box ((w11.alloc (.cells #[.int .i64 hl.k, .slice hl.ka hl.kn hl.kc, .slice hl.va hl.vn hl.vc, .slice hl.da hl.dn hl.dc, .slice hl.ta hl.tn hl.tc, .int .i64 hr.k, .slice hr.ka hr.kn hr.kc, .slice hr.va hr.vn hr.vc, .slice hr.da hr.dn hr.dc, .slice hr.ta hr.tn hr.tc] 25)).setCell ⟨B, 4, none⟩ (.slice (some ⟨w11.heap.size, 0, none⟩) 2 2)) 25 B ⟨1, a4, key.length, c4, a6, z.length, c6, none, 0, 0, some ⟨w11.heap.size, 0, none⟩, 2, 2⟩) := Lib.hid (HS11.out.tb.set4 (some ⟨w11.heap.size, 0, none⟩) 2 2)
    have HG12 := Lib.hid (only_set (only_refl (w11.alloc (.cells #[.int .i64 hl.k, .slice hl.ka hl.kn hl.kc, .slice hl.va hl.vn hl.vc, .slice hl.da hl.dn hl.dc, .slice hl.ta hl.tn hl.tc, .int .i64 hr.k, .slice hr.ka hr.kn hr.kc, .slice hr.va hr.vn hr.vc, .slice hr.da hr.dn hr.dc, .slice hr.ta hr.tn hr.tc] 25)) (some B)) 4 (.slice (some ⟨w11.heap.size, 0, none⟩) 2 2))
    have HS12 := Lib.hid (HS11.out.wr HG12.out HX12.out)
    have HU12 : Hid (Upon (B + 1) w11 ((w11.alloc (.cells #[.int .i64 hl.k, .slice hl.ka hl.kn hl.kc, .slice hl.va hl.vn hl.vc, .slice hl.da hl.dn hl.dc, .slice hl.ta hl.tn hl.tc, .int .i64 hr.k, .slice hr.ka hr.kn hr.kc, .slice hr.va hr.vn hr.vc, .slice hr.da hr.dn hr.dc, .slice hr.ta hr.tn hr.tc] 25)).setCell ⟨B, 4, none⟩ (.slice (some ⟨w11.heap.size, 0, none⟩) 2 2))) := Lib.hid ⟨Nat.le_trans b11.size HG12.out.size, fun j h1 h2 => ((Upon.grown (lo := B + 1) HG12.out (Nat.lt_succ_self _)).2 j h1 (Nat.lt_of_lt_of_le h2 b11.size)).trans (b11.block j h2)⟩
    have HN12 : Hid (Two5 ((w11.alloc (.cells #[.int .i64 hl.k, .slice hl.ka hl.kn hl.kc, .slice hl.va hl.vn hl.vc, .slice hl.da hl.dn hl.dc, .slice hl.ta hl.tn hl.tc, .int .i64 hr.k, .slice hr.ka hr.kn hr.kc, .slice hr.va hr.vn hr.vc, .slice hr.da hr.dn hr.dc, .slice hr.ta hr.tn hr.tc] 25)).setCell ⟨B, 4, none⟩ (.slice (some ⟨w11.heap.size, 0, none⟩) 2 2)) 25 w11.heap.size hl hr) := Lib.hid ((HG12.out.block w11.heap.size (by simp) (fun e => by injection e with e; have := HS10.out.tb.lt; omega)).trans (Two5.new w11 25 hl hr))
    have HGB : Hid (B + 1 ≤ w11.heap.size ∧ w11.heap.size < ((w11.alloc (.cells #[.int .i64 hl.k, .slice hl.ka hl.kn hl.kc, .slice hl.va hl.vn hl.vc, .slice hl.da hl.dn hl.dc, .slice hl.ta hl.tn hl.tc, .int .i64 hr.k, .slice hr.ka hr.kn hr.kc, .slice hr.va hr.vn hr.vc, .slice hr.da hr.dn hr.dc, .slice hr.ta hr.tn hr.tc] 25)).setCell ⟨B, 4, none⟩ (.slice (some ⟨w11.heap.size, 0, none⟩) 2 2)).heap.size) := Lib.hid ⟨HS10.out.tb.lt, Nat.lt_of_lt_of_le (by simp) HG12.out.size⟩
    have HI12 := Lib.hid (HI11.out.upon HU12.out)
    have HJ12 := Lib.hid (HJ11.out.upon HU12.out)
    have HT13 : Hid ((o2 = none ∧ (ok2 = false ∨ s2 = none)) ∨ ∃ p r, o2 = some (p, r) ∧ ok2 = true ∧ s2 = some r ∧ FreshT (B + 1) ((w11.alloc (.cells #[.int .i64 hl.k, .slice hl.ka hl.kn hl.kc, .slice hl.va hl.vn hl.vc, .slice hl.da hl.dn hl.dc, .slice hl.ta hl.tn hl.tc, .int .i64 hr.k, .slice hr.ka hr.kn hr.kc, .slice hr.va hr.vn hr.vc, .slice hr.da hr.dn hr.dc, .slice hr.ta hr.tn hr.tc] 25)).setCell ⟨B, 4, none⟩ (.slice (some ⟨w11.heap.size, 0, none⟩) 2 2)).heap.size ((w11.alloc (.cells #[.int .i64 hl.k, .slice hl.ka hl.kn hl.kc, .slice hl.va hl.vn hl.vc, .slice hl.da hl.dn hl.dc, .slice hl.ta hl.tn hl.tc, .int .i64 hr.k, .slice hr.ka hr.kn hr.kc, .slice hr.va hr.vn hr.vc, .slice hr.da hr.dn hr.dc, .slice hr.ta hr.tn hr.tc] 25)).setCell ⟨B, 4, none⟩ (.slice (some ⟨w11.heap.size, 0, none⟩) 2 2)) hr p.tr) := Lib.hid (HT11.out.imp id (fun ⟨p, r, e1, e2, e3, f⟩ => ⟨p, r, e1, e2, e3, f.upon HU12.out⟩))
    have HT14 : Hid ((o1 = none ∧ s1 = none) ∨ ∃ p r, o1 = some (p, r) ∧ s1 = some r ∧ FreshT (B + 1) ((w11.alloc (.cells #[.int .i64 hl.k, .slice hl.ka hl.kn hl.kc, .slice hl.va hl.vn hl.vc, .slice hl.da hl.dn hl.dc, .slice hl.ta hl.tn hl.tc, .int .i64 hr.k, .slice hr.ka hr.kn hr.kc, .slice hr.va hr.vn hr.vc, .slice hr.da hr.dn hr.dc, .slice hr.ta hr.tn hr.tc] 25)).setCell ⟨B, 4, none⟩ (.slice (some ⟨w11.heap.size, 0, none⟩) 2 2)).heap.size ((w11.alloc (.cells #[.int .i64 hl.k, .slice hl.ka hl.kn hl.kc, .slice hl.va hl.vn hl.vc, .slice hl.da hl.dn hl.dc, .slice hl.ta hl.tn hl.tc, .int .i64 hr.k, .slice hr.ka hr.kn hr.kc, .slice hr.va hr.vn hr.vc, .slice hr.da hr.dn hr.dc, .slice hr.ta hr.tn hr.tc] 25)).setCell ⟨B, 4, none⟩ (.slice (some ⟨w11.heap.size, 0, none⟩) 2 2)) hl p.tr) := Lib.hid (HT12.out.imp id (fun ⟨p, r, e1, e2, f⟩ => ⟨p, r, e1, e2, f.upon HU12.out⟩))
    clear HS11 HX12 HG12 HS10 b11 HT11 HT12 HI11 HJ11 HU12
    generalize ((w11.alloc (.cells #[.int .i64 hl.k, .slice hl.ka hl.kn hl.kc, .slice hl.va hl.vn hl.vc, .slice hl.da hl.dn hl.dc, .slice hl.ta hl.tn hl.tc, .int .i64 hr.k, .slice hr.ka hr.kn hr.kc, .slice hr.va hr.vn hr.vc, .slice hr.da hr.dn hr.dc, .slice hr.ta hr.tn hr.tc] 25)).setCell ⟨B, 4, none⟩ (.slice (some ⟨w11.heap.size, 0, none⟩) 2 2)) = w12 at *
    generalize w11.heap.size = G at *
    obtain ⟨x0, x1, x2, x3, x4⟩ := HS12.out.tb.cells
    go_wp2_with (first
      | (refine wpList_store_box rfl 25 (.tmp 4) (.tmp 66) rfl w.heap.size hZ ⟨1, a4, key.length, c4, a6, z.length, c6, none, 0, 0, some ⟨G, 0, none⟩, 2, 2⟩ rfl rfl 25 HS12.out.res infoTree5 ?_
         intro w9x hbx9 hg9
         have HX9 := Lib.hid hbx9
         have HG9 := Lib.hid hg9
         clear hbx9 hg9))
    obtain ⟨hr9, hu9⟩ := HS12.out.ret HG9.out
    have hlo : w.heap.size < B + 1 := Nat.lt_succ_of_lt HS12.out.lt
    have U9 : Upon (B + 1) w12 w9x := Upon.grown HG9.out hlo
    have hgb := HGB.out
    have HN9 : Two5 w9x 25 G hl hr := (HG9.out.block G hgb.2 (fun e => by injection e; omega)).trans HN12.out
    have HI9 := HI12.out.upon U9
    have HJ9 := HJ12.out.upon U9
    refine bodyPost_ret (v := .tuple #[TH.v ⟨1, a4, key.length, c4, a6, z.length, c6, none, 0, 0, some ⟨G, 0, none⟩, 2, 2⟩, .bool ok2]) (Box.result Try.results24 _ HX9.out rfl Try.underlying25 infoTree5) rfl ⟨_, ok2, s2, rfl, hr9, hu9, ?_⟩
    rcases HT14.out with ⟨e1, e2⟩ | ⟨p1, r1, e1, e2, f1⟩
    · left
      refine ⟨by rw [HO1.out, e1]; rfl, ?_⟩
      rcases HT13.out with ⟨-, q⟩ | ⟨p, r, q, -⟩
      · exact q
      · rw [← HQ2.out, e2] at q
        cases q
    · rcases HT13.out with ⟨q, q2⟩ | ⟨p2, r2, q, q2, q3, f2⟩
      · left
        refine ⟨?_, q2⟩
        rw [HO1.out, e1]
        show ((rdP d (some r1)).map fun y => (PT.shown p1 key z y.1, y.2)) = none
        rw [← e2, HQ2.out, q]
        rfl
      · right
        refine ⟨PT.shown p1 key z p2, r2, ?_, q2, q3, ?_⟩
        · rw [HO1.out, e1]
          show ((rdP d (some r1)).map fun y => (PT.shown p1 key z y.1, y.2)) = _
          rw [← e2, HQ2.out, q]
          rfl
        · exact FreshT.node HN9 (by omega) (Nat.lt_of_lt_of_le hgb.2 HG9.out.size) ((f1.upon U9).wide (Nat.le_of_lt hlo) (Nat.le_refl _)) ((f2.upon U9).wide (Nat.le_of_lt hlo) (Nat.le_refl _)) (by omega) (by omega) (HJ9.wide (Nat.le_of_lt hlo) (Nat.le_refl _)) (HI9.wide (Nat.le_of_lt hlo) (Nat.le_refl _)) (FreshB.none _ _ _)
end Go.Proofs.Ytagmeljjkblpbaa

/- The contract of Read's closure, of a dark node. -/
namespace Go.Proofs.Ytagmeljjkblpbaa
open Go.RowKit
set_option linter.unusedVariables false

set_option maxRecDepth 100000 in
set_option maxHeartbeats 8000000 in
theorem ptNode2_any (d : Nat) (hd : d + 1 ≤ 64) (g gr gf : Nat) (gb : Option Nat) (l : List Int) (w : World) (hev : EV w g gr gf gb (some (2 :: l)))
    (ih : ∀ (s : Option (List Int)) (W : World), EV W g gr gf gb s → Calls Try.prog 24 #[.int .i64 d, .pointer (some ⟨gr, 0, none⟩), .pointer (some ⟨gf, 0, none⟩)] W (PtPost W g gb (rdP d s))) :
    Calls Try.prog 24 #[.int .i64 ((d + 1 : Nat) : Int), .pointer (some ⟨gr, 0, none⟩), .pointer (some ⟨gf, 0, none⟩)] w (PtPost w g gb (rdP (d + 1) (some (2 :: l)))) := by
  obtain ⟨o, ho⟩ : ∃ o, rdP (d + 1) (some (2 :: l)) = o := ⟨_, rfl⟩
  rw [ho]
  have HO : Hid (o = (rdP d (rdBytes 32 (rdBytes 80 (some l)).2).2).bind fun x => (rdP d (some x.2)).map fun y => (PT.dark x.1 (rdBytes 80 (some l)).1 (rdBytes 32 (rdBytes 80 (some l)).2).1 y.1, y.2)) := Lib.hid (by rw [← ho]; exact rdP_node d l (.inr rfl))
  have hd1 : ((d + 1 : Nat) : Int) - 1 = (d : Int) := by omega
  have e64 : IntKind.i64.wrap (d : Int) = (d : Int) := IntWalk.i64_in _ (by omega)
  obtain ⟨D, hD⟩ : ∃ D : Int, ((d + 1 : Nat) : Int) = D := ⟨_, rfl⟩
  have hD0 : (D == 0) = false := by rw [← hD]; simp; omega
  rw [hD] at hd1 ⊢
  clear ho hD
  have HZ0 : Hid ((w.alloc (.cells #[.int .i64 hZ.k, .slice hZ.ka hZ.kn hZ.kc, .slice hZ.va hZ.vn hZ.vc, .slice hZ.da hZ.dn hZ.dc, .slice hZ.ta hZ.tn hZ.tc] 25)) = w.alloc (.cells #[.int .i64 hZ.k, .slice hZ.ka hZ.kn hZ.kc, .slice hZ.va hZ.vn hZ.vc, .slice hZ.da hZ.dn hZ.dc, .slice hZ.ta hZ.tn hZ.tc] 25)) := Lib.hid rfl
  have hb0 : Below w.heap.size w (w.alloc (.cells #[.int .i64 hZ.k, .slice hZ.ka hZ.kn hZ.kc, .slice hZ.va hZ.vn hZ.vc, .slice hZ.da hZ.dn hZ.dc, .slice hZ.ta hZ.tn hZ.tc] 25)) := (Below.refl _ _).alloc (Nat.le_refl _) _
  have HE0 := Lib.hid (hev.below hb0)
  have HEV := Lib.hid hev
  have IH := Lib.hid ih
  clear hb0 hev ih
  go_enter Try.func24, Try.ntmps24
  go_upto_region 1 with fail
  have HQ0 : Hid ((w.alloc (.cells #[.int .i64 0, .slice none 0 0, .slice none 0 0, .slice none 0 0, .slice none 0 0] 25)) = w.alloc (.cells #[.int .i64 hZ.k, .slice hZ.ka hZ.kn hZ.kc, .slice hZ.va hZ.vn hZ.vc, .slice hZ.da hZ.dn hZ.dc, .slice hZ.ta hZ.tn hZ.tc] 25)) := Lib.hid rfl
  change Hid (EV (w.alloc (.cells #[.int .i64 0, .slice none 0 0, .slice none 0 0, .slice none 0 0, .slice none 0 0] 25)) g gr gf gb (some (2 :: l))) at HE0
  clear HZ0
  generalize (w.alloc (.cells #[.int .i64 0, .slice none 0 0, .slice none 0 0, .slice none 0 0, .slice none 0 0] 25)) = w0 at *
  have xr := HE0.out.vr.cell
  go_upto_region 2 with (first
    | (go_at_call 25
       refine (rdByte_any g gb (some (2 :: l)) _ HE0.out.rd).mono ?_
       rintro _ w1 ⟨rfl, hr1, hg1⟩
       have e1 : rdByte (some ((2 : Int) :: l)) = (2, some l) := rfl
       rw [e1] at hr1 ⊢
       have HS := Lib.hid (PS.enter HQ0.out HEV.out (HE0.out.rdr hg1 hr1) hg1 ⟨2, none, 0, 0, none, 0, 0, none, 0, 0, none, 0, 0⟩)
       clear hr1 hg1 e1 xr))
  generalize (w1.alloc (.cells #[.int .i64 2, .slice none 0 0, .slice none 0 0, .slice none 0 0, .slice none 0 0] 25)) = w2 at *
  generalize w1.heap.size = B at *
  clear HQ0 HE0
  obtain ⟨x0, x1, x2, x3, x4⟩ := HS.out.tb.cells
  have xr := HS.out.ev.vr.cell
  have f1 := HS.out.tb.frozen 1
  go_upto_region 14 with (first
    | (go_at_call 26
       refine (rdBytes_any g gb (some l) 80 _ HS.out.ev.rd (by omega) (by omega)).mono ?_
       rintro _ w4 ⟨a4, c4, rfl, hi4, hr4, hg4, hf4⟩
       have HS4 := Lib.hid (HS.out.rdr hg4 hr4)
       have HI4 : Hid (FreshB (B + 1) w4.heap.size w4 a4 _ c4 _) := Lib.hid (FreshB.ofLo hi4 (fun y hy => by have q1 := hf4 y hy; have q2 := HS.out.tb.lt; omega))
       
       clear hi4 hr4 hg4 hf4 x0 x1 x2 x3 x4 xr
       obtain ⟨x0, x1, x2, x3, x4⟩ := HS4.out.tb.cells
       have xr := HS4.out.ev.vr.cell
       clear f1
       have f1 := HS4.out.tb.frozen 1))
  have HX5 : Hid (Box (w4.setCell ⟨B, 1, none⟩ (.slice a4 (rdBytes 80 (some l)).1.length c4)) 25 B ⟨2, a4, (rdBytes 80 (some l)).1.length, c4, none, 0, 0, none, 0, 0, none, 0, 0⟩) := Lib.hid (HS4.out.tb.set1 a4 (rdBytes 80 (some l)).1.length c4)
  have HG5 := Lib.hid (only_set (only_refl w4 (some B)) 1 (.slice a4 (rdBytes 80 (some l)).1.length c4))
  have HI5 := Lib.hid (HI4.out.upon (Upon.grown HG5.out (Nat.lt_succ_self _)))
  have HS5 := Lib.hid (HS4.out.wr HG5.out HX5.out)
  clear x0 x1 x2 x3 x4 f1 xr HX5 HG5 HI4 HS4 HS
  generalize (w4.setCell ⟨B, 1, none⟩ (.slice a4 (rdBytes 80 (some l)).1.length c4)) = w5 at *
  obtain ⟨x0, x1, x2, x3, x4⟩ := HS5.out.tb.cells
  have xr := HS5.out.ev.vr.cell
  have f2 := HS5.out.tb.frozen 3
  go_upto_region 15 with (first
    | (go_at_call 26
       refine (rdBytes_any g gb (rdBytes 80 (some l)).2 32 _ HS5.out.ev.rd (by omega) (by omega)).mono ?_
       rintro _ w6 ⟨a6, c6, rfl, hi6, hr6, hg6, hf6⟩
       have HS6 := Lib.hid (HS5.out.rdr hg6 hr6)
       have HS5G := Lib.hid hg6
       have HI6 : Hid (FreshB (B + 1) w6.heap.size w6 a6 _ c6 _) := Lib.hid (FreshB.ofLo hi6 (fun y hy => by have q1 := hf6 y hy; have q2 := HS5.out.tb.lt; omega))
       
       clear hi6 hr6 hg6 hf6 x0 x1 x2 x3 x4 xr
       obtain ⟨x0, x1, x2, x3, x4⟩ := HS6.out.tb.cells
       have xr := HS6.out.ev.vr.cell
       have HJ6 := Lib.hid (HI5.out.upon (Upon.grown HS5G.out (Nat.lt_succ_of_lt (Nat.lt_trans HS5.out.lo.1 HS5.out.lt))))
       clear f2
       have f2 := HS6.out.tb.frozen 3))
  have HX7 : Hid (Box (w6.setCell ⟨B, 3, none⟩ (.slice a6 (rdBytes 32 (rdBytes 80 (some l)).2).1.length c6)) 25 B ⟨2, a4, (rdBytes 80 (some l)).1.length, c4, none, 0, 0, a6, (rdBytes 32 (rdBytes 80 (some l)).2).1.length, c6, none, 0, 0⟩) := Lib.hid (HS6.out.tb.set3 a6 (rdBytes 32 (rdBytes 80 (some l)).2).1.length c6)
  have HG7 := Lib.hid (only_set (only_refl w6 (some B)) 3 (.slice a6 (rdBytes 32 (rdBytes 80 (some l)).2).1.length c6))
  have HI7 := Lib.hid (HI6.out.upon (Upon.grown HG7.out (Nat.lt_succ_self _)))
  have HJ7 := Lib.hid (HJ6.out.upon (Upon.grown HG7.out (Nat.lt_succ_self _)))
  have HS7 := Lib.hid (HS6.out.wr HG7.out HX7.out)
  clear x0 x1 x2 x3 x4 f2 xr HX7 HG7 HI6 HJ6 HS6 HS5 HI5
  generalize (w6.setCell ⟨B, 3, none⟩ (.slice a6 (rdBytes 32 (rdBytes 80 (some l)).2).1.length c6)) = w7 at *
  generalize rdBytes 32 (rdBytes 80 (some l)).2 = zz at *
  generalize rdBytes 80 (some l) = kk at *
  obtain ⟨z, zs⟩ := zz
  obtain ⟨key, ks⟩ := kk
  obtain ⟨x0, x1, x2, x3, x4⟩ := HS7.out.tb.cells
  obtain ⟨o1, ho1⟩ : ∃ o1, rdP d zs = o1 := ⟨_, rfl⟩
  have HO1 : Hid (o = o1.bind fun x => (rdP d (some x.2)).map fun y => (PT.dark x.1 key z y.1, y.2)) := Lib.hid (by rw [HO.out, ← ho1])
  have HQ1 := Lib.hid ho1
  clear ho1 HO
  have xf := HS7.out.ev.vf.cell
  go_upto_if 53 with (first
    | (go_at_call 24
       refine (IH.out zs _ HS7.out.ev).mono ?_
       unfold PtPost TH.v
       rw [HQ1.out]
       rintro _ w8 ⟨hl, ok1, s1, rfl, hr8, hg8, ht8⟩
       have HS8 := Lib.hid ((HS7.out.rdr hg8 hr8).below ((Below.refl _ _).alloc (Nat.le_refl _) (.cells #[.int .i64 hl.k, .slice hl.ka hl.kn hl.kc, .slice hl.va hl.vn hl.vc, .slice hl.da hl.dn hl.dc, .slice hl.ta hl.tn hl.tc] 25)))
       have HU8 : Hid (Upon (B + 1) w7 (w8.alloc (.cells #[.int .i64 hl.k, .slice hl.ka hl.kn hl.kc, .slice hl.va hl.vn hl.vc, .slice hl.da hl.dn hl.dc, .slice hl.ta hl.tn hl.tc] 25))) := Lib.hid ⟨Nat.le_trans hg8.size (by simp), fun j h1 h2 => (Below.heap_alloc w8 _ j (Nat.lt_of_lt_of_le h2 hg8.size)).trans ((Upon.grown (lo := B + 1) hg8 (Nat.lt_succ_of_lt (Nat.lt_trans HS7.out.lo.1 HS7.out.lt))).2 j h1 h2)⟩
       have HL8 := Lib.hid (Box.new w8 25 hl)
       have HLB : Hid (w8.heap.size ≠ g ∧ B < w8.heap.size ∧ w7.heap.size ≤ w8.heap.size) := Lib.hid ⟨by have q1 := hg8.size; have q2 := HS7.out.lo.1; have q3 := HS7.out.lt; have q4 := HS7.out.tb.lt; omega, Nat.lt_of_lt_of_le HS7.out.tb.lt hg8.size, hg8.size⟩
       have HT8 := Lib.hid ht8
       clear hr8 hg8 ht8 x0 x1 x2 x3 x4 xf))
  have HT9 : Hid ((o1 = none ∧ (ok1 = false ∨ s1 = none)) ∨ ∃ p r, o1 = some (p, r) ∧ ok1 = true ∧ s1 = some r ∧ FreshT (B + 1) (w8.alloc (.cells #[.int .i64 hl.k, .slice hl.ka hl.kn hl.kc, .slice hl.va hl.vn hl.vc, .slice hl.da hl.dn hl.dc, .slice hl.ta hl.tn hl.tc] 25)).heap.size (w8.alloc (.cells #[.int .i64 hl.k, .slice hl.ka hl.kn hl.kc, .slice hl.va hl.vn hl.vc, .slice hl.da hl.dn hl.dc, .slice hl.ta hl.tn hl.tc] 25)) hl p.tr) := Lib.hid (HT8.out.imp id (fun ⟨p, r, e1, e2, e3, f⟩ => ⟨p, r, e1, e2, e3, (f.upon (Upon.below ((Below.refl _ _).alloc (Nat.le_refl _) (.cells #[.int .i64 hl.k, .slice hl.ka hl.kn hl.kc, .slice hl.va hl.vn hl.vc, .slice hl.da hl.dn hl.dc, .slice hl.ta hl.tn hl.tc] 25)))).wide (by have := HS7.out.tb.lt; omega) (Nat.le_refl _)⟩))
  have HI9 := Lib.hid (HI7.out.upon HU8.out)
  have HJ9 := Lib.hid (HJ7.out.upon HU8.out)
  clear HT8 HI7 HJ7 HU8 HS7
  generalize (w8.alloc (.cells #[.int .i64 hl.k, .slice hl.ka hl.kn hl.kc, .slice hl.va hl.vn hl.vc, .slice hl.da hl.dn hl.dc, .slice hl.ta hl.tn hl.tc] 25)) = w9 at *
  generalize w8.heap.size = L at *
  cases ok1 with
  | false =>
    have HN : Hid (o = none) := Lib.hid (by
      rcases HT9.out with ⟨e, -⟩ | ⟨p, r, -, e, -⟩
      · rw [HO1.out, e]; rfl
      · cases e)
    go_wp2_with (first
      | (refine wpList_store_box rfl 25 (.tmp 4) (.tmp 54) rfl w.heap.size hZ hZ rfl rfl 25 HS8.out.res infoTree5 ?_
         intro w9 hbx9 hg9
         have HX9 := Lib.hid hbx9
         have HG9 := Lib.hid hg9
         clear hbx9 hg9))
    obtain ⟨hr9, hu9⟩ := HS8.out.ret HG9.out
    exact bodyPost_ret (v := .tuple #[TH.v hZ, .bool false]) (Box.result Try.results24 _ HX9.out rfl Try.underlying25 infoTree5) rfl ⟨hZ, false, _, rfl, hr9, hu9, .inl ⟨HN.out, .inl rfl⟩⟩
  | true =>
    simp only [Bool.not_true]
    have xf := HS8.out.ev.vf.cell
    obtain ⟨o2, ho2⟩ : ∃ o2, rdP d s1 = o2 := ⟨_, rfl⟩
    have HQ2 := Lib.hid ho2
    clear ho2
    go_upto_region 21 with (first
      | (go_at_call 24
         refine (IH.out s1 _ HS8.out.ev).mono ?_
         unfold PtPost TH.v
         rw [HQ2.out]
         rintro _ w10 ⟨hr, ok2, s2, rfl, hr10, hg10, ht10⟩
         have HS10 := Lib.hid ((HS8.out.rdr hg10 hr10).below ((Below.refl _ _).alloc (Nat.le_refl _) (.cells #[.int .i64 hr.k, .slice hr.ka hr.kn hr.kc, .slice hr.va hr.vn hr.vc, .slice hr.da hr.dn hr.dc, .slice hr.ta hr.tn hr.tc] 25)))
         have HU10 : Hid (Upon (B + 1) w9 (w10.alloc (.cells #[.int .i64 hr.k, .slice hr.ka hr.kn hr.kc, .slice hr.va hr.vn hr.vc, .slice hr.da hr.dn hr.dc, .slice hr.ta hr.tn hr.tc] 25))) := Lib.hid ⟨Nat.le_trans hg10.size (by simp), fun j h1 h2 => (Below.heap_alloc w10 _ j (Nat.lt_of_lt_of_le h2 hg10.size)).trans ((Upon.grown (lo := B + 1) hg10 (Nat.lt_succ_of_lt (Nat.lt_trans HS8.out.lo.1 HS8.out.lt))).2 j h1 h2)⟩
         have HL10 := Lib.hid ((HL8.out.grown hg10 (fun e => by injection e with e; exact HLB.out.1 e)).below ((Below.refl _ _).alloc (Nat.le_refl _) (.cells #[.int .i64 hr.k, .slice hr.ka hr.kn hr.kc, .slice hr.va hr.vn hr.vc, .slice hr.da hr.dn hr.dc, .slice hr.ta hr.tn hr.tc] 25)) (HL8.out.grown hg10 (fun e => by injection e with e; exact HLB.out.1 e)).lt)
         have HR10 := Lib.hid (Box.new w10 25 hr)
         have HT10 := Lib.hid ht10
         have HZ10 := Lib.hid (Nat.lt_of_lt_of_le HS8.out.tb.lt hg10.size)
         clear hr10 hg10 ht10 xf))
    try clear xf
    have HT11 : Hid ((o2 = none ∧ (ok2 = false ∨ s2 = none)) ∨ ∃ p r, o2 = some (p, r) ∧ ok2 = true ∧ s2 = some r ∧ FreshT (B + 1) (w10.alloc (.cells #[.int .i64 hr.k, .slice hr.ka hr.kn hr.kc, .slice hr.va hr.vn hr.vc, .slice hr.da hr.dn hr.dc, .slice hr.ta hr.tn hr.tc] 25)).heap.size (w10.alloc (.cells #[.int .i64 hr.k, .slice hr.ka hr.kn hr.kc, .slice hr.va hr.vn hr.vc, .slice hr.da hr.dn hr.dc, .slice hr.ta hr.tn hr.tc] 25)) hr p.tr) := Lib.hid (HT10.out.imp id (fun ⟨p, r, e1, e2, e3, f⟩ => ⟨p, r, e1, e2, e3, (f.upon (Upon.below ((Below.refl _ _).alloc (Nat.le_refl _) (.cells #[.int .i64 hr.k, .slice hr.ka hr.kn hr.kc, .slice hr.va hr.vn hr.vc, .slice hr.da hr.dn hr.dc, .slice hr.ta hr.tn hr.tc] 25)))).wide (by have := HS8.out.tb.lt; omega) (Nat.le_refl _)⟩))
    have HT12 : Hid ((o1 = none ∧ s1 = none) ∨ ∃ p r, o1 = some (p, r) ∧ s1 = some r ∧ FreshT (B + 1) (w10.alloc (.cells #[.int .i64 hr.k, .slice hr.ka hr.kn hr.kc, .slice hr.va hr.vn hr.vc, .slice hr.da hr.dn hr.dc, .slice hr.ta hr.tn hr.tc] 25)).heap.size (w10.alloc (.cells #[.int .i64 hr.k, .slice hr.ka hr.kn hr.kc, .slice hr.va hr.vn hr.vc, .slice hr.da hr.dn hr.dc, .slice hr.ta hr.tn hr.tc] 25)) hl p.tr) := Lib.hid (HT9.out.imp (fun ⟨e1, e2⟩ => ⟨e1, e2.elim (fun q => by cases q) id⟩) (fun ⟨p, r, e1, e2, e3, f⟩ => ⟨p, r, e1, e3, f.upon HU10.out⟩))
    have HI11 := Lib.hid (HI9.out.upon HU10.out)
    have HJ11 := Lib.hid (HJ9.out.upon HU10.out)
    clear HT10 HT9 HI9 HJ9 HU10 HS8 HL8
    generalize (w10.alloc (.cells #[.int .i64 hr.k, .slice hr.ka hr.kn hr.kc, .slice hr.va hr.vn hr.vc, .slice hr.da hr.dn hr.dc, .slice hr.ta hr.tn hr.tc] 25)) = w11 at *
    generalize w10.heap.size = R at *
    obtain ⟨y0, y1, y2, y3, y4⟩ := HL10.out.cells
    obtain ⟨z0, z1, z2, z3, z4⟩ := HR10.out.cells
    have f4 := HS10.out.tb.frozen 4
    have x4 := HS10.out.tb.cells.2.2.2.2
    have HS11 := Lib.hid (HS10.out.alloc (.cells #[.int .i64 hl.k, .slice hl.ka hl.kn hl.kc, .slice hl.va hl.vn hl.vc, .slice hl.da hl.dn hl.dc, .slice hl.ta hl.tn hl.tc, .int .i64 hr.k, .slice hr.ka hr.kn hr.kc, .slice hr.va hr.vn hr.vc, .slice hr.da hr.dn hr.dc, .slice hr.ta hr.tn hr.tc] 25))
    have g4 := HS11.out.tb.frozen 4
    have v4 := HS11.out.tb.cells.2.2.2.2
    go_upto_region 22 with fail
    clear y0 y1 y2 y3 y4 z0 z1 z2 z3 z4 f4 x4 g4 v4
    have b11 : Below w11.heap.size w11 (w11.alloc (.cells #[.int .i64 hl.k, .slice hl.ka hl.kn hl.kc, .slice hl.va hl.vn hl.vc, .slice hl.da hl.dn hl.dc, .slice hl.ta hl.tn hl.tc, .int .i64 hr.k, .slice hr.ka hr.kn hr.kc, .slice hr.va hr.vn hr.vc, .slice hr.da hr.dn hr.dc, .slice hr.ta hr.tn hr.tc] 25)) := (Below.refl _ _).alloc (Nat.le_refl _) _
    have HX12 : Hid (Box ((w11.alloc (.cells #[.int .i64 hl.k, .slice hl.ka hl.kn hl.kc, .slice hl.va hl.vn hl.vc, .slice hl.da hl.dn hl.dc, .slice hl.ta hl.tn hl.tc, .int .i64 hr.k, .slice hr.ka hr.kn hr.kc, .slice hr.va hr.vn hr.vc, .slice hr.da hr.dn hr.dc, .slice hr.ta hr.tn hr.tc] 25)).setCell ⟨B, 4, none⟩ (.slice (some ⟨w11.heap.size, 0, none⟩) 2 2)) 25 B ⟨2, a4, key.length, c4, none, 0, 0, a6, z.length, c6, some ⟨w11.heap.size, 0, none⟩, 2, 2⟩) := Lib.hid (HS11.out.tb.set4 (some ⟨w11.heap.size, 0, none⟩) 2 2)
    have HG12 := Lib.hid (only_set (only_refl (w11.alloc (.cells #[.int .i64 hl.k, .slice hl.ka hl.kn hl.kc, .slice hl.va hl.vn hl.vc, .slice hl.da hl.dn hl.dc, .slice hl.ta hl.tn hl.tc, .int .i64 hr.k, .slice hr.ka hr.kn hr.kc, .slice hr.va hr.vn hr.vc, .slice hr.da hr.dn hr.dc, .slice hr.ta hr.tn hr.tc] 25)) (some B)) 4 (.slice (some ⟨w11.heap.size, 0, none⟩) 2 2))
    have HS12 := Lib.hid (HS11.out.wr HG12.out HX12.out)
    have HU12 : Hid (Upon (B + 1) w11 ((w11.alloc (.cells #[.int .i64 hl.k, .slice hl.ka hl.kn hl.kc, .slice hl.va hl.vn hl.vc, .slice hl.da hl.dn hl.dc, .slice hl.ta hl.tn hl.tc, .int .i64 hr.k, .slice hr.ka hr.kn hr.kc, .slice hr.va hr.vn hr.vc, .slice hr.da hr.dn hr.dc, .slice hr.ta hr.tn hr.tc] 25)).setCell ⟨B, 4, none⟩ (.slice (some ⟨w11.heap.size, 0, none⟩) 2 2))) := Lib.hid ⟨Nat.le_trans b11.size HG12.out.size, fun j h1 h2 => ((Upon.grown (lo := B + 1) HG12.out (Nat.lt_succ_self _)).2 j h1 (Nat.lt_of_lt_of_le h2 b11.size)).trans (b11.block j h2)⟩
    have HN12 : Hid (Two5 ((w11.alloc (.cells #[.int .i64 hl.k, .slice hl.ka hl.kn hl.kc, .slice hl.va hl.vn hl.vc, .slice hl.da hl.dn hl.dc, .slice hl.ta hl.tn hl.tc, .int .i64 hr.k, .slice hr.ka hr.kn hr.kc, .slice hr.va hr.vn hr.vc, .slice hr.da hr.dn hr.dc, .slice hr.ta hr.tn hr.tc] 25)).setCell ⟨B, 4, none⟩ (.slice (some ⟨w11.heap.size, 0, none⟩) 2 2)) 25 w11.heap.size hl hr) := Lib.hid ((HG12.out.block w11.heap.size (by simp) (fun e => by injection e with e; have := HS10.out.tb.lt; omega)).trans (Two5.new w11 25 hl hr))
    have HGB : Hid (B + 1 ≤ w11.heap.size ∧ w11.heap.size < ((w11.alloc (.cells #[.int .i64 hl.k, .slice hl.ka hl.kn hl.kc, .slice hl.va hl.vn hl.vc, .slice hl.da hl.dn hl.dc, .slice hl.ta hl.tn hl.tc, .int .i64 hr.k, .slice hr.ka hr.kn hr.kc, .slice hr.va hr.vn hr.vc, .slice hr.da hr.dn hr.dc, .slice hr.ta hr.tn hr.tc] 25)).setCell ⟨B, 4, none⟩ (.slice (some ⟨w11.heap.size, 0, none⟩) 2 2)).heap.size) := Lib.hid ⟨HS10.out.tb.lt, Nat.lt_of_lt_of_le (by simp) HG12.out.size⟩
    have HI12 := Lib.hid (HI11.out.upon HU12.out)
    have HJ12 := Lib.hid (HJ11.out.upon HU12.out)
    have HT13 : Hid ((o2 = none ∧ (ok2 = false ∨ s2 = none)) ∨ ∃ p r, o2 = some (p, r) ∧ ok2 = true ∧ s2 = some r ∧ FreshT (B + 1) ((w11.alloc (.cells #[.int .i64 hl.k, .slice hl.ka hl.kn hl.kc, .slice hl.va hl.vn hl.vc, .slice hl.da hl.dn hl.dc, .slice hl.ta hl.tn hl.tc, .int .i64 hr.k, .slice hr.ka hr.kn hr.kc, .slice hr.va hr.vn hr.vc, .slice hr.da hr.dn hr.dc, .slice hr.ta hr.tn hr.tc] 25)).setCell ⟨B, 4, none⟩ (.slice (some ⟨w11.heap.size, 0, none⟩) 2 2)).heap.size ((w11.alloc (.cells #[.int .i64 hl.k, .slice hl.ka hl.kn hl.kc, .slice hl.va hl.vn hl.vc, .slice hl.da hl.dn hl.dc, .slice hl.ta hl.tn hl.tc, .int .i64 hr.k, .slice hr.ka hr.kn hr.kc, .slice hr.va hr.vn hr.vc, .slice hr.da hr.dn hr.dc, .slice hr.ta hr.tn hr.tc] 25)).setCell ⟨B, 4, none⟩ (.slice (some ⟨w11.heap.size, 0, none⟩) 2 2)) hr p.tr) := Lib.hid (HT11.out.imp id (fun ⟨p, r, e1, e2, e3, f⟩ => ⟨p, r, e1, e2, e3, f.upon HU12.out⟩))
    have HT14 : Hid ((o1 = none ∧ s1 = none) ∨ ∃ p r, o1 = some (p, r) ∧ s1 = some r ∧ FreshT (B + 1) ((w11.alloc (.cells #[.int .i64 hl.k, .slice hl.ka hl.kn hl.kc, .slice hl.va hl.vn hl.vc, .slice hl.da hl.dn hl.dc, .slice hl.ta hl.tn hl.tc, .int .i64 hr.k, .slice hr.ka hr.kn hr.kc, .slice hr.va hr.vn hr.vc, .slice hr.da hr.dn hr.dc, .slice hr.ta hr.tn hr.tc] 25)).setCell ⟨B, 4, none⟩ (.slice (some ⟨w11.heap.size, 0, none⟩) 2 2)).heap.size ((w11.alloc (.cells #[.int .i64 hl.k, .slice hl.ka hl.kn hl.kc, .slice hl.va hl.vn hl.vc, .slice hl.da hl.dn hl.dc, .slice hl.ta hl.tn hl.tc, .int .i64 hr.k, .slice hr.ka hr.kn hr.kc, .slice hr.va hr.vn hr.vc, .slice hr.da hr.dn hr.dc, .slice hr.ta hr.tn hr.tc] 25)).setCell ⟨B, 4, none⟩ (.slice (some ⟨w11.heap.size, 0, none⟩) 2 2)) hl p.tr) := Lib.hid (HT12.out.imp id (fun ⟨p, r, e1, e2, f⟩ => ⟨p, r, e1, e2, f.upon HU12.out⟩))
    clear HS11 HX12 HG12 HS10 b11 HT11 HT12 HI11 HJ11 HU12
    generalize ((w11.alloc (.cells #[.int .i64 hl.k, .slice hl.ka hl.kn hl.kc, .slice hl.va hl.vn hl.vc, .slice hl.da hl.dn hl.dc, .slice hl.ta hl.tn hl.tc, .int .i64 hr.k, .slice hr.ka hr.kn hr.kc, .slice hr.va hr.vn hr.vc, .slice hr.da hr.dn hr.dc, .slice hr.ta hr.tn hr.tc] 25)).setCell ⟨B, 4, none⟩ (.slice (some ⟨w11.heap.size, 0, none⟩) 2 2)) = w12 at *
    generalize w11.heap.size = G at *
    obtain ⟨x0, x1, x2, x3, x4⟩ := HS12.out.tb.cells
    go_wp2_with (first
      | (refine wpList_store_box rfl 25 (.tmp 4) (.tmp 66) rfl w.heap.size hZ ⟨2, a4, key.length, c4, none, 0, 0, a6, z.length, c6, some ⟨G, 0, none⟩, 2, 2⟩ rfl rfl 25 HS12.out.res infoTree5 ?_
         intro w9x hbx9 hg9
         have HX9 := Lib.hid hbx9
         have HG9 := Lib.hid hg9
         clear hbx9 hg9))
    obtain ⟨hr9, hu9⟩ := HS12.out.ret HG9.out
    have hlo : w.heap.size < B + 1 := Nat.lt_succ_of_lt HS12.out.lt
    have U9 : Upon (B + 1) w12 w9x := Upon.grown HG9.out hlo
    have hgb := HGB.out
    have HN9 : Two5 w9x 25 G hl hr := (HG9.out.block G hgb.2 (fun e => by injection e; omega)).trans HN12.out
    have HI9 := HI12.out.upon U9
    have HJ9 := HJ12.out.upon U9
    refine bodyPost_ret (v := .tuple #[TH.v ⟨2, a4, key.length, c4, none, 0, 0, a6, z.length, c6, some ⟨G, 0, none⟩, 2, 2⟩, .bool ok2]) (Box.result Try.results24 _ HX9.out rfl Try.underlying25 infoTree5) rfl ⟨_, ok2, s2, rfl, hr9, hu9, ?_⟩
    rcases HT14.out with ⟨e1, e2⟩ | ⟨p1, r1, e1, e2, f1⟩
    · left
      refine ⟨by rw [HO1.out, e1]; rfl, ?_⟩
      rcases HT13.out with ⟨-, q⟩ | ⟨p, r, q, -⟩
      · exact q
      · rw [← HQ2.out, e2] at q
        cases q
    · rcases HT13.out with ⟨q, q2⟩ | ⟨p2, r2, q, q2, q3, f2⟩
      · left
        refine ⟨?_, q2⟩
        rw [HO1.out, e1]
        show ((rdP d (some r1)).map fun y => (PT.dark p1 key z y.1, y.2)) = none
        rw [← e2, HQ2.out, q]
        rfl
      · right
        refine ⟨PT.dark p1 key z p2, r2, ?_, q2, q3, ?_⟩
        · rw [HO1.out, e1]
          show ((rdP d (some r1)).map fun y => (PT.dark p1 key z y.1, y.2)) = _
          rw [← e2, HQ2.out, q]
          rfl
        · exact FreshT.node HN9 (by omega) (Nat.lt_of_lt_of_le hgb.2 HG9.out.size) ((f1.upon U9).wide (Nat.le_of_lt hlo) (Nat.le_refl _)) ((f2.upon U9).wide (Nat.le_of_lt hlo) (Nat.le_refl _)) (by omega) (by omega) (HJ9.wide (Nat.le_of_lt hlo) (Nat.le_refl _)) (FreshB.none _ _ _) (HI9.wide (Nat.le_of_lt hlo) (Nat.le_refl _))
end Go.Proofs.Ytagmeljjkblpbaa

/- The contracts of the program's Write and Read of trees. -/
namespace Go.Proofs.Ytagmeljjkblpbaa
open Go.RowKit
set_option linter.unusedVariables false

theorem pt_any (g gr gf : Nat) (gb : Option Nat) : ∀ d : Nat, d ≤ 64 → ∀ (s : Option (List Int)) (W : World), EV W g gr gf gb s → Calls Try.prog 24 #[.int .i64 d, .pointer (some ⟨gr, 0, none⟩), .pointer (some ⟨gf, 0, none⟩)] W (PtPost W g gb (rdP d s)) := by
  intro d
  induction d with
  | zero => exact fun hd s W hev => ptFlat_any 0 hd g gr gf gb s W hev (fun _ _ _ _ => rfl)
  | succ d ih =>
    intro hd s W hev
    by_cases h : ∃ k l, s = some (k :: l) ∧ (k = 1 ∨ k = 2)
    · obtain ⟨k, l, rfl, rfl | rfl⟩ := h
      · exact ptNode1_any d hd g gr gf gb l W hev (ih (by omega))
      · exact ptNode2_any d hd g gr gf gb l W hev (ih (by omega))
    · exact ptFlat_any (d + 1) hd g gr gf gb s W hev (fun k l e1 e2 => absurd ⟨k, l, e1, e2⟩ h)
/-- What is told of what was read. -/
def tellC : Option (PT × List Int) → Nat × PT
  | none => (3, .nil)
  | some (p, []) => (0, p)
  | some (_, _ :: _) => (4, .nil)
theorem readX_tellC (s : List Int) : readX s = tellC (rdP 64 (some s)) := by
  unfold readX
  show _ = tellC (readP 64 s)
  rcases readP 64 s with _ | ⟨p, _ | ⟨_, _⟩⟩ <;> rfl

set_option maxRecDepth 100000 in
set_option maxHeartbeats 8000000 in
theorem cread_any (a : Option Addr) (n c : Nat) (bs : List Int) (w : World) (hin : InBytes w a n c bs) (hn : n ≤ 1000000) : Calls Try.prog 12 #[.slice a n c] w (ReadTold w (readX bs)) := by
  have hmf : ∀ (fn : Fn) (first cap : Array Value) (w : World), (Instr.makeFunc fn first cap).run Try.prog w = .ok (.func fn first cap) w := fun _ _ _ _ => rfl
  have hb0 : Below w.heap.size w (w.alloc (.cells #[.int .i64 0, .slice none 0 0, .slice none 0 0, .slice none 0 0, .slice none 0 0] 25)) := (Below.refl _ _).alloc (Nat.le_refl _) _
  have HI := Lib.hid (hin.below hb0)
  have HB0 := Lib.hid hb0
  have HR0 : Hid (Box (w.alloc (.cells #[.int .i64 0, .slice none 0 0, .slice none 0 0, .slice none 0 0, .slice none 0 0] 25)) 25 w.heap.size hZ) := Lib.hid (Box.new w 25 hZ)
  have HZ0 : Hid ((w.alloc (.cells #[.int .i64 0, .slice none 0 0, .slice none 0 0, .slice none 0 0, .slice none 0 0] 25)).heap.size = w.heap.size + 1) := Lib.hid (by simp)
  obtain ⟨o, ho⟩ : ∃ o, rdP 64 (some bs) = o := ⟨_, rfl⟩
  have HX : Hid (readX bs = tellC o) := Lib.hid (by rw [← ho]; exact readX_tellC bs)
  have HQ := Lib.hid ho
  clear hin hb0 ho
  go_enter Try.func12, Try.ntmps12
  go_upto_region 1 with fail
  generalize (w.alloc (.cells #[.int .i64 0, .slice none 0 0, .slice none 0 0, .slice none 0 0, .slice none 0 0] 25)) = w0 at *
  go_upto_region 3 with (first
    | (go_at_call 23
       refine (newReader_any a n c bs _ HI.out (by omega)).mono ?_
       rintro _ w1 ⟨g, gb, rfl, hge, hgb, hpr, hb1⟩
       have HN := Lib.hid (And.intro hge (And.intro hgb hpr))
       have HB1 : Hid (Below w.heap.size w w1) := Lib.hid (HB0.out.trans (hb1.mono HB0.out.size))
       have HR1 := Lib.hid (HR0.out.below hb1 HR0.out.lt)
       clear hge hgb hpr hb1))
  have b2 : Below w1.heap.size w1 (w1.alloc (.cells #[.pointer (some ⟨g, 0, none⟩)] 50)) := (Below.refl _ _).alloc (Nat.le_refl _) _
  have b3 : Below (w1.alloc (.cells #[.pointer (some ⟨g, 0, none⟩)] 50)).heap.size (w1.alloc (.cells #[.pointer (some ⟨g, 0, none⟩)] 50)) ((w1.alloc (.cells #[.pointer (some ⟨g, 0, none⟩)] 50)).alloc (.cells #[.nilFunc] 52)) := (Below.refl _ _).alloc (Nat.le_refl _) _
  have v2 := Var1.new w1 50 (.pointer (some ⟨g, 0, none⟩))
  have v3 := Var1.new (w1.alloc (.cells #[.pointer (some ⟨g, 0, none⟩)] 50)) 52 .nilFunc
  have e2 : (w1.alloc (.cells #[.pointer (some ⟨g, 0, none⟩)] 50)).heap.size = w1.heap.size + 1 := by simp
  rw [e2] at v3
  have b13 : Below w1.heap.size w1 ((w1.alloc (.cells #[.pointer (some ⟨g, 0, none⟩)] 50)).alloc (.cells #[.nilFunc] 52)) := b2.trans (b3.mono b2.size)
  have HV3 := Lib.hid (And.intro (v2.below b3 v2.lt) v3)
  have HB3 : Hid (Below w.heap.size w ((w1.alloc (.cells #[.pointer (some ⟨g, 0, none⟩)] 50)).alloc (.cells #[.nilFunc] 52))) := Lib.hid (HB1.out.trans (b13.mono HB1.out.size))
  have HR3 := Lib.hid (HR1.out.below b13 HR1.out.lt)
  have HP3 := Lib.hid (HN.out.2.2.grown (only_below b13 none) (fun e => by cases e) (fun _ _ e => by cases e))
  have HL3 : Hid (w1.heap.size + 1 < ((w1.alloc (.cells #[.pointer (some ⟨g, 0, none⟩)] 50)).alloc (.cells #[.nilFunc] 52)).heap.size ∧ g < w1.heap.size ∧ (∀ b, gb = some b → b < w1.heap.size) ∧ w.heap.size < w1.heap.size) := Lib.hid ⟨by simp, HN.out.2.2.lt, fun b e => (HN.out.2.1 b e).2, Nat.lt_of_lt_of_le HR1.out.lt (Nat.le_refl _)⟩
  have HG3 : Hid (w.heap.size < g ∧ ∀ b, gb = some b → w.heap.size < b) := Lib.hid ⟨by have q1 := HN.out.1; have q2 := HZ0.out; omega, fun b e => by have q1 := (HN.out.2.1 b e).1; have q2 := HZ0.out; omega⟩
  clear b2 b3 v2 v3 b13 HN HB1 HR1 HI HB0 HR0 HZ0
  generalize ((w1.alloc (.cells #[.pointer (some ⟨g, 0, none⟩)] 50)).alloc (.cells #[.nilFunc] 52)) = w3 at *
  generalize w1.heap.size = gr at *
  have c5 := HV3.out.2.cell
  have c6 := HV3.out.2.frozen 0
  go_upto_region 4 with fail
  have HV4 : Hid (Var1 (w3.setCell ⟨gr + 1, 0, none⟩ (.func (.func 24) #[] #[.pointer (some ⟨gr, 0, none⟩), .pointer (some ⟨(gr + 1), 0, none⟩)])) 52 (gr + 1) (.func (.func 24) #[] #[.pointer (some ⟨gr, 0, none⟩), .pointer (some ⟨(gr + 1), 0, none⟩)])) := Lib.hid (HV3.out.2.set (.func (.func 24) #[] #[.pointer (some ⟨gr, 0, none⟩), .pointer (some ⟨(gr + 1), 0, none⟩)]))
  have HG4 := Lib.hid (only_set (only_refl w3 (some (gr + 1))) 0 (.func (.func 24) #[] #[.pointer (some ⟨gr, 0, none⟩), .pointer (some ⟨(gr + 1), 0, none⟩)]))
  have HE4 : Hid (EV (w3.setCell ⟨gr + 1, 0, none⟩ (.func (.func 24) #[] #[.pointer (some ⟨gr, 0, none⟩), .pointer (some ⟨(gr + 1), 0, none⟩)])) g gr (gr + 1) gb (some bs)) := Lib.hid ⟨HP3.out.grown HG4.out (fun e => by injection e with e; have := HL3.out.2.1; omega) (fun b e q => by injection q with q; have := HL3.out.2.2.1 b e; omega), fun b e => Nat.lt_of_lt_of_le (Nat.lt_trans (HL3.out.2.2.1 b e) (by have := HL3.out.1; omega)) HG4.out.size, HV3.out.1.grown HG4.out (fun e => by injection e with e; omega), HV4.out⟩
  have HB4 : Hid (Below w.heap.size w (w3.setCell ⟨gr + 1, 0, none⟩ (.func (.func 24) #[] #[.pointer (some ⟨gr, 0, none⟩), .pointer (some ⟨(gr + 1), 0, none⟩)]))) := Lib.hid (HB3.out.grown HG4.out HB3.out.size (fun j hj => by injection hj with hj; have := HL3.out.2.2.2; omega))
  have HR4 := Lib.hid (HR3.out.grown HG4.out (fun e => by injection e with e; have := HL3.out.2.2.2; omega))
  clear HV4 HG4 c5 c6 HV3 HB3 HR3 HP3
  generalize (w3.setCell ⟨gr + 1, 0, none⟩ (.func (.func 24) #[] #[.pointer (some ⟨gr, 0, none⟩), .pointer (some ⟨(gr + 1), 0, none⟩)])) = w4 at *
  have xf := HE4.out.vf.cell
  have xr := HE4.out.vr.cell
  go_upto_if 18 with (first
    | (go_at_call 24
       refine (pt_any g gr (gr + 1) gb 64 (by omega) (some bs) _ HE4.out).mono ?_
       unfold PtPost TH.v
       rw [HQ.out]
       rintro _ w5 ⟨h5, ok, s5, rfl, hr5, hg5, ht5⟩
       have HE5 := Lib.hid (HE4.out.rdr hg5 hr5)
       have HR5 := Lib.hid (HR4.out.grown hg5 (fun e => by injection e with e; have := HG3.out.1; omega))
       have HB5 : Hid (Below w.heap.size w w5) := Lib.hid (HB4.out.grown hg5 HB4.out.size (fun j hj => by injection hj with hj; have := HG3.out.1; omega))
       have HT5 : Hid ((o = none ∧ (ok = false ∨ s5 = none)) ∨ ∃ p r, o = some (p, r) ∧ ok = true ∧ s5 = some r ∧ FreshT (w.heap.size + 1) w5.heap.size w5 h5 p.tr) := Lib.hid (ht5.imp id (fun ⟨p, r, e1, e2, e3, f⟩ => ⟨p, r, e1, e2, e3, f.wide (by have := HE4.out.rd.lt; have := HG3.out.1; omega) (Nat.le_refl _)⟩))
       clear hr5 hg5 ht5 xf xr))
  have b6 : Below w5.heap.size w5 (w5.alloc (.cells #[.int .i64 h5.k, .slice h5.ka h5.kn h5.kc, .slice h5.va h5.vn h5.vc, .slice h5.da h5.dn h5.dc, .slice h5.ta h5.tn h5.tc] 25)) := (Below.refl _ _).alloc (Nat.le_refl _) _
  have HB6 : Hid (Below w.heap.size w (w5.alloc (.cells #[.int .i64 h5.k, .slice h5.ka h5.kn h5.kc, .slice h5.va h5.vn h5.vc, .slice h5.da h5.dn h5.dc, .slice h5.ta h5.tn h5.tc] 25))) := Lib.hid (HB5.out.trans (b6.mono HB5.out.size))
  have HE6 := Lib.hid (HE5.out.below b6)
  have HR6 := Lib.hid (HR5.out.below b6 HR5.out.lt)
  have HX6 := Lib.hid (Box.new w5 25 h5)
  have HT6 : Hid ((o = none ∧ (ok = false ∨ s5 = none)) ∨ ∃ p r, o = some (p, r) ∧ ok = true ∧ s5 = some r ∧ FreshT (w.heap.size + 1) (w5.alloc (.cells #[.int .i64 h5.k, .slice h5.ka h5.kn h5.kc, .slice h5.va h5.vn h5.vc, .slice h5.da h5.dn h5.dc, .slice h5.ta h5.tn h5.tc] 25)).heap.size (w5.alloc (.cells #[.int .i64 h5.k, .slice h5.ka h5.kn h5.kc, .slice h5.va h5.vn h5.vc, .slice h5.da h5.dn h5.dc, .slice h5.ta h5.tn h5.tc] 25)) h5 p.tr) := Lib.hid (HT5.out.imp id (fun ⟨p, r, e1, e2, e3, f⟩ => ⟨p, r, e1, e2, e3, f.upon (Upon.below b6)⟩))
  clear b6 HB5 HE5 HR5 HT5 HB4 HR4 HE4 HQ HG3 HL3
  generalize (w5.alloc (.cells #[.int .i64 h5.k, .slice h5.ka h5.kn h5.kc, .slice h5.va h5.vn h5.vc, .slice h5.da h5.dn h5.dc, .slice h5.ta h5.tn h5.tc] 25)) = w6 at *
  generalize w5.heap.size = L at *
  cases ok with
  | false =>
    have HO : Hid (o = none) := Lib.hid (by
      rcases HT6.out with ⟨e, -⟩ | ⟨p, r, -, e, -⟩
      · exact e
      · cases e)
    rw [HO.out] at HX
    go_wp2_with (first
      | (refine wpList_store_box rfl 25 (.tmp 2) (.tmp 19) rfl w.heap.size hZ hZ rfl rfl 25 HR6.out infoTree5 ?_
         intro w9 hbx9 hg9
         have HX9 := Lib.hid hbx9
         have HG9 := Lib.hid hg9
         clear hbx9 hg9))
    exact bodyPost_ret (v := .tuple #[TH.v hZ, .iface 41 (.int .i64 3)]) (Box.result Try.results12 _ HX9.out rfl Try.underlying25 infoTree5) rfl ⟨hZ, by rw [HX.out]; rfl, by rw [HX.out]; exact FreshT.nil _ _ _, HB6.out.grown HG9.out HB6.out.size (fun j hj => by injection hj; omega)⟩
  | true =>
    simp only [Bool.not_true]
    have xr := HE6.out.vr.cell
    go_upto_region 8 with (first
      | (go_at_call 27
         refine (rdEnd_any g gb s5 _ HE6.out.rd).mono ?_
         rintro _ w7 ⟨rfl, m7, rfl⟩))
    clear xr
    have HB7 : Hid (Below w.heap.size w (w6.drewN m7)) := Lib.hid (below_drawn HB6.out m7)
    have HR7 : Hid (Box (w6.drewN m7) 25 w.heap.size hZ) := Lib.hid HR6.out
    have HX7 : Hid (Box (w6.drewN m7) 25 L h5) := Lib.hid HX6.out
    have HT7 : Hid ((o = none ∧ s5 = none) ∨ ∃ p r, o = some (p, r) ∧ s5 = some r ∧ FreshT (w.heap.size + 1) (w6.drewN m7).heap.size (w6.drewN m7) h5 p.tr) := Lib.hid (HT6.out.imp (fun ⟨e1, e2⟩ => ⟨e1, e2.elim (fun q => by cases q) id⟩) (fun ⟨p, r, e1, e2, e3, f⟩ => ⟨p, r, e1, e3, f⟩))
    clear HB6 HR6 HX6 HT6 HE6
    generalize (w6.drewN m7) = w7 at *
    rename Hid (Below w.heap.size w w7) => HB6
    obtain ⟨x0, x1, x2, x3, x4⟩ := HX7.out.cells
    rcases HT7.out with ⟨rfl, rfl⟩ | ⟨p, r, rfl, rfl, f⟩
    · have e0 : codeV (rdEnd none).toNat = .iface 41 (.int .i64 3) := rfl
      rw [e0]
      go_wp2_with (first
        | (refine wpList_store_box rfl 25 (.tmp 2) (.tmp 25) rfl w.heap.size hZ hZ rfl rfl 25 HR7.out infoTree5 ?_
           intro w9 hbx9 hg9
           have HX9 := Lib.hid hbx9
           have HG9 := Lib.hid hg9
           clear hbx9 hg9))
      exact bodyPost_ret (v := .tuple #[TH.v hZ, .iface 41 (.int .i64 3)]) (Box.result Try.results12 _ HX9.out rfl Try.underlying25 infoTree5) rfl ⟨hZ, by rw [HX.out]; rfl, by rw [HX.out]; exact FreshT.nil _ _ _, HB6.out.grown HG9.out HB6.out.size (fun j hj => by injection hj; omega)⟩
    · have HF := Lib.hid f
      clear f
      cases r with
      | nil =>
        have e0 : codeV (rdEnd (some [])).toNat = .nilIface := rfl
        rw [e0]
        go_wp2_with (first
          | (refine wpList_store_box rfl 25 (.tmp 2) (.tmp 27) rfl w.heap.size hZ h5 rfl rfl 25 HR7.out infoTree5 ?_
             intro w9 hbx9 hg9
             have HX9 := Lib.hid hbx9
             have HG9 := Lib.hid hg9
             clear hbx9 hg9))
        exact bodyPost_ret (v := .tuple #[TH.v h5, .nilIface]) (Box.result Try.results12 _ HX9.out rfl Try.underlying25 infoTree5) rfl ⟨h5, by rw [HX.out]; rfl, by rw [HX.out]; exact (HF.out.upon (Upon.grown HG9.out (Nat.lt_succ_self _))).wide (Nat.le_succ _) (Nat.le_refl _), HB6.out.grown HG9.out HB6.out.size (fun j hj => by injection hj; omega)⟩
      | cons y ys =>
        have e0 : codeV (rdEnd (some (y :: ys))).toNat = .iface 41 (.int .i64 4) := rfl
        rw [e0]
        go_wp2_with (first
          | (refine wpList_store_box rfl 25 (.tmp 2) (.tmp 25) rfl w.heap.size hZ hZ rfl rfl 25 HR7.out infoTree5 ?_
             intro w9 hbx9 hg9
             have HX9 := Lib.hid hbx9
             have HG9 := Lib.hid hg9
             clear hbx9 hg9))
        exact bodyPost_ret (v := .tuple #[TH.v hZ, .iface 41 (.int .i64 4)]) (Box.result Try.results12 _ HX9.out rfl Try.underlying25 infoTree5) rfl ⟨hZ, by rw [HX.out]; rfl, by rw [HX.out]; exact FreshT.nil _ _ _, HB6.out.grown HG9.out HB6.out.size (fun j hj => by injection hj; omega)⟩
end Go.Proofs.Ytagmeljjkblpbaa

/- The document's measure of a tree: has it few enough parts? -/
namespace Go.Proofs.Ytagmeljjkblpbaa
open Go.RowKit
set_option linter.unusedVariables false

/-- A number from -1 to 500; where it is not below 0, the tree is small. -/
def LightPost (w : World) (t : Tr) (left : Int) (e : Ending) (w' : World) : Prop :=
  ∃ r : Int, e = .returned (.int .i64 r) ∧ -1 ≤ r ∧ r ≤ 500 ∧ (0 ≤ r → LightOK t ∧ (countT t : Int) = left - r) ∧ Below w.heap.size w w'

set_option maxRecDepth 100000 in
set_option maxHeartbeats 4000000 in
theorem light_any : ∀ (t : Tr) (h : TH) (left : Int) (dep : Int) (w : World), InTree w h t → -1 ≤ left → left ≤ 500 → 0 ≤ dep → dep ≤ 200 → 
    Calls Try.prog 16 #[h.v, .int .i64 left, .int .i64 dep] w (LightPost w t left) := by
  intro t
  induction t using Tr.ind with
  | h t ih =>
  intro h left dep w ht hl1 hl2 hd1 hd2
  unfold TH.v
  obtain ⟨H, hp⟩ := ht.parts
  have hkl := hp.key.len
  have hvl := hp.val.len
  have hdl := hp.dig.len
  have htl := hp.len
  have hkm := Nat.le_trans hp.key.le hp.key.max
  have hvm := Nat.le_trans hp.val.le hp.val.max
  have hdm := Nat.le_trans hp.dig.le hp.dig.max
  have htm := Nat.le_trans hp.sl.le hp.sl.max
  have htc := hp.sl.le
  simp only [maxLen] at hkm hvm hdm htm
  have HP := Lib.hid hp
  have IH := Lib.hid ih
  clear hp ht ih
  have hbox := Box.new w 25 h
  have HX := Lib.hid hbox
  obtain ⟨x0, x1, x2, x3, x4⟩ := hbox.cells
  clear hbox
  go_enter Try.func16, Try.ntmps16
  by_cases c0 : dep = 0
  · subst c0
    go_wp2_with fail
    go_ret
    exact ⟨_, rfl, by omega, by omega, fun h => by omega, (Below.refl _ _).alloc (Nat.le_refl _) _⟩
  by_cases c1 : left - 1 < 0
  · go_wp2_with fail
    go_ret
    exact ⟨_, rfl, by omega, by omega, fun h => by omega, (Below.refl _ _).alloc (Nat.le_refl _) _⟩
  by_cases c2 : left - 1 < (h.tn : Int)
  · go_wp2_with fail
    go_ret
    exact ⟨_, rfl, by omega, by omega, fun h => by omega, (Below.refl _ _).alloc (Nat.le_refl _) _⟩
  by_cases c3 : (3000 : Int) < (h.kn : Int)
  · go_wp2_with fail
    go_ret
    exact ⟨_, rfl, by omega, by omega, fun h => by omega, (Below.refl _ _).alloc (Nat.le_refl _) _⟩
  by_cases c4 : (3000 : Int) < (h.vn : Int)
  · go_wp2_with fail
    go_ret
    exact ⟨_, rfl, by omega, by omega, fun h => by omega, (Below.refl _ _).alloc (Nat.le_refl _) _⟩
  by_cases c5 : (3000 : Int) < (h.dn : Int)
  · go_wp2_with fail
    go_ret
    exact ⟨_, rfl, by omega, by omega, fun h => by omega, (Below.refl _ _).alloc (Nat.le_refl _) _⟩
  go_wp2_with fail
  clear x0 x1 x2 x3 x4
  go_loopw [1, 7] (fun s1 s7 wx => ∃ (i : Nat) (l : Int), i ≤ h.tn ∧ 0 ≤ l ∧ l ≤ 500 ∧ s1 = .int .i64 l ∧ s7 = .int .i64 i ∧ Box wx 25 w.heap.size h ∧ Below w.heap.size w wx ∧ (∀ j (hj : j < t.kids.length), j < i → LightOK t.kids[j]) ∧ l = left - 1 - (((t.kids.take i).map countT).sum : Nat)) (fun _ s7 _ => h.tn - (intOf s7).toNat)
  case atStart => exact ⟨0, left - 1, by omega, by omega, by omega, by go_num, rfl, HX.out, (Below.refl _ _).alloc (Nat.le_refl _) _, (fun j hj h => by omega), by simp⟩
  case round =>
    obtain ⟨i, l, hi, hl0, hl5, rfl, rfl, hbx, hbw, hok, hsum⟩ := hrel
    have hx4 := hbx.cells.2.2.2.2
    have HBX := Lib.hid hbx
    have HBW := Lib.hid hbw
    have HOK := Lib.hid (And.intro hok hsum)
    clear hbx hbw hok hsum HX
    by_cases hlt : i < h.tn
    · have q1 : (i : Int) < (h.tn : Int) := by omega
      obtain ⟨g, off, hta, hg, hcs⟩ := (HP.out.below HBW.out).place (by omega)
      rw [hta] at hx4
      obtain ⟨k0, k1, k2, k3, k4⟩ := hcs i hlt
      clear hcs hta
      have him : i < t.kids.length := by omega
      go_upto_region 8 with (first
        | (go_at_call 16
           refine (IH.out _ (List.getElem_mem him) (H i) l (dep - 1) _ ((HP.out.below HBW.out).kids i him) (by omega) (by omega) (by omega) (by omega)).mono ?_
           rintro _ w1 ⟨r, rfl, hr1, hr2, hrok, hb1⟩
           have HB1 : Hid (Below w.heap.size w w1) := Lib.hid (HBW.out.trans (hb1.mono HBW.out.size))
           have HX1 := Lib.hid (HBX.out.below hb1 HBX.out.lt)
           have HR := Lib.hid hrok
           clear hb1 hrok))
      clear hx4 k0 k1 k2 k3 k4
      by_cases hr : r < 0
      · go_wp2_with fail
        go_ret
        exact ⟨_, rfl, by omega, by omega, fun h => by omega, HB1.out⟩
      · go_wp2_with fail
        exact ⟨⟨i + 1, r, by omega, by omega, by omega, rfl, by go_num, HX1.out, HB1.out, (fun j hj hji => by
          by_cases hij : j = i
          · subst hij; exact (HR.out (by omega)).1
          · exact HOK.out.1 j hj (by omega)), by
          have h1 := (HR.out (by omega)).2
          have h2 := HOK.out.2
          rw [List.take_succ_eq_append_getElem him, List.map_append, List.sum_append]
          simp only [List.map_cons, List.map_nil, List.sum_cons, List.sum_nil]
          omega⟩, by simp [intOf]; omega⟩
    · obtain rfl : i = h.tn := by omega
      have q1 : ¬ (h.tn : Int) < (h.tn : Int) := by omega
      go_wp2_with fail
      go_ret
      exact ⟨_, rfl, by omega, by omega, fun _ => ⟨.mk t (by omega) (by omega) (by omega) (by omega) fun j hj => HOK.out.1 j hj (by omega), by
        have h2 := HOK.out.2
        rw [List.take_of_length_le (by omega)] at h2
        rw [countT_eq]
        omega⟩, HBW.out⟩
end Go.Proofs.Ytagmeljjkblpbaa

/- One byte in a block of its own. No program is named here. -/
namespace Go.Proofs.Ytagmeljjkblpbaa
open Go.RowKit
set_option linter.unusedVariables false

/-- One byte in a block of its own. -/
theorem in_one {w : World} {g : Nat} {t : TypeId} {z : Int} {fr : Nat × Nat} (h : w.heap[g]? = some (.cells #[.int .u8 z] t fr)) (h0 : 0 ≤ z) (h1 : z ≤ 255) : InBytes w (some ⟨g, 0, none⟩) 1 1 [z] := by
  have hlt : g < w.heap.size := by
    rcases Nat.lt_or_ge g w.heap.size with hlt | hge
    · exact hlt
    · rw [Array.getElem?_eq_none hge] at h
      cases h
  have hseg : Seg .u8 w g 0 [z] := fun i hi => by
    have hi0 : i = 0 := by simpa using hi
    subst hi0
    rw [cell_of_row w g (0 + 0) _ _ fr h]
    rfl
  exact ⟨rfl, (fun x hx => by simp at hx; omega), Nat.le_refl _, by simp [maxLen], (fun h => by cases h), fun _ => ⟨g, 0, rfl, hlt, hseg⟩⟩
theorem alloc_size (w : World) (o : Obj) : (w.alloc o).heap.size = w.heap.size + 1 := by simp
end Go.Proofs.Ytagmeljjkblpbaa

/- The heads of the statements of layer 10: the document's examples; whether a tree is small. -/
namespace Go.Proofs.Ytagmeljjkblpbaa
open Go.RowKit
set_option linter.unusedVariables false

/-- Two bytes in a block of their own. -/
theorem in_two10 {w : World} {g : Nat} {t : TypeId} {y z : Int} {fr : Nat × Nat} (h : w.heap[g]? = some (.cells #[.int .u8 y, .int .u8 z] t fr)) (h0 : 0 ≤ y) (h1 : y ≤ 255) (h2 : 0 ≤ z) (h3 : z ≤ 255) : InBytes w (some ⟨g, 0, none⟩) 2 2 [y, z] := by
  have hlt : g < w.heap.size := by
    rcases Nat.lt_or_ge g w.heap.size with hlt | hge
    · exact hlt
    · rw [Array.getElem?_eq_none hge] at h
      cases h
  have hseg : Seg .u8 w g 0 [y, z] := fun i hi => by
    have hi2 : i = 0 ∨ i = 1 := by have q : i < 2 := hi; omega
    rw [cell_of_row w g (0 + i) _ _ fr h]
    rcases hi2 with rfl | rfl <;> rfl
  exact ⟨rfl, (fun x hx => by
    rcases List.mem_cons.1 hx with rfl | hx
    · omega
    · rcases List.mem_cons.1 hx with rfl | hx
      · omega
      · cases hx), Nat.le_refl _, by simp [maxLen], (fun h => by cases h), fun _ => ⟨g, 0, rfl, hlt, hseg⟩⟩
/-- make([]T, n): a new block of noughts. -/
theorem make_any10 {P : Program} (w : World) {ops : Array Oper} {rest : List Oper} {o : Oper} {a : Act} {Q : Exit → Act → World → Prop}
    (hg : o.guard = none) (l c : Operand) (t : TypeId) (hop : o.op = Op.makeSlice t l c)
    (e : TypeId) (i : TypeInfo) (z : Value) (h1 : P.underlying t = some (.slice e)) (h2 : P.info? e = some i) (h3 : i.zero = some z)
    (kl kc : IntKind) (L C : Int) (n : Nat) (hl : a.eval l = .int kl L) (hc : a.eval c = .int kc C) (hL : L = (n : Int)) (hC : C = (n : Int)) (b2 : i.bytes * n ≤ 281474976710656) (b3 : n ≤ maxLen)
    (hK : wpList P ops Q rest (a.put o.dst (.slice (some ⟨w.heap.size, 0, none⟩) n n)) (w.alloc (.cells (madeCells z.cells (n * i.size)) e))) :
    wpList P ops Q (o :: rest) a w := by
  refine wpList_plain hg fun K hK' => ?_
  subst hL
  subst hC
  have hb : (i.bytes : Int) * (n : Int) ≤ 281474976710656 := by
    have h : ((i.bytes * n : Nat) : Int) ≤ 281474976710656 := by omega
    rwa [Int.natCast_mul] at h
  simp only [maxLen] at b3
  have hrun := run_make (P := P) w t e i _ h1 h2 h3 kl kc n n (by omega) (by omega) hb (by omega)
  rw [Int.toNat_natCast] at hrun
  unfold Oper.wp
  simp only [execOp, hop, hl, hc, Sem.run_bind, hrun, Result.andThen_ok, Sem.run_pure]
  exact hK' _ _ hK
theorem made_two10 : madeCells (Value.agg #[.int .i64 0, .slice none 0 0, .slice none 0 0, .slice none 0 0, .slice none 0 0]).cells (2 * 5) = #[.int .i64 0, .slice none 0 0, .slice none 0 0, .slice none 0 0, .slice none 0 0, .int .i64 0, .slice none 0 0, .slice none 0 0, .slice none 0 0, .slice none 0 0] := by kernel_rfl
def tUp10 : Tr := .mk 1 [97] [98] [] [tNil, tNil]
theorem up10_pt : tUp10 = (PT.shown .nil [97] [98] .nil).tr := rfl
theorem write_up10 : writeX tUp10 = (0, [1, 1, 97, 1, 98, 0, 0]) := by
  have hf : (PT.shown .nil [97] [98] .nil).fits10 := ⟨by decide, by decide, trivial, trivial⟩
  obtain ⟨h1, h2⟩ := fits_formed _ hf
  have hd : deepT (PT.shown .nil [97] [98] .nil).tr (64 : Nat) = false := by rw [deep_depth]; decide
  have hc : checkT (PT.shown .nil [97] [98] .nil).tr = 0 := by
    unfold checkT
    rw [show ((64 : Int)) = ((64 : Nat) : Int) from rfl, hd, h1]
    rfl
  rw [up10_pt]
  unfold writeX
  rw [if_neg (by rw [hc]; decide), h2, if_neg (by decide), toP_tr]
  decide
theorem read_up10 : readX [0, 0] = (4, .nil) := rfl
theorem count_up10 : countT tUp10 ≤ 500 := by
  unfold tUp10 tNil
  rw [countT_eq]
  simp only [Tr.kids, List.map_cons, List.map_nil, List.sum_cons, List.sum_nil]
  rw [countT_eq]
  simp [Tr.kids]
theorem inTree_two10 {w : World} {g : Nat} {ty : TypeId} {fr : Nat × Nat} {ka va : Option Addr} (hk : InBytes w ka 1 1 [97]) (hv : InBytes w va 1 1 [98]) (h : w.heap[g]? = some (.cells #[.int .i64 0, .slice none 0 0, .slice none 0 0, .slice none 0 0, .slice none 0 0, .int .i64 0, .slice none 0 0, .slice none 0 0, .slice none 0 0, .slice none 0 0] ty fr)) :
    InTree w ⟨1, ka, 1, 1, va, 1, 1, none, 0, 0, some ⟨g, 0, none⟩, 2, 2⟩ tUp10 :=
  .mk _ tUp10 (fun _ => hNil) rfl (by show (-9223372036854775808 : Int) ≤ 1; decide) (by show (1 : Int) ≤ 9223372036854775807; decide) hk hv (in_nil w)
    ⟨Nat.le_refl _, by simp [maxLen], (fun h => by cases h), fun _ => ⟨g, 0, rfl, (by
      rcases Nat.lt_or_ge g w.heap.size with hlt | hge
      · exact hlt
      · rw [Array.getElem?_eq_none hge] at h
        cases h), fun i hi => by
      have h10 : i < 10 := hi
      rw [cell_of_row w g (0 + i) _ _ fr h]
      rcases (by omega : i = 0 ∨ i = 1 ∨ i = 2 ∨ i = 3 ∨ i = 4 ∨ i = 5 ∨ i = 6 ∨ i = 7 ∨ i = 8 ∨ i = 9) with rfl | rfl | rfl | rfl | rfl | rfl | rfl | rfl | rfl | rfl <;> rfl⟩⟩ rfl (fun i hi => by
      have h2 : i = 0 ∨ i = 1 := by have q : i < 2 := hi; omega
      rcases h2 with rfl | rfl
      · exact inTree_nil w
      · exact inTree_nil w)

set_option maxRecDepth 100000 in
set_option maxHeartbeats 8000000 in
theorem up10_any (w : World) : Calls Try.prog 7 #[] w (Says w (.bool true)) := by
  have heq : ∀ (W : World) (p q : Int), (binOp .eql 29 (.iface 41 (.int .i64 p)) (.iface 41 (.int .i64 q))).run Try.prog W = .ok (.bool (p == q)) W := fun W p q => eql_code p q W
  have x1 : (w.alloc (.cells #[.int .u8 97] 5 (1, 2))).heap[w.heap.size]? = some (.cells #[.int .u8 97] 5 (1, 2)) := heap_alloc_new w _
  have b2 : Below (w.alloc (.cells #[.int .u8 97] 5 (1, 2))).heap.size (w.alloc (.cells #[.int .u8 97] 5 (1, 2))) ((w.alloc (.cells #[.int .u8 97] 5 (1, 2))).alloc (.cells #[.int .u8 98] 5 (1, 2))) := (Below.refl _ _).alloc (Nat.le_refl _) _
  have b3 : Below ((w.alloc (.cells #[.int .u8 97] 5 (1, 2))).alloc (.cells #[.int .u8 98] 5 (1, 2))).heap.size ((w.alloc (.cells #[.int .u8 97] 5 (1, 2))).alloc (.cells #[.int .u8 98] 5 (1, 2))) (((w.alloc (.cells #[.int .u8 97] 5 (1, 2))).alloc (.cells #[.int .u8 98] 5 (1, 2))).alloc (.cells #[.int .i64 0, .slice none 0 0, .slice none 0 0, .slice none 0 0, .slice none 0 0, .int .i64 0, .slice none 0 0, .slice none 0 0, .slice none 0 0, .slice none 0 0] 25)) := (Below.refl _ _).alloc (Nat.le_refl _) _
  have HI : Hid (InTree (((w.alloc (.cells #[.int .u8 97] 5 (1, 2))).alloc (.cells #[.int .u8 98] 5 (1, 2))).alloc (.cells #[.int .i64 0, .slice none 0 0, .slice none 0 0, .slice none 0 0, .slice none 0 0, .int .i64 0, .slice none 0 0, .slice none 0 0, .slice none 0 0, .slice none 0 0] 25)) ⟨1, some ⟨w.heap.size, 0, none⟩, 1, 1, some ⟨w.heap.size + 1, 0, none⟩, 1, 1, none, 0, 0, some ⟨w.heap.size + 2, 0, none⟩, 2, 2⟩ tUp10) := Lib.hid (by
    have k1 := (in_one x1 (by omega) (by omega)).below (b2.trans (b3.mono b2.size))
    have q2 := heap_alloc_new (w.alloc (.cells #[.int .u8 97] 5 (1, 2))) (.cells #[.int .u8 98] 5 (1, 2))
    rw [alloc_size] at q2
    have k2 := (in_one q2 (by omega) (by omega)).below b3
    have q3 := heap_alloc_new ((w.alloc (.cells #[.int .u8 97] 5 (1, 2))).alloc (.cells #[.int .u8 98] 5 (1, 2))) (.cells #[.int .i64 0, .slice none 0 0, .slice none 0 0, .slice none 0 0, .slice none 0 0, .int .i64 0, .slice none 0 0, .slice none 0 0, .slice none 0 0, .slice none 0 0] 25)
    rw [alloc_size, alloc_size] at q3
    exact inTree_two10 k1 k2 q3)
  have HB3 : Hid (Below w.heap.size w (((w.alloc (.cells #[.int .u8 97] 5 (1, 2))).alloc (.cells #[.int .u8 98] 5 (1, 2))).alloc (.cells #[.int .i64 0, .slice none 0 0, .slice none 0 0, .slice none 0 0, .slice none 0 0, .int .i64 0, .slice none 0 0, .slice none 0 0, .slice none 0 0, .slice none 0 0] 25))) := Lib.hid ((((Below.refl _ _).alloc (Nat.le_refl _) _).alloc (by rw [alloc_size]; omega) _).alloc (by rw [alloc_size, alloc_size]; omega) _)
  clear x1 b2 b3
  have hcv : (convert 22 22 (.slice (some ⟨w.heap.size, 0, none⟩) 1 1)).run Try.prog (w.alloc (.cells #[.int .u8 97] 5)) = .ok (.slice (some ⟨w.heap.size, 0, none⟩) 1 1) (w.alloc (.cells #[.int .u8 97] 5 (1, 2))) :=
    Lib.run_convert_bytes_const w 22 5 #[.int .u8 97] 1 1 Try.underlying22 Try.underlying5
  have hcv2 : (convert 22 22 (.slice (some ⟨w.heap.size + 1, 0, none⟩) 1 1)).run Try.prog ((w.alloc (.cells #[.int .u8 97] 5 (1, 2))).alloc (.cells #[.int .u8 98] 5)) = .ok (.slice (some ⟨w.heap.size + 1, 0, none⟩) 1 1) ((w.alloc (.cells #[.int .u8 97] 5 (1, 2))).alloc (.cells #[.int .u8 98] 5 (1, 2))) := by
    have q := Lib.run_convert_bytes_const (P := Try.prog) (w.alloc (.cells #[.int .u8 97] 5 (1, 2))) 22 5 #[.int .u8 98] 1 1 Try.underlying22 Try.underlying5
    rw [alloc_size] at q
    exact q
  go_enter Try.func7, Try.ntmps7
  obtain ⟨ti, hti, htz⟩ := Option.map_eq_some_iff.1 infoTree2
  simp only [Prod.mk.injEq] at htz
  obtain ⟨hz0, hz1, hz2⟩ := htz
  go_upto_region 2 with (first
    | (at_make
       refine make_any10 _ rfl (.const (.int .i64 2)) (.const (.int .i64 2)) 23 rfl 25 ti _ Try.underlying23 hti hz0 .i64 .i64 2 2 2 rfl rfl rfl rfl (by rw [hz2]; omega) (by simp [maxLen]) ?_
       rw [hz1, made_two10])
    | (go_at_call 9
       refine (cwrite_any tUp10 ⟨1, some ⟨w.heap.size, 0, none⟩, 1, 1, some ⟨w.heap.size + 1, 0, none⟩, 1, 1, none, 0, 0, some ⟨w.heap.size + 2, 0, none⟩, 2, 2⟩ _ HI.out (Nat.le_trans count_up10 (by omega))).mono ?_
       unfold WriteTold
       rw [write_up10]
       rintro _ w4 ⟨a4, n4, c4, rfl, hf4, hb4⟩
       have e0 : codeV ((0, ([1, 1, 97, 1, 98, 0, 0] : List Int)) : Nat × List Int).1 = .nilIface := rfl
       rw [e0]
       have HI4 := Lib.hid (hf4 _ (Nat.le_refl _) (fun _ _ _ => rfl))
       have HB4 : Hid (Below w.heap.size w w4) := Lib.hid (HB3.out.trans (hb4.mono HB3.out.size))
       clear e0 hf4 hb4))
  have HB5 : Hid (Below w.heap.size w (w4.alloc (.cells #[.int .u8 0, .int .u8 0] 5))) := Lib.hid (HB4.out.trans (((Below.refl w4.heap.size w4).alloc (Nat.le_refl _) _).mono HB4.out.size))
  have HI5 : Hid (InBytes (w4.alloc (.cells #[.int .u8 0, .int .u8 0] 5)) (some ⟨w4.heap.size, 0, none⟩) 2 2 [0, 0]) := Lib.hid (in_two10 (heap_alloc_new w4 (.cells #[.int .u8 0, .int .u8 0] 5)) (by omega) (by omega) (by omega) (by omega))
  have HI6 := Lib.hid (HI4.out.below ((Below.refl w4.heap.size w4).alloc (Nat.le_refl _) (.cells #[.int .u8 0, .int .u8 0] 5)))
  clear HI4
  go_upto_region 3 with (first
    | (go_at_call 12
       refine (cread_any _ 2 2 [0, 0] _ HI5.out (by omega)).mono ?_
       unfold ReadTold TH.v
       rw [read_up10]
       rintro _ w7 ⟨h7, rfl, hf7, hb7⟩
       have e0 : codeV ((4, PT.nil) : Nat × PT).1 = .iface 41 (.int .i64 4) := rfl
       rw [e0]
       have HI7 := Lib.hid (HI6.out.below hb7)
       have HB7 : Hid (Below w.heap.size w w7) := Lib.hid (HB5.out.trans (hb7.mono HB5.out.size))
       clear e0 hf7 hb7))
  have HB8 : Hid (Below w.heap.size w (w7.alloc (.cells #[.int .i64 h7.k, .slice h7.ka h7.kn h7.kc, .slice h7.va h7.vn h7.vc, .slice h7.da h7.dn h7.dc, .slice h7.ta h7.tn h7.tc] 25))) := Lib.hid (HB7.out.trans (((Below.refl w7.heap.size w7).alloc (Nat.le_refl _) _).mono HB7.out.size))
  have hi8 := HI7.out.below ((Below.refl w7.heap.size w7).alloc (Nat.le_refl _) (.cells #[.int .i64 h7.k, .slice h7.ka h7.kn h7.kc, .slice h7.va h7.vn h7.vc, .slice h7.da h7.dn h7.dc, .slice h7.ta h7.tn h7.tc] 25))
  generalize (w7.alloc (.cells #[.int .i64 h7.k, .slice h7.ka h7.kn h7.kc, .slice h7.va h7.vn h7.vc, .slice h7.da h7.dn h7.dc, .slice h7.ta h7.tn h7.tc] 25)) = w8 at *
  have hc1 : (convert 22 9 (.slice a4 n4 c4)).run Try.prog w8 = .ok (.string ⟨#[1, 1, 97, 1, 98, 0, 0]⟩) w8 := conv_in (P := Try.prog) hi8 22 5 9 Try.underlying22 Try.underlying5 Try.underlying9
  clear HI7 hi8
  go_wp2_with fail
  go_ret
  exact ⟨rfl, HB8.out⟩

set_option maxRecDepth 100000 in
set_option maxHeartbeats 8000000 in
theorem small10_any (t : Tr) (h : TH) (w : World) (ht : InTree w h t) : Calls Try.prog 8 #[h.v] w (fun e w' => ∃ b, e = .returned (.bool b) ∧ (b = true → LightOK t ∧ countT t ≤ 300) ∧ Below w.heap.size w w') := by
  unfold TH.v
  have hbox := Box.new w 25 h
  obtain ⟨x0, x1, x2, x3, x4⟩ := hbox.cells
  have HT := Lib.hid ht
  clear hbox ht
  go_enter Try.func8, Try.ntmps8
  go_wp2_with (first
    | (go_at_call 16
       refine (light_any t h 300 200 _ ?_ (by omega) (by omega) (by omega) (by omega)).mono ?_
       · exact HT.out.lower ((Below.refl _ _).alloc (Nat.le_refl _) _)
       rintro _ w1 ⟨r, rfl, hr1, hr2, hok, hb1⟩
       have HB1 : Hid (Below w.heap.size w w1) := Lib.hid (((Below.refl w.heap.size w).alloc (Nat.le_refl _) _).trans (hb1.mono (by simp)))
       have HOK := Lib.hid hok
       clear hb1 hok))
  all_goals
    go_ret
    refine ⟨_, rfl, fun hb => ?_, HB1.out⟩
    have h1 : 0 ≤ r := by simpa using hb
    have h2 := HOK.out h1
    exact ⟨h2.1, by omega⟩
end Go.Proofs.Ytagmeljjkblpbaa

/- The contract of the document's read of layer 10, of what has no kids. -/
namespace Go.Proofs.Ytagmeljjkblpbaa
open Go.RowKit
set_option linter.unusedVariables false

set_option maxRecDepth 100000 in
set_option maxHeartbeats 8000000 in
theorem refReadFlat_any (d : Nat) (hd : d ≤ 64) (g : Nat) (a : Option Addr) (n c : Nat) (bs : List Int) (s : Option (List Int)) (w : World) (hin : InBytes w a n c bs) (hag : 0 < n → ∀ ad, a = some ad → ad.block ≠ g) (hr : RefRd w g a n c bs s) (hb8 : ∀ r, s = some r → Bytes8 r) (hn : n ≤ 1000000) (hgl : g < w.heap.size)
    (hflat : ∀ k l, s = some (k :: l) → k = 1 ∨ k = 2 → d = 0) : Calls Try.prog 28 #[.pointer (some ⟨g, 0, none⟩), .int .i64 d] w (Rd10 w g a n c bs (rdP d s)) := by
  obtain ⟨o, ho⟩ : ∃ o, rdP d s = o := ⟨_, rfl⟩
  rw [ho]
  have HRO := Lib.hid ho
  clear ho
  have HZ0 : Hid ((w.alloc (.cells #[.int .i64 hZ.k, .slice hZ.ka hZ.kn hZ.kc, .slice hZ.va hZ.vn hZ.vc, .slice hZ.da hZ.dn hZ.dc, .slice hZ.ta hZ.tn hZ.tc] 25)) = w.alloc (.cells #[.int .i64 hZ.k, .slice hZ.ka hZ.kn hZ.kc, .slice hZ.va hZ.vn hZ.vc, .slice hZ.da hZ.dn hZ.dc, .slice hZ.ta hZ.tn hZ.tc] 25)) := Lib.hid rfl
  have hb0 : Below w.heap.size w (w.alloc (.cells #[.int .i64 hZ.k, .slice hZ.ka hZ.kn hZ.kc, .slice hZ.va hZ.vn hZ.vc, .slice hZ.da hZ.dn hZ.dc, .slice hZ.ta hZ.tn hZ.tc] 25)) := (Below.refl _ _).alloc (Nat.le_refl _) _
  have HI0 := Lib.hid (hin.below hb0)
  have HR0 := Lib.hid (hr.grown (only_below hb0 none) (fun e => by cases e))
  have HB8 := Lib.hid hb8
  have HFL := Lib.hid hflat
  have HAG := Lib.hid hag
  clear hb0 hin hr hb8 hflat hag
  go_enter Try.func28, Try.ntmps28
  go_upto_region 1 with fail
  have HE0 : Hid ((w.alloc (.cells #[.int .i64 0, .slice none 0 0, .slice none 0 0, .slice none 0 0, .slice none 0 0] 25)) = w.alloc (.cells #[.int .i64 hZ.k, .slice hZ.ka hZ.kn hZ.kc, .slice hZ.va hZ.vn hZ.vc, .slice hZ.da hZ.dn hZ.dc, .slice hZ.ta hZ.tn hZ.tc] 25)) := Lib.hid rfl
  change Hid (InBytes (w.alloc (.cells #[.int .i64 0, .slice none 0 0, .slice none 0 0, .slice none 0 0, .slice none 0 0] 25)) a n c bs) at HI0
  change Hid (RefRd (w.alloc (.cells #[.int .i64 0, .slice none 0 0, .slice none 0 0, .slice none 0 0, .slice none 0 0] 25)) g a n c bs s) at HR0
  clear HZ0
  generalize (w.alloc (.cells #[.int .i64 0, .slice none 0 0, .slice none 0 0, .slice none 0 0, .slice none 0 0] 25)) = w0 at *
  obtain ⟨k, hk⟩ : ∃ k, (rdByte s).1 = k := ⟨_, rfl⟩
  have hk255 : 0 ≤ k ∧ k ≤ 255 := by
    rw [← hk]
    cases s with
    | none => exact ⟨by decide, by decide⟩
    | some l => cases l with
      | nil => exact ⟨by decide, by decide⟩
      | cons x l => exact HB8.out _ rfl x (by simp)
  have HK := Lib.hid hk
  have e64 : IntKind.i64.wrap k = k := IntWalk.i64_in _ (by omega)
  clear hk
  go_upto_region 2 with (first
    | (go_at_call 40
       refine (refByte_any g a n c bs s _ HI0.out HAG.out HR0.out).mono ?_
       rw [HK.out]
       rintro _ w1 ⟨rfl, hr1, hg1⟩
       have HS := Lib.hid (RS.enter HE0.out hgl HAG.out HI0.out hg1 hr1 ⟨k, none, 0, 0, none, 0, 0, none, 0, 0, none, 0, 0⟩)
       clear hr1 hg1))
  generalize (w1.alloc (.cells #[.int .i64 k, .slice none 0 0, .slice none 0 0, .slice none 0 0, .slice none 0 0] 25)) = w2 at *
  generalize w1.heap.size = B at *
  clear HE0 HI0 HR0
  obtain ⟨x0, x1, x2, x3, x4⟩ := HS.out.tb.cells
  obtain ⟨at', bad, hd', hat, hnone, hsome⟩ := HS.out.rd
  have r2 := hd'.cell2
  have f2 := hd'.frozen 2
  have HD := Lib.hid hd'
  clear hd'
  cases hs : (rdByte s).2 with
  | none =>
    have hk0 : k = 0 := by rw [← HK.out]; exact (rdNum_of_byte s hs).2
    subst hk0
    obtain rfl := hnone hs
    have HO : Hid (o = none) := Lib.hid (by rw [← HRO.out]; exact rdByte_none hs d)
    rw [hs] at HS
    clear hs hnone hsome
    go_wp2_with (first
      | (refine wpList_store_box rfl 25 (.tmp 4) (.tmp 40) rfl w.heap.size hZ ⟨0, none, 0, 0, none, 0, 0, none, 0, 0, none, 0, 0⟩ rfl rfl 25 HS.out.res infoTree5 ?_
         intro w9 hbx9 hg9
         have HX9 := Lib.hid hbx9
         have HG9 := Lib.hid hg9
         clear hbx9 hg9))
    all_goals
      obtain ⟨hr9, hu9⟩ := HS.out.ret HG9.out
      exact bodyPost_ret (v := TH.v ⟨0, none, 0, 0, none, 0, 0, none, 0, 0, none, 0, 0⟩) (result_tree Try.results28 _ HX9.out rfl Try.underlying25 infoTree5) rfl ⟨_, rfl, by rw [HO.out]; exact hr9, hu9, fun p r h => by rw [HO.out] at h; cases h⟩
  | some l =>
    obtain ⟨rfl, hl⟩ := hsome l hs
    have hsl := rdByte_some hs
    rw [HK.out] at hsl
    rw [hs] at HS
    clear hs hnone hsome
    have HSL := Lib.hid hsl
    have HL := Lib.hid hl
    clear hsl hl
    by_cases k0 : k = 0
    · subst k0
      have HO : Hid (o = some (.nil, l)) := Lib.hid (by rw [← HRO.out, HSL.out]; exact rdP_0 d l)
      go_wp2_with (first
        | (refine wpList_store_box rfl 25 (.tmp 4) (.tmp 40) rfl w.heap.size hZ ⟨0, none, 0, 0, none, 0, 0, none, 0, 0, none, 0, 0⟩ rfl rfl 25 HS.out.res infoTree5 ?_
           intro w9 hbx9 hg9
           have HX9 := Lib.hid hbx9
           have HG9 := Lib.hid hg9
           clear hbx9 hg9))
      all_goals
        obtain ⟨hr9, hu9⟩ := HS.out.ret HG9.out
        exact bodyPost_ret (v := TH.v ⟨0, none, 0, 0, none, 0, 0, none, 0, 0, none, 0, 0⟩) (result_tree Try.results28 _ HX9.out rfl Try.underlying25 infoTree5) rfl ⟨_, rfl, by rw [HO.out]; exact hr9, hu9, fun p r h => by rw [HO.out] at h; injection h with h; injection h with h1 h2; subst h1; exact inTree_nil w9⟩
    by_cases k3 : k = 3
    · subst k3
      have HO : Hid (o = (rdBytes 32 (some l)).2.map fun r => (.cut (rdBytes 32 (some l)).1, r)) := Lib.hid (by rw [← HRO.out, HSL.out]; exact rdP_3 d l)
      have hl8 : ∀ r, some l = some r → Bytes8 r := fun r e => by
        injection e with e
        subst e
        exact fun x hx => HB8.out _ HSL.out x (by simp [hx])
      have f3 := HS.out.tb.frozen 3
      go_upto_region 8 with (first
        | (go_at_call 41
           refine (refRdBytes_any g a n c bs (some l) 32 _ HS.out.inb HAG.out HS.out.rd hl8 (by omega) (by omega) (by omega)).mono ?_
           rintro _ w4 ⟨a4, c4, rfl, hi4, hr4, hg4⟩
           have HS4 := Lib.hid (HS.out.rdr hg4 hr4)
           have HI4 := Lib.hid hi4
           clear hi4 hr4 hg4 x0 x1 x2 x3 x4 f3
           obtain ⟨x0, x1, x2, x3, x4⟩ := HS4.out.tb.cells
           have f3 := HS4.out.tb.frozen 3))
      all_goals
        have HX5 : Hid (Box (w4.setCell ⟨B, 3, none⟩ (.slice a4 (rdBytes 32 (some l)).1.length c4)) 25 B ⟨3, none, 0, 0, none, 0, 0, a4, (rdBytes 32 (some l)).1.length, c4, none, 0, 0⟩) := Lib.hid (HS4.out.tb.set3 a4 (rdBytes 32 (some l)).1.length c4)
        have HI5 := Lib.hid (HI4.out.outBox HS4.out.tb (only_set (only_refl w4 (some B)) 3 (.slice a4 (rdBytes 32 (some l)).1.length c4)))
        have HS5 := Lib.hid (HS4.out.wr (only_set (only_refl w4 (some B)) 3 (.slice a4 (rdBytes 32 (some l)).1.length c4)) HX5.out)
        clear x0 x1 x2 x3 x4 f3 HX5
        generalize (w4.setCell ⟨B, 3, none⟩ (.slice a4 (rdBytes 32 (some l)).1.length c4)) = w5 at *
        obtain ⟨x0, x1, x2, x3, x4⟩ := HS5.out.tb.cells
        go_wp2_with (first
          | (refine wpList_store_box rfl 25 (.tmp 4) (.tmp 47) rfl w.heap.size hZ ⟨3, none, 0, 0, none, 0, 0, a4, (rdBytes 32 (some l)).1.length, c4, none, 0, 0⟩ rfl rfl 25 HS5.out.res infoTree5 ?_
             intro w9 hbx9 hg9
             have HX9 := Lib.hid hbx9
             have HG9 := Lib.hid hg9
             clear hbx9 hg9))
        obtain ⟨hr9, hu9⟩ := HS5.out.ret HG9.out
        have HI9 := HI5.out.outBox HS5.out.res HG9.out
        generalize rdBytes 32 (some l) = z at *
        obtain ⟨z1, z2⟩ := z
        exact bodyPost_ret (v := TH.v ⟨3, none, 0, 0, none, 0, 0, a4, z1.length, c4, none, 0, 0⟩) (result_tree Try.results28 _ HX9.out rfl Try.underlying25 infoTree5) rfl ⟨_, rfl, by rw [HO.out]; cases z2 <;> exact hr9, hu9, fun p r h => by rw [HO.out] at h; cases z2 with | none => cases h | some q => injection h with h; injection h with h1 h2; subst h1; exact inTree_leaf (by omega) (by omega) HI9⟩
    by_cases k4 : 3 < k
    · have HO : Hid (o = none) := Lib.hid (by rw [← HRO.out, HSL.out]; exact rdP_big d l k4)
      go_upto_region 4 with fail
      have HS3 := Lib.hid (HS.out.rdr (only_set (only_refl w2 (some g)) 2 (.bool true)) (s' := none) ⟨at', true, HD.out.set2 true, hat, fun _ => rfl, fun r h => by cases h⟩)
      have HD3 := Lib.hid (HD.out.set2 true)
      clear x0 x1 x2 x3 x4 r2 f2
      generalize (w2.setCell ⟨g, 2, none⟩ (.bool true)) = w3 at *
      obtain ⟨x0, x1, x2, x3, x4⟩ := HS3.out.tb.cells
      have r2 := HD3.out.cell2
      go_wp2_with (first
        | (refine wpList_store_box rfl 25 (.tmp 4) (.tmp 40) rfl w.heap.size hZ ⟨k, none, 0, 0, none, 0, 0, none, 0, 0, none, 0, 0⟩ rfl rfl 25 HS3.out.res infoTree5 ?_
           intro w9 hbx9 hg9
           have HX9 := Lib.hid hbx9
           have HG9 := Lib.hid hg9
           clear hbx9 hg9))
      obtain ⟨hr9, hu9⟩ := HS3.out.ret HG9.out
      exact bodyPost_ret (v := TH.v ⟨k, none, 0, 0, none, 0, 0, none, 0, 0, none, 0, 0⟩) (result_tree Try.results28 _ HX9.out rfl Try.underlying25 infoTree5) rfl ⟨_, rfl, by rw [HO.out]; exact hr9, hu9, fun p r h => by rw [HO.out] at h; cases h⟩
    have k12 : k = 1 ∨ k = 2 := by omega
    have hd0 := HFL.out k l HSL.out k12
    subst hd0
    have HO : Hid (o = none) := Lib.hid (by rw [← HRO.out, HSL.out]; exact rdP_deep l k12)
    clear k0 k3 k4
    rcases k12 with rfl | rfl
    · go_upto_region 4 with fail
      have HS3 := Lib.hid (HS.out.rdr (only_set (only_refl w2 (some g)) 2 (.bool true)) (s' := none) ⟨at', true, HD.out.set2 true, hat, fun _ => rfl, fun r h => by cases h⟩)
      have HD3 := Lib.hid (HD.out.set2 true)
      clear x0 x1 x2 x3 x4 r2 f2
      generalize (w2.setCell ⟨g, 2, none⟩ (.bool true)) = w3 at *
      obtain ⟨x0, x1, x2, x3, x4⟩ := HS3.out.tb.cells
      have r2 := HD3.out.cell2
      go_wp2_with (first
        | (refine wpList_store_box rfl 25 (.tmp 4) (.tmp 40) rfl w.heap.size hZ ⟨1, none, 0, 0, none, 0, 0, none, 0, 0, none, 0, 0⟩ rfl rfl 25 HS3.out.res infoTree5 ?_
           intro w9 hbx9 hg9
           have HX9 := Lib.hid hbx9
           have HG9 := Lib.hid hg9
           clear hbx9 hg9))
      obtain ⟨hr9, hu9⟩ := HS3.out.ret HG9.out
      exact bodyPost_ret (v := TH.v ⟨1, none, 0, 0, none, 0, 0, none, 0, 0, none, 0, 0⟩) (result_tree Try.results28 _ HX9.out rfl Try.underlying25 infoTree5) rfl ⟨_, rfl, by rw [HO.out]; exact hr9, hu9, fun p r h => by rw [HO.out] at h; cases h⟩
    · go_upto_region 4 with fail
      have HS3 := Lib.hid (HS.out.rdr (only_set (only_refl w2 (some g)) 2 (.bool true)) (s' := none) ⟨at', true, HD.out.set2 true, hat, fun _ => rfl, fun r h => by cases h⟩)
      have HD3 := Lib.hid (HD.out.set2 true)
      clear x0 x1 x2 x3 x4 r2 f2
      generalize (w2.setCell ⟨g, 2, none⟩ (.bool true)) = w3 at *
      obtain ⟨x0, x1, x2, x3, x4⟩ := HS3.out.tb.cells
      have r2 := HD3.out.cell2
      go_wp2_with (first
        | (refine wpList_store_box rfl 25 (.tmp 4) (.tmp 40) rfl w.heap.size hZ ⟨2, none, 0, 0, none, 0, 0, none, 0, 0, none, 0, 0⟩ rfl rfl 25 HS3.out.res infoTree5 ?_
           intro w9 hbx9 hg9
           have HX9 := Lib.hid hbx9
           have HG9 := Lib.hid hg9
           clear hbx9 hg9))
      obtain ⟨hr9, hu9⟩ := HS3.out.ret HG9.out
      exact bodyPost_ret (v := TH.v ⟨2, none, 0, 0, none, 0, 0, none, 0, 0, none, 0, 0⟩) (result_tree Try.results28 _ HX9.out rfl Try.underlying25 infoTree5) rfl ⟨_, rfl, by rw [HO.out]; exact hr9, hu9, fun p r h => by rw [HO.out] at h; cases h⟩
end Go.Proofs.Ytagmeljjkblpbaa

/- The contract of the document's read of layer 10, of a node that shows its value. -/
namespace Go.Proofs.Ytagmeljjkblpbaa
open Go.RowKit
set_option linter.unusedVariables false

set_option maxRecDepth 100000 in
set_option maxHeartbeats 8000000 in
theorem refReadNode1_any (d : Nat) (hd : d + 1 ≤ 64) (g : Nat) (a : Option Addr) (n c : Nat) (bs : List Int) (l : List Int) (w : World) (hin : InBytes w a n c bs) (hag : 0 < n → ∀ ad, a = some ad → ad.block ≠ g) (hr : RefRd w g a n c bs (some (1 :: l))) (hn : n ≤ 1000000) (hgl : g < w.heap.size)
    (ih : ∀ (s : Option (List Int)) (W : World), InBytes W a n c bs → RefRd W g a n c bs s → g < W.heap.size → Calls Try.prog 28 #[.pointer (some ⟨g, 0, none⟩), .int .i64 d] W (Rd10 W g a n c bs (rdP d s))) :
    Calls Try.prog 28 #[.pointer (some ⟨g, 0, none⟩), .int .i64 ((d + 1 : Nat) : Int)] w (Rd10 w g a n c bs (rdP (d + 1) (some (1 :: l)))) := by
  obtain ⟨o, ho⟩ : ∃ o, rdP (d + 1) (some (1 :: l)) = o := ⟨_, rfl⟩
  rw [ho]
  have HO : Hid (o = (rdP d (rdBytes 1024 (rdBytes 80 (some l)).2).2).bind fun x => (rdP d (some x.2)).map fun y => (.shown x.1 (rdBytes 80 (some l)).1 (rdBytes 1024 (rdBytes 80 (some l)).2).1 y.1, y.2)) := Lib.hid (by rw [← ho]; exact rdP_node d l (.inl rfl))
  have hd1 : ((d + 1 : Nat) : Int) - 1 = (d : Int) := by omega
  have e64 : IntKind.i64.wrap (d : Int) = (d : Int) := IntWalk.i64_in _ (by omega)
  obtain ⟨D, hD⟩ : ∃ D : Int, ((d + 1 : Nat) : Int) = D := ⟨_, rfl⟩
  have hD0 : (D == 0) = false := by rw [← hD]; simp; omega
  rw [hD] at hd1 ⊢
  clear ho hD
  have HZ0 : Hid ((w.alloc (.cells #[.int .i64 hZ.k, .slice hZ.ka hZ.kn hZ.kc, .slice hZ.va hZ.vn hZ.vc, .slice hZ.da hZ.dn hZ.dc, .slice hZ.ta hZ.tn hZ.tc] 25)) = w.alloc (.cells #[.int .i64 hZ.k, .slice hZ.ka hZ.kn hZ.kc, .slice hZ.va hZ.vn hZ.vc, .slice hZ.da hZ.dn hZ.dc, .slice hZ.ta hZ.tn hZ.tc] 25)) := Lib.hid rfl
  have hb0 : Below w.heap.size w (w.alloc (.cells #[.int .i64 hZ.k, .slice hZ.ka hZ.kn hZ.kc, .slice hZ.va hZ.vn hZ.vc, .slice hZ.da hZ.dn hZ.dc, .slice hZ.ta hZ.tn hZ.tc] 25)) := (Below.refl _ _).alloc (Nat.le_refl _) _
  have HI0 := Lib.hid (hin.below hb0)
  have HR0 := Lib.hid (hr.grown (only_below hb0 none) (fun e => by cases e))
  have hbb : ∀ r, some ((1 : Int) :: l) = some r → Bytes8 r := fun r e => by
    obtain ⟨at', bad, -, -, -, h3⟩ := hr
    rw [(h3 r e).2]
    exact fun z hz => hin.bytes z (List.mem_of_mem_drop hz)
  have HB8 := Lib.hid hbb
  have HAG := Lib.hid hag
  have IH := Lib.hid ih
  clear hb0 hin hr hag ih hbb
  go_enter Try.func28, Try.ntmps28
  go_upto_region 1 with fail
  have HE0 : Hid ((w.alloc (.cells #[.int .i64 0, .slice none 0 0, .slice none 0 0, .slice none 0 0, .slice none 0 0] 25)) = w.alloc (.cells #[.int .i64 hZ.k, .slice hZ.ka hZ.kn hZ.kc, .slice hZ.va hZ.vn hZ.vc, .slice hZ.da hZ.dn hZ.dc, .slice hZ.ta hZ.tn hZ.tc] 25)) := Lib.hid rfl
  change Hid (InBytes (w.alloc (.cells #[.int .i64 0, .slice none 0 0, .slice none 0 0, .slice none 0 0, .slice none 0 0] 25)) a n c bs) at HI0
  change Hid (RefRd (w.alloc (.cells #[.int .i64 0, .slice none 0 0, .slice none 0 0, .slice none 0 0, .slice none 0 0] 25)) g a n c bs (some (1 :: l))) at HR0
  clear HZ0
  generalize (w.alloc (.cells #[.int .i64 0, .slice none 0 0, .slice none 0 0, .slice none 0 0, .slice none 0 0] 25)) = w0 at *
  go_upto_region 2 with (first
    | (go_at_call 40
       refine (refByte_any g a n c bs (some (1 :: l)) _ HI0.out HAG.out HR0.out).mono ?_
       rintro _ w1 ⟨rfl, hr1, hg1⟩
       have e1 : rdByte (some ((1 : Int) :: l)) = (1, some l) := rfl
       rw [e1] at hr1 ⊢
       have HS := Lib.hid (RS.enter HE0.out hgl HAG.out HI0.out hg1 hr1 ⟨1, none, 0, 0, none, 0, 0, none, 0, 0, none, 0, 0⟩)
       clear hr1 hg1 e1))
  generalize (w1.alloc (.cells #[.int .i64 1, .slice none 0 0, .slice none 0 0, .slice none 0 0, .slice none 0 0] 25)) = w2 at *
  generalize w1.heap.size = B at *
  clear HE0 HI0 HR0
  obtain ⟨x0, x1, x2, x3, x4⟩ := HS.out.tb.cells
  have f1 := HS.out.tb.frozen 1
  have r2 : w2.cell? ⟨g, 2, none⟩ = some (.bool false) := by
    obtain ⟨at', bad, hd', -, -, h3⟩ := HS.out.rd
    rw [hd'.cell2, (h3 l rfl).1]
  go_upto_region 10 with (first
    | (go_at_call 41
       refine (refRdBytes_any g a n c bs (some l) 80 _ HS.out.inb HAG.out HS.out.rd HS.out.b8 (by omega) (by omega) (by omega)).mono ?_
       rintro _ w4 ⟨a4, c4, rfl, hi4, hr4, hg4⟩
       have HS4 := Lib.hid (HS.out.rdr hg4 hr4)
       have HI4 := Lib.hid hi4
       clear hi4 hr4 hg4 x0 x1 x2 x3 x4 f1 r2
       obtain ⟨x0, x1, x2, x3, x4⟩ := HS4.out.tb.cells
       have f1 := HS4.out.tb.frozen 1))
  have HX5 : Hid (Box (w4.setCell ⟨B, 1, none⟩ (.slice a4 (rdBytes 80 (some l)).1.length c4)) 25 B ⟨1, a4, (rdBytes 80 (some l)).1.length, c4, none, 0, 0, none, 0, 0, none, 0, 0⟩) := Lib.hid (HS4.out.tb.set1 a4 (rdBytes 80 (some l)).1.length c4)
  have HI5 := Lib.hid (HI4.out.outBox HS4.out.tb (only_set (only_refl w4 (some B)) 1 (.slice a4 (rdBytes 80 (some l)).1.length c4)))
  have HS5 := Lib.hid (HS4.out.wr (only_set (only_refl w4 (some B)) 1 (.slice a4 (rdBytes 80 (some l)).1.length c4)) HX5.out)
  clear x0 x1 x2 x3 x4 f1 HX5 HI4 HS4
  generalize (w4.setCell ⟨B, 1, none⟩ (.slice a4 (rdBytes 80 (some l)).1.length c4)) = w5 at *
  obtain ⟨x0, x1, x2, x3, x4⟩ := HS5.out.tb.cells
  have f2 := HS5.out.tb.frozen 2
  go_upto_region 13 with (first
    | (go_at_call 41
       refine (refRdBytes_any g a n c bs (rdBytes 80 (some l)).2 1024 _ HS5.out.inb HAG.out HS5.out.rd HS5.out.b8 (by omega) (by omega) (by omega)).mono ?_
       rintro _ w6 ⟨a6, c6, rfl, hi6, hr6, hg6⟩
       have HS6 := Lib.hid (HS5.out.rdr hg6 hr6)
       have HI6 := Lib.hid (And.intro (HS5.out.keepB hg6 HI5.out) hi6)
       clear hi6 hr6 hg6 x0 x1 x2 x3 x4 f2
       obtain ⟨x0, x1, x2, x3, x4⟩ := HS6.out.tb.cells
       have f2 := HS6.out.tb.frozen 2))
  have HX7 : Hid (Box (w6.setCell ⟨B, 2, none⟩ (.slice a6 (rdBytes 1024 (rdBytes 80 (some l)).2).1.length c6)) 25 B ⟨1, a4, (rdBytes 80 (some l)).1.length, c4, a6, (rdBytes 1024 (rdBytes 80 (some l)).2).1.length, c6, none, 0, 0, none, 0, 0⟩) := Lib.hid (HS6.out.tb.set2 a6 (rdBytes 1024 (rdBytes 80 (some l)).2).1.length c6)
  have HG7 := Lib.hid (only_set (only_refl w6 (some B)) 2 (.slice a6 (rdBytes 1024 (rdBytes 80 (some l)).2).1.length c6))
  have HI7 := Lib.hid (And.intro (HI6.out.1.outBox HS6.out.tb HG7.out) (HI6.out.2.outBox HS6.out.tb HG7.out))
  have HS7 := Lib.hid (HS6.out.wr HG7.out HX7.out)
  clear x0 x1 x2 x3 x4 f2 HX7 HG7 HI6 HS6 HS5 HI5 HS
  generalize (w6.setCell ⟨B, 2, none⟩ (.slice a6 (rdBytes 1024 (rdBytes 80 (some l)).2).1.length c6)) = w7 at *
  generalize rdBytes 1024 (rdBytes 80 (some l)).2 = zz at *
  generalize rdBytes 80 (some l) = kk at *
  obtain ⟨z, zs⟩ := zz
  obtain ⟨key, ks⟩ := kk
  obtain ⟨x0, x1, x2, x3, x4⟩ := HS7.out.tb.cells
  obtain ⟨at', bad, hd', hat, hnone, hsome⟩ := HS7.out.rd
  have r2 := hd'.cell2
  clear hd'
  cases zs with
  | none =>
    obtain rfl := hnone rfl
    have HN : Hid (o = none) := Lib.hid (by rw [HO.out]; rfl)
    go_wp2_with (first
      | (refine wpList_store_box rfl 25 (.tmp 4) (.tmp 64) rfl w.heap.size hZ ⟨1, a4, key.length, c4, a6, z.length, c6, none, 0, 0, none, 0, 0⟩ rfl rfl 25 HS7.out.res infoTree5 ?_
         intro w9 hbx9 hg9
         have HX9 := Lib.hid hbx9
         have HG9 := Lib.hid hg9
         clear hbx9 hg9))
    obtain ⟨hr9, hu9⟩ := HS7.out.ret HG9.out
    exact bodyPost_ret (v := TH.v ⟨1, a4, key.length, c4, a6, z.length, c6, none, 0, 0, none, 0, 0⟩) (result_tree Try.results28 _ HX9.out rfl Try.underlying25 infoTree5) rfl ⟨_, rfl, by rw [HN.out]; exact hr9, hu9, fun p r h => by rw [HN.out] at h; cases h⟩
  | some l2 =>
    obtain ⟨rfl, -⟩ := hsome l2 rfl
    clear hnone hsome hat
    obtain ⟨o1, ho1⟩ : ∃ o1, rdP d (some l2) = o1 := ⟨_, rfl⟩
    have HF1 : Hid (∀ p r, o1 = some (p, r) → formedT p.tr = true) := Lib.hid (fun p r e => rdP_formed HS7.out.b8 (ho1.trans e))
    have HO1 : Hid (o = o1.bind fun x => (rdP d (some x.2)).map fun y => (.shown x.1 key z y.1, y.2)) := Lib.hid (by rw [HO.out, ← ho1])
    have HQ1 := Lib.hid ho1
    clear ho1 HO HB8
    go_upto_region 16 with (first
      | (go_at_call 28
         refine (IH.out (some l2) _ HS7.out.inb HS7.out.rd (Nat.lt_of_lt_of_le HS7.out.gl HS7.out.up.size)).mono ?_
         unfold Rd10 TH.v
         rw [HQ1.out]
         rintro _ w8 ⟨hl, rfl, hr8, hg8, ht8⟩
         have HS8 := Lib.hid (HS7.out.rdr hg8 hr8)
         have HI8 := Lib.hid (And.intro (HS7.out.keepB hg8 HI7.out.1) (HS7.out.keepB hg8 HI7.out.2))
         have HT8 := Lib.hid ht8
         clear hr8 hg8 ht8 x0 x1 x2 x3 x4 r2))
    have hb9 : Below w8.heap.size w8 (w8.alloc (.cells #[.int .i64 hl.k, .slice hl.ka hl.kn hl.kc, .slice hl.va hl.vn hl.vc, .slice hl.da hl.dn hl.dc, .slice hl.ta hl.tn hl.tc] 25)) := (Below.refl _ _).alloc (Nat.le_refl _) _
    have HS9 := Lib.hid ((HS8.out.alloc (.cells #[.int .i64 hl.k, .slice hl.ka hl.kn hl.kc, .slice hl.va hl.vn hl.vc, .slice hl.da hl.dn hl.dc, .slice hl.ta hl.tn hl.tc] 25)).drew)
    have HL9 := Lib.hid (Box.new w8 25 hl).drew
    have HI9 := Lib.hid (And.intro (HI8.out.1.below hb9.drew) (HI8.out.2.below hb9.drew))
    have HT9 : Hid (∀ p r, o1 = some (p, r) → InTree (w8.alloc (.cells #[.int .i64 hl.k, .slice hl.ka hl.kn hl.kc, .slice hl.va hl.vn hl.vc, .slice hl.da hl.dn hl.dc, .slice hl.ta hl.tn hl.tc] 25)).drew hl p.tr) := Lib.hid (fun p r e => (HT8.out p r e).lower hb9.drew)
    have HLB : Hid (w8.heap.size ≠ g ∧ B < w8.heap.size) := Lib.hid ⟨fun e => by have q1 := HS8.out.gl; have q2 := HS8.out.up.size; omega, HS8.out.tb.lt⟩
    clear hb9 HS8 HI8 HT8 HS7 HI7
    generalize (w8.alloc (.cells #[.int .i64 hl.k, .slice hl.ka hl.kn hl.kc, .slice hl.va hl.vn hl.vc, .slice hl.da hl.dn hl.dc, .slice hl.ta hl.tn hl.tc] 25)) = w9 at *
    generalize w8.heap.size = L at *
    refine wp_region_held_drew (S := (fun W => W.cell? ⟨L, 0, none⟩ = some (.int .i64 hl.k) ∧ W.cell? ⟨L, 1, none⟩ = some (.slice hl.ka hl.kn hl.kc) ∧ W.cell? ⟨L, 2, none⟩ = some (.slice hl.va hl.vn hl.vc) ∧ W.cell? ⟨L, 3, none⟩ = some (.slice hl.da hl.dn hl.dc) ∧ W.cell? ⟨L, 4, none⟩ = some (.slice hl.ta hl.tn hl.tc))) (by kernel_rfl) HL9.out.cells (fun hHeld => ?_)
    refine take_w (i := 0) (oi := ?oZ1) (v := ?vZ1) ?hiZ1 (by kernel_rfl) (by kernel_rfl) (by kernel_rfl) ?hQZ1 ?hwZ1 ?hyZ1 (by assumption) ?restZ1
    case hiZ1 => (simp only [List.getElem?_toArray, List.getElem?_cons_zero] <;> rfl)
    case hQZ1 => exact (fun _ _ _ h => h)
    case hwZ1 => rfl
    case hyZ1 => (intro w hSw; (try dsimp only at hSw); go_simp; try with_reducible rfl)
    (try simp only [Act.put, List.setIfInBounds_toArray, List.set_cons_zero, List.set_cons_succ])
    refine take_w (i := 1) (oi := ?oZ2) (v := ?vZ2) ?hiZ2 (by kernel_rfl) (by kernel_rfl) (by kernel_rfl) ?hQZ2 ?hwZ2 ?hyZ2 (by assumption) ?restZ2
    case hiZ2 => (simp only [List.getElem?_toArray, List.getElem?_cons_succ, List.getElem?_cons_zero] <;> rfl)
    case hQZ2 => exact (fun _ _ _ h => h)
    case hwZ2 => rfl
    case hyZ2 => (intro w hSw; (try dsimp only at hSw); go_simp; try with_reducible rfl)
    (try simp only [Act.put, List.setIfInBounds_toArray, List.set_cons_zero, List.set_cons_succ])
    refine take_w (i := 2) (oi := ?oZ3) (v := ?vZ3) ?hiZ3 (by kernel_rfl) (by kernel_rfl) (by kernel_rfl) ?hQZ3 ?hwZ3 ?hyZ3 (by assumption) ?restZ3
    case hiZ3 => (simp only [List.getElem?_toArray, List.getElem?_cons_succ, List.getElem?_cons_zero] <;> rfl)
    case hQZ3 => exact (fun _ _ _ h => h)
    case hwZ3 => rfl
    case hyZ3 => (intro w hSw; (try dsimp only at hSw); go_simp; try with_reducible rfl)
    (try simp only [Act.put, List.setIfInBounds_toArray, List.set_cons_zero, List.set_cons_succ])
    refine take_w (i := 3) (oi := ?oZ4) (v := ?vZ4) ?hiZ4 (by kernel_rfl) (by kernel_rfl) (by kernel_rfl) ?hQZ4 ?hwZ4 ?hyZ4 (by assumption) ?restZ4
    case hiZ4 => (simp only [List.getElem?_toArray, List.getElem?_cons_succ, List.getElem?_cons_zero] <;> rfl)
    case hQZ4 => exact (fun _ _ _ h => h)
    case hwZ4 => rfl
    case hyZ4 => (intro w hSw; (try dsimp only at hSw); go_simp; try with_reducible rfl)
    (try simp only [Act.put, List.setIfInBounds_toArray, List.set_cons_zero, List.set_cons_succ])
    refine wpAnyH_ready (rs := [4]) (by kernel_rfl) (by simp) ?_
    refine AllReadyH.cons (o := ?oZ5) ?hiZ5 (fun K hK => ?stZ5) AllReadyH.nil
    case hiZ5 => (simp only [List.getElem?_toArray, List.getElem?_cons_succ, List.getElem?_cons_zero] <;> rfl)
    go_simp
    go_at_call 28
    refine (IH.out (o1.map (·.2)) _ HS9.out.inb HS9.out.rd (Nat.lt_of_lt_of_le HS9.out.gl HS9.out.up.size)).mono ?_
    unfold Rd10 TH.v
    rintro _ w10 ⟨hr, rfl, hr10, hg10, ht10⟩
    have HS10 := Lib.hid (HS9.out.rdr hg10 hr10)
    have HI10 := Lib.hid (And.intro (HS9.out.keepB hg10 HI9.out.1) (HS9.out.keepB hg10 HI9.out.2))
    have HT10 := Lib.hid (And.intro (fun p r e => HS9.out.keepT hg10 (HT9.out p r e)) ht10)
    have HK10 := Lib.hid (HL9.out.grown hg10 (fun e => by injection e; exact HLB.out.1 (by omega)))
    have b11 : Below w10.heap.size w10 (w10.alloc (.cells #[.int .i64 hl.k, .slice hl.ka hl.kn hl.kc, .slice hl.va hl.vn hl.vc, .slice hl.da hl.dn hl.dc, .slice hl.ta hl.tn hl.tc, .int .i64 hr.k, .slice hr.ka hr.kn hr.kc, .slice hr.va hr.vn hr.vc, .slice hr.da hr.dn hr.dc, .slice hr.ta hr.tn hr.tc] 25)) := (Below.refl _ _).alloc (Nat.le_refl _) _
    have HK11 := Lib.hid (HK10.out.below b11 HK10.out.lt)
    have HS11 := Lib.hid (HS10.out.alloc (.cells #[.int .i64 hl.k, .slice hl.ka hl.kn hl.kc, .slice hl.va hl.vn hl.vc, .slice hl.da hl.dn hl.dc, .slice hl.ta hl.tn hl.tc, .int .i64 hr.k, .slice hr.ka hr.kn hr.kc, .slice hr.va hr.vn hr.vc, .slice hr.da hr.dn hr.dc, .slice hr.ta hr.tn hr.tc] 25))
    have HK12 := Lib.hid (HK11.out.grown (only_set (only_refl (w10.alloc (.cells #[.int .i64 hl.k, .slice hl.ka hl.kn hl.kc, .slice hl.va hl.vn hl.vc, .slice hl.da hl.dn hl.dc, .slice hl.ta hl.tn hl.tc, .int .i64 hr.k, .slice hr.ka hr.kn hr.kc, .slice hr.va hr.vn hr.vc, .slice hr.da hr.dn hr.dc, .slice hr.ta hr.tn hr.tc] 25)) (some B)) 4 (.slice (some ⟨w10.heap.size, 0, none⟩) 2 2)) (fun e => by injection e; have q1 := HLB.out.2; omega))
    have x4 := HS11.out.tb.cells.2.2.2.2
    have f4 := HS11.out.tb.frozen 4
    clear hr10 hg10 ht10 b11
    go_simp
    refine hK.out _ _ ?_ (fun hHeld => ?_)
    · (first | exact HK10.out.cells | exact HK11.out.cells | exact HK12.out.cells)
    clear hK K
    (try simp only [Act.put, List.setIfInBounds_toArray, List.set_cons_zero, List.set_cons_succ])
    refine wpAnyH_ready (rs := [5]) (by kernel_rfl) (by simp) ?_
    refine AllReadyH.cons (o := ?oZ6) ?hiZ6 (fun K hK => ?stZ6) AllReadyH.nil
    case hiZ6 => (simp only [List.getElem?_toArray, List.getElem?_cons_succ, List.getElem?_cons_zero] <;> rfl)
    go_simp
    refine hK.out _ _ ?_ (fun hHeld => ?_)
    · (first | exact HK10.out.cells | exact HK11.out.cells | exact HK12.out.cells)
    clear hK K
    (try simp only [Act.put, List.setIfInBounds_toArray, List.set_cons_zero, List.set_cons_succ])
    refine take_w (i := 6) (oi := ?oZ7) (v := ?vZ7) ?hiZ7 (by kernel_rfl) (by kernel_rfl) (by kernel_rfl) ?hQZ7 ?hwZ7 ?hyZ7 (by assumption) ?restZ7
    case hiZ7 => (simp only [List.getElem?_toArray, List.getElem?_cons_succ, List.getElem?_cons_zero] <;> rfl)
    case hQZ7 => exact (fun _ _ _ h => h)
    case hwZ7 => rfl
    case hyZ7 => (intro w hSw; (try dsimp only at hSw); go_simp; try with_reducible rfl)
    (try simp only [Act.put, List.setIfInBounds_toArray, List.set_cons_zero, List.set_cons_succ])
    refine wpAnyH_ready (rs := [7]) (by kernel_rfl) (by simp) ?_
    refine AllReadyH.cons (o := ?oZ8) ?hiZ8 (fun K hK => ?stZ8) AllReadyH.nil
    case hiZ8 => (simp only [List.getElem?_toArray, List.getElem?_cons_succ, List.getElem?_cons_zero] <;> rfl)
    go_simp
    refine hK.out _ _ ?_ (fun hHeld => ?_)
    · (first | exact HK10.out.cells | exact HK11.out.cells | exact HK12.out.cells)
    clear hK K
    (try simp only [Act.put, List.setIfInBounds_toArray, List.set_cons_zero, List.set_cons_succ])
    refine wpAnyH_done (by kernel_rfl) ?_ _
    clear hHeld
    have b11 : Below w10.heap.size w10 (w10.alloc (.cells #[.int .i64 hl.k, .slice hl.ka hl.kn hl.kc, .slice hl.va hl.vn hl.vc, .slice hl.da hl.dn hl.dc, .slice hl.ta hl.tn hl.tc, .int .i64 hr.k, .slice hr.ka hr.kn hr.kc, .slice hr.va hr.vn hr.vc, .slice hr.da hr.dn hr.dc, .slice hr.ta hr.tn hr.tc] 25)) := (Below.refl _ _).alloc (Nat.le_refl _) _
    have HX12 : Hid (Box ((w10.alloc (.cells #[.int .i64 hl.k, .slice hl.ka hl.kn hl.kc, .slice hl.va hl.vn hl.vc, .slice hl.da hl.dn hl.dc, .slice hl.ta hl.tn hl.tc, .int .i64 hr.k, .slice hr.ka hr.kn hr.kc, .slice hr.va hr.vn hr.vc, .slice hr.da hr.dn hr.dc, .slice hr.ta hr.tn hr.tc] 25)).setCell ⟨B, 4, none⟩ (.slice (some ⟨w10.heap.size, 0, none⟩) 2 2)) 25 B ⟨1, a4, key.length, c4, a6, z.length, c6, none, 0, 0, some ⟨w10.heap.size, 0, none⟩, 2, 2⟩) := Lib.hid (HS11.out.tb.set4 (some ⟨w10.heap.size, 0, none⟩) 2 2)
    have HG12 := Lib.hid (only_set (only_refl (w10.alloc (.cells #[.int .i64 hl.k, .slice hl.ka hl.kn hl.kc, .slice hl.va hl.vn hl.vc, .slice hl.da hl.dn hl.dc, .slice hl.ta hl.tn hl.tc, .int .i64 hr.k, .slice hr.ka hr.kn hr.kc, .slice hr.va hr.vn hr.vc, .slice hr.da hr.dn hr.dc, .slice hr.ta hr.tn hr.tc] 25)) (some B)) 4 (.slice (some ⟨w10.heap.size, 0, none⟩) 2 2))
    have HS12 := Lib.hid (HS11.out.wr HG12.out HX12.out)
    have HN11 : Hid (NX (w10.alloc (.cells #[.int .i64 hl.k, .slice hl.ka hl.kn hl.kc, .slice hl.va hl.vn hl.vc, .slice hl.da hl.dn hl.dc, .slice hl.ta hl.tn hl.tc, .int .i64 hr.k, .slice hr.ka hr.kn hr.kc, .slice hr.va hr.vn hr.vc, .slice hr.da hr.dn hr.dc, .slice hr.ta hr.tn hr.tc] 25)) w10.heap.size hl hr a4 key.length c4 key a6 z.length c6 z o1 (rdP d (o1.map (·.2)))) := Lib.hid ⟨Two5.new w10 25 hl hr, HI10.out.1.below b11, HI10.out.2.below b11, fun p r e => ⟨HF1.out p r e, (HT10.out.1 p r e).lower b11⟩, fun p r e => ⟨rdP_formed HS9.out.b8 e, (HT10.out.2 p r e).lower b11⟩⟩
    have HN12 := Lib.hid (HN11.out.out HS11.out.tb HG12.out HS10.out.tb.lt)
    have HGB : Hid (w.heap.size < w10.heap.size) := Lib.hid (Nat.lt_trans HS10.out.lt HS10.out.tb.lt)
    clear HN11 HS11 HX12 HG12 HK10 HK11 HK12 HS10 HI10 HT10 b11 x4 f4 HS9 HI9 HT9 HL9
    generalize ((w10.alloc (.cells #[.int .i64 hl.k, .slice hl.ka hl.kn hl.kc, .slice hl.va hl.vn hl.vc, .slice hl.da hl.dn hl.dc, .slice hl.ta hl.tn hl.tc, .int .i64 hr.k, .slice hr.ka hr.kn hr.kc, .slice hr.va hr.vn hr.vc, .slice hr.da hr.dn hr.dc, .slice hr.ta hr.tn hr.tc] 25)).setCell ⟨B, 4, none⟩ (.slice (some ⟨w10.heap.size, 0, none⟩) 2 2)) = w12 at *
    generalize w10.heap.size = G at *
    obtain ⟨x0, x1, x2, x3, x4⟩ := HS12.out.tb.cells
    go_wp2_with (first
      | (refine wpList_store_box rfl 25 (.tmp 4) (.tmp 76) rfl w.heap.size hZ ⟨1, a4, key.length, c4, a6, z.length, c6, none, 0, 0, some ⟨G, 0, none⟩, 2, 2⟩ rfl rfl 25 HS12.out.res infoTree5 ?_
         intro w9 hbx9 hg9
         have HX9 := Lib.hid hbx9
         have HG9 := Lib.hid hg9
         clear hbx9 hg9))
    obtain ⟨hr9, hu9⟩ := HS12.out.ret HG9.out
    have HN9 := HN12.out.out HS12.out.res HG9.out HGB.out
    have e1 := node_left (d := d) (o1 := o1) (fun x y => PT.shown x key z y)
    have e2 : o.map (·.2) = (rdP d (o1.map (·.2))).map (·.2) := by rw [HO1.out]; exact e1
    refine bodyPost_ret (v := TH.v ⟨1, a4, key.length, c4, a6, z.length, c6, none, 0, 0, some ⟨G, 0, none⟩, 2, 2⟩) (result_tree Try.results28 _ HX9.out rfl Try.underlying25 infoTree5) rfl ⟨_, rfl, by rw [e2]; exact hr9, hu9, fun p r h => ?_⟩
    obtain ⟨p1, r1, p2, q1, q2, q3⟩ := node_some (d := d) (o1 := o1) (f := fun x y => PT.shown x key z y) (HO1.out.symm.trans h)
    subst q3
    exact inTree_pair HN9.two (HN9.tl _ _ q1).2 (HN9.tr _ _ q2).2 (by omega) (by omega) HN9.key HN9.z (none_in _)
end Go.Proofs.Ytagmeljjkblpbaa

/- The contract of the document's read of layer 10, of a dark node. -/
namespace Go.Proofs.Ytagmeljjkblpbaa
open Go.RowKit
set_option linter.unusedVariables false

set_option maxRecDepth 100000 in
set_option maxHeartbeats 8000000 in
theorem refReadNode2_any (d : Nat) (hd : d + 1 ≤ 64) (g : Nat) (a : Option Addr) (n c : Nat) (bs : List Int) (l : List Int) (w : World) (hin : InBytes w a n c bs) (hag : 0 < n → ∀ ad, a = some ad → ad.block ≠ g) (hr : RefRd w g a n c bs (some (2 :: l))) (hn : n ≤ 1000000) (hgl : g < w.heap.size)
    (ih : ∀ (s : Option (List Int)) (W : World), InBytes W a n c bs → RefRd W g a n c bs s → g < W.heap.size → Calls Try.prog 28 #[.pointer (some ⟨g, 0, none⟩), .int .i64 d] W (Rd10 W g a n c bs (rdP d s))) :
    Calls Try.prog 28 #[.pointer (some ⟨g, 0, none⟩), .int .i64 ((d + 1 : Nat) : Int)] w (Rd10 w g a n c bs (rdP (d + 1) (some (2 :: l)))) := by
  obtain ⟨o, ho⟩ : ∃ o, rdP (d + 1) (some (2 :: l)) = o := ⟨_, rfl⟩
  rw [ho]
  have HO : Hid (o = (rdP d (rdBytes 32 (rdBytes 80 (some l)).2).2).bind fun x => (rdP d (some x.2)).map fun y => (.dark x.1 (rdBytes 80 (some l)).1 (rdBytes 32 (rdBytes 80 (some l)).2).1 y.1, y.2)) := Lib.hid (by rw [← ho]; exact rdP_node d l (.inr rfl))
  have hd1 : ((d + 1 : Nat) : Int) - 1 = (d : Int) := by omega
  have e64 : IntKind.i64.wrap (d : Int) = (d : Int) := IntWalk.i64_in _ (by omega)
  obtain ⟨D, hD⟩ : ∃ D : Int, ((d + 1 : Nat) : Int) = D := ⟨_, rfl⟩
  have hD0 : (D == 0) = false := by rw [← hD]; simp; omega
  rw [hD] at hd1 ⊢
  clear ho hD
  have HZ0 : Hid ((w.alloc (.cells #[.int .i64 hZ.k, .slice hZ.ka hZ.kn hZ.kc, .slice hZ.va hZ.vn hZ.vc, .slice hZ.da hZ.dn hZ.dc, .slice hZ.ta hZ.tn hZ.tc] 25)) = w.alloc (.cells #[.int .i64 hZ.k, .slice hZ.ka hZ.kn hZ.kc, .slice hZ.va hZ.vn hZ.vc, .slice hZ.da hZ.dn hZ.dc, .slice hZ.ta hZ.tn hZ.tc] 25)) := Lib.hid rfl
  have hb0 : Below w.heap.size w (w.alloc (.cells #[.int .i64 hZ.k, .slice hZ.ka hZ.kn hZ.kc, .slice hZ.va hZ.vn hZ.vc, .slice hZ.da hZ.dn hZ.dc, .slice hZ.ta hZ.tn hZ.tc] 25)) := (Below.refl _ _).alloc (Nat.le_refl _) _
  have HI0 := Lib.hid (hin.below hb0)
  have HR0 := Lib.hid (hr.grown (only_below hb0 none) (fun e => by cases e))
  have hbb : ∀ r, some ((2 : Int) :: l) = some r → Bytes8 r := fun r e => by
    obtain ⟨at', bad, -, -, -, h3⟩ := hr
    rw [(h3 r e).2]
    exact fun z hz => hin.bytes z (List.mem_of_mem_drop hz)
  have HB8 := Lib.hid hbb
  have HAG := Lib.hid hag
  have IH := Lib.hid ih
  clear hb0 hin hr hag ih hbb
  go_enter Try.func28, Try.ntmps28
  go_upto_region 1 with fail
  have HE0 : Hid ((w.alloc (.cells #[.int .i64 0, .slice none 0 0, .slice none 0 0, .slice none 0 0, .slice none 0 0] 25)) = w.alloc (.cells #[.int .i64 hZ.k, .slice hZ.ka hZ.kn hZ.kc, .slice hZ.va hZ.vn hZ.vc, .slice hZ.da hZ.dn hZ.dc, .slice hZ.ta hZ.tn hZ.tc] 25)) := Lib.hid rfl
  change Hid (InBytes (w.alloc (.cells #[.int .i64 0, .slice none 0 0, .slice none 0 0, .slice none 0 0, .slice none 0 0] 25)) a n c bs) at HI0
  change Hid (RefRd (w.alloc (.cells #[.int .i64 0, .slice none 0 0, .slice none 0 0, .slice none 0 0, .slice none 0 0] 25)) g a n c bs (some (2 :: l))) at HR0
  clear HZ0
  generalize (w.alloc (.cells #[.int .i64 0, .slice none 0 0, .slice none 0 0, .slice none 0 0, .slice none 0 0] 25)) = w0 at *
  go_upto_region 2 with (first
    | (go_at_call 40
       refine (refByte_any g a n c bs (some (2 :: l)) _ HI0.out HAG.out HR0.out).mono ?_
       rintro _ w1 ⟨rfl, hr1, hg1⟩
       have e1 : rdByte (some ((2 : Int) :: l)) = (2, some l) := rfl
       rw [e1] at hr1 ⊢
       have HS := Lib.hid (RS.enter HE0.out hgl HAG.out HI0.out hg1 hr1 ⟨2, none, 0, 0, none, 0, 0, none, 0, 0, none, 0, 0⟩)
       clear hr1 hg1 e1))
  generalize (w1.alloc (.cells #[.int .i64 2, .slice none 0 0, .slice none 0 0, .slice none 0 0, .slice none 0 0] 25)) = w2 at *
  generalize w1.heap.size = B at *
  clear HE0 HI0 HR0
  obtain ⟨x0, x1, x2, x3, x4⟩ := HS.out.tb.cells
  have f1 := HS.out.tb.frozen 1
  have r2 : w2.cell? ⟨g, 2, none⟩ = some (.bool false) := by
    obtain ⟨at', bad, hd', -, -, h3⟩ := HS.out.rd
    rw [hd'.cell2, (h3 l rfl).1]
  go_upto_region 10 with (first
    | (go_at_call 41
       refine (refRdBytes_any g a n c bs (some l) 80 _ HS.out.inb HAG.out HS.out.rd HS.out.b8 (by omega) (by omega) (by omega)).mono ?_
       rintro _ w4 ⟨a4, c4, rfl, hi4, hr4, hg4⟩
       have HS4 := Lib.hid (HS.out.rdr hg4 hr4)
       have HI4 := Lib.hid hi4
       clear hi4 hr4 hg4 x0 x1 x2 x3 x4 f1 r2
       obtain ⟨x0, x1, x2, x3, x4⟩ := HS4.out.tb.cells
       have f1 := HS4.out.tb.frozen 1))
  have HX5 : Hid (Box (w4.setCell ⟨B, 1, none⟩ (.slice a4 (rdBytes 80 (some l)).1.length c4)) 25 B ⟨2, a4, (rdBytes 80 (some l)).1.length, c4, none, 0, 0, none, 0, 0, none, 0, 0⟩) := Lib.hid (HS4.out.tb.set1 a4 (rdBytes 80 (some l)).1.length c4)
  have HI5 := Lib.hid (HI4.out.outBox HS4.out.tb (only_set (only_refl w4 (some B)) 1 (.slice a4 (rdBytes 80 (some l)).1.length c4)))
  have HS5 := Lib.hid (HS4.out.wr (only_set (only_refl w4 (some B)) 1 (.slice a4 (rdBytes 80 (some l)).1.length c4)) HX5.out)
  clear x0 x1 x2 x3 x4 f1 HX5 HI4 HS4
  generalize (w4.setCell ⟨B, 1, none⟩ (.slice a4 (rdBytes 80 (some l)).1.length c4)) = w5 at *
  obtain ⟨x0, x1, x2, x3, x4⟩ := HS5.out.tb.cells
  have f2 := HS5.out.tb.frozen 3
  go_upto_region 13 with (first
    | (go_at_call 41
       refine (refRdBytes_any g a n c bs (rdBytes 80 (some l)).2 32 _ HS5.out.inb HAG.out HS5.out.rd HS5.out.b8 (by omega) (by omega) (by omega)).mono ?_
       rintro _ w6 ⟨a6, c6, rfl, hi6, hr6, hg6⟩
       have HS6 := Lib.hid (HS5.out.rdr hg6 hr6)
       have HI6 := Lib.hid (And.intro (HS5.out.keepB hg6 HI5.out) hi6)
       clear hi6 hr6 hg6 x0 x1 x2 x3 x4 f2
       obtain ⟨x0, x1, x2, x3, x4⟩ := HS6.out.tb.cells
       have f2 := HS6.out.tb.frozen 3))
  have HX7 : Hid (Box (w6.setCell ⟨B, 3, none⟩ (.slice a6 (rdBytes 32 (rdBytes 80 (some l)).2).1.length c6)) 25 B ⟨2, a4, (rdBytes 80 (some l)).1.length, c4, none, 0, 0, a6, (rdBytes 32 (rdBytes 80 (some l)).2).1.length, c6, none, 0, 0⟩) := Lib.hid (HS6.out.tb.set3 a6 (rdBytes 32 (rdBytes 80 (some l)).2).1.length c6)
  have HG7 := Lib.hid (only_set (only_refl w6 (some B)) 3 (.slice a6 (rdBytes 32 (rdBytes 80 (some l)).2).1.length c6))
  have HI7 := Lib.hid (And.intro (HI6.out.1.outBox HS6.out.tb HG7.out) (HI6.out.2.outBox HS6.out.tb HG7.out))
  have HS7 := Lib.hid (HS6.out.wr HG7.out HX7.out)
  clear x0 x1 x2 x3 x4 f2 HX7 HG7 HI6 HS6 HS5 HI5 HS
  generalize (w6.setCell ⟨B, 3, none⟩ (.slice a6 (rdBytes 32 (rdBytes 80 (some l)).2).1.length c6)) = w7 at *
  generalize rdBytes 32 (rdBytes 80 (some l)).2 = zz at *
  generalize rdBytes 80 (some l) = kk at *
  obtain ⟨z, zs⟩ := zz
  obtain ⟨key, ks⟩ := kk
  obtain ⟨x0, x1, x2, x3, x4⟩ := HS7.out.tb.cells
  obtain ⟨at', bad, hd', hat, hnone, hsome⟩ := HS7.out.rd
  have r2 := hd'.cell2
  clear hd'
  cases zs with
  | none =>
    obtain rfl := hnone rfl
    have HN : Hid (o = none) := Lib.hid (by rw [HO.out]; rfl)
    go_wp2_with (first
      | (refine wpList_store_box rfl 25 (.tmp 4) (.tmp 64) rfl w.heap.size hZ ⟨2, a4, key.length, c4, none, 0, 0, a6, z.length, c6, none, 0, 0⟩ rfl rfl 25 HS7.out.res infoTree5 ?_
         intro w9 hbx9 hg9
         have HX9 := Lib.hid hbx9
         have HG9 := Lib.hid hg9
         clear hbx9 hg9))
    obtain ⟨hr9, hu9⟩ := HS7.out.ret HG9.out
    exact bodyPost_ret (v := TH.v ⟨2, a4, key.length, c4, none, 0, 0, a6, z.length, c6, none, 0, 0⟩) (result_tree Try.results28 _ HX9.out rfl Try.underlying25 infoTree5) rfl ⟨_, rfl, by rw [HN.out]; exact hr9, hu9, fun p r h => by rw [HN.out] at h; cases h⟩
  | some l2 =>
    obtain ⟨rfl, -⟩ := hsome l2 rfl
    clear hnone hsome hat
    obtain ⟨o1, ho1⟩ : ∃ o1, rdP d (some l2) = o1 := ⟨_, rfl⟩
    have HF1 : Hid (∀ p r, o1 = some (p, r) → formedT p.tr = true) := Lib.hid (fun p r e => rdP_formed HS7.out.b8 (ho1.trans e))
    have HO1 : Hid (o = o1.bind fun x => (rdP d (some x.2)).map fun y => (.dark x.1 key z y.1, y.2)) := Lib.hid (by rw [HO.out, ← ho1])
    have HQ1 := Lib.hid ho1
    clear ho1 HO HB8
    go_upto_region 16 with (first
      | (go_at_call 28
         refine (IH.out (some l2) _ HS7.out.inb HS7.out.rd (Nat.lt_of_lt_of_le HS7.out.gl HS7.out.up.size)).mono ?_
         unfold Rd10 TH.v
         rw [HQ1.out]
         rintro _ w8 ⟨hl, rfl, hr8, hg8, ht8⟩
         have HS8 := Lib.hid (HS7.out.rdr hg8 hr8)
         have HI8 := Lib.hid (And.intro (HS7.out.keepB hg8 HI7.out.1) (HS7.out.keepB hg8 HI7.out.2))
         have HT8 := Lib.hid ht8
         clear hr8 hg8 ht8 x0 x1 x2 x3 x4 r2))
    have hb9 : Below w8.heap.size w8 (w8.alloc (.cells #[.int .i64 hl.k, .slice hl.ka hl.kn hl.kc, .slice hl.va hl.vn hl.vc, .slice hl.da hl.dn hl.dc, .slice hl.ta hl.tn hl.tc] 25)) := (Below.refl _ _).alloc (Nat.le_refl _) _
    have HS9 := Lib.hid ((HS8.out.alloc (.cells #[.int .i64 hl.k, .slice hl.ka hl.kn hl.kc, .slice hl.va hl.vn hl.vc, .slice hl.da hl.dn hl.dc, .slice hl.ta hl.tn hl.tc] 25)).drew)
    have HL9 := Lib.hid (Box.new w8 25 hl).drew
    have HI9 := Lib.hid (And.intro (HI8.out.1.below hb9.drew) (HI8.out.2.below hb9.drew))
    have HT9 : Hid (∀ p r, o1 = some (p, r) → InTree (w8.alloc (.cells #[.int .i64 hl.k, .slice hl.ka hl.kn hl.kc, .slice hl.va hl.vn hl.vc, .slice hl.da hl.dn hl.dc, .slice hl.ta hl.tn hl.tc] 25)).drew hl p.tr) := Lib.hid (fun p r e => (HT8.out p r e).lower hb9.drew)
    have HLB : Hid (w8.heap.size ≠ g ∧ B < w8.heap.size) := Lib.hid ⟨fun e => by have q1 := HS8.out.gl; have q2 := HS8.out.up.size; omega, HS8.out.tb.lt⟩
    clear hb9 HS8 HI8 HT8 HS7 HI7
    generalize (w8.alloc (.cells #[.int .i64 hl.k, .slice hl.ka hl.kn hl.kc, .slice hl.va hl.vn hl.vc, .slice hl.da hl.dn hl.dc, .slice hl.ta hl.tn hl.tc] 25)) = w9 at *
    generalize w8.heap.size = L at *
    refine wp_region_held_drew (S := (fun W => W.cell? ⟨L, 0, none⟩ = some (.int .i64 hl.k) ∧ W.cell? ⟨L, 1, none⟩ = some (.slice hl.ka hl.kn hl.kc) ∧ W.cell? ⟨L, 2, none⟩ = some (.slice hl.va hl.vn hl.vc) ∧ W.cell? ⟨L, 3, none⟩ = some (.slice hl.da hl.dn hl.dc) ∧ W.cell? ⟨L, 4, none⟩ = some (.slice hl.ta hl.tn hl.tc))) (by kernel_rfl) HL9.out.cells (fun hHeld => ?_)
    refine take_w (i := 0) (oi := ?oZ9) (v := ?vZ9) ?hiZ9 (by kernel_rfl) (by kernel_rfl) (by kernel_rfl) ?hQZ9 ?hwZ9 ?hyZ9 (by assumption) ?restZ9
    case hiZ9 => (simp only [List.getElem?_toArray, List.getElem?_cons_zero] <;> rfl)
    case hQZ9 => exact (fun _ _ _ h => h)
    case hwZ9 => rfl
    case hyZ9 => (intro w hSw; (try dsimp only at hSw); go_simp; try with_reducible rfl)
    (try simp only [Act.put, List.setIfInBounds_toArray, List.set_cons_zero, List.set_cons_succ])
    refine take_w (i := 1) (oi := ?oZ10) (v := ?vZ10) ?hiZ10 (by kernel_rfl) (by kernel_rfl) (by kernel_rfl) ?hQZ10 ?hwZ10 ?hyZ10 (by assumption) ?restZ10
    case hiZ10 => (simp only [List.getElem?_toArray, List.getElem?_cons_succ, List.getElem?_cons_zero] <;> rfl)
    case hQZ10 => exact (fun _ _ _ h => h)
    case hwZ10 => rfl
    case hyZ10 => (intro w hSw; (try dsimp only at hSw); go_simp; try with_reducible rfl)
    (try simp only [Act.put, List.setIfInBounds_toArray, List.set_cons_zero, List.set_cons_succ])
    refine take_w (i := 2) (oi := ?oZ11) (v := ?vZ11) ?hiZ11 (by kernel_rfl) (by kernel_rfl) (by kernel_rfl) ?hQZ11 ?hwZ11 ?hyZ11 (by assumption) ?restZ11
    case hiZ11 => (simp only [List.getElem?_toArray, List.getElem?_cons_succ, List.getElem?_cons_zero] <;> rfl)
    case hQZ11 => exact (fun _ _ _ h => h)
    case hwZ11 => rfl
    case hyZ11 => (intro w hSw; (try dsimp only at hSw); go_simp; try with_reducible rfl)
    (try simp only [Act.put, List.setIfInBounds_toArray, List.set_cons_zero, List.set_cons_succ])
    refine take_w (i := 3) (oi := ?oZ12) (v := ?vZ12) ?hiZ12 (by kernel_rfl) (by kernel_rfl) (by kernel_rfl) ?hQZ12 ?hwZ12 ?hyZ12 (by assumption) ?restZ12
    case hiZ12 => (simp only [List.getElem?_toArray, List.getElem?_cons_succ, List.getElem?_cons_zero] <;> rfl)
    case hQZ12 => exact (fun _ _ _ h => h)
    case hwZ12 => rfl
    case hyZ12 => (intro w hSw; (try dsimp only at hSw); go_simp; try with_reducible rfl)
    (try simp only [Act.put, List.setIfInBounds_toArray, List.set_cons_zero, List.set_cons_succ])
    refine wpAnyH_ready (rs := [4]) (by kernel_rfl) (by simp) ?_
    refine AllReadyH.cons (o := ?oZ13) ?hiZ13 (fun K hK => ?stZ13) AllReadyH.nil
    case hiZ13 => (simp only [List.getElem?_toArray, List.getElem?_cons_succ, List.getElem?_cons_zero] <;> rfl)
    go_simp
    go_at_call 28
    refine (IH.out (o1.map (·.2)) _ HS9.out.inb HS9.out.rd (Nat.lt_of_lt_of_le HS9.out.gl HS9.out.up.size)).mono ?_
    unfold Rd10 TH.v
    rintro _ w10 ⟨hr, rfl, hr10, hg10, ht10⟩
    have HS10 := Lib.hid (HS9.out.rdr hg10 hr10)
    have HI10 := Lib.hid (And.intro (HS9.out.keepB hg10 HI9.out.1) (HS9.out.keepB hg10 HI9.out.2))
    have HT10 := Lib.hid (And.intro (fun p r e => HS9.out.keepT hg10 (HT9.out p r e)) ht10)
    have HK10 := Lib.hid (HL9.out.grown hg10 (fun e => by injection e; exact HLB.out.1 (by omega)))
    have b11 : Below w10.heap.size w10 (w10.alloc (.cells #[.int .i64 hl.k, .slice hl.ka hl.kn hl.kc, .slice hl.va hl.vn hl.vc, .slice hl.da hl.dn hl.dc, .slice hl.ta hl.tn hl.tc, .int .i64 hr.k, .slice hr.ka hr.kn hr.kc, .slice hr.va hr.vn hr.vc, .slice hr.da hr.dn hr.dc, .slice hr.ta hr.tn hr.tc] 25)) := (Below.refl _ _).alloc (Nat.le_refl _) _
    have HK11 := Lib.hid (HK10.out.below b11 HK10.out.lt)
    have HS11 := Lib.hid (HS10.out.alloc (.cells #[.int .i64 hl.k, .slice hl.ka hl.kn hl.kc, .slice hl.va hl.vn hl.vc, .slice hl.da hl.dn hl.dc, .slice hl.ta hl.tn hl.tc, .int .i64 hr.k, .slice hr.ka hr.kn hr.kc, .slice hr.va hr.vn hr.vc, .slice hr.da hr.dn hr.dc, .slice hr.ta hr.tn hr.tc] 25))
    have HK12 := Lib.hid (HK11.out.grown (only_set (only_refl (w10.alloc (.cells #[.int .i64 hl.k, .slice hl.ka hl.kn hl.kc, .slice hl.va hl.vn hl.vc, .slice hl.da hl.dn hl.dc, .slice hl.ta hl.tn hl.tc, .int .i64 hr.k, .slice hr.ka hr.kn hr.kc, .slice hr.va hr.vn hr.vc, .slice hr.da hr.dn hr.dc, .slice hr.ta hr.tn hr.tc] 25)) (some B)) 4 (.slice (some ⟨w10.heap.size, 0, none⟩) 2 2)) (fun e => by injection e; have q1 := HLB.out.2; omega))
    have x4 := HS11.out.tb.cells.2.2.2.2
    have f4 := HS11.out.tb.frozen 4
    clear hr10 hg10 ht10 b11
    go_simp
    refine hK.out _ _ ?_ (fun hHeld => ?_)
    · (first | exact HK10.out.cells | exact HK11.out.cells | exact HK12.out.cells)
    clear hK K
    (try simp only [Act.put, List.setIfInBounds_toArray, List.set_cons_zero, List.set_cons_succ])
    refine wpAnyH_ready (rs := [5]) (by kernel_rfl) (by simp) ?_
    refine AllReadyH.cons (o := ?oZ14) ?hiZ14 (fun K hK => ?stZ14) AllReadyH.nil
    case hiZ14 => (simp only [List.getElem?_toArray, List.getElem?_cons_succ, List.getElem?_cons_zero] <;> rfl)
    go_simp
    refine hK.out _ _ ?_ (fun hHeld => ?_)
    · (first | exact HK10.out.cells | exact HK11.out.cells | exact HK12.out.cells)
    clear hK K
    (try simp only [Act.put, List.setIfInBounds_toArray, List.set_cons_zero, List.set_cons_succ])
    refine take_w (i := 6) (oi := ?oZ15) (v := ?vZ15) ?hiZ15 (by kernel_rfl) (by kernel_rfl) (by kernel_rfl) ?hQZ15 ?hwZ15 ?hyZ15 (by assumption) ?restZ15
    case hiZ15 => (simp only [List.getElem?_toArray, List.getElem?_cons_succ, List.getElem?_cons_zero] <;> rfl)
    case hQZ15 => exact (fun _ _ _ h => h)
    case hwZ15 => rfl
    case hyZ15 => (intro w hSw; (try dsimp only at hSw); go_simp; try with_reducible rfl)
    (try simp only [Act.put, List.setIfInBounds_toArray, List.set_cons_zero, List.set_cons_succ])
    refine wpAnyH_ready (rs := [7]) (by kernel_rfl) (by simp) ?_
    refine AllReadyH.cons (o := ?oZ16) ?hiZ16 (fun K hK => ?stZ16) AllReadyH.nil
    case hiZ16 => (simp only [List.getElem?_toArray, List.getElem?_cons_succ, List.getElem?_cons_zero] <;> rfl)
    go_simp
    refine hK.out _ _ ?_ (fun hHeld => ?_)
    · (first | exact HK10.out.cells | exact HK11.out.cells | exact HK12.out.cells)
    clear hK K
    (try simp only [Act.put, List.setIfInBounds_toArray, List.set_cons_zero, List.set_cons_succ])
    refine wpAnyH_done (by kernel_rfl) ?_ _
    clear hHeld
    have b11 : Below w10.heap.size w10 (w10.alloc (.cells #[.int .i64 hl.k, .slice hl.ka hl.kn hl.kc, .slice hl.va hl.vn hl.vc, .slice hl.da hl.dn hl.dc, .slice hl.ta hl.tn hl.tc, .int .i64 hr.k, .slice hr.ka hr.kn hr.kc, .slice hr.va hr.vn hr.vc, .slice hr.da hr.dn hr.dc, .slice hr.ta hr.tn hr.tc] 25)) := (Below.refl _ _).alloc (Nat.le_refl _) _
    have HX12 : Hid (Box ((w10.alloc (.cells #[.int .i64 hl.k, .slice hl.ka hl.kn hl.kc, .slice hl.va hl.vn hl.vc, .slice hl.da hl.dn hl.dc, .slice hl.ta hl.tn hl.tc, .int .i64 hr.k, .slice hr.ka hr.kn hr.kc, .slice hr.va hr.vn hr.vc, .slice hr.da hr.dn hr.dc, .slice hr.ta hr.tn hr.tc] 25)).setCell ⟨B, 4, none⟩ (.slice (some ⟨w10.heap.size, 0, none⟩) 2 2)) 25 B ⟨2, a4, key.length, c4, none, 0, 0, a6, z.length, c6, some ⟨w10.heap.size, 0, none⟩, 2, 2⟩) := Lib.hid (HS11.out.tb.set4 (some ⟨w10.heap.size, 0, none⟩) 2 2)
    have HG12 := Lib.hid (only_set (only_refl (w10.alloc (.cells #[.int .i64 hl.k, .slice hl.ka hl.kn hl.kc, .slice hl.va hl.vn hl.vc, .slice hl.da hl.dn hl.dc, .slice hl.ta hl.tn hl.tc, .int .i64 hr.k, .slice hr.ka hr.kn hr.kc, .slice hr.va hr.vn hr.vc, .slice hr.da hr.dn hr.dc, .slice hr.ta hr.tn hr.tc] 25)) (some B)) 4 (.slice (some ⟨w10.heap.size, 0, none⟩) 2 2))
    have HS12 := Lib.hid (HS11.out.wr HG12.out HX12.out)
    have HN11 : Hid (NX (w10.alloc (.cells #[.int .i64 hl.k, .slice hl.ka hl.kn hl.kc, .slice hl.va hl.vn hl.vc, .slice hl.da hl.dn hl.dc, .slice hl.ta hl.tn hl.tc, .int .i64 hr.k, .slice hr.ka hr.kn hr.kc, .slice hr.va hr.vn hr.vc, .slice hr.da hr.dn hr.dc, .slice hr.ta hr.tn hr.tc] 25)) w10.heap.size hl hr a4 key.length c4 key a6 z.length c6 z o1 (rdP d (o1.map (·.2)))) := Lib.hid ⟨Two5.new w10 25 hl hr, HI10.out.1.below b11, HI10.out.2.below b11, fun p r e => ⟨HF1.out p r e, (HT10.out.1 p r e).lower b11⟩, fun p r e => ⟨rdP_formed HS9.out.b8 e, (HT10.out.2 p r e).lower b11⟩⟩
    have HN12 := Lib.hid (HN11.out.out HS11.out.tb HG12.out HS10.out.tb.lt)
    have HGB : Hid (w.heap.size < w10.heap.size) := Lib.hid (Nat.lt_trans HS10.out.lt HS10.out.tb.lt)
    clear HN11 HS11 HX12 HG12 HK10 HK11 HK12 HS10 HI10 HT10 b11 x4 f4 HS9 HI9 HT9 HL9
    generalize ((w10.alloc (.cells #[.int .i64 hl.k, .slice hl.ka hl.kn hl.kc, .slice hl.va hl.vn hl.vc, .slice hl.da hl.dn hl.dc, .slice hl.ta hl.tn hl.tc, .int .i64 hr.k, .slice hr.ka hr.kn hr.kc, .slice hr.va hr.vn hr.vc, .slice hr.da hr.dn hr.dc, .slice hr.ta hr.tn hr.tc] 25)).setCell ⟨B, 4, none⟩ (.slice (some ⟨w10.heap.size, 0, none⟩) 2 2)) = w12 at *
    generalize w10.heap.size = G at *
    obtain ⟨x0, x1, x2, x3, x4⟩ := HS12.out.tb.cells
    go_wp2_with (first
      | (refine wpList_store_box rfl 25 (.tmp 4) (.tmp 76) rfl w.heap.size hZ ⟨2, a4, key.length, c4, none, 0, 0, a6, z.length, c6, some ⟨G, 0, none⟩, 2, 2⟩ rfl rfl 25 HS12.out.res infoTree5 ?_
         intro w9 hbx9 hg9
         have HX9 := Lib.hid hbx9
         have HG9 := Lib.hid hg9
         clear hbx9 hg9))
    obtain ⟨hr9, hu9⟩ := HS12.out.ret HG9.out
    have HN9 := HN12.out.out HS12.out.res HG9.out HGB.out
    have e1 := node_left (d := d) (o1 := o1) (fun x y => PT.dark x key z y)
    have e2 : o.map (·.2) = (rdP d (o1.map (·.2))).map (·.2) := by rw [HO1.out]; exact e1
    refine bodyPost_ret (v := TH.v ⟨2, a4, key.length, c4, none, 0, 0, a6, z.length, c6, some ⟨G, 0, none⟩, 2, 2⟩) (result_tree Try.results28 _ HX9.out rfl Try.underlying25 infoTree5) rfl ⟨_, rfl, by rw [e2]; exact hr9, hu9, fun p r h => ?_⟩
    obtain ⟨p1, r1, p2, q1, q2, q3⟩ := node_some (d := d) (o1 := o1) (f := fun x y => PT.dark x key z y) (HO1.out.symm.trans h)
    subst q3
    exact inTree_pair HN9.two (HN9.tl _ _ q1).2 (HN9.tr _ _ q2).2 (by omega) (by omega) HN9.key (none_in _) HN9.z
end Go.Proofs.Ytagmeljjkblpbaa

/- The contracts of the document's read and Read of layer 10. -/
namespace Go.Proofs.Ytagmeljjkblpbaa
open Go.RowKit
set_option linter.unusedVariables false

theorem RefRd.b8 {W : World} {g n c : Nat} {a : Option Addr} {bs : List Int} {s : Option (List Int)} (hr : RefRd W g a n c bs s) (hin : InBytes W a n c bs) : ∀ r, s = some r → Bytes8 r := fun r e => by
  obtain ⟨at', bad, -, -, -, h3⟩ := hr
  rw [(h3 r e).2]
  exact fun z hz => hin.bytes z (List.mem_of_mem_drop hz)
theorem refRead_any (g : Nat) (a : Option Addr) (n c : Nat) (bs : List Int) (hag : 0 < n → ∀ ad, a = some ad → ad.block ≠ g) (hn : n ≤ 1000000) : ∀ d : Nat, d ≤ 64 → ∀ (s : Option (List Int)) (W : World), InBytes W a n c bs → RefRd W g a n c bs s → g < W.heap.size →
    Calls Try.prog 28 #[.pointer (some ⟨g, 0, none⟩), .int .i64 d] W (Rd10 W g a n c bs (rdP d s)) := by
  intro d
  induction d with
  | zero => exact fun hd s W hin hr hgl => refReadFlat_any 0 hd g a n c bs s W hin hag hr (hr.b8 hin) hn hgl (fun _ _ _ _ => rfl)
  | succ d ih =>
    intro hd s W hin hr hgl
    by_cases h : ∃ k l, s = some (k :: l) ∧ (k = 1 ∨ k = 2)
    · obtain ⟨k, l, rfl, rfl | rfl⟩ := h
      · exact refReadNode1_any d hd g a n c bs l W hin hag hr hn hgl (ih (by omega))
      · exact refReadNode2_any d hd g a n c bs l W hin hag hr hn hgl (ih (by omega))
    · exact refReadFlat_any (d + 1) hd g a n c bs s W hin hag hr (hr.b8 hin) hn hgl (fun k l e1 e2 => absurd ⟨k, l, e1, e2⟩ h)
/-- What is told of what was read. -/
def tellR10 : Option (PT × List Int) → Nat × PT
  | none => (3, .nil)
  | some (p, []) => (0, p)
  | some (_, _ :: _) => (4, .nil)
theorem readX_tell (s : List Int) : readX s = tellR10 (rdP 64 (some s)) := by
  unfold readX
  show _ = tellR10 (readP 64 s)
  rcases readP 64 s with _ | ⟨p, _ | ⟨_, _⟩⟩ <;> rfl
/-- What Read of the document answers: the tree, and the error's number. -/
def Rx10 (w : World) (r : Nat × PT) (e : Ending) (w' : World) : Prop := ∃ h' : TH, e = .returned (.tuple #[h'.v, .int .i64 r.1]) ∧ InTree w' h' r.2.tr ∧ Below w.heap.size w w'

set_option maxRecDepth 100000 in
set_option maxHeartbeats 8000000 in
theorem refReadX_any (a : Option Addr) (n c : Nat) (bs : List Int) (w : World) (hin : InBytes w a n c bs) (hn : n ≤ 1000000) : Calls Try.prog 13 #[.slice a n c] w (Rx10 w (readX bs)) := by
  have hb1 : Below w.heap.size w ((w.alloc (.cells #[.int .i64 0, .slice none 0 0, .slice none 0 0, .slice none 0 0, .slice none 0 0] 25)).alloc (.cells #[.slice a n c, .int .i64 0, .bool false] 59)) := ((Below.refl _ _).alloc (Nat.le_refl _) _).alloc (by simp) _
  have HI := Lib.hid (hin.below hb1)
  have HB := Lib.hid hb1
  have HRB : Hid (Box ((w.alloc (.cells #[.int .i64 0, .slice none 0 0, .slice none 0 0, .slice none 0 0, .slice none 0 0] 25)).alloc (.cells #[.slice a n c, .int .i64 0, .bool false] 59)) 25 w.heap.size hZ) := Lib.hid ((Box.new w 25 hZ).below ((Below.refl _ _).alloc (Nat.le_refl _) _) (Box.new w 25 hZ).lt)
  have HRD : Hid (RefRd ((w.alloc (.cells #[.int .i64 0, .slice none 0 0, .slice none 0 0, .slice none 0 0, .slice none 0 0] 25)).alloc (.cells #[.slice a n c, .int .i64 0, .bool false] 59)) (w.heap.size + 1) a n c bs (some bs)) := Lib.hid ⟨0, false, (by
    have q := heap_alloc_new (w.alloc (.cells #[.int .i64 0, .slice none 0 0, .slice none 0 0, .slice none 0 0, .slice none 0 0] 25)) (.cells #[.slice a n c, .int .i64 0, .bool false] 59)
    have e : (w.alloc (.cells #[.int .i64 0, .slice none 0 0, .slice none 0 0, .slice none 0 0, .slice none 0 0] 25)).heap.size = w.heap.size + 1 := by simp
    rw [e] at q
    exact q), Nat.zero_le _, (fun h => by cases h), fun r h => ⟨rfl, by injection h with h; rw [← h]; rfl⟩⟩
  have HAG : Hid (0 < n → ∀ ad, a = some ad → ad.block ≠ w.heap.size + 1) := Lib.hid (fun h0 ad e => by
    obtain ⟨g', off, e', hlt, -⟩ := hin.place h0
    rw [e] at e'
    injection e' with e'
    subst e'
    show g' ≠ w.heap.size + 1
    omega)
  have HLT : Hid (w.heap.size + 1 < ((w.alloc (.cells #[.int .i64 0, .slice none 0 0, .slice none 0 0, .slice none 0 0, .slice none 0 0] 25)).alloc (.cells #[.slice a n c, .int .i64 0, .bool false] 59)).heap.size) := Lib.hid (by simp)
  have HBL := Lib.hid hin.len
  obtain ⟨o, ho⟩ : ∃ o, rdP 64 (some bs) = o := ⟨_, rfl⟩
  have HX : Hid (readX bs = tellR10 o) := Lib.hid (by rw [← ho]; exact readX_tell bs)
  have HFM : Hid (∀ p r, o = some (p, r) → formedT p.tr = true) := Lib.hid (fun p r e => rdP_formed (HRD.out.b8 HI.out) (ho.trans e))
  have HQ := Lib.hid ho
  clear hin hb1 ho
  go_enter Try.func13, Try.ntmps13
  go_upto_region 2 with fail
  generalize ((w.alloc (.cells #[.int .i64 0, .slice none 0 0, .slice none 0 0, .slice none 0 0, .slice none 0 0] 25)).alloc (.cells #[.slice a n c, .int .i64 0, .bool false] 59)) = w1 at *
  go_upto_region 4 with (first
    | (go_at_call 28
       refine (refRead_any (w.heap.size + 1) a n c bs HAG.out hn 64 (by omega) (some bs) _ HI.out HRD.out HLT.out).mono ?_
       unfold Rd10 TH.v
       rw [HQ.out]
       rintro _ w2 ⟨h2, rfl, hr2, hg2, ht2⟩
       have HR2 := Lib.hid (hr2.grown (only_below (((Below.refl w2.heap.size w2).alloc (Nat.le_refl _) (.cells #[.int .i64 h2.k, .slice h2.ka h2.kn h2.kc, .slice h2.va h2.vn h2.vc, .slice h2.da h2.dn h2.dc, .slice h2.ta h2.tn h2.tc] 25))) none) (fun e => by cases e))
       have HB2 : Hid (Below w.heap.size w (w2.alloc (.cells #[.int .i64 h2.k, .slice h2.ka h2.kn h2.kc, .slice h2.va h2.vn h2.vc, .slice h2.da h2.dn h2.dc, .slice h2.ta h2.tn h2.tc] 25))) := Lib.hid ((HB.out.grown hg2 HB.out.size (fun j hj => by injection hj; omega)).trans (((Below.refl w2.heap.size w2).alloc (Nat.le_refl _) (.cells #[.int .i64 h2.k, .slice h2.ka h2.kn h2.kc, .slice h2.va h2.vn h2.vc, .slice h2.da h2.dn h2.dc, .slice h2.ta h2.tn h2.tc] 25)).mono (Nat.le_trans HB.out.size hg2.size)))
       have HT2 : Hid (∀ p r, o = some (p, r) → InTree (w2.alloc (.cells #[.int .i64 h2.k, .slice h2.ka h2.kn h2.kc, .slice h2.va h2.vn h2.vc, .slice h2.da h2.dn h2.dc, .slice h2.ta h2.tn h2.tc] 25)) h2 p.tr) := Lib.hid (fun p r e => (ht2 p r e).lower ((Below.refl w2.heap.size w2).alloc (Nat.le_refl _) (.cells #[.int .i64 h2.k, .slice h2.ka h2.kn h2.kc, .slice h2.va h2.vn h2.vc, .slice h2.da h2.dn h2.dc, .slice h2.ta h2.tn h2.tc] 25)))
       have HX2 := Lib.hid (Box.new w2 25 h2)
       have HRB2 := Lib.hid ((HRB.out.grown hg2 (fun e => by injection e; omega)).below ((Below.refl w2.heap.size w2).alloc (Nat.le_refl _) (.cells #[.int .i64 h2.k, .slice h2.ka h2.kn h2.kc, .slice h2.va h2.vn h2.vc, .slice h2.da h2.dn h2.dc, .slice h2.ta h2.tn h2.tc] 25)) (HRB.out.grown hg2 (fun e => by injection e; omega)).lt)
       clear hr2 hg2 ht2)
    | (go_at_call 29
       refine (refEnd_any (w.heap.size + 1) a n c bs (o.map (·.2)) _ HBL.out HR2.out).mono ?_
       rintro _ w3 ⟨rfl, m3, rfl⟩))
  have HB3 : Hid (Below w.heap.size w ((w2.alloc (.cells #[.int .i64 h2.k, .slice h2.ka h2.kn h2.kc, .slice h2.va h2.vn h2.vc, .slice h2.da h2.dn h2.dc, .slice h2.ta h2.tn h2.tc] 25)).drewN m3)) := Lib.hid (below_drawn HB2.out m3)
  have HRB3 : Hid (Box ((w2.alloc (.cells #[.int .i64 h2.k, .slice h2.ka h2.kn h2.kc, .slice h2.va h2.vn h2.vc, .slice h2.da h2.dn h2.dc, .slice h2.ta h2.tn h2.tc] 25)).drewN m3) 25 w.heap.size hZ) := Lib.hid HRB2.out
  have HX3 : Hid (Box ((w2.alloc (.cells #[.int .i64 h2.k, .slice h2.ka h2.kn h2.kc, .slice h2.va h2.vn h2.vc, .slice h2.da h2.dn h2.dc, .slice h2.ta h2.tn h2.tc] 25)).drewN m3) 25 w2.heap.size h2) := Lib.hid HX2.out
  have HT3 : Hid (∀ p r, o = some (p, r) → InTree ((w2.alloc (.cells #[.int .i64 h2.k, .slice h2.ka h2.kn h2.kc, .slice h2.va h2.vn h2.vc, .slice h2.da h2.dn h2.dc, .slice h2.ta h2.tn h2.tc] 25)).drewN m3) h2 p.tr) := Lib.hid (fun p r e => (HT2.out p r e).lower (below_drawn (Below.refl _ _) m3))
  clear HB2 HRB2 HX2 HT2 HR2 HI HB HRB HRD HAG HLT HQ
  generalize ((w2.alloc (.cells #[.int .i64 h2.k, .slice h2.ka h2.kn h2.kc, .slice h2.va h2.vn h2.vc, .slice h2.da h2.dn h2.dc, .slice h2.ta h2.tn h2.tc] 25)).drewN m3) = w4 at *
  generalize w2.heap.size = L at *
  rcases o with _ | ⟨p, _ | ⟨y, ys⟩⟩
  · have e0 : rdEnd (Option.map (fun x : PT × List Int => x.2) none) = 3 := rfl
    rw [e0]
    go_wp2_with (first
      | (refine wpList_store_box rfl 25 (.tmp 2) (.tmp 16) rfl w.heap.size hZ hZ rfl rfl 25 HRB3.out infoTree5 ?_
         intro w9 hbx9 hg9
         have HX9 := Lib.hid hbx9
         have HG9 := Lib.hid hg9
         clear hbx9 hg9))
    exact bodyPost_ret (v := .tuple #[(hZ : TH).v, .int .i64 3]) (Box.result Try.results13 _ HX9.out rfl Try.underlying25 infoTree5) rfl ⟨hZ, by rw [HX.out]; rfl, by rw [HX.out]; exact inTree_nil _, HB3.out.grown HG9.out HB3.out.size (fun j hj => by injection hj; omega)⟩
  · have e0 : rdEnd (Option.map (fun x : PT × List Int => x.2) (some (p, []))) = 0 := rfl
    rw [e0]
    obtain ⟨x0, x1, x2, x3, x4⟩ := HX3.out.cells
    go_wp2_with (first
      | (refine wpList_store_box rfl 25 (.tmp 2) (.tmp 18) rfl w.heap.size hZ h2 rfl rfl 25 HRB3.out infoTree5 ?_
         intro w9 hbx9 hg9
         have HX9 := Lib.hid hbx9
         have HG9 := Lib.hid hg9
         clear hbx9 hg9))
    exact bodyPost_ret (v := .tuple #[h2.v, .int .i64 0]) (Box.result Try.results13 _ HX9.out rfl Try.underlying25 infoTree5) rfl ⟨h2, by rw [HX.out]; rfl, by rw [HX.out]; exact InTree.outBox HRB3.out HG9.out _ _ (HFM.out p _ rfl) (HT3.out p _ rfl), HB3.out.grown HG9.out HB3.out.size (fun j hj => by injection hj; omega)⟩
  · have e0 : rdEnd (Option.map (fun x : PT × List Int => x.2) (some (p, y :: ys))) = 4 := rfl
    rw [e0]
    go_wp2_with (first
      | (refine wpList_store_box rfl 25 (.tmp 2) (.tmp 16) rfl w.heap.size hZ hZ rfl rfl 25 HRB3.out infoTree5 ?_
         intro w9 hbx9 hg9
         have HX9 := Lib.hid hbx9
         have HG9 := Lib.hid hg9
         clear hbx9 hg9))
    exact bodyPost_ret (v := .tuple #[(hZ : TH).v, .int .i64 4]) (Box.result Try.results13 _ HX9.out rfl Try.underlying25 infoTree5) rfl ⟨hZ, by rw [HX.out]; rfl, by rw [HX.out]; exact inTree_nil _, HB3.out.grown HG9.out HB3.out.size (fun j hj => by injection hj; omega)⟩
end Go.Proofs.Ytagmeljjkblpbaa

/- The contract of the document's comparison of trees: of one and the same tree. -/
namespace Go.Proofs.Ytagmeljjkblpbaa
open Go.RowKit
set_option linter.unusedVariables false

theorem conv_of' {w : World} {a : Option Addr} {n cap : Nat} {bs : List Int} (h : InBytes w a n cap bs) :
    (convert 22 9 (.slice a n cap)).run Try.prog w = .ok (.string (strOfNums bs)) w :=
  conv_in (P := Try.prog) h 22 5 9 Try.underlying22 Try.underlying5 Try.underlying9
/-- Two boxes, side by side. -/
structure Two (w W : World) (h h' : TH) : Prop where
  bx : Box W 25 w.heap.size h
  by' : Box W 25 (w.heap.size + 1) h'
  b : Below w.heap.size w W
theorem Two.below {w W W' : World} {h h' : TH} (d : Two w W h h') (hb : Below W.heap.size W W') : Two w W' h h' := ⟨d.bx.below hb d.bx.lt, d.by'.below hb d.by'.lt, d.b.trans (hb.mono d.b.size)⟩
theorem Two.drew {w W : World} {h h' : TH} (d : Two w W h h') : Two w W.drew h h' := d.below (Below.refl _ _).drew
theorem Two.new (w : World) (h h' : TH) : Two w ((w.alloc (.cells #[.int .i64 h.k, .slice h.ka h.kn h.kc, .slice h.va h.vn h.vc, .slice h.da h.dn h.dc, .slice h.ta h.tn h.tc] 25)).alloc (.cells #[.int .i64 h'.k, .slice h'.ka h'.kn h'.kc, .slice h'.va h'.vn h'.vc, .slice h'.da h'.dn h'.dc, .slice h'.ta h'.tn h'.tc] 25)) h h' :=
  ⟨(Box.new w _ h).below ((Below.refl _ _).alloc (Nat.le_refl _) _) (by simp), by have := Box.new (w.alloc (.cells #[.int .i64 h.k, .slice h.ka h.kn h.kc, .slice h.va h.vn h.vc, .slice h.da h.dn h.dc, .slice h.ta h.tn h.tc] 25)) 25 h'; simpa using this, ((Below.refl w.heap.size w).alloc (Nat.le_refl _) _).alloc (by simp) _⟩

set_option maxRecDepth 100000 in
set_option maxHeartbeats 4000000 in
theorem refSame_any : ∀ (t : Tr) (h h' : TH) (w : World), InTree w h t → InTree w h' t →
    Calls Try.prog 14 #[h.v, h'.v] w (Says w (.bool true)) := by
  intro t
  induction t using Tr.ind with
  | h t ih =>
  intro h h' w ht ht'
  unfold TH.v
  obtain ⟨H, hp⟩ := ht.parts
  obtain ⟨H', hp'⟩ := ht'.parts
  have HP := Lib.hid (And.intro hp hp')
  have htl := hp.len
  have htl' := hp'.len
  have htm := Nat.le_trans hp.sl.le hp.sl.max
  simp only [maxLen] at htm
  have k1 : (h.k != h'.k) = false := by rw [hp.hk, hp'.hk]; simp
  have k2 : ((h.tn : Int) != (h'.tn : Int)) = false := by rw [← htl, ← htl']; simp
  have IH := Lib.hid ih
  clear hp hp' ht ht' ih
  have HD := Lib.hid (Two.new w h h')
  go_enter Try.func14, Try.ntmps14
  go_upto_region 1 with fail
  generalize (w.alloc (.cells #[.int .i64 h.k, .slice h.ka h.kn h.kc, .slice h.va h.vn h.vc, .slice h.da h.dn h.dc, .slice h.ta h.tn h.tc] 25)).alloc (.cells #[.int .i64 h'.k, .slice h'.ka h'.kn h'.kc, .slice h'.va h'.vn h'.vc, .slice h'.da h'.dn h'.dc, .slice h'.ta h'.tn h'.tc] 25) = w0 at *
  obtain ⟨x0, x1, x2, x3, x4⟩ := HD.out.bx.cells
  obtain ⟨y0, y1, y2, y3, y4⟩ := HD.out.by'.cells
  have c1 := conv_of' (HP.out.1.below HD.out.b).key
  have c2 := conv_of' (HP.out.1.below HD.out.b).val
  have c3 := conv_of' (HP.out.1.below HD.out.b).dig
  have d1 := conv_of' (HP.out.2.below HD.out.b).key
  have d2 := conv_of' (HP.out.2.below HD.out.b).val
  have d3 := conv_of' (HP.out.2.below HD.out.b).dig
  have htl2 : h'.tn = h.tn := by omega
  have HL := Lib.hid htl2
  clear htl2 htl'
  go_wp2_with fail
  clear x0 x1 x2 x3 x4 y0 y1 y2 y3 y4 c1 c2 c3 d1 d2 d3
  go_loopw [5] (fun s5 wx => ∃ i : Nat, i ≤ h.tn ∧ s5 = .int .i64 i ∧ Two w wx h h') (fun s5 _ => h.tn - (intOf s5).toNat)
  case atStart => exact ⟨0, by omega, rfl, HD.out⟩
  case round =>
    clear HD
    obtain ⟨i, hi, rfl, hd⟩ := hrel
    have HD := Lib.hid hd
    have x4 := hd.bx.cells.2.2.2.2
    clear hd
    by_cases hlt : i < h.tn
    · have q1 : (i : Int) < (h.tn : Int) := by omega
      have hlt' : i < h'.tn := by rw [HL.out]; exact hlt
      have q2 : (i : Int) < (h'.tn : Int) := by omega
      have him : i < t.kids.length := by omega
      obtain ⟨g, off, hta, _, _⟩ := (HP.out.1.below HD.out.b).place (by omega)
      obtain ⟨g', off', hta', _, _⟩ := (HP.out.2.below HD.out.b).place (by omega)
      have HTA := Lib.hid (And.intro hta hta')
      clear hta hta'
      go_upto_region 6 with fail
      clear x4
      refine wp_region_held_drew (S := (fun W => W.cell? ⟨w.heap.size, 4, none⟩ = some (.slice (some ⟨g, off, none⟩) h.tn h.tc) ∧ W.cell? ⟨(w.heap.size + 1), 4, none⟩ = some (.slice (some ⟨g', off', none⟩) h'.tn h'.tc) ∧ (W.cell? ⟨g, off + i * 5, none⟩ = some (.int .i64 (H i).k) ∧ W.cell? ⟨g, off + i * 5 + 1, none⟩ = some (.slice (H i).ka (H i).kn (H i).kc) ∧ W.cell? ⟨g, off + i * 5 + 2, none⟩ = some (.slice (H i).va (H i).vn (H i).vc) ∧ W.cell? ⟨g, off + i * 5 + 3, none⟩ = some (.slice (H i).da (H i).dn (H i).dc) ∧ W.cell? ⟨g, off + i * 5 + 4, none⟩ = some (.slice (H i).ta (H i).tn (H i).tc)) ∧ W.cell? ⟨g', off' + i * 5, none⟩ = some (.int .i64 (H' i).k) ∧ W.cell? ⟨g', off' + i * 5 + 1, none⟩ = some (.slice (H' i).ka (H' i).kn (H' i).kc) ∧ W.cell? ⟨g', off' + i * 5 + 2, none⟩ = some (.slice (H' i).va (H' i).vn (H' i).vc) ∧ W.cell? ⟨g', off' + i * 5 + 3, none⟩ = some (.slice (H' i).da (H' i).dn (H' i).dc) ∧ W.cell? ⟨g', off' + i * 5 + 4, none⟩ = some (.slice (H' i).ta (H' i).tn (H' i).tc))) (by kernel_rfl) ⟨(HD.out.drew.bx.cells.2.2.2.2).trans (by rw [HTA.out.1]), (HD.out.drew.by'.cells.2.2.2.2).trans (by rw [HTA.out.2]), (HP.out.1.below HD.out.drew.b).cellsAt HTA.out.1 i hlt, (HP.out.2.below HD.out.drew.b).cellsAt HTA.out.2 i hlt'⟩ (fun hHeld => ?_)
      refine take_w (i := 0) (oi := ?oZ1) (v := ?vZ1) ?hiZ1 (by kernel_rfl) (by kernel_rfl) (by kernel_rfl) ?hQZ1 ?hwZ1 ?hyZ1 (by assumption) ?restZ1
      case hiZ1 => (simp only [List.getElem?_toArray, List.getElem?_cons_zero] <;> rfl)
      case hQZ1 => exact (fun _ _ _ h => h)
      case hwZ1 => rfl
      case hyZ1 => (intro w hSw; (try dsimp only at hSw); go_simp; try with_reducible rfl)
      (try simp only [Act.put, List.setIfInBounds_toArray, List.set_cons_zero, List.set_cons_succ])
      refine take_w (i := 1) (oi := ?oZ2) (v := ?vZ2) ?hiZ2 (by kernel_rfl) (by kernel_rfl) (by kernel_rfl) ?hQZ2 ?hwZ2 ?hyZ2 (by assumption) ?restZ2
      case hiZ2 => (simp only [List.getElem?_toArray, List.getElem?_cons_succ, List.getElem?_cons_zero] <;> rfl)
      case hQZ2 => exact (fun _ _ _ h => h)
      case hwZ2 => rfl
      case hyZ2 => (intro w hSw; (try dsimp only at hSw); go_simp; try with_reducible rfl)
      (try simp only [Act.put, List.setIfInBounds_toArray, List.set_cons_zero, List.set_cons_succ])
      refine take_w (i := 2) (oi := ?oZ3) (v := ?vZ3) ?hiZ3 (by kernel_rfl) (by kernel_rfl) (by kernel_rfl) ?hQZ3 ?hwZ3 ?hyZ3 (by assumption) ?restZ3
      case hiZ3 => (simp only [List.getElem?_toArray, List.getElem?_cons_succ, List.getElem?_cons_zero] <;> rfl)
      case hQZ3 => exact (fun _ _ _ h => h)
      case hwZ3 => rfl
      case hyZ3 => (intro w hSw; (try dsimp only at hSw); go_simp; try with_reducible rfl)
      (try simp only [Act.put, List.setIfInBounds_toArray, List.set_cons_zero, List.set_cons_succ])
      refine take_w (i := 3) (oi := ?oZ4) (v := ?vZ4) ?hiZ4 (by kernel_rfl) (by kernel_rfl) (by kernel_rfl) ?hQZ4 ?hwZ4 ?hyZ4 (by assumption) ?restZ4
      case hiZ4 => (simp only [List.getElem?_toArray, List.getElem?_cons_succ, List.getElem?_cons_zero] <;> rfl)
      case hQZ4 => exact (fun _ _ _ h => h)
      case hwZ4 => rfl
      case hyZ4 => (intro w hSw; (try dsimp only at hSw); go_simp; try with_reducible rfl)
      (try simp only [Act.put, List.setIfInBounds_toArray, List.set_cons_zero, List.set_cons_succ])
      refine take_w (i := 4) (oi := ?oZ5) (v := ?vZ5) ?hiZ5 (by kernel_rfl) (by kernel_rfl) (by kernel_rfl) ?hQZ5 ?hwZ5 ?hyZ5 (by assumption) ?restZ5
      case hiZ5 => (simp only [List.getElem?_toArray, List.getElem?_cons_succ, List.getElem?_cons_zero] <;> rfl)
      case hQZ5 => exact (fun _ _ _ h => h)
      case hwZ5 => rfl
      case hyZ5 => (intro w hSw; (try dsimp only at hSw); go_simp; try with_reducible rfl)
      (try simp only [Act.put, List.setIfInBounds_toArray, List.set_cons_zero, List.set_cons_succ])
      refine take_w (i := 5) (oi := ?oZ6) (v := ?vZ6) ?hiZ6 (by kernel_rfl) (by kernel_rfl) (by kernel_rfl) ?hQZ6 ?hwZ6 ?hyZ6 (by assumption) ?restZ6
      case hiZ6 => (simp only [List.getElem?_toArray, List.getElem?_cons_succ, List.getElem?_cons_zero] <;> rfl)
      case hQZ6 => exact (fun _ _ _ h => h)
      case hwZ6 => rfl
      case hyZ6 => (intro w hSw; (try dsimp only at hSw); go_simp; try with_reducible rfl)
      (try simp only [Act.put, List.setIfInBounds_toArray, List.set_cons_zero, List.set_cons_succ])
      refine take_w (i := 6) (oi := ?oZ7) (v := ?vZ7) ?hiZ7 (by kernel_rfl) (by kernel_rfl) (by kernel_rfl) ?hQZ7 ?hwZ7 ?hyZ7 (by assumption) ?restZ7
      case hiZ7 => (simp only [List.getElem?_toArray, List.getElem?_cons_succ, List.getElem?_cons_zero] <;> rfl)
      case hQZ7 => exact (fun _ _ _ h => h)
      case hwZ7 => rfl
      case hyZ7 => (intro w hSw; (try dsimp only at hSw); go_simp; try with_reducible rfl)
      (try simp only [Act.put, List.setIfInBounds_toArray, List.set_cons_zero, List.set_cons_succ])
      refine take_w (i := 7) (oi := ?oZ8) (v := ?vZ8) ?hiZ8 (by kernel_rfl) (by kernel_rfl) (by kernel_rfl) ?hQZ8 ?hwZ8 ?hyZ8 (by assumption) ?restZ8
      case hiZ8 => (simp only [List.getElem?_toArray, List.getElem?_cons_succ, List.getElem?_cons_zero] <;> rfl)
      case hQZ8 => exact (fun _ _ _ h => h)
      case hwZ8 => rfl
      case hyZ8 => (intro w hSw; (try dsimp only at hSw); go_simp; try with_reducible rfl)
      (try simp only [Act.put, List.setIfInBounds_toArray, List.set_cons_zero, List.set_cons_succ])
      refine take_w (i := 8) (oi := ?oZ9) (v := ?vZ9) ?hiZ9 (by kernel_rfl) (by kernel_rfl) (by kernel_rfl) ?hQZ9 ?hwZ9 ?hyZ9 (by assumption) ?restZ9
      case hiZ9 => (simp only [List.getElem?_toArray, List.getElem?_cons_succ, List.getElem?_cons_zero] <;> rfl)
      case hQZ9 => exact (fun _ _ _ h => h)
      case hwZ9 => rfl
      case hyZ9 => (intro w hSw; (try dsimp only at hSw); go_simp; try with_reducible rfl)
      (try simp only [Act.put, List.setIfInBounds_toArray, List.set_cons_zero, List.set_cons_succ])
      refine take_w (i := 9) (oi := ?oZ10) (v := ?vZ10) ?hiZ10 (by kernel_rfl) (by kernel_rfl) (by kernel_rfl) ?hQZ10 ?hwZ10 ?hyZ10 (by assumption) ?restZ10
      case hiZ10 => (simp only [List.getElem?_toArray, List.getElem?_cons_succ, List.getElem?_cons_zero] <;> rfl)
      case hQZ10 => exact (fun _ _ _ h => h)
      case hwZ10 => rfl
      case hyZ10 => (intro w hSw; (try dsimp only at hSw); go_simp; try with_reducible rfl)
      (try simp only [Act.put, List.setIfInBounds_toArray, List.set_cons_zero, List.set_cons_succ])
      refine wpAnyH_ready (rs := [10]) (by kernel_rfl) (by simp) ?_
      refine AllReadyH.cons (o := ?oZ11) ?hiZ11 (fun K hK => ?stZ11) AllReadyH.nil
      case hiZ11 => (simp only [List.getElem?_toArray, List.getElem?_cons_succ, List.getElem?_cons_zero] <;> rfl)
      go_simp
      go_at_call 14
      refine (IH.out _ (List.getElem_mem him) (H i) (H' i) _ ((HP.out.1.below HD.out.drew.b).kids i him) ((HP.out.2.below HD.out.drew.b).kids i him)).mono ?_
      rintro _ w1 ⟨rfl, hb1⟩
      have HD1 := Lib.hid (HD.out.drew.below hb1)
      clear hb1
      go_simp
      refine hK.out _ _ ?_ (fun hHeld => ?_)
      · (first | exact ⟨(HD1.out.bx.cells.2.2.2.2).trans (by rw [HTA.out.1]), (HD1.out.by'.cells.2.2.2.2).trans (by rw [HTA.out.2]), (HP.out.1.below HD1.out.b).cellsAt HTA.out.1 i hlt, (HP.out.2.below HD1.out.b).cellsAt HTA.out.2 i hlt'⟩ | exact ⟨(HD.out.drew.bx.cells.2.2.2.2).trans (by rw [HTA.out.1]), (HD.out.drew.by'.cells.2.2.2.2).trans (by rw [HTA.out.2]), (HP.out.1.below HD.out.drew.b).cellsAt HTA.out.1 i hlt, (HP.out.2.below HD.out.drew.b).cellsAt HTA.out.2 i hlt'⟩)
      clear hK K
      (try simp only [Act.put, List.setIfInBounds_toArray, List.set_cons_zero, List.set_cons_succ])
      refine take_w (i := 11) (oi := ?oZ12) (v := ?vZ12) ?hiZ12 (by kernel_rfl) (by kernel_rfl) (by kernel_rfl) ?hQZ12 ?hwZ12 ?hyZ12 (by assumption) ?restZ12
      case hiZ12 => (simp only [List.getElem?_toArray, List.getElem?_cons_succ, List.getElem?_cons_zero] <;> rfl)
      case hQZ12 => exact (fun _ _ _ h => h)
      case hwZ12 => rfl
      case hyZ12 => (intro w hSw; (try dsimp only at hSw); go_simp; try with_reducible rfl)
      (try simp only [Act.put, List.setIfInBounds_toArray, List.set_cons_zero, List.set_cons_succ])
      refine wpAnyH_done (by kernel_rfl) ?_ _
      
      clear hHeld
      go_wp2_with fail
      exact ⟨⟨i + 1, by omega, by go_num, HD1.out⟩, by simp [intOf]; omega⟩
    · obtain rfl : i = h.tn := by omega
      have q1 : ¬ (h.tn : Int) < (h.tn : Int) := by omega
      go_wp2_with fail
      go_ret
      exact ⟨rfl, HD.out.b⟩
end Go.Proofs.Ytagmeljjkblpbaa

/- The walk of the law CodeReads. -/
namespace Go.Proofs.Ytagmeljjkblpbaa
open Go.RowKit
set_option linter.unusedVariables false

set_option maxRecDepth 100000 in
set_option maxHeartbeats 8000000 in
theorem codeReads_law (a : Option Addr) (n c : Nat) (bs : List Int) (w : World) (hin : InBytes w a n c bs) : Calls Try.prog 4 #[.slice a n c] w (Says w (.bool true)) := by
  obtain ⟨r, hr⟩ : ∃ r, readX bs = r := ⟨_, rfl⟩
  have hr13 : r.1 ≤ 13 := by rw [← hr]; exact readX_le bs
  have HR := Lib.hid hr
  have HI := Lib.hid hin
  clear hr hin
  go_enter Try.func4, Try.ntmps4
  go_upto_region 2 with (first
    | (go_at_call 7
       refine (up10_any _).mono ?_
       rintro _ w1 ⟨rfl, hb1⟩
       have HB1 := Lib.hid hb1
       clear hb1))
  by_cases h5 : 5000 < n
  · have q5 : (5000 : Int) < (n : Int) := by omega
    go_wp2_with fail
    go_ret
    exact ⟨rfl, HB1.out⟩
  have q5 : ¬ (5000 : Int) < (n : Int) := by omega
  go_upto_region 6 with (first
    | (go_at_call 12
       refine (cread_any a n c bs _ (HI.out.below HB1.out) (by omega)).mono ?_
       unfold ReadTold TH.v
       rw [HR.out]
       rintro _ w2 ⟨h2, rfl, hf2, hb2⟩
       have HT2 := Lib.hid ((hf2 _ (Nat.le_refl _) (fun _ _ _ => rfl)).lower ((Below.refl w2.heap.size w2).alloc (Nat.le_refl _) (.cells #[.int .i64 h2.k, .slice h2.ka h2.kn h2.kc, .slice h2.va h2.vn h2.vc, .slice h2.da h2.dn h2.dc, .slice h2.ta h2.tn h2.tc] 25)))
       have HX2 := Lib.hid (Box.new w2 25 h2)
       have HB2 : Hid (Below w.heap.size w (w2.alloc (.cells #[.int .i64 h2.k, .slice h2.ka h2.kn h2.kc, .slice h2.va h2.vn h2.vc, .slice h2.da h2.dn h2.dc, .slice h2.ta h2.tn h2.tc] 25))) := Lib.hid ((HB1.out.trans (hb2.mono HB1.out.size)).trans (((Below.refl w2.heap.size w2).alloc (Nat.le_refl _) (.cells #[.int .i64 h2.k, .slice h2.ka h2.kn h2.kc, .slice h2.va h2.vn h2.vc, .slice h2.da h2.dn h2.dc, .slice h2.ta h2.tn h2.tc] 25)).mono (HB1.out.trans (hb2.mono HB1.out.size)).size))
       clear hf2 hb2)
    | (go_at_call 13
       refine (refReadX_any a n c bs _ (HI.out.below HB2.out) (by omega)).mono ?_
       unfold Rx10 TH.v
       rw [HR.out]
       rintro _ w4 ⟨h4, rfl, ht4, hb4⟩
       have HT4 := Lib.hid (And.intro ((HT2.out.lower hb4).lower ((Below.refl w4.heap.size w4).alloc (Nat.le_refl _) (.cells #[.int .i64 h4.k, .slice h4.ka h4.kn h4.kc, .slice h4.va h4.vn h4.vc, .slice h4.da h4.dn h4.dc, .slice h4.ta h4.tn h4.tc] 25))) (ht4.lower ((Below.refl w4.heap.size w4).alloc (Nat.le_refl _) (.cells #[.int .i64 h4.k, .slice h4.ka h4.kn h4.kc, .slice h4.va h4.vn h4.vc, .slice h4.da h4.dn h4.dc, .slice h4.ta h4.tn h4.tc] 25))))
       have HX4 := Lib.hid (And.intro ((HX2.out.below hb4 HX2.out.lt).below ((Below.refl w4.heap.size w4).alloc (Nat.le_refl _) (.cells #[.int .i64 h4.k, .slice h4.ka h4.kn h4.kc, .slice h4.va h4.vn h4.vc, .slice h4.da h4.dn h4.dc, .slice h4.ta h4.tn h4.tc] 25)) (HX2.out.below hb4 HX2.out.lt).lt) (Box.new w4 25 h4))
       have HB4 : Hid (Below w.heap.size w (w4.alloc (.cells #[.int .i64 h4.k, .slice h4.ka h4.kn h4.kc, .slice h4.va h4.vn h4.vc, .slice h4.da h4.dn h4.dc, .slice h4.ta h4.tn h4.tc] 25))) := Lib.hid ((HB2.out.trans (hb4.mono HB2.out.size)).trans (((Below.refl w4.heap.size w4).alloc (Nat.le_refl _) (.cells #[.int .i64 h4.k, .slice h4.ka h4.kn h4.kc, .slice h4.va h4.vn h4.vc, .slice h4.da h4.dn h4.dc, .slice h4.ta h4.tn h4.tc] 25)).mono (HB2.out.trans (hb4.mono HB2.out.size)).size))
       clear ht4 hb4))
  obtain ⟨x0, x1, x2, x3, x4⟩ := HX4.out.1.cells
  obtain ⟨y0, y1, y2, y3, y4⟩ := HX4.out.2.cells
  have hq2 : ((r.1 : Int) == (r.1 : Int)) = true := by simp
  generalize (w4.alloc (.cells #[.int .i64 h4.k, .slice h4.ka h4.kn h4.kc, .slice h4.va h4.vn h4.vc, .slice h4.da h4.dn h4.dc, .slice h4.ta h4.tn h4.tc] 25)) = w5 at *
  generalize w4.heap.size = L4 at *
  generalize w2.heap.size = L2 at *
  go_wp2_with (first
    | (go_at_call 11
       refine (code_any r.1 hr13 _).mono ?_
       rintro _ w6 ⟨rfl, m6, rfl⟩
       have z0 : (w5.drewN m6).cell? ⟨L2, 0, none⟩ = some (.int .i64 h2.k) := x0
       have HT6 := Lib.hid (And.intro (HT4.out.1.lower (below_drawn (Below.refl _ _) m6)) (HT4.out.2.lower (below_drawn (Below.refl _ _) m6)))
       have HB6 := Lib.hid (below_drawn HB4.out m6))
    | (go_at_call 14
       refine (refSame_any r.2.tr h2 h4 _ HT6.out.1 HT6.out.2).mono ?_
       rintro _ w7 ⟨rfl, hb7⟩
       have HB7 : Hid (Below w.heap.size w w7) := Lib.hid (HB6.out.trans (hb7.mono HB6.out.size))
       clear hb7))
  go_ret
  exact ⟨rfl, HB7.out⟩
end Go.Proofs.Ytagmeljjkblpbaa
