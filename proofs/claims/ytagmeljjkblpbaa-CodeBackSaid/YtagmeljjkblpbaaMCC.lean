/- The contract of Read's closure, of a node that shows its value. The contract of Read's closure, of a dark node. The contracts of the program's Write and Read of trees. The document's measure of a tree: has it few enough parts? One byte in a block of its own. No program is named here. The heads of the statements of layer 10: the document's examples; whether a tree is small. What was written is read; a byte less or more is not: for any tree. No program is named here. The contract of the document's Write of a tree. The contract of the document's comparison of trees: of one and the same tree. The walk of the law CodeBack (under way). A tree that is an argument is one that lies in memory. No program is named here. A tree that is an argument of the program. -/
import Derived.Test.YtagmeljjkblpbaaMAB
import Derived.Laws.EntriesVeiled
import Derived.Test.YtagmeljjkblpbaaMAA
import Derived.Lib.SlBytesConst
import Derived.Test.YtagmeljjkblpbaaProg
/- The contract of Read's closure, of a node that shows its value. -/
namespace Go.Proofs.Ytagmeljjkblpbaa
open Go.RowKit
set_option linter.unusedVariables false

set_option maxRecDepth 100000 in
set_option maxHeartbeats 8000000 in
theorem ptNode1_any (d : Nat) (hd : d + 1 ≤ 64) (g gr gf : Nat) (gb : Option Nat) (l : List Int) (w : World) (hev : EV w g gr gf gb (some (1 :: l)))
    (ih : ∀ (s : Option (List Int)) (W : World), EV W g gr gf gb s → Calls Try.prog 24 #[.int .i64 d, .pointer (some ⟨gr, 0, none⟩), .pointer (some ⟨gf, 0, none⟩)] W (PtPost W g gb (rdP d s))) :
    Calls Try.prog 24 #[.int .i64 ((d + 1 : Nat) : Int), .pointer (some ⟨gr, 0, none⟩), .pointer (some ⟨gf, 0, none⟩)] w (PtPost w g gb (rdP (d + 1) (some (1 :: l)))) := by
  obtain ⟨o, ho⟩ : ∃ o, rdP (d + 1) (some (1 :: l)) = o := ⟨_, rfl⟩
  rw [ho]
  have HO : Hid (o = (rdP d (rdBytes 1024 (rdBytes 80 (some l)).2).2).bind fun x => (rdP d (some x.2)).map fun y => (PT.shown x.1 (rdBytes 80 (some l)).1 (rdBytes 1024 (rdBytes 80 (some l)).2).1 y.1, y.2)) := Lib.hid (by rw [← ho]; exact rdP_node d l (.inl rfl))
  have hd1 : ((d + 1 : Nat) : Int) - 1 = (d : Int) := by omega
  have e64 : IntKind.i64.wrap (d : Int) = (d : Int) := IntWalk.i64_in _ (by omega)
  obtain ⟨D, hD⟩ : ∃ D : Int, ((d + 1 : Nat) : Int) = D := ⟨_, rfl⟩
  have hD0 : (D == 0) = false := by rw [← hD]; simp; omega
  rw [hD] at hd1 ⊢
  clear ho hD
  have HZ0 : Hid ((w.alloc (.cells #[.int .i64 hZ.k, .slice hZ.ka hZ.kn hZ.kc, .slice hZ.va hZ.vn hZ.vc, .slice hZ.da hZ.dn hZ.dc, .slice hZ.ta hZ.tn hZ.tc] 25)) = w.alloc (.cells #[.int .i64 hZ.k, .slice hZ.ka hZ.kn hZ.kc, .slice hZ.va hZ.vn hZ.vc, .slice hZ.da hZ.dn hZ.dc, .slice hZ.ta hZ.tn hZ.tc] 25)) := Lib.hid rfl
  have hb0 : Below w.heap.size w (w.alloc (.cells #[.int .i64 hZ.k, .slice hZ.ka hZ.kn hZ.kc, .slice hZ.va hZ.vn hZ.vc, .slice hZ.da hZ.dn hZ.dc, .slice hZ.ta hZ.tn hZ.tc] 25)) := (Below.refl _ _).alloc (Nat.le_refl _) _
  have HE0 := Lib.hid (hev.below hb0)
  have HEV := Lib.hid hev
  have IH := Lib.hid ih
  clear hb0 hev ih
  go_enter Try.func24, Try.ntmps24
  go_upto_region 1 with fail
  have HQ0 : Hid ((w.alloc (.cells #[.int .i64 0, .slice none 0 0, .slice none 0 0, .slice none 0 0, .slice none 0 0] 25)) = w.alloc (.cells #[.int .i64 hZ.k, .slice hZ.ka hZ.kn hZ.kc, .slice hZ.va hZ.vn hZ.vc, .slice hZ.da hZ.dn hZ.dc, .slice hZ.ta hZ.tn hZ.tc] 25)) := Lib.hid rfl
  change Hid (EV (w.alloc (.cells #[.int .i64 0, .slice none 0 0, .slice none 0 0, .slice none 0 0, .slice none 0 0] 25)) g gr gf gb (some (1 :: l))) at HE0
  clear HZ0
  generalize (w.alloc (.cells #[.int .i64 0, .slice none 0 0, .slice none 0 0, .slice none 0 0, .slice none 0 0] 25)) = w0 at *
  have xr := HE0.out.vr.cell
  go_upto_region 2 with (first
    | (go_at_call 25
       refine (rdByte_any g gb (some (1 :: l)) _ HE0.out.rd).mono ?_
       rintro _ w1 ⟨rfl, hr1, hg1⟩
       have e1 : rdByte (some ((1 : Int) :: l)) = (1, some l) := rfl
       rw [e1] at hr1 ⊢
       have HS := Lib.hid (PS.enter HQ0.out HEV.out (HE0.out.rdr hg1 hr1) hg1 ⟨1, none, 0, 0, none, 0, 0, none, 0, 0, none, 0, 0⟩)
       clear hr1 hg1 e1 xr))
  generalize (w1.alloc (.cells #[.int .i64 1, .slice none 0 0, .slice none 0 0, .slice none 0 0, .slice none 0 0] 25)) = w2 at *
  generalize w1.heap.size = B at *
  clear HQ0 HE0
  obtain ⟨x0, x1, x2, x3, x4⟩ := HS.out.tb.cells
  have xr := HS.out.ev.vr.cell
  have f1 := HS.out.tb.frozen 1
  go_upto_region 11 with (first
    | (go_at_call 26
       refine (rdBytes_any g gb (some l) 80 _ HS.out.ev.rd (by omega) (by omega)).mono ?_
       rintro _ w4 ⟨a4, c4, rfl, hi4, hr4, hg4, hf4⟩
       have HS4 := Lib.hid (HS.out.rdr hg4 hr4)
       have HI4 : Hid (FreshB (B + 1) w4.heap.size w4 a4 _ c4 _) := Lib.hid (FreshB.ofLo hi4 (fun y hy => by have q1 := hf4 y hy; have q2 := HS.out.tb.lt; omega))
       
       clear hi4 hr4 hg4 hf4 x0 x1 x2 x3 x4 xr
       obtain ⟨x0, x1, x2, x3, x4⟩ := HS4.out.tb.cells
       have xr := HS4.out.ev.vr.cell
       clear f1
       have f1 := HS4.out.tb.frozen 1))
  have HX5 : Hid (Box (w4.setCell ⟨B, 1, none⟩ (.slice a4 (rdBytes 80 (some l)).1.length c4)) 25 B ⟨1, a4, (rdBytes 80 (some l)).1.length, c4, none, 0, 0, none, 0, 0, none, 0, 0⟩) := Lib.hid (HS4.out.tb.set1 a4 (rdBytes 80 (some l)).1.length c4)
  have HG5 := Lib.hid (only_set (only_refl w4 (some B)) 1 (.slice a4 (rdBytes 80 (some l)).1.length c4))
  have HI5 := Lib.hid (HI4.out.upon (Upon.grown HG5.out (Nat.lt_succ_self _)))
  have HS5 := Lib.hid (HS4.out.wr HG5.out HX5.out)
  clear x0 x1 x2 x3 x4 f1 xr HX5 HG5 HI4 HS4 HS
  generalize (w4.setCell ⟨B, 1, none⟩ (.slice a4 (rdBytes 80 (some l)).1.length c4)) = w5 at *
  obtain ⟨x0, x1, x2, x3, x4⟩ := HS5.out.tb.cells
  have xr := HS5.out.ev.vr.cell
  have f2 := HS5.out.tb.frozen 2
  go_upto_region 15 with (first
    | (go_at_call 26
       refine (rdBytes_any g gb (rdBytes 80 (some l)).2 1024 _ HS5.out.ev.rd (by omega) (by omega)).mono ?_
       rintro _ w6 ⟨a6, c6, rfl, hi6, hr6, hg6, hf6⟩
       have HS6 := Lib.hid (HS5.out.rdr hg6 hr6)
       have HS5G := Lib.hid hg6
       have HI6 : Hid (FreshB (B + 1) w6.heap.size w6 a6 _ c6 _) := Lib.hid (FreshB.ofLo hi6 (fun y hy => by have q1 := hf6 y hy; have q2 := HS5.out.tb.lt; omega))
       
       clear hi6 hr6 hg6 hf6 x0 x1 x2 x3 x4 xr
       obtain ⟨x0, x1, x2, x3, x4⟩ := HS6.out.tb.cells
       have xr := HS6.out.ev.vr.cell
       have HJ6 := Lib.hid (HI5.out.upon (Upon.grown HS5G.out (Nat.lt_succ_of_lt (Nat.lt_trans HS5.out.lo.1 HS5.out.lt))))
       clear f2
       have f2 := HS6.out.tb.frozen 2))
  have HX7 : Hid (Box (w6.setCell ⟨B, 2, none⟩ (.slice a6 (rdBytes 1024 (rdBytes 80 (some l)).2).1.length c6)) 25 B ⟨1, a4, (rdBytes 80 (some l)).1.length, c4, a6, (rdBytes 1024 (rdBytes 80 (some l)).2).1.length, c6, none, 0, 0, none, 0, 0⟩) := Lib.hid (HS6.out.tb.set2 a6 (rdBytes 1024 (rdBytes 80 (some l)).2).1.length c6)
  have HG7 := Lib.hid (only_set (only_refl w6 (some B)) 2 (.slice a6 (rdBytes 1024 (rdBytes 80 (some l)).2).1.length c6))
  have HI7 := Lib.hid (HI6.out.upon (Upon.grown HG7.out (Nat.lt_succ_self _)))
  have HJ7 := Lib.hid (HJ6.out.upon (Upon.grown HG7.out (Nat.lt_succ_self _)))
  have HS7 := Lib.hid (HS6.out.wr HG7.out HX7.out)
  clear x0 x1 x2 x3 x4 f2 xr HX7 HG7 HI6 HJ6 HS6 HS5 HI5
  generalize (w6.setCell ⟨B, 2, none⟩ (.slice a6 (rdBytes 1024 (rdBytes 80 (some l)).2).1.length c6)) = w7 at *
  generalize rdBytes 1024 (rdBytes 80 (some l)).2 = zz at *
  generalize rdBytes 80 (some l) = kk at *
  obtain ⟨z, zs⟩ := zz
  obtain ⟨key, ks⟩ := kk
  obtain ⟨x0, x1, x2, x3, x4⟩ := HS7.out.tb.cells
  obtain ⟨o1, ho1⟩ : ∃ o1, rdP d zs = o1 := ⟨_, rfl⟩
  have HO1 : Hid (o = o1.bind fun x => (rdP d (some x.2)).map fun y => (PT.shown x.1 key z y.1, y.2)) := Lib.hid (by rw [HO.out, ← ho1])
  have HQ1 := Lib.hid ho1
  clear ho1 HO
  have xf := HS7.out.ev.vf.cell
  go_upto_if 53 with (first
    | (go_at_call 24
       refine (IH.out zs _ HS7.out.ev).mono ?_
       unfold PtPost TH.v
       rw [HQ1.out]
       rintro _ w8 ⟨hl, ok1, s1, rfl, hr8, hg8, ht8⟩
       have HS8 := Lib.hid ((HS7.out.rdr hg8 hr8).below ((Below.refl _ _).alloc (Nat.le_refl _) (.cells #[.int .i64 hl.k, .slice hl.ka hl.kn hl.kc, .slice hl.va hl.vn hl.vc, .slice hl.da hl.dn hl.dc, .slice hl.ta hl.tn hl.tc] 25)))
       have HU8 : Hid (Upon (B + 1) w7 (w8.alloc (.cells #[.int .i64 hl.k, .slice hl.ka hl.kn hl.kc, .slice hl.va hl.vn hl.vc, .slice hl.da hl.dn hl.dc, .slice hl.ta hl.tn hl.tc] 25))) := Lib.hid ⟨Nat.le_trans hg8.size (by simp), fun j h1 h2 => (Below.heap_alloc w8 _ j (Nat.lt_of_lt_of_le h2 hg8.size)).trans ((Upon.grown (lo := B + 1) hg8 (Nat.lt_succ_of_lt (Nat.lt_trans HS7.out.lo.1 HS7.out.lt))).2 j h1 h2)⟩
       have HL8 := Lib.hid (Box.new w8 25 hl)
       have HLB : Hid (w8.heap.size ≠ g ∧ B < w8.heap.size ∧ w7.heap.size ≤ w8.heap.size) := Lib.hid ⟨by have q1 := hg8.size; have q2 := HS7.out.lo.1; have q3 := HS7.out.lt; have q4 := HS7.out.tb.lt; omega, Nat.lt_of_lt_of_le HS7.out.tb.lt hg8.size, hg8.size⟩
       have HT8 := Lib.hid ht8
       clear hr8 hg8 ht8 x0 x1 x2 x3 x4 xf))
  have HT9 : Hid ((o1 = none ∧ (ok1 = false ∨ s1 = none)) ∨ ∃ p r, o1 = some (p, r) ∧ ok1 = true ∧ s1 = some r ∧ FreshT (B + 1) (w8.alloc (.cells #[.int .i64 hl.k, .slice hl.ka hl.kn hl.kc, .slice hl.va hl.vn hl.vc, .slice hl.da hl.dn hl.dc, .slice hl.ta hl.tn hl.tc] 25)).heap.size (w8.alloc (.cells #[.int .i64 hl.k, .slice hl.ka hl.kn hl.kc, .slice hl.va hl.vn hl.vc, .slice hl.da hl.dn hl.dc, .slice hl.ta hl.tn hl.tc] 25)) hl p.tr) := Lib.hid (HT8.out.imp id (fun ⟨p, r, e1, e2, e3, f⟩ => ⟨p, r, e1, e2, e3, (f.upon (Upon.below ((Below.refl _ _).alloc (Nat.le_refl _) (.cells #[.int .i64 hl.k, .slice hl.ka hl.kn hl.kc, .slice hl.va hl.vn hl.vc, .slice hl.da hl.dn hl.dc, .slice hl.ta hl.tn hl.tc] 25)))).wide (by have := HS7.out.tb.lt; omega) (Nat.le_refl _)⟩))
  have HI9 := Lib.hid (HI7.out.upon HU8.out)
  have HJ9 := Lib.hid (HJ7.out.upon HU8.out)
  clear HT8 HI7 HJ7 HU8 HS7
  generalize (w8.alloc (.cells #[.int .i64 hl.k, .slice hl.ka hl.kn hl.kc, .slice hl.va hl.vn hl.vc, .slice hl.da hl.dn hl.dc, .slice hl.ta hl.tn hl.tc] 25)) = w9 at *
  generalize w8.heap.size = L at *
  cases ok1 with
  | false =>
    have HN : Hid (o = none) := Lib.hid (by
      rcases HT9.out with ⟨e, -⟩ | ⟨p, r, -, e, -⟩
      · rw [HO1.out, e]; rfl
      · cases e)
    go_wp2_with (first
      | (refine wpList_store_box rfl 25 (.tmp 4) (.tmp 54) rfl w.heap.size hZ hZ rfl rfl 25 HS8.out.res infoTree5 ?_
         intro w9 hbx9 hg9
         have HX9 := Lib.hid hbx9
         have HG9 := Lib.hid hg9
         clear hbx9 hg9))
    obtain ⟨hr9, hu9⟩ := HS8.out.ret HG9.out
    exact bodyPost_ret (v := .tuple #[TH.v hZ, .bool false]) (Box.result Try.results24 _ HX9.out rfl Try.underlying25 infoTree5) rfl ⟨hZ, false, _, rfl, hr9, hu9, .inl ⟨HN.out, .inl rfl⟩⟩
  | true =>
    simp only [Bool.not_true]
    have xf := HS8.out.ev.vf.cell
    obtain ⟨o2, ho2⟩ : ∃ o2, rdP d s1 = o2 := ⟨_, rfl⟩
    have HQ2 := Lib.hid ho2
    clear ho2
    go_upto_region 21 with (first
      | (go_at_call 24
         refine (IH.out s1 _ HS8.out.ev).mono ?_
         unfold PtPost TH.v
         rw [HQ2.out]
         rintro _ w10 ⟨hr, ok2, s2, rfl, hr10, hg10, ht10⟩
         have HS10 := Lib.hid ((HS8.out.rdr hg10 hr10).below ((Below.refl _ _).alloc (Nat.le_refl _) (.cells #[.int .i64 hr.k, .slice hr.ka hr.kn hr.kc, .slice hr.va hr.vn hr.vc, .slice hr.da hr.dn hr.dc, .slice hr.ta hr.tn hr.tc] 25)))
         have HU10 : Hid (Upon (B + 1) w9 (w10.alloc (.cells #[.int .i64 hr.k, .slice hr.ka hr.kn hr.kc, .slice hr.va hr.vn hr.vc, .slice hr.da hr.dn hr.dc, .slice hr.ta hr.tn hr.tc] 25))) := Lib.hid ⟨Nat.le_trans hg10.size (by simp), fun j h1 h2 => (Below.heap_alloc w10 _ j (Nat.lt_of_lt_of_le h2 hg10.size)).trans ((Upon.grown (lo := B + 1) hg10 (Nat.lt_succ_of_lt (Nat.lt_trans HS8.out.lo.1 HS8.out.lt))).2 j h1 h2)⟩
         have HL10 := Lib.hid ((HL8.out.grown hg10 (fun e => by injection e with e; exact HLB.out.1 e)).below ((Below.refl _ _).alloc (Nat.le_refl _) (.cells #[.int .i64 hr.k, .slice hr.ka hr.kn hr.kc, .slice hr.va hr.vn hr.vc, .slice hr.da hr.dn hr.dc, .slice hr.ta hr.tn hr.tc] 25)) (HL8.out.grown hg10 (fun e => by injection e with e; exact HLB.out.1 e)).lt)
         have HR10 := Lib.hid (Box.new w10 25 hr)
         have HT10 := Lib.hid ht10
         have HZ10 := Lib.hid (Nat.lt_of_lt_of_le HS8.out.tb.lt hg10.size)
         clear hr10 hg10 ht10 xf))
    try clear xf
    have HT11 : Hid ((o2 = none ∧ (ok2 = false ∨ s2 = none)) ∨ ∃ p r, o2 = some (p, r) ∧ ok2 = true ∧ s2 = some r ∧ FreshT (B + 1) (w10.alloc (.cells #[.int .i64 hr.k, .slice hr.ka hr.kn hr.kc, .slice hr.va hr.vn hr.vc, .slice hr.da hr.dn hr.dc, .slice hr.ta hr.tn hr.tc] 25)).heap.size (w10.alloc (.cells #[.int .i64 hr.k, .slice hr.ka hr.kn hr.kc, .slice hr.va hr.vn hr.vc, .slice hr.da hr.dn hr.dc, .slice hr.ta hr.tn hr.tc] 25)) hr p.tr) := Lib.hid (HT10.out.imp id (fun ⟨p, r, e1, e2, e3, f⟩ => ⟨p, r, e1, e2, e3, (f.upon (Upon.below ((Below.refl _ _).alloc (Nat.le_refl _) (.cells #[.int .i64 hr.k, .slice hr.ka hr.kn hr.kc, .slice hr.va hr.vn hr.vc, .slice hr.da hr.dn hr.dc, .slice hr.ta hr.tn hr.tc] 25)))).wide (by have := HS8.out.tb.lt; omega) (Nat.le_refl _)⟩))
    have HT12 : Hid ((o1 = none ∧ s1 = none) ∨ ∃ p r, o1 = some (p, r) ∧ s1 = some r ∧ FreshT (B + 1) (w10.alloc (.cells #[.int .i64 hr.k, .slice hr.ka hr.kn hr.kc, .slice hr.va hr.vn hr.vc, .slice hr.da hr.dn hr.dc, .slice hr.ta hr.tn hr.tc] 25)).heap.size (w10.alloc (.cells #[.int .i64 hr.k, .slice hr.ka hr.kn hr.kc, .slice hr.va hr.vn hr.vc, .slice hr.da hr.dn hr.dc, .slice hr.ta hr.tn hr.tc] 25)) hl p.tr) := Lib.hid (HT9.out.imp (fun ⟨e1, e2⟩ => ⟨e1, e2.elim (fun q => by cases q) id⟩) (fun ⟨p, r, e1, e2, e3, f⟩ => ⟨p, r, e1, e3, f.upon HU10.out⟩))
    have HI11 := Lib.hid (HI9.out.upon HU10.out)
    have HJ11 := Lib.hid (HJ9.out.upon HU10.out)
    clear HT10 HT9 HI9 HJ9 HU10 HS8 HL8
    generalize (w10.alloc (.cells #[.int .i64 hr.k, .slice hr.ka hr.kn hr.kc, .slice hr.va hr.vn hr.vc, .slice hr.da hr.dn hr.dc, .slice hr.ta hr.tn hr.tc] 25)) = w11 at *
    generalize w10.heap.size = R at *
    obtain ⟨y0, y1, y2, y3, y4⟩ := HL10.out.cells
    obtain ⟨z0, z1, z2, z3, z4⟩ := HR10.out.cells
    have f4 := HS10.out.tb.frozen 4
    have x4 := HS10.out.tb.cells.2.2.2.2
    have HS11 := Lib.hid (HS10.out.alloc (.cells #[.int .i64 hl.k, .slice hl.ka hl.kn hl.kc, .slice hl.va hl.vn hl.vc, .slice hl.da hl.dn hl.dc, .slice hl.ta hl.tn hl.tc, .int .i64 hr.k, .slice hr.ka hr.kn hr.kc, .slice hr.va hr.vn hr.vc, .slice hr.da hr.dn hr.dc, .slice hr.ta hr.tn hr.tc] 25))
    have g4 := HS11.out.tb.frozen 4
    have v4 := HS11.out.tb.cells.2.2.2.2
    go_upto_region 22 with fail
    clear y0 y1 y2 y3 y4 z0 z1 z2 z3 z4 f4 x4 g4 v4
    have b11 : Below w11.heap.size w11 (w11.alloc (.cells #[.int .i64 hl.k, .slice hl.ka hl.kn hl.kc, .slice hl.va hl.vn hl.vc, .slice hl.da hl.dn hl.dc, .slice hl.ta hl.tn hl.tc, .int .i64 hr.k, .slice hr.ka hr.kn hr.kc, .slice hr.va hr.vn hr.vc, .slice hr.da hr.dn hr.dc, .slice hr.ta hr.tn hr.tc] 25)) := (Below.refl _ _).alloc (Nat.le_refl _) _
    have HX12 : Hid (Box ((w11.alloc (.cells #[.int .i64 hl.k, .slice hl.ka hl.kn hl.kc, .slice hl.va hl.vn hl.vc, .slice hl.da hl.dn hl.dc, .slice hl.ta hl.tn hl.tc, .int .i64 hr.k, .slice hr.ka hr.kn hr.kc, .slice hr.va hr.vn hr.vc, .slice hr.da hr.dn hr.dc, .slice hr.ta hr.tn hr.tc] 25)).setCell ⟨B, 4, none⟩ (.slice (some ⟨w11.heap.size, 0, none⟩) 2 2)) 25 B ⟨1, a4, key.length, c4, a6, z.length, c6, none, 0, 0, some ⟨w11.heap.size, 0, none⟩, 2, 2⟩) := Lib.hid (HS11.out.tb.set4 (some ⟨w11.heap.size, 0, none⟩) 2 2)
    have HG12 := Lib.hid (only_set (only_refl (w11.alloc (.cells #[.int .i64 hl.k, .slice hl.ka hl.kn hl.kc, .slice hl.va hl.vn hl.vc, .slice hl.da hl.dn hl.dc, .slice hl.ta hl.tn hl.tc, .int .i64 hr.k, .slice hr.ka hr.kn hr.kc, .slice hr.va hr.vn hr.vc, .slice hr.da hr.dn hr.dc, .slice hr.ta hr.tn hr.tc] 25)) (some B)) 4 (.slice (some ⟨w11.heap.size, 0, none⟩) 2 2))
    have HS12 := Lib.hid (HS11.out.wr HG12.out HX12.out)
    have HU12 : Hid (Upon (B + 1) w11 ((w11.alloc (.cells #[.int .i64 hl.k, .slice hl.ka hl.kn hl.kc, .slice hl.va hl.vn hl.vc, .slice hl.da hl.dn hl.dc, .slice hl.ta hl.tn hl.tc, .int .i64 hr.k, .slice hr.ka hr.kn hr.kc, .slice hr.va hr.vn hr.vc, .slice hr.da hr.dn hr.dc, .slice hr.ta hr.tn hr.tc] 25)).setCell ⟨B, 4, none⟩ (.slice (some ⟨w11.heap.size, 0, none⟩) 2 2))) := Lib.hid ⟨Nat.le_trans b11.size HG12.out.size, fun j h1 h2 => ((Upon.grown (lo := B + 1) HG12.out (Nat.lt_succ_self _)).2 j h1 (Nat.lt_of_lt_of_le h2 b11.size)).trans (b11.block j h2)⟩
    have HN12 : Hid (Two5 ((w11.alloc (.cells #[.int .i64 hl.k, .slice hl.ka hl.kn hl.kc, .slice hl.va hl.vn hl.vc, .slice hl.da hl.dn hl.dc, .slice hl.ta hl.tn hl.tc, .int .i64 hr.k, .slice hr.ka hr.kn hr.kc, .slice hr.va hr.vn hr.vc, .slice hr.da hr.dn hr.dc, .slice hr.ta hr.tn hr.tc] 25)).setCell ⟨B, 4, none⟩ (.slice (some ⟨w11.heap.size, 0, none⟩) 2 2)) 25 w11.heap.size hl hr) := Lib.hid ((HG12.out.block w11.heap.size (by simp) (fun e => by injection e with e; have := HS10.out.tb.lt; omega)).trans (Two5.new w11 25 hl hr))
    have HGB : Hid (B + 1 ≤ w11.heap.size ∧ w11.heap.size < ((w11.alloc (.cells #[.int .i64 hl.k, .slice hl.ka hl.kn hl.kc, .slice hl.va hl.vn hl.vc, .slice hl.da hl.dn hl.dc, .slice hl.ta hl.tn hl.tc, .int .i64 hr.k, .slice hr.ka hr.kn hr.kc, .slice hr.va hr.vn hr.vc, .slice hr.da hr.dn hr.dc, .slice hr.ta hr.tn hr.tc] 25)).setCell ⟨B, 4, none⟩ (.slice (some ⟨w11.heap.size, 0, none⟩) 2 2)).heap.size) := Lib.hid ⟨HS10.out.tb.lt, Nat.lt_of_lt_of_le (by simp) HG12.out.size⟩
    have HI12 := Lib.hid (HI11.out.upon HU12.out)
    have HJ12 := Lib.hid (HJ11.out.upon HU12.out)
    have HT13 : Hid ((o2 = none ∧ (ok2 = false ∨ s2 = none)) ∨ ∃ p r, o2 = some (p, r) ∧ ok2 = true ∧ s2 = some r ∧ FreshT (B + 1) ((w11.alloc (.cells #[.int .i64 hl.k, .slice hl.ka hl.kn hl.kc, .slice hl.va hl.vn hl.vc, .slice hl.da hl.dn hl.dc, .slice hl.ta hl.tn hl.tc, .int .i64 hr.k, .slice hr.ka hr.kn hr.kc, .slice hr.va hr.vn hr.vc, .slice hr.da hr.dn hr.dc, .slice hr.ta hr.tn hr.tc] 25)).setCell ⟨B, 4, none⟩ (.slice (some ⟨w11.heap.size, 0, none⟩) 2 2)).heap.size ((w11.alloc (.cells #[.int .i64 hl.k, .slice hl.ka hl.kn hl.kc, .slice hl.va hl.vn hl.vc, .slice hl.da hl.dn hl.dc, .slice hl.ta hl.tn hl.tc, .int .i64 hr.k, .slice hr.ka hr.kn hr.kc, .slice hr.va hr.vn hr.vc, .slice hr.da hr.dn hr.dc, .slice hr.ta hr.tn hr.tc] 25)).setCell ⟨B, 4, none⟩ (.slice (some ⟨w11.heap.size, 0, none⟩) 2 2)) hr p.tr) := Lib.hid (HT11.out.imp id (fun ⟨p, r, e1, e2, e3, f⟩ => ⟨p, r, e1, e2, e3, f.upon HU12.out⟩))
    have HT14 : Hid ((o1 = none ∧ s1 = none) ∨ ∃ p r, o1 = some (p, r) ∧ s1 = some r ∧ FreshT (B + 1) ((w11.alloc (.cells #[.int .i64 hl.k, .slice hl.ka hl.kn hl.kc, .slice hl.va hl.vn hl.vc, .slice hl.da hl.dn hl.dc, .slice hl.ta hl.tn hl.tc, .int .i64 hr.k, .slice hr.ka hr.kn hr.kc, .slice hr.va hr.vn hr.vc, .slice hr.da hr.dn hr.dc, .slice hr.ta hr.tn hr.tc] 25)).setCell ⟨B, 4, none⟩ (.slice (some ⟨w11.heap.size, 0, none⟩) 2 2)).heap.size ((w11.alloc (.cells #[.int .i64 hl.k, .slice hl.ka hl.kn hl.kc, .slice hl.va hl.vn hl.vc, .slice hl.da hl.dn hl.dc, .slice hl.ta hl.tn hl.tc, .int .i64 hr.k, .slice hr.ka hr.kn hr.kc, .slice hr.va hr.vn hr.vc, .slice hr.da hr.dn hr.dc, .slice hr.ta hr.tn hr.tc] 25)).setCell ⟨B, 4, none⟩ (.slice (some ⟨w11.heap.size, 0, none⟩) 2 2)) hl p.tr) := Lib.hid (HT12.out.imp id (fun ⟨p, r, e1, e2, f⟩ => ⟨p, r, e1, e2, f.upon HU12.out⟩))
    clear HS11 HX12 HG12 HS10 b11 HT11 HT12 HI11 HJ11 HU12
    generalize ((w11.alloc (.cells #[.int .i64 hl.k, .slice hl.ka hl.kn hl.kc, .slice hl.va hl.vn hl.vc, .slice hl.da hl.dn hl.dc, .slice hl.ta hl.tn hl.tc, .int .i64 hr.k, .slice hr.ka hr.kn hr.kc, .slice hr.va hr.vn hr.vc, .slice hr.da hr.dn hr.dc, .slice hr.ta hr.tn hr.tc] 25)).setCell ⟨B, 4, none⟩ (.slice (some ⟨w11.heap.size, 0, none⟩) 2 2)) = w12 at *
    generalize w11.heap.size = G at *
    obtain ⟨x0, x1, x2, x3, x4⟩ := HS12.out.tb.cells
    go_wp2_with (first
      | (refine wpList_store_box rfl 25 (.tmp 4) (.tmp 66) rfl w.heap.size hZ ⟨1, a4, key.length, c4, a6, z.length, c6, none, 0, 0, some ⟨G, 0, none⟩, 2, 2⟩ rfl rfl 25 HS12.out.res infoTree5 ?_
         intro w9x hbx9 hg9
         have HX9 := Lib.hid hbx9
         have HG9 := Lib.hid hg9
         clear hbx9 hg9))
    obtain ⟨hr9, hu9⟩ := HS12.out.ret HG9.out
    have hlo : w.heap.size < B + 1 := Nat.lt_succ_of_lt HS12.out.lt
    have U9 : Upon (B + 1) w12 w9x := Upon.grown HG9.out hlo
    have hgb := HGB.out
    have HN9 : Two5 w9x 25 G hl hr := (HG9.out.block G hgb.2 (fun e => by injection e; omega)).trans HN12.out
    have HI9 := HI12.out.upon U9
    have HJ9 := HJ12.out.upon U9
    refine bodyPost_ret (v := .tuple #[TH.v ⟨1, a4, key.length, c4, a6, z.length, c6, none, 0, 0, some ⟨G, 0, none⟩, 2, 2⟩, .bool ok2]) (Box.result Try.results24 _ HX9.out rfl Try.underlying25 infoTree5) rfl ⟨_, ok2, s2, rfl, hr9, hu9, ?_⟩
    rcases HT14.out with ⟨e1, e2⟩ | ⟨p1, r1, e1, e2, f1⟩
    · left
      refine ⟨by rw [HO1.out, e1]; rfl, ?_⟩
      rcases HT13.out with ⟨-, q⟩ | ⟨p, r, q, -⟩
      · exact q
      · rw [← HQ2.out, e2] at q
        cases q
    · rcases HT13.out with ⟨q, q2⟩ | ⟨p2, r2, q, q2, q3, f2⟩
      · left
        refine ⟨?_, q2⟩
        rw [HO1.out, e1]
        show ((rdP d (some r1)).map fun y => (PT.shown p1 key z y.1, y.2)) = none
        rw [← e2, HQ2.out, q]
        rfl
      · right
        refine ⟨PT.shown p1 key z p2, r2, ?_, q2, q3, ?_⟩
        · rw [HO1.out, e1]
          show ((rdP d (some r1)).map fun y => (PT.shown p1 key z y.1, y.2)) = _
          rw [← e2, HQ2.out, q]
          rfl
        · exact FreshT.node HN9 (by omega) (Nat.lt_of_lt_of_le hgb.2 HG9.out.size) ((f1.upon U9).wide (Nat.le_of_lt hlo) (Nat.le_refl _)) ((f2.upon U9).wide (Nat.le_of_lt hlo) (Nat.le_refl _)) (by omega) (by omega) (HJ9.wide (Nat.le_of_lt hlo) (Nat.le_refl _)) (HI9.wide (Nat.le_of_lt hlo) (Nat.le_refl _)) (FreshB.none _ _ _)
end Go.Proofs.Ytagmeljjkblpbaa

/- The contract of Read's closure, of a dark node. -/
namespace Go.Proofs.Ytagmeljjkblpbaa
open Go.RowKit
set_option linter.unusedVariables false

set_option maxRecDepth 100000 in
set_option maxHeartbeats 8000000 in
theorem ptNode2_any (d : Nat) (hd : d + 1 ≤ 64) (g gr gf : Nat) (gb : Option Nat) (l : List Int) (w : World) (hev : EV w g gr gf gb (some (2 :: l)))
    (ih : ∀ (s : Option (List Int)) (W : World), EV W g gr gf gb s → Calls Try.prog 24 #[.int .i64 d, .pointer (some ⟨gr, 0, none⟩), .pointer (some ⟨gf, 0, none⟩)] W (PtPost W g gb (rdP d s))) :
    Calls Try.prog 24 #[.int .i64 ((d + 1 : Nat) : Int), .pointer (some ⟨gr, 0, none⟩), .pointer (some ⟨gf, 0, none⟩)] w (PtPost w g gb (rdP (d + 1) (some (2 :: l)))) := by
  obtain ⟨o, ho⟩ : ∃ o, rdP (d + 1) (some (2 :: l)) = o := ⟨_, rfl⟩
  rw [ho]
  have HO : Hid (o = (rdP d (rdBytes 32 (rdBytes 80 (some l)).2).2).bind fun x => (rdP d (some x.2)).map fun y => (PT.dark x.1 (rdBytes 80 (some l)).1 (rdBytes 32 (rdBytes 80 (some l)).2).1 y.1, y.2)) := Lib.hid (by rw [← ho]; exact rdP_node d l (.inr rfl))
  have hd1 : ((d + 1 : Nat) : Int) - 1 = (d : Int) := by omega
  have e64 : IntKind.i64.wrap (d : Int) = (d : Int) := IntWalk.i64_in _ (by omega)
  obtain ⟨D, hD⟩ : ∃ D : Int, ((d + 1 : Nat) : Int) = D := ⟨_, rfl⟩
  have hD0 : (D == 0) = false := by rw [← hD]; simp; omega
  rw [hD] at hd1 ⊢
  clear ho hD
  have HZ0 : Hid ((w.alloc (.cells #[.int .i64 hZ.k, .slice hZ.ka hZ.kn hZ.kc, .slice hZ.va hZ.vn hZ.vc, .slice hZ.da hZ.dn hZ.dc, .slice hZ.ta hZ.tn hZ.tc] 25)) = w.alloc (.cells #[.int .i64 hZ.k, .slice hZ.ka hZ.kn hZ.kc, .slice hZ.va hZ.vn hZ.vc, .slice hZ.da hZ.dn hZ.dc, .slice hZ.ta hZ.tn hZ.tc] 25)) := Lib.hid rfl
  have hb0 : Below w.heap.size w (w.alloc (.cells #[.int .i64 hZ.k, .slice hZ.ka hZ.kn hZ.kc, .slice hZ.va hZ.vn hZ.vc, .slice hZ.da hZ.dn hZ.dc, .slice hZ.ta hZ.tn hZ.tc] 25)) := (Below.refl _ _).alloc (Nat.le_refl _) _
  have HE0 := Lib.hid (hev.below hb0)
  have HEV := Lib.hid hev
  have IH := Lib.hid ih
  clear hb0 hev ih
  go_enter Try.func24, Try.ntmps24
  go_upto_region 1 with fail
  have HQ0 : Hid ((w.alloc (.cells #[.int .i64 0, .slice none 0 0, .slice none 0 0, .slice none 0 0, .slice none 0 0] 25)) = w.alloc (.cells #[.int .i64 hZ.k, .slice hZ.ka hZ.kn hZ.kc, .slice hZ.va hZ.vn hZ.vc, .slice hZ.da hZ.dn hZ.dc, .slice hZ.ta hZ.tn hZ.tc] 25)) := Lib.hid rfl
  change Hid (EV (w.alloc (.cells #[.int .i64 0, .slice none 0 0, .slice none 0 0, .slice none 0 0, .slice none 0 0] 25)) g gr gf gb (some (2 :: l))) at HE0
  clear HZ0
  generalize (w.alloc (.cells #[.int .i64 0, .slice none 0 0, .slice none 0 0, .slice none 0 0, .slice none 0 0] 25)) = w0 at *
  have xr := HE0.out.vr.cell
  go_upto_region 2 with (first
    | (go_at_call 25
       refine (rdByte_any g gb (some (2 :: l)) _ HE0.out.rd).mono ?_
       rintro _ w1 ⟨rfl, hr1, hg1⟩
       have e1 : rdByte (some ((2 : Int) :: l)) = (2, some l) := rfl
       rw [e1] at hr1 ⊢
       have HS := Lib.hid (PS.enter HQ0.out HEV.out (HE0.out.rdr hg1 hr1) hg1 ⟨2, none, 0, 0, none, 0, 0, none, 0, 0, none, 0, 0⟩)
       clear hr1 hg1 e1 xr))
  generalize (w1.alloc (.cells #[.int .i64 2, .slice none 0 0, .slice none 0 0, .slice none 0 0, .slice none 0 0] 25)) = w2 at *
  generalize w1.heap.size = B at *
  clear HQ0 HE0
  obtain ⟨x0, x1, x2, x3, x4⟩ := HS.out.tb.cells
  have xr := HS.out.ev.vr.cell
  have f1 := HS.out.tb.frozen 1
  go_upto_region 14 with (first
    | (go_at_call 26
       refine (rdBytes_any g gb (some l) 80 _ HS.out.ev.rd (by omega) (by omega)).mono ?_
       rintro _ w4 ⟨a4, c4, rfl, hi4, hr4, hg4, hf4⟩
       have HS4 := Lib.hid (HS.out.rdr hg4 hr4)
       have HI4 : Hid (FreshB (B + 1) w4.heap.size w4 a4 _ c4 _) := Lib.hid (FreshB.ofLo hi4 (fun y hy => by have q1 := hf4 y hy; have q2 := HS.out.tb.lt; omega))
       
       clear hi4 hr4 hg4 hf4 x0 x1 x2 x3 x4 xr
       obtain ⟨x0, x1, x2, x3, x4⟩ := HS4.out.tb.cells
       have xr := HS4.out.ev.vr.cell
       clear f1
       have f1 := HS4.out.tb.frozen 1))
  have HX5 : Hid (Box (w4.setCell ⟨B, 1, none⟩ (.slice a4 (rdBytes 80 (some l)).1.length c4)) 25 B ⟨2, a4, (rdBytes 80 (some l)).1.length, c4, none, 0, 0, none, 0, 0, none, 0, 0⟩) := Lib.hid (HS4.out.tb.set1 a4 (rdBytes 80 (some l)).1.length c4)
  have HG5 := Lib.hid (only_set (only_refl w4 (some B)) 1 (.slice a4 (rdBytes 80 (some l)).1.length c4))
  have HI5 := Lib.hid (HI4.out.upon (Upon.grown HG5.out (Nat.lt_succ_self _)))
  have HS5 := Lib.hid (HS4.out.wr HG5.out HX5.out)
  clear x0 x1 x2 x3 x4 f1 xr HX5 HG5 HI4 HS4 HS
  generalize (w4.setCell ⟨B, 1, none⟩ (.slice a4 (rdBytes 80 (some l)).1.length c4)) = w5 at *
  obtain ⟨x0, x1, x2, x3, x4⟩ := HS5.out.tb.cells
  have xr := HS5.out.ev.vr.cell
  have f2 := HS5.out.tb.frozen 3
  go_upto_region 15 with (first
    | (go_at_call 26
       refine (rdBytes_any g gb (rdBytes 80 (some l)).2 32 _ HS5.out.ev.rd (by omega) (by omega)).mono ?_
       rintro _ w6 ⟨a6, c6, rfl, hi6, hr6, hg6, hf6⟩
       have HS6 := Lib.hid (HS5.out.rdr hg6 hr6)
       have HS5G := Lib.hid hg6
       have HI6 : Hid (FreshB (B + 1) w6.heap.size w6 a6 _ c6 _) := Lib.hid (FreshB.ofLo hi6 (fun y hy => by have q1 := hf6 y hy; have q2 := HS5.out.tb.lt; omega))
       
       clear hi6 hr6 hg6 hf6 x0 x1 x2 x3 x4 xr
       obtain ⟨x0, x1, x2, x3, x4⟩ := HS6.out.tb.cells
       have xr := HS6.out.ev.vr.cell
       have HJ6 := Lib.hid (HI5.out.upon (Upon.grown HS5G.out (Nat.lt_succ_of_lt (Nat.lt_trans HS5.out.lo.1 HS5.out.lt))))
       clear f2
       have f2 := HS6.out.tb.frozen 3))
  have HX7 : Hid (Box (w6.setCell ⟨B, 3, none⟩ (.slice a6 (rdBytes 32 (rdBytes 80 (some l)).2).1.length c6)) 25 B ⟨2, a4, (rdBytes 80 (some l)).1.length, c4, none, 0, 0, a6, (rdBytes 32 (rdBytes 80 (some l)).2).1.length, c6, none, 0, 0⟩) := Lib.hid (HS6.out.tb.set3 a6 (rdBytes 32 (rdBytes 80 (some l)).2).1.length c6)
  have HG7 := Lib.hid (only_set (only_refl w6 (some B)) 3 (.slice a6 (rdBytes 32 (rdBytes 80 (some l)).2).1.length c6))
  have HI7 := Lib.hid (HI6.out.upon (Upon.grown HG7.out (Nat.lt_succ_self _)))
  have HJ7 := Lib.hid (HJ6.out.upon (Upon.grown HG7.out (Nat.lt_succ_self _)))
  have HS7 := Lib.hid (HS6.out.wr HG7.out HX7.out)
  clear x0 x1 x2 x3 x4 f2 xr HX7 HG7 HI6 HJ6 HS6 HS5 HI5
  generalize (w6.setCell ⟨B, 3, none⟩ (.slice a6 (rdBytes 32 (rdBytes 80 (some l)).2).1.length c6)) = w7 at *
  generalize rdBytes 32 (rdBytes 80 (some l)).2 = zz at *
  generalize rdBytes 80 (some l) = kk at *
  obtain ⟨z, zs⟩ := zz
  obtain ⟨key, ks⟩ := kk
  obtain ⟨x0, x1, x2, x3, x4⟩ := HS7.out.tb.cells
  obtain ⟨o1, ho1⟩ : ∃ o1, rdP d zs = o1 := ⟨_, rfl⟩
  have HO1 : Hid (o = o1.bind fun x => (rdP d (some x.2)).map fun y => (PT.dark x.1 key z y.1, y.2)) := Lib.hid (by rw [HO.out, ← ho1])
  have HQ1 := Lib.hid ho1
  clear ho1 HO
  have xf := HS7.out.ev.vf.cell
  go_upto_if 53 with (first
    | (go_at_call 24
       refine (IH.out zs _ HS7.out.ev).mono ?_
       unfold PtPost TH.v
       rw [HQ1.out]
       rintro _ w8 ⟨hl, ok1, s1, rfl, hr8, hg8, ht8⟩
       have HS8 := Lib.hid ((HS7.out.rdr hg8 hr8).below ((Below.refl _ _).alloc (Nat.le_refl _) (.cells #[.int .i64 hl.k, .slice hl.ka hl.kn hl.kc, .slice hl.va hl.vn hl.vc, .slice hl.da hl.dn hl.dc, .slice hl.ta hl.tn hl.tc] 25)))
       have HU8 : Hid (Upon (B + 1) w7 (w8.alloc (.cells #[.int .i64 hl.k, .slice hl.ka hl.kn hl.kc, .slice hl.va hl.vn hl.vc, .slice hl.da hl.dn hl.dc, .slice hl.ta hl.tn hl.tc] 25))) := Lib.hid ⟨Nat.le_trans hg8.size (by simp), fun j h1 h2 => (Below.heap_alloc w8 _ j (Nat.lt_of_lt_of_le h2 hg8.size)).trans ((Upon.grown (lo := B + 1) hg8 (Nat.lt_succ_of_lt (Nat.lt_trans HS7.out.lo.1 HS7.out.lt))).2 j h1 h2)⟩
       have HL8 := Lib.hid (Box.new w8 25 hl)
       have HLB : Hid (w8.heap.size ≠ g ∧ B < w8.heap.size ∧ w7.heap.size ≤ w8.heap.size) := Lib.hid ⟨by have q1 := hg8.size; have q2 := HS7.out.lo.1; have q3 := HS7.out.lt; have q4 := HS7.out.tb.lt; omega, Nat.lt_of_lt_of_le HS7.out.tb.lt hg8.size, hg8.size⟩
       have HT8 := Lib.hid ht8
       clear hr8 hg8 ht8 x0 x1 x2 x3 x4 xf))
  have HT9 : Hid ((o1 = none ∧ (ok1 = false ∨ s1 = none)) ∨ ∃ p r, o1 = some (p, r) ∧ ok1 = true ∧ s1 = some r ∧ FreshT (B + 1) (w8.alloc (.cells #[.int .i64 hl.k, .slice hl.ka hl.kn hl.kc, .slice hl.va hl.vn hl.vc, .slice hl.da hl.dn hl.dc, .slice hl.ta hl.tn hl.tc] 25)).heap.size (w8.alloc (.cells #[.int .i64 hl.k, .slice hl.ka hl.kn hl.kc, .slice hl.va hl.vn hl.vc, .slice hl.da hl.dn hl.dc, .slice hl.ta hl.tn hl.tc] 25)) hl p.tr) := Lib.hid (HT8.out.imp id (fun ⟨p, r, e1, e2, e3, f⟩ => ⟨p, r, e1, e2, e3, (f.upon (Upon.below ((Below.refl _ _).alloc (Nat.le_refl _) (.cells #[.int .i64 hl.k, .slice hl.ka hl.kn hl.kc, .slice hl.va hl.vn hl.vc, .slice hl.da hl.dn hl.dc, .slice hl.ta hl.tn hl.tc] 25)))).wide (by have := HS7.out.tb.lt; omega) (Nat.le_refl _)⟩))
  have HI9 := Lib.hid (HI7.out.upon HU8.out)
  have HJ9 := Lib.hid (HJ7.out.upon HU8.out)
  clear HT8 HI7 HJ7 HU8 HS7
  generalize (w8.alloc (.cells #[.int .i64 hl.k, .slice hl.ka hl.kn hl.kc, .slice hl.va hl.vn hl.vc, .slice hl.da hl.dn hl.dc, .slice hl.ta hl.tn hl.tc] 25)) = w9 at *
  generalize w8.heap.size = L at *
  cases ok1 with
  | false =>
    have HN : Hid (o = none) := Lib.hid (by
      rcases HT9.out with ⟨e, -⟩ | ⟨p, r, -, e, -⟩
      · rw [HO1.out, e]; rfl
      · cases e)
    go_wp2_with (first
      | (refine wpList_store_box rfl 25 (.tmp 4) (.tmp 54) rfl w.heap.size hZ hZ rfl rfl 25 HS8.out.res infoTree5 ?_
         intro w9 hbx9 hg9
         have HX9 := Lib.hid hbx9
         have HG9 := Lib.hid hg9
         clear hbx9 hg9))
    obtain ⟨hr9, hu9⟩ := HS8.out.ret HG9.out
    exact bodyPost_ret (v := .tuple #[TH.v hZ, .bool false]) (Box.result Try.results24 _ HX9.out rfl Try.underlying25 infoTree5) rfl ⟨hZ, false, _, rfl, hr9, hu9, .inl ⟨HN.out, .inl rfl⟩⟩
  | true =>
    simp only [Bool.not_true]
    have xf := HS8.out.ev.vf.cell
    obtain ⟨o2, ho2⟩ : ∃ o2, rdP d s1 = o2 := ⟨_, rfl⟩
    have HQ2 := Lib.hid ho2
    clear ho2
    go_upto_region 21 with (first
      | (go_at_call 24
         refine (IH.out s1 _ HS8.out.ev).mono ?_
         unfold PtPost TH.v
         rw [HQ2.out]
         rintro _ w10 ⟨hr, ok2, s2, rfl, hr10, hg10, ht10⟩
         have HS10 := Lib.hid ((HS8.out.rdr hg10 hr10).below ((Below.refl _ _).alloc (Nat.le_refl _) (.cells #[.int .i64 hr.k, .slice hr.ka hr.kn hr.kc, .slice hr.va hr.vn hr.vc, .slice hr.da hr.dn hr.dc, .slice hr.ta hr.tn hr.tc] 25)))
         have HU10 : Hid (Upon (B + 1) w9 (w10.alloc (.cells #[.int .i64 hr.k, .slice hr.ka hr.kn hr.kc, .slice hr.va hr.vn hr.vc, .slice hr.da hr.dn hr.dc, .slice hr.ta hr.tn hr.tc] 25))) := Lib.hid ⟨Nat.le_trans hg10.size (by simp), fun j h1 h2 => (Below.heap_alloc w10 _ j (Nat.lt_of_lt_of_le h2 hg10.size)).trans ((Upon.grown (lo := B + 1) hg10 (Nat.lt_succ_of_lt (Nat.lt_trans HS8.out.lo.1 HS8.out.lt))).2 j h1 h2)⟩
         have HL10 := Lib.hid ((HL8.out.grown hg10 (fun e => by injection e with e; exact HLB.out.1 e)).below ((Below.refl _ _).alloc (Nat.le_refl _) (.cells #[.int .i64 hr.k, .slice hr.ka hr.kn hr.kc, .slice hr.va hr.vn hr.vc, .slice hr.da hr.dn hr.dc, .slice hr.ta hr.tn hr.tc] 25)) (HL8.out.grown hg10 (fun e => by injection e with e; exact HLB.out.1 e)).lt)
         have HR10 := Lib.hid (Box.new w10 25 hr)
         have HT10 := Lib.hid ht10
         have HZ10 := Lib.hid (Nat.lt_of_lt_of_le HS8.out.tb.lt hg10.size)
         clear hr10 hg10 ht10 xf))
    try clear xf
    have HT11 : Hid ((o2 = none ∧ (ok2 = false ∨ s2 = none)) ∨ ∃ p r, o2 = some (p, r) ∧ ok2 = true ∧ s2 = some r ∧ FreshT (B + 1) (w10.alloc (.cells #[.int .i64 hr.k, .slice hr.ka hr.kn hr.kc, .slice hr.va hr.vn hr.vc, .slice hr.da hr.dn hr.dc, .slice hr.ta hr.tn hr.tc] 25)).heap.size (w10.alloc (.cells #[.int .i64 hr.k, .slice hr.ka hr.kn hr.kc, .slice hr.va hr.vn hr.vc, .slice hr.da hr.dn hr.dc, .slice hr.ta hr.tn hr.tc] 25)) hr p.tr) := Lib.hid (HT10.out.imp id (fun ⟨p, r, e1, e2, e3, f⟩ => ⟨p, r, e1, e2, e3, (f.upon (Upon.below ((Below.refl _ _).alloc (Nat.le_refl _) (.cells #[.int .i64 hr.k, .slice hr.ka hr.kn hr.kc, .slice hr.va hr.vn hr.vc, .slice hr.da hr.dn hr.dc, .slice hr.ta hr.tn hr.tc] 25)))).wide (by have := HS8.out.tb.lt; omega) (Nat.le_refl _)⟩))
    have HT12 : Hid ((o1 = none ∧ s1 = none) ∨ ∃ p r, o1 = some (p, r) ∧ s1 = some r ∧ FreshT (B + 1) (w10.alloc (.cells #[.int .i64 hr.k, .slice hr.ka hr.kn hr.kc, .slice hr.va hr.vn hr.vc, .slice hr.da hr.dn hr.dc, .slice hr.ta hr.tn hr.tc] 25)).heap.size (w10.alloc (.cells #[.int .i64 hr.k, .slice hr.ka hr.kn hr.kc, .slice hr.va hr.vn hr.vc, .slice hr.da hr.dn hr.dc, .slice hr.ta hr.tn hr.tc] 25)) hl p.tr) := Lib.hid (HT9.out.imp (fun ⟨e1, e2⟩ => ⟨e1, e2.elim (fun q => by cases q) id⟩) (fun ⟨p, r, e1, e2, e3, f⟩ => ⟨p, r, e1, e3, f.upon HU10.out⟩))
    have HI11 := Lib.hid (HI9.out.upon HU10.out)
    have HJ11 := Lib.hid (HJ9.out.upon HU10.out)
    clear HT10 HT9 HI9 HJ9 HU10 HS8 HL8
    generalize (w10.alloc (.cells #[.int .i64 hr.k, .slice hr.ka hr.kn hr.kc, .slice hr.va hr.vn hr.vc, .slice hr.da hr.dn hr.dc, .slice hr.ta hr.tn hr.tc] 25)) = w11 at *
    generalize w10.heap.size = R at *
    obtain ⟨y0, y1, y2, y3, y4⟩ := HL10.out.cells
    obtain ⟨z0, z1, z2, z3, z4⟩ := HR10.out.cells
    have f4 := HS10.out.tb.frozen 4
    have x4 := HS10.out.tb.cells.2.2.2.2
    have HS11 := Lib.hid (HS10.out.alloc (.cells #[.int .i64 hl.k, .slice hl.ka hl.kn hl.kc, .slice hl.va hl.vn hl.vc, .slice hl.da hl.dn hl.dc, .slice hl.ta hl.tn hl.tc, .int .i64 hr.k, .slice hr.ka hr.kn hr.kc, .slice hr.va hr.vn hr.vc, .slice hr.da hr.dn hr.dc, .slice hr.ta hr.tn hr.tc] 25))
    have g4 := HS11.out.tb.frozen 4
    have v4 := HS11.out.tb.cells.2.2.2.2
    go_upto_region 22 with fail
    clear y0 y1 y2 y3 y4 z0 z1 z2 z3 z4 f4 x4 g4 v4
    have b11 : Below w11.heap.size w11 (w11.alloc (.cells #[.int .i64 hl.k, .slice hl.ka hl.kn hl.kc, .slice hl.va hl.vn hl.vc, .slice hl.da hl.dn hl.dc, .slice hl.ta hl.tn hl.tc, .int .i64 hr.k, .slice hr.ka hr.kn hr.kc, .slice hr.va hr.vn hr.vc, .slice hr.da hr.dn hr.dc, .slice hr.ta hr.tn hr.tc] 25)) := (Below.refl _ _).alloc (Nat.le_refl _) _
    have HX12 : Hid (Box ((w11.alloc (.cells #[.int .i64 hl.k, .slice hl.ka hl.kn hl.kc, .slice hl.va hl.vn hl.vc, .slice hl.da hl.dn hl.dc, .slice hl.ta hl.tn hl.tc, .int .i64 hr.k, .slice hr.ka hr.kn hr.kc, .slice hr.va hr.vn hr.vc, .slice hr.da hr.dn hr.dc, .slice hr.ta hr.tn hr.tc] 25)).setCell ⟨B, 4, none⟩ (.slice (some ⟨w11.heap.size, 0, none⟩) 2 2)) 25 B ⟨2, a4, key.length, c4, none, 0, 0, a6, z.length, c6, some ⟨w11.heap.size, 0, none⟩, 2, 2⟩) := Lib.hid (HS11.out.tb.set4 (some ⟨w11.heap.size, 0, none⟩) 2 2)
    have HG12 := Lib.hid (only_set (only_refl (w11.alloc (.cells #[.int .i64 hl.k, .slice hl.ka hl.kn hl.kc, .slice hl.va hl.vn hl.vc, .slice hl.da hl.dn hl.dc, .slice hl.ta hl.tn hl.tc, .int .i64 hr.k, .slice hr.ka hr.kn hr.kc, .slice hr.va hr.vn hr.vc, .slice hr.da hr.dn hr.dc, .slice hr.ta hr.tn hr.tc] 25)) (some B)) 4 (.slice (some ⟨w11.heap.size, 0, none⟩) 2 2))
    have HS12 := Lib.hid (HS11.out.wr HG12.out HX12.out)
    have HU12 : Hid (Upon (B + 1) w11 ((w11.alloc (.cells #[.int .i64 hl.k, .slice hl.ka hl.kn hl.kc, .slice hl.va hl.vn hl.vc, .slice hl.da hl.dn hl.dc, .slice hl.ta hl.tn hl.tc, .int .i64 hr.k, .slice hr.ka hr.kn hr.kc, .slice hr.va hr.vn hr.vc, .slice hr.da hr.dn hr.dc, .slice hr.ta hr.tn hr.tc] 25)).setCell ⟨B, 4, none⟩ (.slice (some ⟨w11.heap.size, 0, none⟩) 2 2))) := Lib.hid ⟨Nat.le_trans b11.size HG12.out.size, fun j h1 h2 => ((Upon.grown (lo := B + 1) HG12.out (Nat.lt_succ_self _)).2 j h1 (Nat.lt_of_lt_of_le h2 b11.size)).trans (b11.block j h2)⟩
    have HN12 : Hid (Two5 ((w11.alloc (.cells #[.int .i64 hl.k, .slice hl.ka hl.kn hl.kc, .slice hl.va hl.vn hl.vc, .slice hl.da hl.dn hl.dc, .slice hl.ta hl.tn hl.tc, .int .i64 hr.k, .slice hr.ka hr.kn hr.kc, .slice hr.va hr.vn hr.vc, .slice hr.da hr.dn hr.dc, .slice hr.ta hr.tn hr.tc] 25)).setCell ⟨B, 4, none⟩ (.slice (some ⟨w11.heap.size, 0, none⟩) 2 2)) 25 w11.heap.size hl hr) := Lib.hid ((HG12.out.block w11.heap.size (by simp) (fun e => by injection e with e; have := HS10.out.tb.lt; omega)).trans (Two5.new w11 25 hl hr))
    have HGB : Hid (B + 1 ≤ w11.heap.size ∧ w11.heap.size < ((w11.alloc (.cells #[.int .i64 hl.k, .slice hl.ka hl.kn hl.kc, .slice hl.va hl.vn hl.vc, .slice hl.da hl.dn hl.dc, .slice hl.ta hl.tn hl.tc, .int .i64 hr.k, .slice hr.ka hr.kn hr.kc, .slice hr.va hr.vn hr.vc, .slice hr.da hr.dn hr.dc, .slice hr.ta hr.tn hr.tc] 25)).setCell ⟨B, 4, none⟩ (.slice (some ⟨w11.heap.size, 0, none⟩) 2 2)).heap.size) := Lib.hid ⟨HS10.out.tb.lt, Nat.lt_of_lt_of_le (by simp) HG12.out.size⟩
    have HI12 := Lib.hid (HI11.out.upon HU12.out)
    have HJ12 := Lib.hid (HJ11.out.upon HU12.out)
    have HT13 : Hid ((o2 = none ∧ (ok2 = false ∨ s2 = none)) ∨ ∃ p r, o2 = some (p, r) ∧ ok2 = true ∧ s2 = some r ∧ FreshT (B + 1) ((w11.alloc (.cells #[.int .i64 hl.k, .slice hl.ka hl.kn hl.kc, .slice hl.va hl.vn hl.vc, .slice hl.da hl.dn hl.dc, .slice hl.ta hl.tn hl.tc, .int .i64 hr.k, .slice hr.ka hr.kn hr.kc, .slice hr.va hr.vn hr.vc, .slice hr.da hr.dn hr.dc, .slice hr.ta hr.tn hr.tc] 25)).setCell ⟨B, 4, none⟩ (.slice (some ⟨w11.heap.size, 0, none⟩) 2 2)).heap.size ((w11.alloc (.cells #[.int .i64 hl.k, .slice hl.ka hl.kn hl.kc, .slice hl.va hl.vn hl.vc, .slice hl.da hl.dn hl.dc, .slice hl.ta hl.tn hl.tc, .int .i64 hr.k, .slice hr.ka hr.kn hr.kc, .slice hr.va hr.vn hr.vc, .slice hr.da hr.dn hr.dc, .slice hr.ta hr.tn hr.tc] 25)).setCell ⟨B, 4, none⟩ (.slice (some ⟨w11.heap.size, 0, none⟩) 2 2)) hr p.tr) := Lib.hid (HT11.out.imp id (fun ⟨p, r, e1, e2, e3, f⟩ => ⟨p, r, e1, e2, e3, f.upon HU12.out⟩))
    have HT14 : Hid ((o1 = none ∧ s1 = none) ∨ ∃ p r, o1 = some (p, r) ∧ s1 = some r ∧ FreshT (B + 1) ((w11.alloc (.cells #[.int .i64 hl.k, .slice hl.ka hl.kn hl.kc, .slice hl.va hl.vn hl.vc, .slice hl.da hl.dn hl.dc, .slice hl.ta hl.tn hl.tc, .int .i64 hr.k, .slice hr.ka hr.kn hr.kc, .slice hr.va hr.vn hr.vc, .slice hr.da hr.dn hr.dc, .slice hr.ta hr.tn hr.tc] 25)).setCell ⟨B, 4, none⟩ (.slice (some ⟨w11.heap.size, 0, none⟩) 2 2)).heap.size ((w11.alloc (.cells #[.int .i64 hl.k, .slice hl.ka hl.kn hl.kc, .slice hl.va hl.vn hl.vc, .slice hl.da hl.dn hl.dc, .slice hl.ta hl.tn hl.tc, .int .i64 hr.k, .slice hr.ka hr.kn hr.kc, .slice hr.va hr.vn hr.vc, .slice hr.da hr.dn hr.dc, .slice hr.ta hr.tn hr.tc] 25)).setCell ⟨B, 4, none⟩ (.slice (some ⟨w11.heap.size, 0, none⟩) 2 2)) hl p.tr) := Lib.hid (HT12.out.imp id (fun ⟨p, r, e1, e2, f⟩ => ⟨p, r, e1, e2, f.upon HU12.out⟩))
    clear HS11 HX12 HG12 HS10 b11 HT11 HT12 HI11 HJ11 HU12
    generalize ((w11.alloc (.cells #[.int .i64 hl.k, .slice hl.ka hl.kn hl.kc, .slice hl.va hl.vn hl.vc, .slice hl.da hl.dn hl.dc, .slice hl.ta hl.tn hl.tc, .int .i64 hr.k, .slice hr.ka hr.kn hr.kc, .slice hr.va hr.vn hr.vc, .slice hr.da hr.dn hr.dc, .slice hr.ta hr.tn hr.tc] 25)).setCell ⟨B, 4, none⟩ (.slice (some ⟨w11.heap.size, 0, none⟩) 2 2)) = w12 at *
    generalize w11.heap.size = G at *
    obtain ⟨x0, x1, x2, x3, x4⟩ := HS12.out.tb.cells
    go_wp2_with (first
      | (refine wpList_store_box rfl 25 (.tmp 4) (.tmp 66) rfl w.heap.size hZ ⟨2, a4, key.length, c4, none, 0, 0, a6, z.length, c6, some ⟨G, 0, none⟩, 2, 2⟩ rfl rfl 25 HS12.out.res infoTree5 ?_
         intro w9x hbx9 hg9
         have HX9 := Lib.hid hbx9
         have HG9 := Lib.hid hg9
         clear hbx9 hg9))
    obtain ⟨hr9, hu9⟩ := HS12.out.ret HG9.out
    have hlo : w.heap.size < B + 1 := Nat.lt_succ_of_lt HS12.out.lt
    have U9 : Upon (B + 1) w12 w9x := Upon.grown HG9.out hlo
    have hgb := HGB.out
    have HN9 : Two5 w9x 25 G hl hr := (HG9.out.block G hgb.2 (fun e => by injection e; omega)).trans HN12.out
    have HI9 := HI12.out.upon U9
    have HJ9 := HJ12.out.upon U9
    refine bodyPost_ret (v := .tuple #[TH.v ⟨2, a4, key.length, c4, none, 0, 0, a6, z.length, c6, some ⟨G, 0, none⟩, 2, 2⟩, .bool ok2]) (Box.result Try.results24 _ HX9.out rfl Try.underlying25 infoTree5) rfl ⟨_, ok2, s2, rfl, hr9, hu9, ?_⟩
    rcases HT14.out with ⟨e1, e2⟩ | ⟨p1, r1, e1, e2, f1⟩
    · left
      refine ⟨by rw [HO1.out, e1]; rfl, ?_⟩
      rcases HT13.out with ⟨-, q⟩ | ⟨p, r, q, -⟩
      · exact q
      · rw [← HQ2.out, e2] at q
        cases q
    · rcases HT13.out with ⟨q, q2⟩ | ⟨p2, r2, q, q2, q3, f2⟩
      · left
        refine ⟨?_, q2⟩
        rw [HO1.out, e1]
        show ((rdP d (some r1)).map fun y => (PT.dark p1 key z y.1, y.2)) = none
        rw [← e2, HQ2.out, q]
        rfl
      · right
        refine ⟨PT.dark p1 key z p2, r2, ?_, q2, q3, ?_⟩
        · rw [HO1.out, e1]
          show ((rdP d (some r1)).map fun y => (PT.dark p1 key z y.1, y.2)) = _
          rw [← e2, HQ2.out, q]
          rfl
        · exact FreshT.node HN9 (by omega) (Nat.lt_of_lt_of_le hgb.2 HG9.out.size) ((f1.upon U9).wide (Nat.le_of_lt hlo) (Nat.le_refl _)) ((f2.upon U9).wide (Nat.le_of_lt hlo) (Nat.le_refl _)) (by omega) (by omega) (HJ9.wide (Nat.le_of_lt hlo) (Nat.le_refl _)) (FreshB.none _ _ _) (HI9.wide (Nat.le_of_lt hlo) (Nat.le_refl _))
end Go.Proofs.Ytagmeljjkblpbaa

/- The contracts of the program's Write and Read of trees. -/
namespace Go.Proofs.Ytagmeljjkblpbaa
open Go.RowKit
set_option linter.unusedVariables false

theorem pt_any (g gr gf : Nat) (gb : Option Nat) : ∀ d : Nat, d ≤ 64 → ∀ (s : Option (List Int)) (W : World), EV W g gr gf gb s → Calls Try.prog 24 #[.int .i64 d, .pointer (some ⟨gr, 0, none⟩), .pointer (some ⟨gf, 0, none⟩)] W (PtPost W g gb (rdP d s)) := by
  intro d
  induction d with
  | zero => exact fun hd s W hev => ptFlat_any 0 hd g gr gf gb s W hev (fun _ _ _ _ => rfl)
  | succ d ih =>
    intro hd s W hev
    by_cases h : ∃ k l, s = some (k :: l) ∧ (k = 1 ∨ k = 2)
    · obtain ⟨k, l, rfl, rfl | rfl⟩ := h
      · exact ptNode1_any d hd g gr gf gb l W hev (ih (by omega))
      · exact ptNode2_any d hd g gr gf gb l W hev (ih (by omega))
    · exact ptFlat_any (d + 1) hd g gr gf gb s W hev (fun k l e1 e2 => absurd ⟨k, l, e1, e2⟩ h)
/-- What is told of what was read. -/
def tellC : Option (PT × List Int) → Nat × PT
  | none => (3, .nil)
  | some (p, []) => (0, p)
  | some (_, _ :: _) => (4, .nil)
theorem readX_tellC (s : List Int) : readX s = tellC (rdP 64 (some s)) := by
  unfold readX
  show _ = tellC (readP 64 s)
  rcases readP 64 s with _ | ⟨p, _ | ⟨_, _⟩⟩ <;> rfl

set_option maxRecDepth 100000 in
set_option maxHeartbeats 8000000 in
theorem cread_any (a : Option Addr) (n c : Nat) (bs : List Int) (w : World) (hin : InBytes w a n c bs) (hn : n ≤ 1000000) : Calls Try.prog 12 #[.slice a n c] w (ReadTold w (readX bs)) := by
  have hmf : ∀ (fn : Fn) (first cap : Array Value) (w : World), (Instr.makeFunc fn first cap).run Try.prog w = .ok (.func fn first cap) w := fun _ _ _ _ => rfl
  have hb0 : Below w.heap.size w (w.alloc (.cells #[.int .i64 0, .slice none 0 0, .slice none 0 0, .slice none 0 0, .slice none 0 0] 25)) := (Below.refl _ _).alloc (Nat.le_refl _) _
  have HI := Lib.hid (hin.below hb0)
  have HB0 := Lib.hid hb0
  have HR0 : Hid (Box (w.alloc (.cells #[.int .i64 0, .slice none 0 0, .slice none 0 0, .slice none 0 0, .slice none 0 0] 25)) 25 w.heap.size hZ) := Lib.hid (Box.new w 25 hZ)
  have HZ0 : Hid ((w.alloc (.cells #[.int .i64 0, .slice none 0 0, .slice none 0 0, .slice none 0 0, .slice none 0 0] 25)).heap.size = w.heap.size + 1) := Lib.hid (by simp)
  obtain ⟨o, ho⟩ : ∃ o, rdP 64 (some bs) = o := ⟨_, rfl⟩
  have HX : Hid (readX bs = tellC o) := Lib.hid (by rw [← ho]; exact readX_tellC bs)
  have HQ := Lib.hid ho
  clear hin hb0 ho
  go_enter Try.func12, Try.ntmps12
  go_upto_region 1 with fail
  generalize (w.alloc (.cells #[.int .i64 0, .slice none 0 0, .slice none 0 0, .slice none 0 0, .slice none 0 0] 25)) = w0 at *
  go_upto_region 3 with (first
    | (go_at_call 23
       refine (newReader_any a n c bs _ HI.out (by omega)).mono ?_
       rintro _ w1 ⟨g, gb, rfl, hge, hgb, hpr, hb1⟩
       have HN := Lib.hid (And.intro hge (And.intro hgb hpr))
       have HB1 : Hid (Below w.heap.size w w1) := Lib.hid (HB0.out.trans (hb1.mono HB0.out.size))
       have HR1 := Lib.hid (HR0.out.below hb1 HR0.out.lt)
       clear hge hgb hpr hb1))
  have b2 : Below w1.heap.size w1 (w1.alloc (.cells #[.pointer (some ⟨g, 0, none⟩)] 50)) := (Below.refl _ _).alloc (Nat.le_refl _) _
  have b3 : Below (w1.alloc (.cells #[.pointer (some ⟨g, 0, none⟩)] 50)).heap.size (w1.alloc (.cells #[.pointer (some ⟨g, 0, none⟩)] 50)) ((w1.alloc (.cells #[.pointer (some ⟨g, 0, none⟩)] 50)).alloc (.cells #[.nilFunc] 52)) := (Below.refl _ _).alloc (Nat.le_refl _) _
  have v2 := Var1.new w1 50 (.pointer (some ⟨g, 0, none⟩))
  have v3 := Var1.new (w1.alloc (.cells #[.pointer (some ⟨g, 0, none⟩)] 50)) 52 .nilFunc
  have e2 : (w1.alloc (.cells #[.pointer (some ⟨g, 0, none⟩)] 50)).heap.size = w1.heap.size + 1 := by simp
  rw [e2] at v3
  have b13 : Below w1.heap.size w1 ((w1.alloc (.cells #[.pointer (some ⟨g, 0, none⟩)] 50)).alloc (.cells #[.nilFunc] 52)) := b2.trans (b3.mono b2.size)
  have HV3 := Lib.hid (And.intro (v2.below b3 v2.lt) v3)
  have HB3 : Hid (Below w.heap.size w ((w1.alloc (.cells #[.pointer (some ⟨g, 0, none⟩)] 50)).alloc (.cells #[.nilFunc] 52))) := Lib.hid (HB1.out.trans (b13.mono HB1.out.size))
  have HR3 := Lib.hid (HR1.out.below b13 HR1.out.lt)
  have HP3 := Lib.hid (HN.out.2.2.grown (only_below b13 none) (fun e => by cases e) (fun _ _ e => by cases e))
  have HL3 : Hid (w1.heap.size + 1 < ((w1.alloc (.cells #[.pointer (some ⟨g, 0, none⟩)] 50)).alloc (.cells #[.nilFunc] 52)).heap.size ∧ g < w1.heap.size ∧ (∀ b, gb = some b → b < w1.heap.size) ∧ w.heap.size < w1.heap.size) := Lib.hid ⟨by simp, HN.out.2.2.lt, fun b e => (HN.out.2.1 b e).2, Nat.lt_of_lt_of_le HR1.out.lt (Nat.le_refl _)⟩
  have HG3 : Hid (w.heap.size < g ∧ ∀ b, gb = some b → w.heap.size < b) := Lib.hid ⟨by have q1 := HN.out.1; have q2 := HZ0.out; omega, fun b e => by have q1 := (HN.out.2.1 b e).1; have q2 := HZ0.out; omega⟩
  clear b2 b3 v2 v3 b13 HN HB1 HR1 HI HB0 HR0 HZ0
  generalize ((w1.alloc (.cells #[.pointer (some ⟨g, 0, none⟩)] 50)).alloc (.cells #[.nilFunc] 52)) = w3 at *
  generalize w1.heap.size = gr at *
  have c5 := HV3.out.2.cell
  have c6 := HV3.out.2.frozen 0
  go_upto_region 4 with fail
  have HV4 : Hid (Var1 (w3.setCell ⟨gr + 1, 0, none⟩ (.func (.func 24) #[] #[.pointer (some ⟨gr, 0, none⟩), .pointer (some ⟨(gr + 1), 0, none⟩)])) 52 (gr + 1) (.func (.func 24) #[] #[.pointer (some ⟨gr, 0, none⟩), .pointer (some ⟨(gr + 1), 0, none⟩)])) := Lib.hid (HV3.out.2.set (.func (.func 24) #[] #[.pointer (some ⟨gr, 0, none⟩), .pointer (some ⟨(gr + 1), 0, none⟩)]))
  have HG4 := Lib.hid (only_set (only_refl w3 (some (gr + 1))) 0 (.func (.func 24) #[] #[.pointer (some ⟨gr, 0, none⟩), .pointer (some ⟨(gr + 1), 0, none⟩)]))
  have HE4 : Hid (EV (w3.setCell ⟨gr + 1, 0, none⟩ (.func (.func 24) #[] #[.pointer (some ⟨gr, 0, none⟩), .pointer (some ⟨(gr + 1), 0, none⟩)])) g gr (gr + 1) gb (some bs)) := Lib.hid ⟨HP3.out.grown HG4.out (fun e => by injection e with e; have := HL3.out.2.1; omega) (fun b e q => by injection q with q; have := HL3.out.2.2.1 b e; omega), fun b e => Nat.lt_of_lt_of_le (Nat.lt_trans (HL3.out.2.2.1 b e) (by have := HL3.out.1; omega)) HG4.out.size, HV3.out.1.grown HG4.out (fun e => by injection e with e; omega), HV4.out⟩
  have HB4 : Hid (Below w.heap.size w (w3.setCell ⟨gr + 1, 0, none⟩ (.func (.func 24) #[] #[.pointer (some ⟨gr, 0, none⟩), .pointer (some ⟨(gr + 1), 0, none⟩)]))) := Lib.hid (HB3.out.grown HG4.out HB3.out.size (fun j hj => by injection hj with hj; have := HL3.out.2.2.2; omega))
  have HR4 := Lib.hid (HR3.out.grown HG4.out (fun e => by injection e with e; have := HL3.out.2.2.2; omega))
  clear HV4 HG4 c5 c6 HV3 HB3 HR3 HP3
  generalize (w3.setCell ⟨gr + 1, 0, none⟩ (.func (.func 24) #[] #[.pointer (some ⟨gr, 0, none⟩), .pointer (some ⟨(gr + 1), 0, none⟩)])) = w4 at *
  have xf := HE4.out.vf.cell
  have xr := HE4.out.vr.cell
  go_upto_if 18 with (first
    | (go_at_call 24
       refine (pt_any g gr (gr + 1) gb 64 (by omega) (some bs) _ HE4.out).mono ?_
       unfold PtPost TH.v
       rw [HQ.out]
       rintro _ w5 ⟨h5, ok, s5, rfl, hr5, hg5, ht5⟩
       have HE5 := Lib.hid (HE4.out.rdr hg5 hr5)
       have HR5 := Lib.hid (HR4.out.grown hg5 (fun e => by injection e with e; have := HG3.out.1; omega))
       have HB5 : Hid (Below w.heap.size w w5) := Lib.hid (HB4.out.grown hg5 HB4.out.size (fun j hj => by injection hj with hj; have := HG3.out.1; omega))
       have HT5 : Hid ((o = none ∧ (ok = false ∨ s5 = none)) ∨ ∃ p r, o = some (p, r) ∧ ok = true ∧ s5 = some r ∧ FreshT (w.heap.size + 1) w5.heap.size w5 h5 p.tr) := Lib.hid (ht5.imp id (fun ⟨p, r, e1, e2, e3, f⟩ => ⟨p, r, e1, e2, e3, f.wide (by have := HE4.out.rd.lt; have := HG3.out.1; omega) (Nat.le_refl _)⟩))
       clear hr5 hg5 ht5 xf xr))
  have b6 : Below w5.heap.size w5 (w5.alloc (.cells #[.int .i64 h5.k, .slice h5.ka h5.kn h5.kc, .slice h5.va h5.vn h5.vc, .slice h5.da h5.dn h5.dc, .slice h5.ta h5.tn h5.tc] 25)) := (Below.refl _ _).alloc (Nat.le_refl _) _
  have HB6 : Hid (Below w.heap.size w (w5.alloc (.cells #[.int .i64 h5.k, .slice h5.ka h5.kn h5.kc, .slice h5.va h5.vn h5.vc, .slice h5.da h5.dn h5.dc, .slice h5.ta h5.tn h5.tc] 25))) := Lib.hid (HB5.out.trans (b6.mono HB5.out.size))
  have HE6 := Lib.hid (HE5.out.below b6)
  have HR6 := Lib.hid (HR5.out.below b6 HR5.out.lt)
  have HX6 := Lib.hid (Box.new w5 25 h5)
  have HT6 : Hid ((o = none ∧ (ok = false ∨ s5 = none)) ∨ ∃ p r, o = some (p, r) ∧ ok = true ∧ s5 = some r ∧ FreshT (w.heap.size + 1) (w5.alloc (.cells #[.int .i64 h5.k, .slice h5.ka h5.kn h5.kc, .slice h5.va h5.vn h5.vc, .slice h5.da h5.dn h5.dc, .slice h5.ta h5.tn h5.tc] 25)).heap.size (w5.alloc (.cells #[.int .i64 h5.k, .slice h5.ka h5.kn h5.kc, .slice h5.va h5.vn h5.vc, .slice h5.da h5.dn h5.dc, .slice h5.ta h5.tn h5.tc] 25)) h5 p.tr) := Lib.hid (HT5.out.imp id (fun ⟨p, r, e1, e2, e3, f⟩ => ⟨p, r, e1, e2, e3, f.upon (Upon.below b6)⟩))
  clear b6 HB5 HE5 HR5 HT5 HB4 HR4 HE4 HQ HG3 HL3
  generalize (w5.alloc (.cells #[.int .i64 h5.k, .slice h5.ka h5.kn h5.kc, .slice h5.va h5.vn h5.vc, .slice h5.da h5.dn h5.dc, .slice h5.ta h5.tn h5.tc] 25)) = w6 at *
  generalize w5.heap.size = L at *
  cases ok with
  | false =>
    have HO : Hid (o = none) := Lib.hid (by
      rcases HT6.out with ⟨e, -⟩ | ⟨p, r, -, e, -⟩
      · exact e
      · cases e)
    rw [HO.out] at HX
    go_wp2_with (first
      | (refine wpList_store_box rfl 25 (.tmp 2) (.tmp 19) rfl w.heap.size hZ hZ rfl rfl 25 HR6.out infoTree5 ?_
         intro w9 hbx9 hg9
         have HX9 := Lib.hid hbx9
         have HG9 := Lib.hid hg9
         clear hbx9 hg9))
    exact bodyPost_ret (v := .tuple #[TH.v hZ, .iface 41 (.int .i64 3)]) (Box.result Try.results12 _ HX9.out rfl Try.underlying25 infoTree5) rfl ⟨hZ, by rw [HX.out]; rfl, by rw [HX.out]; exact FreshT.nil _ _ _, HB6.out.grown HG9.out HB6.out.size (fun j hj => by injection hj; omega)⟩
  | true =>
    simp only [Bool.not_true]
    have xr := HE6.out.vr.cell
    go_upto_region 8 with (first
      | (go_at_call 27
         refine (rdEnd_any g gb s5 _ HE6.out.rd).mono ?_
         rintro _ w7 ⟨rfl, m7, rfl⟩))
    clear xr
    have HB7 : Hid (Below w.heap.size w (w6.drewN m7)) := Lib.hid (below_drawn HB6.out m7)
    have HR7 : Hid (Box (w6.drewN m7) 25 w.heap.size hZ) := Lib.hid HR6.out
    have HX7 : Hid (Box (w6.drewN m7) 25 L h5) := Lib.hid HX6.out
    have HT7 : Hid ((o = none ∧ s5 = none) ∨ ∃ p r, o = some (p, r) ∧ s5 = some r ∧ FreshT (w.heap.size + 1) (w6.drewN m7).heap.size (w6.drewN m7) h5 p.tr) := Lib.hid (HT6.out.imp (fun ⟨e1, e2⟩ => ⟨e1, e2.elim (fun q => by cases q) id⟩) (fun ⟨p, r, e1, e2, e3, f⟩ => ⟨p, r, e1, e3, f⟩))
    clear HB6 HR6 HX6 HT6 HE6
    generalize (w6.drewN m7) = w7 at *
    rename Hid (Below w.heap.size w w7) => HB6
    obtain ⟨x0, x1, x2, x3, x4⟩ := HX7.out.cells
    rcases HT7.out with ⟨rfl, rfl⟩ | ⟨p, r, rfl, rfl, f⟩
    · have e0 : codeV (rdEnd none).toNat = .iface 41 (.int .i64 3) := rfl
      rw [e0]
      go_wp2_with (first
        | (refine wpList_store_box rfl 25 (.tmp 2) (.tmp 25) rfl w.heap.size hZ hZ rfl rfl 25 HR7.out infoTree5 ?_
           intro w9 hbx9 hg9
           have HX9 := Lib.hid hbx9
           have HG9 := Lib.hid hg9
           clear hbx9 hg9))
      exact bodyPost_ret (v := .tuple #[TH.v hZ, .iface 41 (.int .i64 3)]) (Box.result Try.results12 _ HX9.out rfl Try.underlying25 infoTree5) rfl ⟨hZ, by rw [HX.out]; rfl, by rw [HX.out]; exact FreshT.nil _ _ _, HB6.out.grown HG9.out HB6.out.size (fun j hj => by injection hj; omega)⟩
    · have HF := Lib.hid f
      clear f
      cases r with
      | nil =>
        have e0 : codeV (rdEnd (some [])).toNat = .nilIface := rfl
        rw [e0]
        go_wp2_with (first
          | (refine wpList_store_box rfl 25 (.tmp 2) (.tmp 27) rfl w.heap.size hZ h5 rfl rfl 25 HR7.out infoTree5 ?_
             intro w9 hbx9 hg9
             have HX9 := Lib.hid hbx9
             have HG9 := Lib.hid hg9
             clear hbx9 hg9))
        exact bodyPost_ret (v := .tuple #[TH.v h5, .nilIface]) (Box.result Try.results12 _ HX9.out rfl Try.underlying25 infoTree5) rfl ⟨h5, by rw [HX.out]; rfl, by rw [HX.out]; exact (HF.out.upon (Upon.grown HG9.out (Nat.lt_succ_self _))).wide (Nat.le_succ _) (Nat.le_refl _), HB6.out.grown HG9.out HB6.out.size (fun j hj => by injection hj; omega)⟩
      | cons y ys =>
        have e0 : codeV (rdEnd (some (y :: ys))).toNat = .iface 41 (.int .i64 4) := rfl
        rw [e0]
        go_wp2_with (first
          | (refine wpList_store_box rfl 25 (.tmp 2) (.tmp 25) rfl w.heap.size hZ hZ rfl rfl 25 HR7.out infoTree5 ?_
             intro w9 hbx9 hg9
             have HX9 := Lib.hid hbx9
             have HG9 := Lib.hid hg9
             clear hbx9 hg9))
        exact bodyPost_ret (v := .tuple #[TH.v hZ, .iface 41 (.int .i64 4)]) (Box.result Try.results12 _ HX9.out rfl Try.underlying25 infoTree5) rfl ⟨hZ, by rw [HX.out]; rfl, by rw [HX.out]; exact FreshT.nil _ _ _, HB6.out.grown HG9.out HB6.out.size (fun j hj => by injection hj; omega)⟩
end Go.Proofs.Ytagmeljjkblpbaa

/- The document's measure of a tree: has it few enough parts? -/
namespace Go.Proofs.Ytagmeljjkblpbaa
open Go.RowKit
set_option linter.unusedVariables false

/-- A number from -1 to 500; where it is not below 0, the tree is small. -/
def LightPost (w : World) (t : Tr) (left : Int) (e : Ending) (w' : World) : Prop :=
  ∃ r : Int, e = .returned (.int .i64 r) ∧ -1 ≤ r ∧ r ≤ 500 ∧ (0 ≤ r → LightOK t ∧ (countT t : Int) = left - r) ∧ Below w.heap.size w w'

set_option maxRecDepth 100000 in
set_option maxHeartbeats 4000000 in
theorem light_any : ∀ (t : Tr) (h : TH) (left : Int) (dep : Int) (w : World), InTree w h t → -1 ≤ left → left ≤ 500 → 0 ≤ dep → dep ≤ 200 → 
    Calls Try.prog 16 #[h.v, .int .i64 left, .int .i64 dep] w (LightPost w t left) := by
  intro t
  induction t using Tr.ind with
  | h t ih =>
  intro h left dep w ht hl1 hl2 hd1 hd2
  unfold TH.v
  obtain ⟨H, hp⟩ := ht.parts
  have hkl := hp.key.len
  have hvl := hp.val.len
  have hdl := hp.dig.len
  have htl := hp.len
  have hkm := Nat.le_trans hp.key.le hp.key.max
  have hvm := Nat.le_trans hp.val.le hp.val.max
  have hdm := Nat.le_trans hp.dig.le hp.dig.max
  have htm := Nat.le_trans hp.sl.le hp.sl.max
  have htc := hp.sl.le
  simp only [maxLen] at hkm hvm hdm htm
  have HP := Lib.hid hp
  have IH := Lib.hid ih
  clear hp ht ih
  have hbox := Box.new w 25 h
  have HX := Lib.hid hbox
  obtain ⟨x0, x1, x2, x3, x4⟩ := hbox.cells
  clear hbox
  go_enter Try.func16, Try.ntmps16
  by_cases c0 : dep = 0
  · subst c0
    go_wp2_with fail
    go_ret
    exact ⟨_, rfl, by omega, by omega, fun h => by omega, (Below.refl _ _).alloc (Nat.le_refl _) _⟩
  by_cases c1 : left - 1 < 0
  · go_wp2_with fail
    go_ret
    exact ⟨_, rfl, by omega, by omega, fun h => by omega, (Below.refl _ _).alloc (Nat.le_refl _) _⟩
  by_cases c2 : left - 1 < (h.tn : Int)
  · go_wp2_with fail
    go_ret
    exact ⟨_, rfl, by omega, by omega, fun h => by omega, (Below.refl _ _).alloc (Nat.le_refl _) _⟩
  by_cases c3 : (3000 : Int) < (h.kn : Int)
  · go_wp2_with fail
    go_ret
    exact ⟨_, rfl, by omega, by omega, fun h => by omega, (Below.refl _ _).alloc (Nat.le_refl _) _⟩
  by_cases c4 : (3000 : Int) < (h.vn : Int)
  · go_wp2_with fail
    go_ret
    exact ⟨_, rfl, by omega, by omega, fun h => by omega, (Below.refl _ _).alloc (Nat.le_refl _) _⟩
  by_cases c5 : (3000 : Int) < (h.dn : Int)
  · go_wp2_with fail
    go_ret
    exact ⟨_, rfl, by omega, by omega, fun h => by omega, (Below.refl _ _).alloc (Nat.le_refl _) _⟩
  go_wp2_with fail
  clear x0 x1 x2 x3 x4
  go_loopw [1, 7] (fun s1 s7 wx => ∃ (i : Nat) (l : Int), i ≤ h.tn ∧ 0 ≤ l ∧ l ≤ 500 ∧ s1 = .int .i64 l ∧ s7 = .int .i64 i ∧ Box wx 25 w.heap.size h ∧ Below w.heap.size w wx ∧ (∀ j (hj : j < t.kids.length), j < i → LightOK t.kids[j]) ∧ l = left - 1 - (((t.kids.take i).map countT).sum : Nat)) (fun _ s7 _ => h.tn - (intOf s7).toNat)
  case atStart => exact ⟨0, left - 1, by omega, by omega, by omega, by go_num, rfl, HX.out, (Below.refl _ _).alloc (Nat.le_refl _) _, (fun j hj h => by omega), by simp⟩
  case round =>
    obtain ⟨i, l, hi, hl0, hl5, rfl, rfl, hbx, hbw, hok, hsum⟩ := hrel
    have hx4 := hbx.cells.2.2.2.2
    have HBX := Lib.hid hbx
    have HBW := Lib.hid hbw
    have HOK := Lib.hid (And.intro hok hsum)
    clear hbx hbw hok hsum HX
    by_cases hlt : i < h.tn
    · have q1 : (i : Int) < (h.tn : Int) := by omega
      obtain ⟨g, off, hta, hg, hcs⟩ := (HP.out.below HBW.out).place (by omega)
      rw [hta] at hx4
      obtain ⟨k0, k1, k2, k3, k4⟩ := hcs i hlt
      clear hcs hta
      have him : i < t.kids.length := by omega
      go_upto_region 8 with (first
        | (go_at_call 16
           refine (IH.out _ (List.getElem_mem him) (H i) l (dep - 1) _ ((HP.out.below HBW.out).kids i him) (by omega) (by omega) (by omega) (by omega)).mono ?_
           rintro _ w1 ⟨r, rfl, hr1, hr2, hrok, hb1⟩
           have HB1 : Hid (Below w.heap.size w w1) := Lib.hid (HBW.out.trans (hb1.mono HBW.out.size))
           have HX1 := Lib.hid (HBX.out.below hb1 HBX.out.lt)
           have HR := Lib.hid hrok
           clear hb1 hrok))
      clear hx4 k0 k1 k2 k3 k4
      by_cases hr : r < 0
      · go_wp2_with fail
        go_ret
        exact ⟨_, rfl, by omega, by omega, fun h => by omega, HB1.out⟩
      · go_wp2_with fail
        exact ⟨⟨i + 1, r, by omega, by omega, by omega, rfl, by go_num, HX1.out, HB1.out, (fun j hj hji => by
          by_cases hij : j = i
          · subst hij; exact (HR.out (by omega)).1
          · exact HOK.out.1 j hj (by omega)), by
          have h1 := (HR.out (by omega)).2
          have h2 := HOK.out.2
          rw [List.take_succ_eq_append_getElem him, List.map_append, List.sum_append]
          simp only [List.map_cons, List.map_nil, List.sum_cons, List.sum_nil]
          omega⟩, by simp [intOf]; omega⟩
    · obtain rfl : i = h.tn := by omega
      have q1 : ¬ (h.tn : Int) < (h.tn : Int) := by omega
      go_wp2_with fail
      go_ret
      exact ⟨_, rfl, by omega, by omega, fun _ => ⟨.mk t (by omega) (by omega) (by omega) (by omega) fun j hj => HOK.out.1 j hj (by omega), by
        have h2 := HOK.out.2
        rw [List.take_of_length_le (by omega)] at h2
        rw [countT_eq]
        omega⟩, HBW.out⟩
end Go.Proofs.Ytagmeljjkblpbaa

/- One byte in a block of its own. No program is named here. -/
namespace Go.Proofs.Ytagmeljjkblpbaa
open Go.RowKit
set_option linter.unusedVariables false

/-- One byte in a block of its own. -/
theorem in_one {w : World} {g : Nat} {t : TypeId} {z : Int} {fr : Nat × Nat} (h : w.heap[g]? = some (.cells #[.int .u8 z] t fr)) (h0 : 0 ≤ z) (h1 : z ≤ 255) : InBytes w (some ⟨g, 0, none⟩) 1 1 [z] := by
  have hlt : g < w.heap.size := by
    rcases Nat.lt_or_ge g w.heap.size with hlt | hge
    · exact hlt
    · rw [Array.getElem?_eq_none hge] at h
      cases h
  have hseg : Seg .u8 w g 0 [z] := fun i hi => by
    have hi0 : i = 0 := by simpa using hi
    subst hi0
    rw [cell_of_row w g (0 + 0) _ _ fr h]
    rfl
  exact ⟨rfl, (fun x hx => by simp at hx; omega), Nat.le_refl _, by simp [maxLen], (fun h => by cases h), fun _ => ⟨g, 0, rfl, hlt, hseg⟩⟩
theorem alloc_size (w : World) (o : Obj) : (w.alloc o).heap.size = w.heap.size + 1 := by simp
end Go.Proofs.Ytagmeljjkblpbaa

/- The heads of the statements of layer 10: the document's examples; whether a tree is small. -/
namespace Go.Proofs.Ytagmeljjkblpbaa
open Go.RowKit
set_option linter.unusedVariables false

/-- Two bytes in a block of their own. -/
theorem in_two10 {w : World} {g : Nat} {t : TypeId} {y z : Int} {fr : Nat × Nat} (h : w.heap[g]? = some (.cells #[.int .u8 y, .int .u8 z] t fr)) (h0 : 0 ≤ y) (h1 : y ≤ 255) (h2 : 0 ≤ z) (h3 : z ≤ 255) : InBytes w (some ⟨g, 0, none⟩) 2 2 [y, z] := by
  have hlt : g < w.heap.size := by
    rcases Nat.lt_or_ge g w.heap.size with hlt | hge
    · exact hlt
    · rw [Array.getElem?_eq_none hge] at h
      cases h
  have hseg : Seg .u8 w g 0 [y, z] := fun i hi => by
    have hi2 : i = 0 ∨ i = 1 := by have q : i < 2 := hi; omega
    rw [cell_of_row w g (0 + i) _ _ fr h]
    rcases hi2 with rfl | rfl <;> rfl
  exact ⟨rfl, (fun x hx => by
    rcases List.mem_cons.1 hx with rfl | hx
    · omega
    · rcases List.mem_cons.1 hx with rfl | hx
      · omega
      · cases hx), Nat.le_refl _, by simp [maxLen], (fun h => by cases h), fun _ => ⟨g, 0, rfl, hlt, hseg⟩⟩
/-- make([]T, n): a new block of noughts. -/
theorem make_any10 {P : Program} (w : World) {ops : Array Oper} {rest : List Oper} {o : Oper} {a : Act} {Q : Exit → Act → World → Prop}
    (hg : o.guard = none) (l c : Operand) (t : TypeId) (hop : o.op = Op.makeSlice t l c)
    (e : TypeId) (i : TypeInfo) (z : Value) (h1 : P.underlying t = some (.slice e)) (h2 : P.info? e = some i) (h3 : i.zero = some z)
    (kl kc : IntKind) (L C : Int) (n : Nat) (hl : a.eval l = .int kl L) (hc : a.eval c = .int kc C) (hL : L = (n : Int)) (hC : C = (n : Int)) (b2 : i.bytes * n ≤ 281474976710656) (b3 : n ≤ maxLen)
    (hK : wpList P ops Q rest (a.put o.dst (.slice (some ⟨w.heap.size, 0, none⟩) n n)) (w.alloc (.cells (madeCells z.cells (n * i.size)) e))) :
    wpList P ops Q (o :: rest) a w := by
  refine wpList_plain hg fun K hK' => ?_
  subst hL
  subst hC
  have hb : (i.bytes : Int) * (n : Int) ≤ 281474976710656 := by
    have h : ((i.bytes * n : Nat) : Int) ≤ 281474976710656 := by omega
    rwa [Int.natCast_mul] at h
  simp only [maxLen] at b3
  have hrun := run_make (P := P) w t e i _ h1 h2 h3 kl kc n n (by omega) (by omega) hb (by omega)
  rw [Int.toNat_natCast] at hrun
  unfold Oper.wp
  simp only [execOp, hop, hl, hc, Sem.run_bind, hrun, Result.andThen_ok, Sem.run_pure]
  exact hK' _ _ hK
theorem made_two10 : madeCells (Value.agg #[.int .i64 0, .slice none 0 0, .slice none 0 0, .slice none 0 0, .slice none 0 0]).cells (2 * 5) = #[.int .i64 0, .slice none 0 0, .slice none 0 0, .slice none 0 0, .slice none 0 0, .int .i64 0, .slice none 0 0, .slice none 0 0, .slice none 0 0, .slice none 0 0] := by kernel_rfl
def tUp10 : Tr := .mk 1 [97] [98] [] [tNil, tNil]
theorem up10_pt : tUp10 = (PT.shown .nil [97] [98] .nil).tr := rfl
theorem write_up10 : writeX tUp10 = (0, [1, 1, 97, 1, 98, 0, 0]) := by
  have hf : (PT.shown .nil [97] [98] .nil).fits10 := ⟨by decide, by decide, trivial, trivial⟩
  obtain ⟨h1, h2⟩ := fits_formed _ hf
  have hd : deepT (PT.shown .nil [97] [98] .nil).tr (64 : Nat) = false := by rw [deep_depth]; decide
  have hc : checkT (PT.shown .nil [97] [98] .nil).tr = 0 := by
    unfold checkT
    rw [show ((64 : Int)) = ((64 : Nat) : Int) from rfl, hd, h1]
    rfl
  rw [up10_pt]
  unfold writeX
  rw [if_neg (by rw [hc]; decide), h2, if_neg (by decide), toP_tr]
  decide
theorem read_up10 : readX [0, 0] = (4, .nil) := rfl
theorem count_up10 : countT tUp10 ≤ 500 := by
  unfold tUp10 tNil
  rw [countT_eq]
  simp only [Tr.kids, List.map_cons, List.map_nil, List.sum_cons, List.sum_nil]
  rw [countT_eq]
  simp [Tr.kids]
theorem inTree_two10 {w : World} {g : Nat} {ty : TypeId} {fr : Nat × Nat} {ka va : Option Addr} (hk : InBytes w ka 1 1 [97]) (hv : InBytes w va 1 1 [98]) (h : w.heap[g]? = some (.cells #[.int .i64 0, .slice none 0 0, .slice none 0 0, .slice none 0 0, .slice none 0 0, .int .i64 0, .slice none 0 0, .slice none 0 0, .slice none 0 0, .slice none 0 0] ty fr)) :
    InTree w ⟨1, ka, 1, 1, va, 1, 1, none, 0, 0, some ⟨g, 0, none⟩, 2, 2⟩ tUp10 :=
  .mk _ tUp10 (fun _ => hNil) rfl (by show (-9223372036854775808 : Int) ≤ 1; decide) (by show (1 : Int) ≤ 9223372036854775807; decide) hk hv (in_nil w)
    ⟨Nat.le_refl _, by simp [maxLen], (fun h => by cases h), fun _ => ⟨g, 0, rfl, (by
      rcases Nat.lt_or_ge g w.heap.size with hlt | hge
      · exact hlt
      · rw [Array.getElem?_eq_none hge] at h
        cases h), fun i hi => by
      have h10 : i < 10 := hi
      rw [cell_of_row w g (0 + i) _ _ fr h]
      rcases (by omega : i = 0 ∨ i = 1 ∨ i = 2 ∨ i = 3 ∨ i = 4 ∨ i = 5 ∨ i = 6 ∨ i = 7 ∨ i = 8 ∨ i = 9) with rfl | rfl | rfl | rfl | rfl | rfl | rfl | rfl | rfl | rfl <;> rfl⟩⟩ rfl (fun i hi => by
      have h2 : i = 0 ∨ i = 1 := by have q : i < 2 := hi; omega
      rcases h2 with rfl | rfl
      · exact inTree_nil w
      · exact inTree_nil w)

set_option maxRecDepth 100000 in
set_option maxHeartbeats 8000000 in
theorem up10_any (w : World) : Calls Try.prog 7 #[] w (Says w (.bool true)) := by
  have heq : ∀ (W : World) (p q : Int), (binOp .eql 29 (.iface 41 (.int .i64 p)) (.iface 41 (.int .i64 q))).run Try.prog W = .ok (.bool (p == q)) W := fun W p q => eql_code p q W
  have x1 : (w.alloc (.cells #[.int .u8 97] 5 (1, 2))).heap[w.heap.size]? = some (.cells #[.int .u8 97] 5 (1, 2)) := heap_alloc_new w _
  have b2 : Below (w.alloc (.cells #[.int .u8 97] 5 (1, 2))).heap.size (w.alloc (.cells #[.int .u8 97] 5 (1, 2))) ((w.alloc (.cells #[.int .u8 97] 5 (1, 2))).alloc (.cells #[.int .u8 98] 5 (1, 2))) := (Below.refl _ _).alloc (Nat.le_refl _) _
  have b3 : Below ((w.alloc (.cells #[.int .u8 97] 5 (1, 2))).alloc (.cells #[.int .u8 98] 5 (1, 2))).heap.size ((w.alloc (.cells #[.int .u8 97] 5 (1, 2))).alloc (.cells #[.int .u8 98] 5 (1, 2))) (((w.alloc (.cells #[.int .u8 97] 5 (1, 2))).alloc (.cells #[.int .u8 98] 5 (1, 2))).alloc (.cells #[.int .i64 0, .slice none 0 0, .slice none 0 0, .slice none 0 0, .slice none 0 0, .int .i64 0, .slice none 0 0, .slice none 0 0, .slice none 0 0, .slice none 0 0] 25)) := (Below.refl _ _).alloc (Nat.le_refl _) _
  have HI : Hid (InTree (((w.alloc (.cells #[.int .u8 97] 5 (1, 2))).alloc (.cells #[.int .u8 98] 5 (1, 2))).alloc (.cells #[.int .i64 0, .slice none 0 0, .slice none 0 0, .slice none 0 0, .slice none 0 0, .int .i64 0, .slice none 0 0, .slice none 0 0, .slice none 0 0, .slice none 0 0] 25)) ⟨1, some ⟨w.heap.size, 0, none⟩, 1, 1, some ⟨w.heap.size + 1, 0, none⟩, 1, 1, none, 0, 0, some ⟨w.heap.size + 2, 0, none⟩, 2, 2⟩ tUp10) := Lib.hid (by
    have k1 := (in_one x1 (by omega) (by omega)).below (b2.trans (b3.mono b2.size))
    have q2 := heap_alloc_new (w.alloc (.cells #[.int .u8 97] 5 (1, 2))) (.cells #[.int .u8 98] 5 (1, 2))
    rw [alloc_size] at q2
    have k2 := (in_one q2 (by omega) (by omega)).below b3
    have q3 := heap_alloc_new ((w.alloc (.cells #[.int .u8 97] 5 (1, 2))).alloc (.cells #[.int .u8 98] 5 (1, 2))) (.cells #[.int .i64 0, .slice none 0 0, .slice none 0 0, .slice none 0 0, .slice none 0 0, .int .i64 0, .slice none 0 0, .slice none 0 0, .slice none 0 0, .slice none 0 0] 25)
    rw [alloc_size, alloc_size] at q3
    exact inTree_two10 k1 k2 q3)
  have HB3 : Hid (Below w.heap.size w (((w.alloc (.cells #[.int .u8 97] 5 (1, 2))).alloc (.cells #[.int .u8 98] 5 (1, 2))).alloc (.cells #[.int .i64 0, .slice none 0 0, .slice none 0 0, .slice none 0 0, .slice none 0 0, .int .i64 0, .slice none 0 0, .slice none 0 0, .slice none 0 0, .slice none 0 0] 25))) := Lib.hid ((((Below.refl _ _).alloc (Nat.le_refl _) _).alloc (by rw [alloc_size]; omega) _).alloc (by rw [alloc_size, alloc_size]; omega) _)
  clear x1 b2 b3
  have hcv : (convert 22 22 (.slice (some ⟨w.heap.size, 0, none⟩) 1 1)).run Try.prog (w.alloc (.cells #[.int .u8 97] 5)) = .ok (.slice (some ⟨w.heap.size, 0, none⟩) 1 1) (w.alloc (.cells #[.int .u8 97] 5 (1, 2))) :=
    Lib.run_convert_bytes_const w 22 5 #[.int .u8 97] 1 1 Try.underlying22 Try.underlying5
  have hcv2 : (convert 22 22 (.slice (some ⟨w.heap.size + 1, 0, none⟩) 1 1)).run Try.prog ((w.alloc (.cells #[.int .u8 97] 5 (1, 2))).alloc (.cells #[.int .u8 98] 5)) = .ok (.slice (some ⟨w.heap.size + 1, 0, none⟩) 1 1) ((w.alloc (.cells #[.int .u8 97] 5 (1, 2))).alloc (.cells #[.int .u8 98] 5 (1, 2))) := by
    have q := Lib.run_convert_bytes_const (P := Try.prog) (w.alloc (.cells #[.int .u8 97] 5 (1, 2))) 22 5 #[.int .u8 98] 1 1 Try.underlying22 Try.underlying5
    rw [alloc_size] at q
    exact q
  go_enter Try.func7, Try.ntmps7
  obtain ⟨ti, hti, htz⟩ := Option.map_eq_some_iff.1 infoTree2
  simp only [Prod.mk.injEq] at htz
  obtain ⟨hz0, hz1, hz2⟩ := htz
  go_upto_region 2 with (first
    | (at_make
       refine make_any10 _ rfl (.const (.int .i64 2)) (.const (.int .i64 2)) 23 rfl 25 ti _ Try.underlying23 hti hz0 .i64 .i64 2 2 2 rfl rfl rfl rfl (by rw [hz2]; omega) (by simp [maxLen]) ?_
       rw [hz1, made_two10])
    | (go_at_call 9
       refine (cwrite_any tUp10 ⟨1, some ⟨w.heap.size, 0, none⟩, 1, 1, some ⟨w.heap.size + 1, 0, none⟩, 1, 1, none, 0, 0, some ⟨w.heap.size + 2, 0, none⟩, 2, 2⟩ _ HI.out (Nat.le_trans count_up10 (by omega))).mono ?_
       unfold WriteTold
       rw [write_up10]
       rintro _ w4 ⟨a4, n4, c4, rfl, hf4, hb4⟩
       have e0 : codeV ((0, ([1, 1, 97, 1, 98, 0, 0] : List Int)) : Nat × List Int).1 = .nilIface := rfl
       rw [e0]
       have HI4 := Lib.hid (hf4 _ (Nat.le_refl _) (fun _ _ _ => rfl))
       have HB4 : Hid (Below w.heap.size w w4) := Lib.hid (HB3.out.trans (hb4.mono HB3.out.size))
       clear e0 hf4 hb4))
  have HB5 : Hid (Below w.heap.size w (w4.alloc (.cells #[.int .u8 0, .int .u8 0] 5))) := Lib.hid (HB4.out.trans (((Below.refl w4.heap.size w4).alloc (Nat.le_refl _) _).mono HB4.out.size))
  have HI5 : Hid (InBytes (w4.alloc (.cells #[.int .u8 0, .int .u8 0] 5)) (some ⟨w4.heap.size, 0, none⟩) 2 2 [0, 0]) := Lib.hid (in_two10 (heap_alloc_new w4 (.cells #[.int .u8 0, .int .u8 0] 5)) (by omega) (by omega) (by omega) (by omega))
  have HI6 := Lib.hid (HI4.out.below ((Below.refl w4.heap.size w4).alloc (Nat.le_refl _) (.cells #[.int .u8 0, .int .u8 0] 5)))
  clear HI4
  go_upto_region 3 with (first
    | (go_at_call 12
       refine (cread_any _ 2 2 [0, 0] _ HI5.out (by omega)).mono ?_
       unfold ReadTold TH.v
       rw [read_up10]
       rintro _ w7 ⟨h7, rfl, hf7, hb7⟩
       have e0 : codeV ((4, PT.nil) : Nat × PT).1 = .iface 41 (.int .i64 4) := rfl
       rw [e0]
       have HI7 := Lib.hid (HI6.out.below hb7)
       have HB7 : Hid (Below w.heap.size w w7) := Lib.hid (HB5.out.trans (hb7.mono HB5.out.size))
       clear e0 hf7 hb7))
  have HB8 : Hid (Below w.heap.size w (w7.alloc (.cells #[.int .i64 h7.k, .slice h7.ka h7.kn h7.kc, .slice h7.va h7.vn h7.vc, .slice h7.da h7.dn h7.dc, .slice h7.ta h7.tn h7.tc] 25))) := Lib.hid (HB7.out.trans (((Below.refl w7.heap.size w7).alloc (Nat.le_refl _) _).mono HB7.out.size))
  have hi8 := HI7.out.below ((Below.refl w7.heap.size w7).alloc (Nat.le_refl _) (.cells #[.int .i64 h7.k, .slice h7.ka h7.kn h7.kc, .slice h7.va h7.vn h7.vc, .slice h7.da h7.dn h7.dc, .slice h7.ta h7.tn h7.tc] 25))
  generalize (w7.alloc (.cells #[.int .i64 h7.k, .slice h7.ka h7.kn h7.kc, .slice h7.va h7.vn h7.vc, .slice h7.da h7.dn h7.dc, .slice h7.ta h7.tn h7.tc] 25)) = w8 at *
  have hc1 : (convert 22 9 (.slice a4 n4 c4)).run Try.prog w8 = .ok (.string ⟨#[1, 1, 97, 1, 98, 0, 0]⟩) w8 := conv_in (P := Try.prog) hi8 22 5 9 Try.underlying22 Try.underlying5 Try.underlying9
  clear HI7 hi8
  go_wp2_with fail
  go_ret
  exact ⟨rfl, HB8.out⟩

set_option maxRecDepth 100000 in
set_option maxHeartbeats 8000000 in
theorem small10_any (t : Tr) (h : TH) (w : World) (ht : InTree w h t) : Calls Try.prog 8 #[h.v] w (fun e w' => ∃ b, e = .returned (.bool b) ∧ (b = true → LightOK t ∧ countT t ≤ 300) ∧ Below w.heap.size w w') := by
  unfold TH.v
  have hbox := Box.new w 25 h
  obtain ⟨x0, x1, x2, x3, x4⟩ := hbox.cells
  have HT := Lib.hid ht
  clear hbox ht
  go_enter Try.func8, Try.ntmps8
  go_wp2_with (first
    | (go_at_call 16
       refine (light_any t h 300 200 _ ?_ (by omega) (by omega) (by omega) (by omega)).mono ?_
       · exact HT.out.lower ((Below.refl _ _).alloc (Nat.le_refl _) _)
       rintro _ w1 ⟨r, rfl, hr1, hr2, hok, hb1⟩
       have HB1 : Hid (Below w.heap.size w w1) := Lib.hid (((Below.refl w.heap.size w).alloc (Nat.le_refl _) _).trans (hb1.mono (by simp)))
       have HOK := Lib.hid hok
       clear hb1 hok))
  all_goals
    go_ret
    refine ⟨_, rfl, fun hb => ?_, HB1.out⟩
    have h1 : 0 ≤ r := by simpa using hb
    have h2 := HOK.out h1
    exact ⟨h2.1, by omega⟩
end Go.Proofs.Ytagmeljjkblpbaa

/- What was written is read; a byte less or more is not: for any tree. No program is named here. -/
namespace Go.Proofs.Ytagmeljjkblpbaa
open Go.RowKit
set_option linter.unusedVariables false

theorem code_ne (p : PT) : codeP p ≠ [] := by cases p <;> simp [codeP]
theorem count_code : ∀ p : PT, countT p.tr ≤ (codeP p).length := by
  intro p
  induction p with
  | nil =>
    rw [countT_eq]
    show 1 ≤ 1
    omega
  | cut d =>
    rw [countT_eq]
    show 1 ≤ (bytL d).length + 1
    omega
  | shown l key v r ihl ihr =>
    rw [countT_eq]
    show 1 + ([l.tr, r.tr].map countT).sum ≤ (1 :: (bytL key ++ (bytL v ++ (codeP l ++ codeP r)))).length
    simp only [List.map_cons, List.map_nil, List.sum_cons, List.sum_nil, List.length_cons, List.length_append]
    omega
  | dark l key d r ihl ihr =>
    rw [countT_eq]
    show 1 + ([l.tr, r.tr].map countT).sum ≤ (2 :: (bytL key ++ (bytL d ++ (codeP l ++ codeP r)))).length
    simp only [List.map_cons, List.map_nil, List.sum_cons, List.sum_nil, List.length_cons, List.length_append]
    omega
/-- What was read has no more parts than there were bytes, or one. -/
theorem count_read {s : List Int} (hb : Bytes8 s) : countT (readX s).2.tr ≤ s.length + 1 := by
  by_cases h : (readX s).1 = 0
  · obtain ⟨h1, h2, h3⟩ := write_read hb h
    obtain ⟨-, p, e, -, -, e2⟩ := read_write (t := (readX s).2.tr) (by rw [h1])
    rw [h1] at e2
    injection e2 with _ e2
    rw [e, e2]
    exact Nat.le_succ_of_le (count_code p)
  · have e : (readX s).2 = .nil := by
      unfold readX at h ⊢
      split at h
      · rfl
      · exact absurd rfl h
      · rfl
    rw [e, countT_eq]
    show 1 ≤ s.length + 1
    omega
/-- A byte less, a byte more. -/
theorem less_more {t : Tr} (h : (writeX t).1 = 0) (hb : Bytes8 (writeX t).2) (m : Int) :
    (writeX t).2 ≠ [] ∧ (readX ((writeX t).2.take ((writeX t).2.length - 1))).1 = 3 ∧ (readX ((writeX t).2 ++ [m])).1 = 4 := by
  obtain ⟨-, p, -, hf, hd, e⟩ := read_write h
  rw [e] at hb ⊢
  have hne := code_ne p
  refine ⟨hne, ?_, ?_⟩
  · have e1 : codeP p = (codeP p).take ((codeP p).length - 1) ++ [(codeP p).getLast hne] := by
      rw [← List.dropLast_eq_take]
      exact (List.dropLast_concat_getLast hne).symm
    have q := read_less (n := 64) hf hd (fun z hz => hb z (List.mem_of_mem_take hz)) e1
    show (readX ((codeP p).take ((codeP p).length - 1))).1 = 3
    unfold readX
    rw [q]
  · have q := read_code p 64 [m] hf hd
    show (readX (codeP p ++ [m])).1 = 4
    unfold readX
    rw [q]
/-- What was written is read as it was. -/
theorem back_tree {t : Tr} (h : (writeX t).1 = 0) : readX (writeX t).2 = (0, toP t) ∧ (toP t).tr = t := by
  obtain ⟨h1, p, e, -⟩ := read_write h
  refine ⟨h1, ?_⟩
  rw [e, toP_tr]
end Go.Proofs.Ytagmeljjkblpbaa

/- The contract of the document's Write of a tree. -/
namespace Go.Proofs.Ytagmeljjkblpbaa
open Go.RowKit
set_option linter.unusedVariables false

/-- What Write of the document answers: the bytes, and the error's number. -/
def Wr10 (w : World) (r : Nat × List Int) (e : Ending) (w' : World) : Prop := ∃ a n c, e = .returned (.tuple #[.slice a n c, .int .i64 r.1]) ∧ n = r.2.length ∧ InBytes w' a n c r.2 ∧ Below w.heap.size w w'

set_option maxRecDepth 100000 in
set_option maxHeartbeats 4000000 in
theorem refWrite10_any (t : Tr) (h : TH) (w : World) (ht : InTree w h t) (hcn : countT t ≤ 500) : Calls Try.prog 10 #[h.v] w (Wr10 w (writeX t)) := by
  unfold TH.v
  have HT := Lib.hid ht
  have HCN := Lib.hid hcn
  have HX0 := Lib.hid (Box.new w 25 h)
  have HB0 : Hid (Below w.heap.size w (w.alloc (.cells #[.int .i64 h.k, .slice h.ka h.kn h.kc, .slice h.va h.vn h.vc, .slice h.da h.dn h.dc, .slice h.ta h.tn h.tc] 25))) := Lib.hid ((Below.refl _ _).alloc (Nat.le_refl _) _)
  clear ht hcn
  go_enter Try.func10, Try.ntmps10
  go_upto_region 1 with fail
  generalize (w.alloc (.cells #[.int .i64 h.k, .slice h.ka h.kn h.kc, .slice h.va h.vn h.vc, .slice h.da h.dn h.dc, .slice h.ta h.tn h.tc] 25)) = w0 at *
  obtain ⟨x0, x1, x2, x3, x4⟩ := HX0.out.cells
  by_cases hck : checkT t = 0
  · have HCK := Lib.hid hck
    clear hck
    cases hlg : longT t with
    | true =>
      have HLG := Lib.hid hlg
      clear hlg
      go_wp2_with (first
        | (go_at_call 20
           refine (refCheck_any t h _ (HT.out.lower HB0.out)).mono ?_
           rintro _ w1 ⟨rfl, hb1⟩
           rw [HCK.out]
           have HX1 := Lib.hid (HX0.out.below hb1 HX0.out.lt)
           have HB1 : Hid (Below w.heap.size w w1) := Lib.hid (HB0.out.trans (hb1.mono HB0.out.size))
           clear hb1 x0 x1 x2 x3 x4
           obtain ⟨x0, x1, x2, x3, x4⟩ := HX1.out.cells)
        | (go_at_call 21
           refine (refLong_any t h _ (HT.out.lower HB1.out)).mono ?_
           rintro _ w2 ⟨rfl, hb2⟩
           rw [HLG.out]
           have HX2 := Lib.hid (HX1.out.below hb2 HX1.out.lt)
           have HB2 : Hid (Below w.heap.size w w2) := Lib.hid (HB1.out.trans (hb2.mono HB1.out.size))
           clear hb2 x0 x1 x2 x3 x4
           obtain ⟨x0, x1, x2, x3, x4⟩ := HX2.out.cells))
      go_ret2
      have e : writeX t = (2, []) := by unfold writeX; rw [if_neg (by rw [HCK.out]; decide), HLG.out]; rfl
      rw [e]
      exact ⟨none, 0, 0, rfl, rfl, none_in _, HB2.out⟩
    | false =>
      have HLG := Lib.hid hlg
      clear hlg
      have hf : formedT t = true := by
        have q := HCK.out
        unfold checkT at q
        split at q
        · cases q
        · split at q
          · assumption
          · cases q
      have HF := Lib.hid hf
      clear hf
      go_wp2_with (first
        | (go_at_call 20
           refine (refCheck_any t h _ (HT.out.lower HB0.out)).mono ?_
           rintro _ w1 ⟨rfl, hb1⟩
           rw [HCK.out]
           have HX1 := Lib.hid (HX0.out.below hb1 HX0.out.lt)
           have HB1 : Hid (Below w.heap.size w w1) := Lib.hid (HB0.out.trans (hb1.mono HB0.out.size))
           clear hb1 x0 x1 x2 x3 x4
           obtain ⟨x0, x1, x2, x3, x4⟩ := HX1.out.cells)
        | (go_at_call 21
           refine (refLong_any t h _ (HT.out.lower HB1.out)).mono ?_
           rintro _ w2 ⟨rfl, hb2⟩
           rw [HLG.out]
           have HX2 := Lib.hid (HX1.out.below hb2 HX1.out.lt)
           have HB2 : Hid (Below w.heap.size w w2) := Lib.hid (HB1.out.trans (hb2.mono HB1.out.size))
           clear hb2 x0 x1 x2 x3 x4
           obtain ⟨x0, x1, x2, x3, x4⟩ := HX2.out.cells)
        | (go_at_call 22
           refine (refBytes10_any t h _ (HT.out.lower HB2.out) HF.out HLG.out HCN.out).mono ?_
           rintro _ w3 ⟨g, m, c, rfl, hm, ho, hb3⟩
           have HM := Lib.hid hm
           have HO := Lib.hid (own_in ho (codeT_bytes t h _ (HT.out.lower HB2.out) HF.out))
           have HB3 : Hid (Below w.heap.size w w3) := Lib.hid (HB2.out.trans (hb3.mono HB2.out.size))
           clear hm ho hb3))
      go_ret2
      have e : writeX t = (0, codeT t) := by
        obtain ⟨p, rfl⟩ := PT.of t HF.out
        unfold writeX
        rw [if_neg (by rw [HCK.out]; decide), HLG.out, if_neg (by decide), codeT_tr, toP_tr]
      rw [e]
      exact ⟨_, _, _, rfl, HM.out, HO.out, HB3.out⟩
  · have hck' : ¬ ((checkT t : Nat) : Int) = 0 := by omega
    have HCK := Lib.hid hck
    go_wp2_with (first
      | (go_at_call 20
         refine (refCheck_any t h _ (HT.out.lower HB0.out)).mono ?_
         rintro _ w1 ⟨rfl, hb1⟩
         have HB1 : Hid (Below w.heap.size w w1) := Lib.hid (HB0.out.trans (hb1.mono HB0.out.size))
         clear hb1))
    go_ret2
    have e : writeX t = (checkT t, []) := by unfold writeX; rw [if_pos HCK.out]
    rw [e]
    exact ⟨none, 0, 0, rfl, rfl, none_in _, HB1.out⟩
end Go.Proofs.Ytagmeljjkblpbaa

/- The contract of the document's comparison of trees: of one and the same tree. -/
namespace Go.Proofs.Ytagmeljjkblpbaa
open Go.RowKit
set_option linter.unusedVariables false

theorem conv_of' {w : World} {a : Option Addr} {n cap : Nat} {bs : List Int} (h : InBytes w a n cap bs) :
    (convert 22 9 (.slice a n cap)).run Try.prog w = .ok (.string (strOfNums bs)) w :=
  conv_in (P := Try.prog) h 22 5 9 Try.underlying22 Try.underlying5 Try.underlying9
/-- Two boxes, side by side. -/
structure Two (w W : World) (h h' : TH) : Prop where
  bx : Box W 25 w.heap.size h
  by' : Box W 25 (w.heap.size + 1) h'
  b : Below w.heap.size w W
theorem Two.below {w W W' : World} {h h' : TH} (d : Two w W h h') (hb : Below W.heap.size W W') : Two w W' h h' := ⟨d.bx.below hb d.bx.lt, d.by'.below hb d.by'.lt, d.b.trans (hb.mono d.b.size)⟩
theorem Two.drew {w W : World} {h h' : TH} (d : Two w W h h') : Two w W.drew h h' := d.below (Below.refl _ _).drew
theorem Two.new (w : World) (h h' : TH) : Two w ((w.alloc (.cells #[.int .i64 h.k, .slice h.ka h.kn h.kc, .slice h.va h.vn h.vc, .slice h.da h.dn h.dc, .slice h.ta h.tn h.tc] 25)).alloc (.cells #[.int .i64 h'.k, .slice h'.ka h'.kn h'.kc, .slice h'.va h'.vn h'.vc, .slice h'.da h'.dn h'.dc, .slice h'.ta h'.tn h'.tc] 25)) h h' :=
  ⟨(Box.new w _ h).below ((Below.refl _ _).alloc (Nat.le_refl _) _) (by simp), by have := Box.new (w.alloc (.cells #[.int .i64 h.k, .slice h.ka h.kn h.kc, .slice h.va h.vn h.vc, .slice h.da h.dn h.dc, .slice h.ta h.tn h.tc] 25)) 25 h'; simpa using this, ((Below.refl w.heap.size w).alloc (Nat.le_refl _) _).alloc (by simp) _⟩

set_option maxRecDepth 100000 in
set_option maxHeartbeats 4000000 in
theorem refSame_any : ∀ (t : Tr) (h h' : TH) (w : World), InTree w h t → InTree w h' t →
    Calls Try.prog 14 #[h.v, h'.v] w (Says w (.bool true)) := by
  intro t
  induction t using Tr.ind with
  | h t ih =>
  intro h h' w ht ht'
  unfold TH.v
  obtain ⟨H, hp⟩ := ht.parts
  obtain ⟨H', hp'⟩ := ht'.parts
  have HP := Lib.hid (And.intro hp hp')
  have htl := hp.len
  have htl' := hp'.len
  have htm := Nat.le_trans hp.sl.le hp.sl.max
  simp only [maxLen] at htm
  have k1 : (h.k != h'.k) = false := by rw [hp.hk, hp'.hk]; simp
  have k2 : ((h.tn : Int) != (h'.tn : Int)) = false := by rw [← htl, ← htl']; simp
  have IH := Lib.hid ih
  clear hp hp' ht ht' ih
  have HD := Lib.hid (Two.new w h h')
  go_enter Try.func14, Try.ntmps14
  go_upto_region 1 with fail
  generalize (w.alloc (.cells #[.int .i64 h.k, .slice h.ka h.kn h.kc, .slice h.va h.vn h.vc, .slice h.da h.dn h.dc, .slice h.ta h.tn h.tc] 25)).alloc (.cells #[.int .i64 h'.k, .slice h'.ka h'.kn h'.kc, .slice h'.va h'.vn h'.vc, .slice h'.da h'.dn h'.dc, .slice h'.ta h'.tn h'.tc] 25) = w0 at *
  obtain ⟨x0, x1, x2, x3, x4⟩ := HD.out.bx.cells
  obtain ⟨y0, y1, y2, y3, y4⟩ := HD.out.by'.cells
  have c1 := conv_of' (HP.out.1.below HD.out.b).key
  have c2 := conv_of' (HP.out.1.below HD.out.b).val
  have c3 := conv_of' (HP.out.1.below HD.out.b).dig
  have d1 := conv_of' (HP.out.2.below HD.out.b).key
  have d2 := conv_of' (HP.out.2.below HD.out.b).val
  have d3 := conv_of' (HP.out.2.below HD.out.b).dig
  have htl2 : h'.tn = h.tn := by omega
  have HL := Lib.hid htl2
  clear htl2 htl'
  go_wp2_with fail
  clear x0 x1 x2 x3 x4 y0 y1 y2 y3 y4 c1 c2 c3 d1 d2 d3
  go_loopw [5] (fun s5 wx => ∃ i : Nat, i ≤ h.tn ∧ s5 = .int .i64 i ∧ Two w wx h h') (fun s5 _ => h.tn - (intOf s5).toNat)
  case atStart => exact ⟨0, by omega, rfl, HD.out⟩
  case round =>
    clear HD
    obtain ⟨i, hi, rfl, hd⟩ := hrel
    have HD := Lib.hid hd
    have x4 := hd.bx.cells.2.2.2.2
    clear hd
    by_cases hlt : i < h.tn
    · have q1 : (i : Int) < (h.tn : Int) := by omega
      have hlt' : i < h'.tn := by rw [HL.out]; exact hlt
      have q2 : (i : Int) < (h'.tn : Int) := by omega
      have him : i < t.kids.length := by omega
      obtain ⟨g, off, hta, _, _⟩ := (HP.out.1.below HD.out.b).place (by omega)
      obtain ⟨g', off', hta', _, _⟩ := (HP.out.2.below HD.out.b).place (by omega)
      have HTA := Lib.hid (And.intro hta hta')
      clear hta hta'
      go_upto_region 6 with fail
      clear x4
      refine wp_region_held_drew (S := (fun W => W.cell? ⟨w.heap.size, 4, none⟩ = some (.slice (some ⟨g, off, none⟩) h.tn h.tc) ∧ W.cell? ⟨(w.heap.size + 1), 4, none⟩ = some (.slice (some ⟨g', off', none⟩) h'.tn h'.tc) ∧ (W.cell? ⟨g, off + i * 5, none⟩ = some (.int .i64 (H i).k) ∧ W.cell? ⟨g, off + i * 5 + 1, none⟩ = some (.slice (H i).ka (H i).kn (H i).kc) ∧ W.cell? ⟨g, off + i * 5 + 2, none⟩ = some (.slice (H i).va (H i).vn (H i).vc) ∧ W.cell? ⟨g, off + i * 5 + 3, none⟩ = some (.slice (H i).da (H i).dn (H i).dc) ∧ W.cell? ⟨g, off + i * 5 + 4, none⟩ = some (.slice (H i).ta (H i).tn (H i).tc)) ∧ W.cell? ⟨g', off' + i * 5, none⟩ = some (.int .i64 (H' i).k) ∧ W.cell? ⟨g', off' + i * 5 + 1, none⟩ = some (.slice (H' i).ka (H' i).kn (H' i).kc) ∧ W.cell? ⟨g', off' + i * 5 + 2, none⟩ = some (.slice (H' i).va (H' i).vn (H' i).vc) ∧ W.cell? ⟨g', off' + i * 5 + 3, none⟩ = some (.slice (H' i).da (H' i).dn (H' i).dc) ∧ W.cell? ⟨g', off' + i * 5 + 4, none⟩ = some (.slice (H' i).ta (H' i).tn (H' i).tc))) (by kernel_rfl) ⟨(HD.out.drew.bx.cells.2.2.2.2).trans (by rw [HTA.out.1]), (HD.out.drew.by'.cells.2.2.2.2).trans (by rw [HTA.out.2]), (HP.out.1.below HD.out.drew.b).cellsAt HTA.out.1 i hlt, (HP.out.2.below HD.out.drew.b).cellsAt HTA.out.2 i hlt'⟩ (fun hHeld => ?_)
      refine take_w (i := 0) (oi := ?oZ1) (v := ?vZ1) ?hiZ1 (by kernel_rfl) (by kernel_rfl) (by kernel_rfl) ?hQZ1 ?hwZ1 ?hyZ1 (by assumption) ?restZ1
      case hiZ1 => (simp only [List.getElem?_toArray, List.getElem?_cons_zero] <;> rfl)
      case hQZ1 => exact (fun _ _ _ h => h)
      case hwZ1 => rfl
      case hyZ1 => (intro w hSw; (try dsimp only at hSw); go_simp; try with_reducible rfl)
      (try simp only [Act.put, List.setIfInBounds_toArray, List.set_cons_zero, List.set_cons_succ])
      refine take_w (i := 1) (oi := ?oZ2) (v := ?vZ2) ?hiZ2 (by kernel_rfl) (by kernel_rfl) (by kernel_rfl) ?hQZ2 ?hwZ2 ?hyZ2 (by assumption) ?restZ2
      case hiZ2 => (simp only [List.getElem?_toArray, List.getElem?_cons_succ, List.getElem?_cons_zero] <;> rfl)
      case hQZ2 => exact (fun _ _ _ h => h)
      case hwZ2 => rfl
      case hyZ2 => (intro w hSw; (try dsimp only at hSw); go_simp; try with_reducible rfl)
      (try simp only [Act.put, List.setIfInBounds_toArray, List.set_cons_zero, List.set_cons_succ])
      refine take_w (i := 2) (oi := ?oZ3) (v := ?vZ3) ?hiZ3 (by kernel_rfl) (by kernel_rfl) (by kernel_rfl) ?hQZ3 ?hwZ3 ?hyZ3 (by assumption) ?restZ3
      case hiZ3 => (simp only [List.getElem?_toArray, List.getElem?_cons_succ, List.getElem?_cons_zero] <;> rfl)
      case hQZ3 => exact (fun _ _ _ h => h)
      case hwZ3 => rfl
      case hyZ3 => (intro w hSw; (try dsimp only at hSw); go_simp; try with_reducible rfl)
      (try simp only [Act.put, List.setIfInBounds_toArray, List.set_cons_zero, List.set_cons_succ])
      refine take_w (i := 3) (oi := ?oZ4) (v := ?vZ4) ?hiZ4 (by kernel_rfl) (by kernel_rfl) (by kernel_rfl) ?hQZ4 ?hwZ4 ?hyZ4 (by assumption) ?restZ4
      case hiZ4 => (simp only [List.getElem?_toArray, List.getElem?_cons_succ, List.getElem?_cons_zero] <;> rfl)
      case hQZ4 => exact (fun _ _ _ h => h)
      case hwZ4 => rfl
      case hyZ4 => (intro w hSw; (try dsimp only at hSw); go_simp; try with_reducible rfl)
      (try simp only [Act.put, List.setIfInBounds_toArray, List.set_cons_zero, List.set_cons_succ])
      refine take_w (i := 4) (oi := ?oZ5) (v := ?vZ5) ?hiZ5 (by kernel_rfl) (by kernel_rfl) (by kernel_rfl) ?hQZ5 ?hwZ5 ?hyZ5 (by assumption) ?restZ5
      case hiZ5 => (simp only [List.getElem?_toArray, List.getElem?_cons_succ, List.getElem?_cons_zero] <;> rfl)
      case hQZ5 => exact (fun _ _ _ h => h)
      case hwZ5 => rfl
      case hyZ5 => (intro w hSw; (try dsimp only at hSw); go_simp; try with_reducible rfl)
      (try simp only [Act.put, List.setIfInBounds_toArray, List.set_cons_zero, List.set_cons_succ])
      refine take_w (i := 5) (oi := ?oZ6) (v := ?vZ6) ?hiZ6 (by kernel_rfl) (by kernel_rfl) (by kernel_rfl) ?hQZ6 ?hwZ6 ?hyZ6 (by assumption) ?restZ6
      case hiZ6 => (simp only [List.getElem?_toArray, List.getElem?_cons_succ, List.getElem?_cons_zero] <;> rfl)
      case hQZ6 => exact (fun _ _ _ h => h)
      case hwZ6 => rfl
      case hyZ6 => (intro w hSw; (try dsimp only at hSw); go_simp; try with_reducible rfl)
      (try simp only [Act.put, List.setIfInBounds_toArray, List.set_cons_zero, List.set_cons_succ])
      refine take_w (i := 6) (oi := ?oZ7) (v := ?vZ7) ?hiZ7 (by kernel_rfl) (by kernel_rfl) (by kernel_rfl) ?hQZ7 ?hwZ7 ?hyZ7 (by assumption) ?restZ7
      case hiZ7 => (simp only [List.getElem?_toArray, List.getElem?_cons_succ, List.getElem?_cons_zero] <;> rfl)
      case hQZ7 => exact (fun _ _ _ h => h)
      case hwZ7 => rfl
      case hyZ7 => (intro w hSw; (try dsimp only at hSw); go_simp; try with_reducible rfl)
      (try simp only [Act.put, List.setIfInBounds_toArray, List.set_cons_zero, List.set_cons_succ])
      refine take_w (i := 7) (oi := ?oZ8) (v := ?vZ8) ?hiZ8 (by kernel_rfl) (by kernel_rfl) (by kernel_rfl) ?hQZ8 ?hwZ8 ?hyZ8 (by assumption) ?restZ8
      case hiZ8 => (simp only [List.getElem?_toArray, List.getElem?_cons_succ, List.getElem?_cons_zero] <;> rfl)
      case hQZ8 => exact (fun _ _ _ h => h)
      case hwZ8 => rfl
      case hyZ8 => (intro w hSw; (try dsimp only at hSw); go_simp; try with_reducible rfl)
      (try simp only [Act.put, List.setIfInBounds_toArray, List.set_cons_zero, List.set_cons_succ])
      refine take_w (i := 8) (oi := ?oZ9) (v := ?vZ9) ?hiZ9 (by kernel_rfl) (by kernel_rfl) (by kernel_rfl) ?hQZ9 ?hwZ9 ?hyZ9 (by assumption) ?restZ9
      case hiZ9 => (simp only [List.getElem?_toArray, List.getElem?_cons_succ, List.getElem?_cons_zero] <;> rfl)
      case hQZ9 => exact (fun _ _ _ h => h)
      case hwZ9 => rfl
      case hyZ9 => (intro w hSw; (try dsimp only at hSw); go_simp; try with_reducible rfl)
      (try simp only [Act.put, List.setIfInBounds_toArray, List.set_cons_zero, List.set_cons_succ])
      refine take_w (i := 9) (oi := ?oZ10) (v := ?vZ10) ?hiZ10 (by kernel_rfl) (by kernel_rfl) (by kernel_rfl) ?hQZ10 ?hwZ10 ?hyZ10 (by assumption) ?restZ10
      case hiZ10 => (simp only [List.getElem?_toArray, List.getElem?_cons_succ, List.getElem?_cons_zero] <;> rfl)
      case hQZ10 => exact (fun _ _ _ h => h)
      case hwZ10 => rfl
      case hyZ10 => (intro w hSw; (try dsimp only at hSw); go_simp; try with_reducible rfl)
      (try simp only [Act.put, List.setIfInBounds_toArray, List.set_cons_zero, List.set_cons_succ])
      refine wpAnyH_ready (rs := [10]) (by kernel_rfl) (by simp) ?_
      refine AllReadyH.cons (o := ?oZ11) ?hiZ11 (fun K hK => ?stZ11) AllReadyH.nil
      case hiZ11 => (simp only [List.getElem?_toArray, List.getElem?_cons_succ, List.getElem?_cons_zero] <;> rfl)
      go_simp
      go_at_call 14
      refine (IH.out _ (List.getElem_mem him) (H i) (H' i) _ ((HP.out.1.below HD.out.drew.b).kids i him) ((HP.out.2.below HD.out.drew.b).kids i him)).mono ?_
      rintro _ w1 ⟨rfl, hb1⟩
      have HD1 := Lib.hid (HD.out.drew.below hb1)
      clear hb1
      go_simp
      refine hK.out _ _ ?_ (fun hHeld => ?_)
      · (first | exact ⟨(HD1.out.bx.cells.2.2.2.2).trans (by rw [HTA.out.1]), (HD1.out.by'.cells.2.2.2.2).trans (by rw [HTA.out.2]), (HP.out.1.below HD1.out.b).cellsAt HTA.out.1 i hlt, (HP.out.2.below HD1.out.b).cellsAt HTA.out.2 i hlt'⟩ | exact ⟨(HD.out.drew.bx.cells.2.2.2.2).trans (by rw [HTA.out.1]), (HD.out.drew.by'.cells.2.2.2.2).trans (by rw [HTA.out.2]), (HP.out.1.below HD.out.drew.b).cellsAt HTA.out.1 i hlt, (HP.out.2.below HD.out.drew.b).cellsAt HTA.out.2 i hlt'⟩)
      clear hK K
      (try simp only [Act.put, List.setIfInBounds_toArray, List.set_cons_zero, List.set_cons_succ])
      refine take_w (i := 11) (oi := ?oZ12) (v := ?vZ12) ?hiZ12 (by kernel_rfl) (by kernel_rfl) (by kernel_rfl) ?hQZ12 ?hwZ12 ?hyZ12 (by assumption) ?restZ12
      case hiZ12 => (simp only [List.getElem?_toArray, List.getElem?_cons_succ, List.getElem?_cons_zero] <;> rfl)
      case hQZ12 => exact (fun _ _ _ h => h)
      case hwZ12 => rfl
      case hyZ12 => (intro w hSw; (try dsimp only at hSw); go_simp; try with_reducible rfl)
      (try simp only [Act.put, List.setIfInBounds_toArray, List.set_cons_zero, List.set_cons_succ])
      refine wpAnyH_done (by kernel_rfl) ?_ _
      
      clear hHeld
      go_wp2_with fail
      exact ⟨⟨i + 1, by omega, by go_num, HD1.out⟩, by simp [intOf]; omega⟩
    · obtain rfl : i = h.tn := by omega
      have q1 : ¬ (h.tn : Int) < (h.tn : Int) := by omega
      go_wp2_with fail
      go_ret
      exact ⟨rfl, HD.out.b⟩
end Go.Proofs.Ytagmeljjkblpbaa

/- The walk of the law CodeBack (under way). -/
namespace Go.Proofs.Ytagmeljjkblpbaa
open Go.RowKit
set_option linter.unusedVariables false

/-- What was read of few bytes is written as those bytes. -/
theorem back_bytes {s : List Int} (hb : Bytes8 s) (h : (readX s).1 = 0) : writeX (readX s).2.tr = (0, s) := (write_read hb h).1
set_option maxRecDepth 100000 in
set_option maxHeartbeats 8000000 in
theorem codeBack_law (t : Tr) (h : TH) (m : Int) (a : Option Addr) (n c : Nat) (bs : List Int) (w : World) (ht : InTree w h t) (hm : 0 ≤ m ∧ m ≤ 255) (hin : InBytes w a n c bs) : Calls Try.prog 5 #[h.v, .int .u8 m, .slice a n c] w (Says w (.bool true)) := by
  unfold TH.v
  have HD := Lib.hid (BW.new w ht)
  have HI := Lib.hid hin
  have HBN := Lib.hid hin.len
  have HB8 := Lib.hid hin.bytes
  obtain ⟨u, hu⟩ : ∃ u, readX bs = u := ⟨_, rfl⟩
  have HU := Lib.hid hu
  obtain ⟨v, hv⟩ : ∃ v, writeX u.2.tr = v := ⟨_, rfl⟩
  have HV := Lib.hid hv
  have HUV : Hid (u.1 = 0 → v = (0, bs)) := Lib.hid (fun e => by rw [← hv, ← hu]; exact back_bytes hin.bytes (by rw [hu]; exact e))
  have HUC : Hid (countT u.2.tr ≤ n + 1) := Lib.hid (by have q := count_read hin.bytes; rw [hu, hin.len] at q; exact q)
  obtain ⟨x, hx⟩ : ∃ x, writeX t = x := ⟨_, rfl⟩
  have HX := Lib.hid hx
  clear ht hin hu hv hx
  go_enter Try.func5, Try.ntmps5
  go_upto_region 1 with fail
  generalize (w.alloc (.cells #[.int .i64 h.k, .slice h.ka h.kn h.kc, .slice h.va h.vn h.vc, .slice h.da h.dn h.dc, .slice h.ta h.tn h.tc] 25)) = w0 at *
  go_upto_region 3 with (first
    | (go_at_call 7
       refine (up10_any _).mono ?_
       rintro _ w1 ⟨rfl, hb1⟩
       have HD1 := Lib.hid (HD.out.below hb1)
       obtain ⟨x0, x1, x2, x3, x4⟩ := HD1.out.box.cells
       clear hb1)
    | (go_at_call 8
       refine (small10_any t h _ HD1.out.ti).mono ?_
       rintro _ w2 ⟨b, rfl, hok, hb2⟩
       have HD2 := Lib.hid (HD1.out.below hb2)
       have HOK := Lib.hid hok
       clear hb2 hok x0 x1 x2 x3 x4))
  cases b with
  | false =>
    go_wp2_with fail
    go_ret
    exact ⟨rfl, HD2.out.b⟩
  | true =>
  have hcn : countT t ≤ 300 := (HOK.out rfl).2
  clear HOK
  by_cases h5 : 5000 < n
  · have q5 : (5000 : Int) < (n : Int) := by omega
    go_wp2_with fail
    go_ret
    exact ⟨rfl, HD2.out.b⟩
  have q5 : ¬ (5000 : Int) < (n : Int) := by omega
  go_upto_region 7 with (first
    | (go_at_call 12
       refine (cread_any a n c bs _ (HI.out.below HD2.out.b) (by omega)).mono ?_
       unfold ReadTold TH.v
       rw [HU.out]
       rintro _ w3 ⟨h3, rfl, hf3, hb3⟩
       have HT3 := Lib.hid ((hf3 _ (Nat.le_refl _) (fun _ _ _ => rfl)).lower ((Below.refl w3.heap.size w3).alloc (Nat.le_refl _) (.cells #[.int .i64 h3.k, .slice h3.ka h3.kn h3.kc, .slice h3.va h3.vn h3.vc, .slice h3.da h3.dn h3.dc, .slice h3.ta h3.tn h3.tc] 25)))
       have HX3 := Lib.hid (Box.new w3 25 h3)
       have HD3 := Lib.hid ((HD2.out.below hb3).below ((Below.refl w3.heap.size w3).alloc (Nat.le_refl _) (.cells #[.int .i64 h3.k, .slice h3.ka h3.kn h3.kc, .slice h3.va h3.vn h3.vc, .slice h3.da h3.dn h3.dc, .slice h3.ta h3.tn h3.tc] 25)))
       obtain ⟨y0, y1, y2, y3, y4⟩ := HX3.out.cells
       clear hf3 hb3)
    | (go_at_call 9
       refine (cwrite_any u.2.tr h3 _ HT3.out (by have q := HUC.out; omega)).mono ?_
       unfold WriteTold
       rw [HV.out]
       rintro _ w4 ⟨a4, n4, c4, rfl, hf4, hb4⟩
       have HI4 := Lib.hid (hf4 _ (Nat.le_refl _) (fun _ _ _ => rfl))
       have HD4 := Lib.hid (HD3.out.below hb4)
       clear hf4 hb4))
  generalize w3.heap.size = L3 at *
  clear HX3 y0 y1 y2 y3 y4 HT3
  have HI5 := Lib.hid (HI.out.below HD4.out.b)
  obtain ⟨x0, x1, x2, x3, x4⟩ := HD4.out.box.cells
  have cv1 := conv_key HI4.out
  have cv2 := conv_key HI5.out
  by_cases hu0 : u.1 = 0
  case' pos =>
    have HVE := Lib.hid (HUV.out hu0)
    have hcu : codeV u.1 = .nilIface := by rw [hu0]; rfl
    have hcv : codeV v.1 = .nilIface := by rw [HVE.out]; rfl
    rw [HVE.out] at cv1
    have hq1 : ((strOfNums bs).toList == (strOfNums bs).toList) = true := by simp
    clear hu0
    go_upto_region 9 with fail
    clear hq1 hcu hcv HVE
  case' neg =>
    have hcu : codeV u.1 = .iface 41 (.int .i64 u.1) := codeV_pos hu0
    go_upto_region 9 with fail
    clear hcu hu0
  all_goals
    clear cv1 cv2
    clear HUV HUC HU HV HI4 HI5
    go_upto_region 10 with (first
      | (go_at_call 9
         refine (cwrite_any t h _ HD4.out.ti (by omega)).mono ?_
         unfold WriteTold
         rw [HX.out]
         rintro _ w6 ⟨a6, n6, c6, rfl, hf6, hb6⟩
         have HI6 := Lib.hid (hf6 _ (Nat.le_refl _) (fun _ _ _ => rfl))
         have HD6 := Lib.hid (HD4.out.below hb6)
         clear hf6 hb6 x0 x1 x2 x3 x4))
    by_cases hx0 : x.1 = 0
    case neg =>
      have hcx : codeV x.1 = .iface 41 (.int .i64 x.1) := codeV_pos hx0
      go_wp2_with fail
      go_ret
      exact ⟨rfl, HD6.out.b⟩
    have HXZ : Hid ((writeX t).1 = 0) := Lib.hid (by rw [HX.out]; exact hx0)
    have hcx : codeV x.1 = .nilIface := by rw [hx0]; rfl
    clear hx0
    have HBT := Lib.hid (back_tree HXZ.out)
    have HX8 : Hid (Bytes8 (writeX t).2) := Lib.hid (by rw [HX.out]; exact HI6.out.bytes)
    have HLM := Lib.hid (less_more HXZ.out HX8.out m)
    have HN6 : Hid (n6 = x.2.length) := Lib.hid HI6.out.len.symm
    have hn6 : 1 ≤ n6 ∧ n6 ≤ 600000 := by
      have q0 := HLM.out.1
      obtain ⟨-, p, e1, e2, -, e3⟩ := read_write HXZ.out
      rw [e3] at q0
      have q2 := code_len p e2
      rw [← e1] at q2
      have q3 : x.2 = codeP p := by rw [← HX.out, e3]
      rw [HN6.out, q3]
      refine ⟨List.length_pos_iff.2 q0, by omega⟩
    have HR6 : Hid (readX x.2 = (0, toP t)) := Lib.hid (by have q := HBT.out.1; rw [HX.out] at q; exact q)
    have hn0 : ((n6 : Int) == 0) = false := by simp; omega
    go_upto_region 15 with (first
      | (go_at_call 12
         refine (cread_any a6 n6 c6 x.2 _ HI6.out (by omega)).mono ?_
         unfold ReadTold TH.v
         rw [HR6.out]
         rintro _ w7 ⟨h7, rfl, hf7, hb7⟩
         have e0 : codeV ((0, toP t) : Nat × PT).1 = .nilIface := rfl
         rw [e0]
         have HT7 : Hid (InTree (w7.alloc (.cells #[.int .i64 h7.k, .slice h7.ka h7.kn h7.kc, .slice h7.va h7.vn h7.vc, .slice h7.da h7.dn h7.dc, .slice h7.ta h7.tn h7.tc] 25)) h7 t) := Lib.hid (by have q := (hf7 _ (Nat.le_refl _) (fun _ _ _ => rfl)).lower ((Below.refl w7.heap.size w7).alloc (Nat.le_refl _) (.cells #[.int .i64 h7.k, .slice h7.ka h7.kn h7.kc, .slice h7.va h7.vn h7.vc, .slice h7.da h7.dn h7.dc, .slice h7.ta h7.tn h7.tc] 25)); rw [HBT.out.2] at q; exact q)
         have HX7 := Lib.hid (Box.new w7 25 h7)
         have HD7 := Lib.hid ((HD6.out.below hb7).below ((Below.refl w7.heap.size w7).alloc (Nat.le_refl _) (.cells #[.int .i64 h7.k, .slice h7.ka h7.kn h7.kc, .slice h7.va h7.vn h7.vc, .slice h7.da h7.dn h7.dc, .slice h7.ta h7.tn h7.tc] 25)))
         have HI7 := Lib.hid ((HI6.out.below hb7).below ((Below.refl w7.heap.size w7).alloc (Nat.le_refl _) (.cells #[.int .i64 h7.k, .slice h7.ka h7.kn h7.kc, .slice h7.va h7.vn h7.vc, .slice h7.da h7.dn h7.dc, .slice h7.ta h7.tn h7.tc] 25)))
         clear hf7 hb7 e0))
    generalize (w7.alloc (.cells #[.int .i64 h7.k, .slice h7.ka h7.kn h7.kc, .slice h7.va h7.vn h7.vc, .slice h7.da h7.dn h7.dc, .slice h7.ta h7.tn h7.tc] 25)) = w8 at *
    generalize w7.heap.size = L7 at *
    obtain ⟨g6, off6, ea6, -, -⟩ := HI7.out.place (by omega)
    subst ea6
    have hle6 := HI7.out.le
    have hmx6 := HI7.out.max
    simp only [maxLen] at hmx6
    have hw6 : IntKind.i64.wrap ((n6 : Int) - 1) = (n6 : Int) - 1 := IntWalk.i64_in _ (by omega)
    have hk6 : ((n6 - 1 : Nat) : Int) = (n6 : Int) - 1 := by omega
    rw [← hk6] at hw6
    have HL3 : Hid ((readX (x.2.take (n6 - 1))).1 = 3) := Lib.hid (by have q := HLM.out.2.1; rw [HX.out, ← HN6.out] at q; exact q)
    have HL4 : Hid ((readX (x.2 ++ [m])).1 = 4) := Lib.hid (by have q := HLM.out.2.2; rw [HX.out] at q; exact q)
    have HI8 := Lib.hid (HI7.out.upto (n6 - 1) (by omega))
    go_upto_region 16 with (first
      | (go_at_call 12
         refine (cread_any _ (n6 - 1) c6 (x.2.take (n6 - 1)) _ HI8.out (by omega)).mono ?_
         unfold ReadTold TH.v
         rintro _ w9 ⟨h9, rfl, -, hb9⟩
         have e0 : codeV (readX (x.2.take (n6 - 1))).1 = .iface 41 (.int .i64 3) := by rw [HL3.out]; rfl
         rw [e0]
         have hba : Below w8.heap.size w8 (w9.alloc (.cells #[.int .i64 h9.k, .slice h9.ka h9.kn h9.kc, .slice h9.va h9.vn h9.vc, .slice h9.da h9.dn h9.dc, .slice h9.ta h9.tn h9.tc] 25)) := hb9.trans (((Below.refl w9.heap.size w9).alloc (Nat.le_refl _) (.cells #[.int .i64 h9.k, .slice h9.ka h9.kn h9.kc, .slice h9.va h9.vn h9.vc, .slice h9.da h9.dn h9.dc, .slice h9.ta h9.tn h9.tc] 25)).mono hb9.size)
         have HD10 := Lib.hid (HD7.out.below hba)
         have HI10 := Lib.hid (HI7.out.below hba)
         have HT10 := Lib.hid (HT7.out.lower hba)
         have HX10 := Lib.hid (HX7.out.below hba HX7.out.lt)
         clear hb9 e0 hba))
    generalize (w9.alloc (.cells #[.int .i64 h9.k, .slice h9.ka h9.kn h9.kc, .slice h9.va h9.vn h9.vc, .slice h9.da h9.dn h9.dc, .slice h9.ta h9.tn h9.tc] 25)) = w10 at *
    generalize w9.heap.size = L9 at *
    clear HI7 HI8 HT7 HX7 HD7
    obtain ⟨i0, hi0, hz0, hz1, hz2⟩ := info_parts infoU8
    go_upto_region 17 with (first
      | (at_builtin
         refine wpList_append_bytes' _ rfl (.tmp 85) (.tmp 86) 22 rfl w10.heap.size 5 i0 _ 1 Try.underlying22 hi0 hz0 hz1 hz2 rfl w10.heap.size 0 0 [] rfl (own_new w10 5 .u8 [] w10.heap.size (Nat.le_refl _) (by simp [maxLen])) (some ⟨g6, off6, none⟩) n6 c6 x.2 rfl (HI10.out.below ((Below.refl _ _).alloc (Nat.le_refl _) _)) (by simp only [maxLen]; omega) (by omega) (by simp) ?_
         intro g11 c11 w11 hown11 hg11
         have HB11 : Hid (Below w10.heap.size w10 w11) := Lib.hid (((Below.refl w10.heap.size w10).alloc (Nat.le_refl _) _).grown hg11 (by simp) (fun j hj => by injection hj; omega))
         have HR11 : Hid (w11.ownsRow w10.heap.size 5 1 (.slice (some ⟨g11, 0, none⟩) n6 c11) n6 (x.2.map (Value.int .u8))) := Lib.hid (by
           have q := own_app2 (xs := []) (ys := x.2) hown11
           rw [Nat.zero_add, List.nil_append] at q
           exact q)
         clear hown11 hg11
         rw [Nat.zero_add])
      | (at_builtin
         refine wpList_append_bytes' _ rfl (.tmp 87) (.tmp 89) 22 rfl w10.heap.size 5 i0 _ 1 Try.underlying22 hi0 hz0 hz1 hz2 rfl g11 n6 c11 (x.2.map (Value.int .u8)) rfl (own_keep HR11.out ((Below.refl w11.heap.size w11).alloc (Nat.le_refl _) _)) (some ⟨w11.heap.size, 0, none⟩) 1 1 [m] rfl (in_one (heap_alloc_new w11 (.cells #[.int .u8 m] 5)) hm.1 hm.2) (by simp only [maxLen]; omega) (by omega) (Nat.le_trans HB11.out.size (by simp)) ?_
         intro g13 c13 w13 hown13 hg13
         have HB13 : Hid (Below w10.heap.size w10 w13) := Lib.hid ((HB11.out.trans (((Below.refl w11.heap.size w11).alloc (Nat.le_refl _) _).mono HB11.out.size)).grown hg13 (Nat.le_trans HB11.out.size (by simp)) (fun j hj => by injection hj with hj; have q := (HR11.out.lt g11 rfl).1; omega))
         have HI13 := Lib.hid (own_in (zs := x.2 ++ [m]) (own_app2 (xs := x.2) (ys := [m]) hown13) (fun z hz => by
           rcases List.mem_append.1 hz with hz | hz
           · exact HI10.out.bytes z hz
           · rcases List.mem_cons.1 hz with rfl | hz
             · exact hm
             · cases hz))
         clear hown13 hg13)
      | (go_at_call 12
         refine (cread_any _ _ _ (x.2 ++ [m]) _ HI13.out (by omega)).mono ?_
         unfold ReadTold TH.v
         rintro _ w14 ⟨h14, rfl, -, hb14⟩
         have e0 : codeV (readX (x.2 ++ [m])).1 = .iface 41 (.int .i64 4) := by rw [HL4.out]; rfl
         rw [e0]
         have hba : Below w10.heap.size w10 (w14.alloc (.cells #[.int .i64 h14.k, .slice h14.ka h14.kn h14.kc, .slice h14.va h14.vn h14.vc, .slice h14.da h14.dn h14.dc, .slice h14.ta h14.tn h14.tc] 25)) := (HB13.out.trans (hb14.mono HB13.out.size)).trans (((Below.refl w14.heap.size w14).alloc (Nat.le_refl _) (.cells #[.int .i64 h14.k, .slice h14.ka h14.kn h14.kc, .slice h14.va h14.vn h14.vc, .slice h14.da h14.dn h14.dc, .slice h14.ta h14.tn h14.tc] 25)).mono (HB13.out.trans (hb14.mono HB13.out.size)).size)
         have HD15 := Lib.hid (HD10.out.below hba)
         have HT15 := Lib.hid (HT10.out.lower hba)
         have HX15 := Lib.hid (HX10.out.below hba HX10.out.lt)
         clear hb14 e0 hba))
    generalize (w14.alloc (.cells #[.int .i64 h14.k, .slice h14.ka h14.kn h14.kc, .slice h14.va h14.vn h14.vc, .slice h14.da h14.dn h14.dc, .slice h14.ta h14.tn h14.tc] 25)) = w15 at *
    generalize w14.heap.size = L14 at *
    obtain ⟨x0, x1, x2, x3, x4⟩ := HD15.out.box.cells
    obtain ⟨y0, y1, y2, y3, y4⟩ := HX15.out.cells
    have heq : ∀ (W : World) (p q : Int), (binOp .eql 29 (.iface 41 (.int .i64 p)) (.iface 41 (.int .i64 q))).run Try.prog W = .ok (.bool (p == q)) W := fun W p q => eql_code p q W
    clear hi0 hz0 hz1 hz2 hw6 hk6 hle6 hmx6 hn6 hn0 hcx
    go_wp2_with (first
      | (go_at_call 14
         refine (refSame_any t h7 h _ HT15.out HD15.out.ti).mono ?_
         rintro _ w16 ⟨rfl, hb16⟩
         have HD16 := Lib.hid (HD15.out.below hb16)
         clear hb16 x0 x1 x2 x3 x4 y0 y1 y2 y3 y4))
    go_ret
    exact ⟨rfl, HD16.out.b⟩
end Go.Proofs.Ytagmeljjkblpbaa

/- A tree that is an argument is one that lies in memory. No program is named here. -/
namespace Go.Proofs.Ytagmeljjkblpbaa
open Go.ChangeShapes Go.WideShapes Go.RowKit Go.Deep
set_option linter.unusedVariables false

section
variable {H : Type} {enc : TypeId × Value → H} {P : Program} {w : World} {base : Nat} {spare : Nat → Bool} {held : Bool}
/-- A slice that came in: its cells, and that each element is read with less fuel. -/
theorem open_slF {t e : TypeId} {a : Option Addr} {n cap sz fuel : Nat} {x : DataW H × List MemPlace}
    (hu : P.underlying t = some (.slice e)) (hc : P.cellsOf e = sz) (hsz : 0 < sz)
    (h : DataW.trod enc P w base spare held fuel t [.slice a n cap] = some x) :
    ∃ V, InSl w a n cap sz V ∧ ∀ i, i < n → ∃ m x, m < fuel ∧ DataW.trod enc P w base spare held m e ((List.range sz).map fun j => V (i * sz + j)) = some x := by
  rcases DataW.trod_slice hu h with ⟨hcs, _⟩ | ⟨ad, len, cp, elems, rest, m, hfm, hcs, _, hb, hl, hm, hlen, hel, _, _⟩
  · simp at hcs
    obtain ⟨rfl, rfl, rfl⟩ := hcs
    exact ⟨fun _ => .nilIface, ⟨Nat.le_refl _, by simp [maxLen], fun _ => rfl, fun h => by omega⟩, fun i hi => by omega⟩
  · simp at hcs
    obtain ⟨rfl, rfl, rfl⟩ := hcs
    rw [hc] at hel
    have hx : ∀ i, i < n → ∃ cs', w.cells? base (ad.add (i * sz)) sz = some cs' ∧ ∃ y, DataW.trod enc P w base spare held m e cs' = some y := by
      intro i hi
      have h1 := hel i hi
      rw [List.getElem?_eq_getElem (by omega)] at h1
      obtain ⟨cs', h2, h3⟩ := Option.bind_eq_some_iff.1 h1
      exact ⟨cs', h2, _, h3⟩
    by_cases h0 : 0 < n
    · obtain ⟨g, off, spot⟩ := ad
      have hspot : spot = none := by
        obtain ⟨cs', h1, _⟩ := hx 0 (by omega)
        obtain ⟨_, hlen', hcc⟩ := World.cells?_some h1
        have h2 := hcc 0 hsz
        rw [List.getElem?_eq_getElem (by omega)] at h2
        simpa [Addr.add] using World.cell?_spot h2
      subst hspot
      have hadd : ∀ k, (⟨g, off, none⟩ : Addr).add k = ⟨g, off + k, none⟩ := fun k => by unfold Addr.add; split <;> simp_all
      have hadd2 : ∀ k j, ((⟨g, off, none⟩ : Addr).add k).add j = ⟨g, off + (k + j), none⟩ := fun k j => by
        rw [hadd k]
        unfold Addr.add
        split <;> simp_all
        omega
      have hcs : ∀ i, i < n → ∃ cs', cs'.length = sz ∧ (∀ j, j < sz → w.cell? ⟨g, off + (i * sz + j), none⟩ = cs'[j]?) ∧ ∃ y, DataW.trod enc P w base spare held m e cs' = some y := by
        intro i hi
        obtain ⟨cs', h1, h2⟩ := hx i hi
        obtain ⟨_, hlen', hcc⟩ := World.cells?_some h1
        exact ⟨cs', hlen', fun j hj => by have := hcc j hj; rwa [hadd2] at this, h2⟩
      refine ⟨fun i => (w.cell? ⟨g, off + i, none⟩).getD .nilIface, ⟨hl, hm, (fun h => by cases h), fun _ => ⟨g, off, rfl, ?_, fun i hi => ?_⟩⟩, fun i hi => ?_⟩
      · obtain ⟨cs', hlen', hcc, _⟩ := hcs 0 h0
        have h2 := hcc 0 hsz
        rw [List.getElem?_eq_getElem (by omega)] at h2
        exact World.block_lt_of_cell? w _ h2
      · obtain ⟨cs', hlen', hcc, _⟩ := hcs (i / sz) (Nat.div_lt_of_lt_mul (by rw [Nat.mul_comm]; exact hi))
        have h2 := hcc (i % sz) (Nat.mod_lt _ hsz)
        rw [show i / sz * sz + i % sz = i by rw [Nat.mul_comm]; exact Nat.div_add_mod i sz] at h2
        have h3 := Nat.mod_lt i hsz
        rw [List.getElem?_eq_getElem (by omega)] at h2
        simp only [h2, Option.getD_some]
      · obtain ⟨cs', hlen', hcc, y, ht⟩ := hcs i hi
        refine ⟨m, y, by omega, ?_⟩
        have e : ((List.range sz).map fun j => (w.cell? ⟨g, off + (i * sz + j), none⟩).getD .nilIface) = cs' := by
          apply List.ext_getElem
          · simp [hlen']
          · intro j h1 h2
            simp only [List.getElem_map, List.getElem_range]
            rw [hcc j (by omega), List.getElem?_eq_getElem h2]
            rfl
        rw [e]
        exact ht
    · obtain rfl : n = 0 := by omega
      exact ⟨fun _ => .nilIface, ⟨hl, hm, (fun h => by cases h), fun h => by omega⟩, fun i hi => by omega⟩

theorem slice_form {t e : TypeId} {fuel : Nat} {v : Value} {x : DataW H × List MemPlace} (hu : P.underlying t = some (.slice e)) (h : DataW.trod enc P w base spare held fuel t [v] = some x) : ∃ a n c, v = .slice a n c := by
  rcases DataW.trod_slice hu h with ⟨h1, _⟩ | ⟨a', l', c', _, _, _, _, h1, _⟩
  · simp at h1; exact ⟨_, _, _, h1⟩
  · simp at h1; exact ⟨_, _, _, h1⟩

theorem trod_tree {T B : TypeId} {f0 f1 f2 f3 f4 : Field} (he : P.underlying T = some (.struct #[f0, f1, f2, f3, f4])) (hc : P.cellsOf T = 5)
    (o0 : f0.offset = 0) (o1 : f1.offset = 1) (o2 : f2.offset = 2) (o3 : f3.offset = 3) (o4 : f4.offset = 4)
    (c0 : P.cellsOf f0.type = 1) (c1 : P.cellsOf f1.type = 1) (c2 : P.cellsOf f2.type = 1) (c3 : P.cellsOf f3.type = 1) (c4 : P.cellsOf f4.type = 1)
    (u0 : P.underlying f0.type = some (.int .i64)) (u1 : P.underlying f1.type = some (.slice B)) (u2 : P.underlying f2.type = some (.slice B)) (u3 : P.underlying f3.type = some (.slice B)) (u4 : P.underlying f4.type = some (.slice T))
    (hB : P.underlying B = some (.int .u8)) (hcB : P.cellsOf B = 1) (fuel : Nat) :
    ∀ (cs : List Value) (x : DataW H × List MemPlace), DataW.trod enc P w base spare held fuel T cs = some x → ∃ (hd : TH) (t : Tr), cs = hd.cells ∧ InTree w hd t := by
  induction fuel using Nat.strongRecOn with
  | ind fuel ih =>
  intro cs x hx
  obtain ⟨xs, n, hn, _, hl, hxl, hf⟩ := DataW.trod_struct he hx
  rw [hc] at hl
  obtain ⟨v0, v1, v2, v3, v4, rfl⟩ : ∃ v0 v1 v2 v3 v4, cs = [v0, v1, v2, v3, v4] := by
    rcases cs with _ | ⟨v0, _ | ⟨v1, _ | ⟨v2, _ | ⟨v3, _ | ⟨v4, _ | ⟨y, r⟩⟩⟩⟩⟩⟩ <;> simp at hl
    exact ⟨_, _, _, _, _, rfl⟩
  have hxs : xs.length = 5 := by simpa using hxl
  have g0 := hf 0 f0 rfl
  have g1 := hf 1 f1 rfl
  have g2 := hf 2 f2 rfl
  have g3 := hf 3 f3 rfl
  have g4 := hf 4 f4 rfl
  rw [o0, c0, List.getElem?_eq_getElem (by omega)] at g0
  rw [o1, c1, List.getElem?_eq_getElem (by omega)] at g1
  rw [o2, c2, List.getElem?_eq_getElem (by omega)] at g2
  rw [o3, c3, List.getElem?_eq_getElem (by omega)] at g3
  rw [o4, c4, List.getElem?_eq_getElem (by omega)] at g4
  replace g0 : DataW.trod enc P w base spare held n f0.type [v0] = some xs[0] := g0
  replace g1 : DataW.trod enc P w base spare held n f1.type [v1] = some xs[1] := g1
  replace g2 : DataW.trod enc P w base spare held n f2.type [v2] = some xs[2] := g2
  replace g3 : DataW.trod enc P w base spare held n f3.type [v3] = some xs[3] := g3
  replace g4 : DataW.trod enc P w base spare held n f4.type [v4] = some xs[4] := g4
  obtain ⟨k, e0, _, hwf⟩ := DataW.trod_int u0 g0
  obtain ⟨a1, n1, k1, rfl⟩ := slice_form u1 g1
  obtain ⟨a2, n2, k2, rfl⟩ := slice_form u2 g2
  obtain ⟨a3, n3, k3, rfl⟩ := slice_form u3 g3
  obtain ⟨a4, n4, k4, rfl⟩ := slice_form u4 g4
  obtain ⟨key, hkey⟩ := open_bytes (d := xs[1].1) (p := xs[1].2) u1 hB hcB ⟨n, g1⟩
  obtain ⟨val, hval⟩ := open_bytes (d := xs[2].1) (p := xs[2].2) u2 hB hcB ⟨n, g2⟩
  obtain ⟨dig, hdig⟩ := open_bytes (d := xs[3].1) (p := xs[3].2) u3 hB hcB ⟨n, g3⟩
  obtain ⟨V, hsl, hV⟩ := open_slF u4 hc (by omega) g4
  have hq : ∀ i, i < n4 → ∃ q : TH × Tr, ((List.range 5).map fun j => V (i * 5 + j)) = q.1.cells ∧ InTree w q.1 q.2 := by
    intro i hi
    obtain ⟨m, y, hm, hy⟩ := hV i hi
    obtain ⟨hd, t, h1, h2⟩ := ih m (by omega) _ _ hy
    exact ⟨(hd, t), h1, h2⟩
  have hnil : ∃ q : TH × Tr, True := ⟨(⟨0, none, 0, 0, none, 0, 0, none, 0, 0, none, 0, 0⟩, .mk 0 [] [] [] []), trivial⟩
  obtain ⟨Q, hQ⟩ : ∃ Q : Nat → TH × Tr, ∀ i, i < n4 → ((List.range 5).map fun j => V (i * 5 + j)) = (Q i).1.cells ∧ InTree w (Q i).1 (Q i).2 := by
    refine ⟨fun i => if hi : i < n4 then (hq i hi).choose else hnil.choose, fun i hi => ?_⟩
    simp only [hi, dif_pos]
    exact (hq i hi).choose_spec
  have hb := bounds_i64 hwf
  simp at e0
  refine ⟨⟨k, a1, n1, k1, a2, n2, k2, a3, n3, k3, a4, n4, k4⟩, .mk k key val dig ((List.range n4).map fun i => (Q i).2), by rw [e0]; rfl, ?_⟩
  refine .mk _ _ (fun i => (Q i).1) rfl hb.1 hb.2 hkey hval hdig ⟨hsl.le, hsl.max, hsl.nil, fun h0 => ?_⟩ (by simp [Tr.kids]) fun i hi => ?_
  · obtain ⟨g, off, e1, hg, hcc⟩ := hsl.place h0
    refine ⟨g, off, e1, hg, fun i hi => ?_⟩
    rw [hcc i hi]
    have h5 := (hQ (i / 5) (by dsimp only at hi; omega)).1
    have h6 : ((List.range 5).map fun j => V (i / 5 * 5 + j)).getD (i % 5) .nilIface = ((Q (i / 5)).1.cells).getD (i % 5) .nilIface := by rw [h5]
    have h7 : i % 5 < 5 := by omega
    have h8 : ((List.range 5).map fun j => V (i / 5 * 5 + j)).getD (i % 5) .nilIface = V (i / 5 * 5 + i % 5) := by
      simp [List.getD, h7]
    rw [h8, show i / 5 * 5 + i % 5 = i by omega] at h6
    rw [h6]
    rfl
  · simp only [Tr.kids, List.length_map, List.length_range] at hi
    simp only [Tr.kids, List.getElem_map, List.getElem_range]
    exact (hQ i hi).2
end
end Go.Proofs.Ytagmeljjkblpbaa

/- A tree that is an argument of the program. -/
namespace Go.Proofs.Ytagmeljjkblpbaa
open Go.ChangeShapes Go.WideShapes Go.RowKit Go.Deep
set_option linter.unusedVariables false

set_option maxRecDepth 100000 in
theorem open_tree {H : Type} {enc : TypeId × Value → H} {w : World} {base : Nat} {spare : Nat → Bool} {held : Bool} {r : Reach} {b0 : Nat} {v : Value} {d : DataW H} {p : List MemPlace}
    (hv : Value.okWide Try.prog w r b0 25 v) (h : DataW.Trod enc Try.prog w base spare held 25 v d p) : ∃ hd t, v = TH.v hd ∧ InTree w hd t := by
  obtain ⟨cs, rfl, hs⟩ := okWide_struct Try.underlying25 hv
  obtain ⟨fuel, hf⟩ := h
  obtain ⟨hd, t, e, ht⟩ := trod_tree Try.underlying25 (by kernel_rfl) rfl rfl rfl rfl rfl (by kernel_rfl) (by kernel_rfl) (by kernel_rfl) (by kernel_rfl) (by kernel_rfl)
    Try.underlying3 Try.underlying22 Try.underlying22 Try.underlying22 Try.underlying23 Try.underlying5 (by kernel_rfl) fuel _ _ hf
  refine ⟨hd, t, ?_, ht⟩
  have e2 : cs = hd.cells.toArray := by
    simp only [Value.cells] at e
    rw [← e]
  rw [e2]
  rfl
end Go.Proofs.Ytagmeljjkblpbaa
