/- The contract of the document's tree into which pairs were put. -/
import Derived.Test.YtpjojhmdgeejmaaRefPut
import Derived.Test.YtpjojhmdgeejmaaAvlGood
import Derived.Test.YtpjojhmdgeejmaaRefSameP
import Derived.Test.YtpjojhmdgeejmaaLast
namespace Go.Proofs.Ytpjojhmdgeejmaa
open Go.RowKit
set_option linter.unusedVariables false

/-- The tree that grows, in its box. -/
structure GW (w W : World) (ht : TH) (a : AT) (i : Nat) : Prop where
  b : Below w.heap.size w W
  res : Box W 33 w.heap.size hZ
  box : Box W 33 (w.heap.size + 1) ht
  ti : InTree W ht a.tr
  good : Good a
  cnt : a.pairs.length ≤ i
section
variable {w W W' : World} {ht hn : TH} {a : AT} {i j : Nat}
theorem GW.below (x : GW w W ht a i) (hb : Below W.heap.size W W') : GW w W' ht a i := ⟨x.b.trans (hb.mono x.b.size), x.res.below hb x.res.lt, x.box.below hb x.box.lt, x.ti.lower hb, x.good, x.cnt⟩
theorem GW.drew (x : GW w W ht a i) : GW w W.drew ht a i := x.below (Below.refl _ _).drew
theorem GW.more (x : GW w W ht a i) (h : i ≤ j) : GW w W ht a j := ⟨x.b, x.res, x.box, x.ti, x.good, Nat.le_trans x.cnt h⟩
theorem GW.put (x : GW w W ht a i) (hx : Box W' 33 (w.heap.size + 1) hn) (hg : W.grownBy W' (some (w.heap.size + 1))) {key val : List Int} (hi : InTree W hn (a.put key val).tr) (hk : key.length ≤ 80) (hv : val.length ≤ 1024) : GW w W' hn (a.put key val) (i + 1) :=
  ⟨x.b.grown hg x.b.size (fun j hj => by injection hj; omega), x.res.grown hg (fun q => by injection q; omega), hx, AT.outBox x.box hg _ _ hi, x.good.put hk hv, Nat.le_trans (AT.put_len key val x.good.rise) (by have := x.cnt; omega)⟩
end
/-- It answers a tree of at most sixty pairs, balanced. -/
def Grows (w : World) (e : Ending) (w' : World) : Prop := ∃ a : AT, Good a ∧ a.pairs.length ≤ 60 ∧ Tells w a e w'
theorem enterG (w : World) : Box (w.alloc (.cells #[.int .i64 0, .slice none 0 0, .slice none 0 0, .slice none 0 0, .slice none 0 0] 33)) 33 w.heap.size hZ := Box.new w 33 hZ

set_option maxRecDepth 100000 in
set_option maxHeartbeats 4000000 in
theorem refGrown_any (la : Option Addr) (n cap : Nat) (D : Nat → PH) (w : World) (hin : InRec recP w la n cap D) (hkv : ∀ i, i < n → ∃ key val, InBytes w (D i).ka (D i).kn (D i).kc key ∧ InBytes w (D i).va (D i).vn (D i).vc val) : Calls Try.prog 20 #[.slice la n cap] w (Grows w) := by
  have HIN := Lib.hid hin
  have HKVS := Lib.hid hkv
  clear hin hkv
  have hr := enterG w
  have s1 : (w.alloc (.cells #[.int .i64 0, .slice none 0 0, .slice none 0 0, .slice none 0 0, .slice none 0 0] 33)).heap.size = w.heap.size + 1 := by simp
  have hb0 : Below w.heap.size w (w.alloc (.cells #[.int .i64 0, .slice none 0 0, .slice none 0 0, .slice none 0 0, .slice none 0 0] 33)) := (Below.refl _ _).alloc (Nat.le_refl _) _
  have hx1 : Box ((w.alloc (.cells #[.int .i64 0, .slice none 0 0, .slice none 0 0, .slice none 0 0, .slice none 0 0] 33)).alloc (.cells #[.int .i64 0, .slice none 0 0, .slice none 0 0, .slice none 0 0, .slice none 0 0] 33)) 33 (w.heap.size + 1) hZ := by
    have q := Box.new (w.alloc (.cells #[.int .i64 0, .slice none 0 0, .slice none 0 0, .slice none 0 0, .slice none 0 0] 33)) 33 hZ
    rw [s1] at q
    exact q
  have hr1 := hr.below ((Below.refl (w.alloc (.cells #[.int .i64 0, .slice none 0 0, .slice none 0 0, .slice none 0 0, .slice none 0 0] 33)).heap.size (w.alloc (.cells #[.int .i64 0, .slice none 0 0, .slice none 0 0, .slice none 0 0, .slice none 0 0] 33))).alloc (Nat.le_refl _) (.cells #[.int .i64 0, .slice none 0 0, .slice none 0 0, .slice none 0 0, .slice none 0 0] 33)) hr.lt
  have hb1 : Below w.heap.size w ((w.alloc (.cells #[.int .i64 0, .slice none 0 0, .slice none 0 0, .slice none 0 0, .slice none 0 0] 33)).alloc (.cells #[.int .i64 0, .slice none 0 0, .slice none 0 0, .slice none 0 0, .slice none 0 0] 33)) := hb0.alloc (by rw [s1]; omega) _
  have HX := Lib.hid (And.intro hx1 (And.intro hr1 hb1))
  clear hr s1 hb0 hx1 hr1 hb1
  go_enter Try.func20, Try.ntmps20
  go_upto_region 2 with (first
    | (refine wpList_store_box rfl 33 (.tmp 3) (.tmp 5) rfl (w.heap.size + 1) hZ hZ rfl rfl 33 HX.out.1 infoTree5 ?_
       intro w2 hbx hg
       have HG2 : Hid (GW w w2 hZ .nil 0) := Lib.hid ⟨HX.out.2.2.grown hg HX.out.2.2.size (fun j hj => by injection hj; omega), HX.out.2.1.grown hg (fun q => by injection q; omega), hbx, inTree_nil w2, Good.nil, Nat.le_refl _⟩
       clear hbx hg))
  clear HX
  go_wp2_with fail
  go_loopw [4] (fun s4 wx => ∃ (i : Nat) (ht : TH) (a : AT), i ≤ n ∧ i ≤ 60 ∧ s4 = .int .i64 i ∧ GW w wx ht a i) (fun s4 _ => n - (intOf s4).toNat)
  case atStart => exact ⟨0, hZ, .nil, by omega, by omega, rfl, HG2.out⟩
  case round =>
    clear HG2
    obtain ⟨i, ht, a, hi1, hi2, rfl, hgw⟩ := hrel
    have HG := Lib.hid hgw
    by_cases c1 : i < n
    · have q1 : (i : Int) < (n : Int) := by omega
      by_cases c2 : i < 60
      · have q2 : (i : Int) < 60 := by omega
        obtain ⟨key, val, hk, hv⟩ := HKVS.out i c1
        have HKV := Lib.hid (And.intro hk hv)
        have hkl := hk.len
        have hvl := hv.len
        obtain ⟨g, off, hea, -, -⟩ := HIN.out.at (by omega)
        obtain ⟨y0, y1⟩ := (HIN.out.below hgw.b).pair hea i c1
        have HEA := Lib.hid hea
        rw [hea]
        clear hea hk hv hgw
        by_cases c3 : (D i).kn ≤ 80
        · have q3 : ((D i).kn : Int) ≤ 80 := by omega
          by_cases c4 : (D i).vn ≤ 1024
          · have q4 : ((D i).vn : Int) ≤ 1024 := by omega
            go_upto_region 6 with fail
            clear y0 y1
            refine region_l (S := (fun W => (W.cell? ⟨(w.heap.size + 1), 0, none⟩ = some (.int .i64 ht.k) ∧ W.cell? ⟨(w.heap.size + 1), 1, none⟩ = some (.slice ht.ka ht.kn ht.kc) ∧ W.cell? ⟨(w.heap.size + 1), 2, none⟩ = some (.slice ht.va ht.vn ht.vc) ∧ W.cell? ⟨(w.heap.size + 1), 3, none⟩ = some (.slice ht.da ht.dn ht.dc) ∧ W.cell? ⟨(w.heap.size + 1), 4, none⟩ = some (.slice ht.ta ht.tn ht.tc)) ∧ W.cell? ⟨g, off + i * 2, none⟩ = some (.slice (D i).ka (D i).kn (D i).kc) ∧ W.cell? ⟨g, off + i * 2 + 1, none⟩ = some (.slice (D i).va (D i).vn (D i).vc))) 12 (by kernel_rfl) ⟨HG.out.drew.box.cells, ((HIN.out.below HG.out.drew.b).pair HEA.out i c1).1, ((HIN.out.below HG.out.drew.b).pair HEA.out i c1).2⟩ (fun hHeld => ?_)
            refine take_l (i := 0) (oi := ?oZ60) (v := ?vZ60) ?hiZ60 (by kernel_rfl) (by kernel_rfl) (by kernel_rfl) (by kernel_rfl) ?hQZ60 ?hwZ60 ?hyZ60 (by assumption) ?restZ60
            case hiZ60 => (simp only [List.getElem?_toArray, List.getElem?_cons_zero] <;> rfl)
            case hQZ60 => exact (fun _ _ _ h => h)
            case hwZ60 => rfl
            case hyZ60 => (intro w hSw; (try dsimp only at hSw); go_simp; try with_reducible rfl)
            (try simp only [Act.put, List.setIfInBounds_toArray, List.set_cons_zero, List.set_cons_succ])
            refine take_l (i := 1) (oi := ?oZ61) (v := ?vZ61) ?hiZ61 (by kernel_rfl) (by kernel_rfl) (by kernel_rfl) (by kernel_rfl) ?hQZ61 ?hwZ61 ?hyZ61 (by assumption) ?restZ61
            case hiZ61 => (simp only [List.getElem?_toArray, List.getElem?_cons_succ, List.getElem?_cons_zero] <;> rfl)
            case hQZ61 => exact (fun _ _ _ h => h)
            case hwZ61 => rfl
            case hyZ61 => (intro w hSw; (try dsimp only at hSw); go_simp; try with_reducible rfl)
            (try simp only [Act.put, List.setIfInBounds_toArray, List.set_cons_zero, List.set_cons_succ])
            refine take_l (i := 2) (oi := ?oZ62) (v := ?vZ62) ?hiZ62 (by kernel_rfl) (by kernel_rfl) (by kernel_rfl) (by kernel_rfl) ?hQZ62 ?hwZ62 ?hyZ62 (by assumption) ?restZ62
            case hiZ62 => (simp only [List.getElem?_toArray, List.getElem?_cons_succ, List.getElem?_cons_zero] <;> rfl)
            case hQZ62 => exact (fun _ _ _ h => h)
            case hwZ62 => rfl
            case hyZ62 => (intro w hSw; (try dsimp only at hSw); go_simp; try with_reducible rfl)
            (try simp only [Act.put, List.setIfInBounds_toArray, List.set_cons_zero, List.set_cons_succ])
            refine take_l (i := 3) (oi := ?oZ63) (v := ?vZ63) ?hiZ63 (by kernel_rfl) (by kernel_rfl) (by kernel_rfl) (by kernel_rfl) ?hQZ63 ?hwZ63 ?hyZ63 (by assumption) ?restZ63
            case hiZ63 => (simp only [List.getElem?_toArray, List.getElem?_cons_succ, List.getElem?_cons_zero] <;> rfl)
            case hQZ63 => exact (fun _ _ _ h => h)
            case hwZ63 => rfl
            case hyZ63 => (intro w hSw; (try dsimp only at hSw); go_simp; try with_reducible rfl)
            (try simp only [Act.put, List.setIfInBounds_toArray, List.set_cons_zero, List.set_cons_succ])
            refine take_l (i := 4) (oi := ?oZ64) (v := ?vZ64) ?hiZ64 (by kernel_rfl) (by kernel_rfl) (by kernel_rfl) (by kernel_rfl) ?hQZ64 ?hwZ64 ?hyZ64 (by assumption) ?restZ64
            case hiZ64 => (simp only [List.getElem?_toArray, List.getElem?_cons_succ, List.getElem?_cons_zero] <;> rfl)
            case hQZ64 => exact (fun _ _ _ h => h)
            case hwZ64 => rfl
            case hyZ64 => (intro w hSw; (try dsimp only at hSw); go_simp; try with_reducible rfl)
            (try simp only [Act.put, List.setIfInBounds_toArray, List.set_cons_zero, List.set_cons_succ])
            refine take_l (i := 5) (oi := ?oZ65) (v := ?vZ65) ?hiZ65 (by kernel_rfl) (by kernel_rfl) (by kernel_rfl) (by kernel_rfl) ?hQZ65 ?hwZ65 ?hyZ65 (by assumption) ?restZ65
            case hiZ65 => (simp only [List.getElem?_toArray, List.getElem?_cons_succ, List.getElem?_cons_zero] <;> rfl)
            case hQZ65 => exact (fun _ _ _ h => h)
            case hwZ65 => rfl
            case hyZ65 => (intro w hSw; (try dsimp only at hSw); go_simp; try with_reducible rfl)
            (try simp only [Act.put, List.setIfInBounds_toArray, List.set_cons_zero, List.set_cons_succ])
            refine take_l (i := 6) (oi := ?oZ66) (v := ?vZ66) ?hiZ66 (by kernel_rfl) (by kernel_rfl) (by kernel_rfl) (by kernel_rfl) ?hQZ66 ?hwZ66 ?hyZ66 (by assumption) ?restZ66
            case hiZ66 => (simp only [List.getElem?_toArray, List.getElem?_cons_succ, List.getElem?_cons_zero] <;> rfl)
            case hQZ66 => exact (fun _ _ _ h => h)
            case hwZ66 => rfl
            case hyZ66 => (intro w hSw; (try dsimp only at hSw); go_simp; try with_reducible rfl)
            (try simp only [Act.put, List.setIfInBounds_toArray, List.set_cons_zero, List.set_cons_succ])
            refine take_l (i := 7) (oi := ?oZ67) (v := ?vZ67) ?hiZ67 (by kernel_rfl) (by kernel_rfl) (by kernel_rfl) (by kernel_rfl) ?hQZ67 ?hwZ67 ?hyZ67 (by assumption) ?restZ67
            case hiZ67 => (simp only [List.getElem?_toArray, List.getElem?_cons_succ, List.getElem?_cons_zero] <;> rfl)
            case hQZ67 => exact (fun _ _ _ h => h)
            case hwZ67 => rfl
            case hyZ67 => (intro w hSw; (try dsimp only at hSw); go_simp; try with_reducible rfl)
            (try simp only [Act.put, List.setIfInBounds_toArray, List.set_cons_zero, List.set_cons_succ])
            refine take_l (i := 8) (oi := ?oZ68) (v := ?vZ68) ?hiZ68 (by kernel_rfl) (by kernel_rfl) (by kernel_rfl) (by kernel_rfl) ?hQZ68 ?hwZ68 ?hyZ68 (by assumption) ?restZ68
            case hiZ68 => (simp only [List.getElem?_toArray, List.getElem?_cons_succ, List.getElem?_cons_zero] <;> rfl)
            case hQZ68 => exact (fun _ _ _ h => h)
            case hwZ68 => rfl
            case hyZ68 => (intro w hSw; (try dsimp only at hSw); go_simp; try with_reducible rfl)
            (try simp only [Act.put, List.setIfInBounds_toArray, List.set_cons_zero, List.set_cons_succ])
            refine take_l (i := 9) (oi := ?oZ69) (v := ?vZ69) ?hiZ69 (by kernel_rfl) (by kernel_rfl) (by kernel_rfl) (by kernel_rfl) ?hQZ69 ?hwZ69 ?hyZ69 (by assumption) ?restZ69
            case hiZ69 => (simp only [List.getElem?_toArray, List.getElem?_cons_succ, List.getElem?_cons_zero] <;> rfl)
            case hQZ69 => exact (fun _ _ _ h => h)
            case hwZ69 => rfl
            case hyZ69 => (intro w hSw; (try dsimp only at hSw); go_simp; try with_reducible rfl)
            (try simp only [Act.put, List.setIfInBounds_toArray, List.set_cons_zero, List.set_cons_succ])
            refine take_l (i := 10) (oi := ?oZ70) (v := ?vZ70) ?hiZ70 (by kernel_rfl) (by kernel_rfl) (by kernel_rfl) (by kernel_rfl) ?hQZ70 ?hwZ70 ?hyZ70 (by assumption) ?restZ70
            case hiZ70 => (simp only [List.getElem?_toArray, List.getElem?_cons_succ, List.getElem?_cons_zero] <;> rfl)
            case hQZ70 => exact (fun _ _ _ h => h)
            case hwZ70 => rfl
            case hyZ70 => (intro w hSw; (try dsimp only at hSw); go_simp; try with_reducible rfl)
            (try simp only [Act.put, List.setIfInBounds_toArray, List.set_cons_zero, List.set_cons_succ])
            refine one_l (i := 11) (o := ?oZ71) (by kernel_rfl) ?hiZ71 (fun K hK => ?stZ71)
            case hiZ71 => (simp only [List.getElem?_toArray, List.getElem?_cons_succ, List.getElem?_cons_zero] <;> rfl)
            go_simp
            go_at_call 33
            refine (refPut_any key val (D i).ka (D i).va (D i).kn (D i).kc (D i).vn (D i).vc (by omega) (by omega) a ht _ HG.out.drew.ti HG.out.good.lim HG.out.good.bal (by have h1 := AT.depth_le a; have := HG.out.cnt; omega) (HKV.out.1.below HG.out.drew.b) (HKV.out.2.below HG.out.drew.b)).mono ?_
            rintro _ w6 ⟨h6, rfl, hi6, hb6⟩
            unfold TH.v
            have HG6 := Lib.hid (HG.out.drew.below hb6)
            have HI6 := Lib.hid hi6
            clear hi6 hb6
            go_simp
            refine hK.out _ _ ?_ (fun hHeld => ?_)
            · (first | exact ⟨HG6.out.box.cells, ((HIN.out.below HG6.out.b).pair HEA.out i c1).1, ((HIN.out.below HG6.out.b).pair HEA.out i c1).2⟩ | exact ⟨HG.out.drew.box.cells, ((HIN.out.below HG.out.drew.b).pair HEA.out i c1).1, ((HIN.out.below HG.out.drew.b).pair HEA.out i c1).2⟩)
            clear hK K
            (try simp only [Act.put, List.setIfInBounds_toArray, List.set_cons_zero, List.set_cons_succ])
            refine last_l (o := ?oZ72) (by kernel_rfl) ?hiZ72 (by kernel_rfl) (fun K hK => ?stZ72)
            case hiZ72 => (simp only [List.getElem?_toArray, List.getElem?_cons_succ, List.getElem?_cons_zero] <;> rfl)
            refine step_store_box rfl 33 (.tmp 3) (.tmp 43) rfl (w.heap.size + 1) ht h6 rfl rfl 33 HG6.out.box infoTree5 ?_
            intro w7 hbx hg
            have HG7 := Lib.hid (HG6.out.put hbx hg HI6.out (by omega : key.length ≤ 80) (by omega : val.length ≤ 1024))
            clear hbx hg
            refine hK.out _ _ ?_
            clear hK K
            (try simp only [Act.put])
            
            clear hHeld
            go_wp2_with fail
            exact ⟨⟨i + 1, h6, _, by omega, by omega, by go_num, HG7.out⟩, by simp [intOf]; omega⟩
          · have q4 : ¬ ((D i).vn : Int) ≤ 1024 := by omega
            go_wp2_with fail
            exact ⟨⟨i + 1, ht, a, by omega, by omega, by go_num, HG.out.more (by omega)⟩, by simp [intOf]; omega⟩
        · have q3 : ¬ ((D i).kn : Int) ≤ 80 := by omega
          go_wp2_with fail
          exact ⟨⟨i + 1, ht, a, by omega, by omega, by go_num, HG.out.more (by omega)⟩, by simp [intOf]; omega⟩
      · have q2 : ¬ (i : Int) < 60 := by omega
        clear hgw
        obtain ⟨x0, x1, x2, x3, x4⟩ := HG.out.box.cells
        go_wp2_with (first
          | (refine wpList_store_box rfl 33 (.tmp 2) (.tmp 44) rfl w.heap.size hZ ht rfl rfl 33 HG.out.res infoTree5 ?_
             intro w9 hbx9 hg9
             have HX9 := Lib.hid hbx9
             have HI9 := Lib.hid (AT.outBox HG.out.res hg9 _ _ HG.out.ti)
             have HB9 : Hid (Below w.heap.size w w9) := Lib.hid (HG.out.b.grown hg9 HG.out.b.size (fun j hj => by injection hj; omega))
             clear hbx9 hg9 x0 x1 x2 x3 x4))
        exact bodyPost_ret (v := ht.v) (result_tree Try.results20 _ HX9.out rfl Try.underlying33 infoTree5) rfl ⟨a, HG.out.good, by have := HG.out.cnt; omega, _, rfl, HI9.out, HB9.out⟩
    · have q1 : ¬ (i : Int) < (n : Int) := by omega
      clear hgw
      obtain ⟨x0, x1, x2, x3, x4⟩ := HG.out.box.cells
      go_wp2_with (first
        | (refine wpList_store_box rfl 33 (.tmp 2) (.tmp 44) rfl w.heap.size hZ ht rfl rfl 33 HG.out.res infoTree5 ?_
           intro w9 hbx9 hg9
           have HX9 := Lib.hid hbx9
           have HI9 := Lib.hid (AT.outBox HG.out.res hg9 _ _ HG.out.ti)
           have HB9 : Hid (Below w.heap.size w w9) := Lib.hid (HG.out.b.grown hg9 HG.out.b.size (fun j hj => by injection hj; omega))
           clear hbx9 hg9 x0 x1 x2 x3 x4))
      exact bodyPost_ret (v := ht.v) (result_tree Try.results20 _ HX9.out rfl Try.underlying33 infoTree5) rfl ⟨a, HG.out.good, by have := HG.out.cnt; omega, _, rfl, HI9.out, HB9.out⟩
end Go.Proofs.Ytpjojhmdgeejmaa
