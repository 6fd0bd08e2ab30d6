/- The walk of the law ClashRight. The contract of bytes.Compare: the order of byte strings. The contract of the program's In of spans. The contract of bytes.Clone. bytes.Clone, as a row of one's own. A tree's box and a span's box; a pair's size. No function is named here. Pairs whose keys and values are rows of one's own. What the program's Check and Bytes of proofs tell, as their contracts say it. The parts between a tree's nodes: what a proof shows, by its nodes and these. No program is named here. The contract of the program's list of nodes. The contracts of bytes.Equal, and of whether keys rise in a row of trees. The contract of the program's list of the parts without kids. The contracts of the program's Point and Empty of spans. The contract of whether no key of a span lies between two nodes. The contract of whether a proof covers a span. -/
import Derived.Test.YtioifkbkllnkgaaDoorMBE
import Derived.Test.YtioifkbkllnkgaaDoorMAB
import Derived.Test.YtioifkbkllnkgaaDoorMAC
import Derived.Test.YtioifkbkllnkgaaDoorMAA
import Derived.Test.YtioifkbkllnkgaaDoorProg
import Derived.Lib.Bytealg
import Derived.Lib.BytesEntry
import Derived.Lib.SliceRun
/- The walk of the law ClashRight. -/
namespace Go.Proofs.YtioifkbkllnkgaaDoor
open Go.RowKit
set_option linter.unusedVariables false

set_option maxRecDepth 100000 in
set_option maxHeartbeats 8000000 in
theorem clashRight_law (x : Int) (p q : Tr) (h h2 : TH) (w : World) (ht : InTree w h p) (ht2 : InTree w h2 q) (hT : TabLies w) (hx1 : -9223372036854775808 ≤ x) (hx2 : x ≤ 9223372036854775807) :
    Calls Tryd.prog 4 #[.int .i64 x, h.v, h2.v] w (Says w (.bool true)) := by
  unfold TH.v
  have HD := Lib.hid (TK9.enter w h h2 p q ht ht2)
  have HT := Lib.hid hT
  clear hT ht ht2
  go_enter Tryd.func4, Tryd.ntmps4
  go_upto_region 1 with fail
  generalize ((w.alloc (.cells #[.int .i64 h.k, .slice h.ka h.kn h.kc, .slice h.va h.vn h.vc, .slice h.da h.dn h.dc, .slice h.ta h.tn h.tc] 25)).alloc (.cells #[.int .i64 h2.k, .slice h2.ka h2.kn h2.kc, .slice h2.va h2.vn h2.vc, .slice h2.da h2.dn h2.dc, .slice h2.ta h2.tn h2.tc] 25)) = w0 at *
  go_upto_region 2 with (first
    | (go_at_call 8
       refine (up9_any _ (HT.out.below HD.out.b (Nat.le_refl _))).mono ?_
       rintro _ w1 ⟨rfl, hb1⟩
       have HD1 := Lib.hid (HD.out.below hb1)
       clear hb1))
  go_cut [23] (fun s23 wx => ∃ b : Bool, s23 = .bool b ∧ TK9 w wx h h2 p q ∧ (b = false → countT p ≤ 200 ∧ countT q ≤ 200))
  case first =>
    obtain ⟨x0, x1, x2, x3, x4⟩ := HD1.out.b1.cells
    obtain ⟨y0, y1, y2, y3, y4⟩ := HD1.out.b2.cells
    go_wp2_with (first
      | (go_at_call 9
         have hck : ∀ W, InTree W h p → Calls Tryd.prog 9 #[.agg #[.int .i64 h.k, .slice h.ka h.kn h.kc, .slice h.va h.vn h.vc, .slice h.da h.dn h.dc, .slice h.ta h.tn h.tc]] W (fun e w' => ∃ b, e = .returned (.bool b) ∧ (b = true → LightOK p ∧ countT p ≤ 200) ∧ Below W.heap.size W w') := fun W a => small9_any p h W a
         (with_reducible refine (hck _ ?_).mono ?_)
         · exact HD1.out.t1
         rintro _ w2 ⟨s2, rfl, hok2, hb2⟩
         have HD2 := Lib.hid (HD1.out.below hb2)
         have HK2 := Lib.hid hok2
         clear hck hok2 hb2 x0 x1 x2 x3 x4 y0 y1 y2 y3 y4
         obtain ⟨y0, y1, y2, y3, y4⟩ := HD2.out.b2.cells)
      | (go_at_call 9
         have hck : ∀ W, InTree W h2 q → Calls Tryd.prog 9 #[.agg #[.int .i64 h2.k, .slice h2.ka h2.kn h2.kc, .slice h2.va h2.vn h2.vc, .slice h2.da h2.dn h2.dc, .slice h2.ta h2.tn h2.tc]] W (fun e w' => ∃ b, e = .returned (.bool b) ∧ (b = true → LightOK q ∧ countT q ≤ 200) ∧ Below W.heap.size W w') := fun W a => small9_any q h2 W a
         (with_reducible refine (hck _ ?_).mono ?_)
         · exact HD2.out.t2
         rintro _ w3 ⟨s3, rfl, hok3, hb3⟩
         have HD3 := Lib.hid (HD2.out.below hb3)
         have HK3 := Lib.hid hok3
         clear hck hok3 hb3 y0 y1 y2 y3 y4
         skip))
    · go_meet
      cases s3 with
      | true => exact ⟨false, rfl, HD3.out, fun _ => ⟨(HK2.out (by assumption)).2, (HK3.out rfl).2⟩⟩
      | false => exact ⟨true, rfl, HD3.out, fun q => (by cases q)⟩
    · go_meet
      exact ⟨true, rfl, HD2.out, fun q => (by cases q)⟩
  case rest =>
    obtain ⟨b, rfl, hd, hcc⟩ := hcut
    have HD4 := Lib.hid hd
    have HCC := Lib.hid hcc
    clear hd hcc HD1 HD
    cases b with
    | true =>
      go_wp2_with fail
      go_ret
      exact ⟨rfl, HD4.out.b⟩
    | false =>
    obtain ⟨hc1, hc2⟩ := HCC.out rfl
    clear HCC
    obtain ⟨r, hr⟩ : ∃ r, findX x p q = r := ⟨_, rfl⟩
    have HR := Lib.hid hr
    clear hr
    obtain ⟨x0, x1, x2, x3, x4⟩ := HD4.out.b1.cells
    obtain ⟨y0, y1, y2, y3, y4⟩ := HD4.out.b2.cells
    go_upto_region 5 with (first
      | (go_at_call 10
         have hck : ∀ W, InTree W h p → InTree W h2 q → TabLies W → Calls Tryd.prog 10 #[.int .i64 x, .agg #[.int .i64 h.k, .slice h.ka h.kn h.kc, .slice h.va h.vn h.vc, .slice h.da h.dn h.dc, .slice h.ta h.tn h.tc], .agg #[.int .i64 h2.k, .slice h2.ka h2.kn h2.kc, .slice h2.va h2.vn h2.vc, .slice h2.da h2.dn h2.dc, .slice h2.ta h2.tn h2.tc]] W (FindTold W (findX x p q)) := fun W a b c => find_any x hx1 hx2 p q h h2 W a b (by omega) (by omega) c
         (with_reducible refine (hck _ ?_ ?_ ?_).mono ?_)
         · exact HD4.out.t1
         · exact HD4.out.t2
         · exact HT.out.below HD4.out.b (Nat.le_refl _)
         rw [HR.out]
         rintro _ w5 ⟨a5, n5, c5, b5, m5, d5, rfl, f5, g5, hb5⟩
         have HD5 := Lib.hid (HD4.out.below hb5)
         have HF5 := Lib.hid (And.intro (f5 w5 (Nat.le_refl _) (fun _ _ _ => rfl)) (g5 w5 (Nat.le_refl _) (fun _ _ _ => rfl)))
         
         clear hck f5 g5 hb5))
    clear x0 x1 x2 x3 x4 y0 y1 y2 y3 y4
    by_cases hr0 : r.1 = 0
    case neg =>
      rw [codeV_pos hr0]
      clear hr0
      go_wp2_with fail
      go_ret
      exact ⟨rfl, HD5.out.b⟩
    obtain ⟨k, s, hf⟩ := findX_zero (x := x) (p := p) (q := q) (by rw [HR.out]; exact hr0)
    have HFD := Lib.hid hf
    have hk1 := hf.k1
    have hk2 := hf.k2
    have hxk := hf.hx
    have hrs : r = (0, s) := by rw [← HR.out, hf.is]
    have HA5 : Hid (InBytes w5 a5 n5 c5 s.1) := Lib.hid (by have q1 := HF5.out.1; rw [hrs] at q1; exact q1)
    have HB5 : Hid (InBytes w5 b5 m5 d5 s.2) := Lib.hid (by have q1 := HF5.out.2; rw [hrs] at q1; exact q1)
    have HLA : Hid ((n5 : Int) ≤ 1125899906842624) := Lib.hid (by have q1 := HA5.out.len; have q2 := hf.l1; omega)
    have HLB : Hid ((m5 : Int) ≤ 1125899906842624) := Lib.hid (by have q1 := HB5.out.len; have q2 := hf.l2; omega)
    have hcd : codeV r.1 = .nilIface := by rw [hrs]; rfl
    rw [hcd]
    clear hcd hrs hr0 hf
    subst hxk
    go_upto_region 8 with (first
      | (go_at_call 16
         (with_reducible refine (of_ok k a5 n5 c5 s.1 _ ?_ ?_ ?_ hk1 hk2).mono ?_)
         · exact HA5.out
         · exact HLA.out
         · exact HT.out.below HD5.out.b (Nat.le_refl _)
         rintro _ w6 ⟨g6, hg6, rfl, hr6, hb6⟩
         have HD6 := Lib.hid (HD5.out.below hb6)
         have HI6 := Lib.hid (of_in hr6 hk2)
         have HA6 := Lib.hid (HA5.out.below hb6)
         have HB6 := Lib.hid (HB5.out.below hb6)
         clear hg6 hr6 hb6))
    go_upto_region 9 with (first
      | (go_at_call 16
         (with_reducible refine (of_ok k b5 m5 d5 s.2 _ ?_ ?_ ?_ hk1 hk2).mono ?_)
         · exact HB6.out
         · exact HLB.out
         · exact HT.out.below HD6.out.b (Nat.le_refl _)
         rintro _ w7 ⟨g7, hg7, rfl, hr7, hb7⟩
         have HD7 := Lib.hid (HD6.out.below hb7)
         have HI7 := Lib.hid (of_in hr7 hk2)
         have HA7 := Lib.hid (HA6.out.below hb7)
         have HB7 := Lib.hid (HB6.out.below hb7)
         have HI67 := Lib.hid (HI6.out.below hb7)
         clear hg7 hr7 hb7))
    have cv1 := conv_key HA7.out
    have cv2 := conv_key HB7.out
    have cv3 := conv_key HI67.out
    have cv4 := conv_key HI7.out
    have hse : ((strOfNums s.1).toList == (strOfNums s.2).toList) = false := by rw [str_eq HA7.out.bytes HB7.out.bytes]; simpa using HFD.out.ne
    have hsd : ((strOfNums ((sumL s.1).take k)).toList == (strOfNums ((sumL s.2).take k)).toList) = true := by rw [HFD.out.eq]; simp
    go_wp2_with fail
    go_ret
    exact ⟨rfl, HD7.out.b⟩
end Go.Proofs.YtioifkbkllnkgaaDoor

/- The contract of bytes.Compare: the order of byte strings. -/
namespace Go.Proofs.YtioifkbkllnkgaaDoor
open Go.RowKit
set_option linter.unusedVariables false

/-- -1, 0 or 1, by the order of two byte strings. -/
def ordL (xs ys : List Int) : Int := if ltL xs ys then -1 else if ltL ys xs then 1 else 0
theorem ordL_lt {xs ys : List Int} (h : ltL xs ys = true) : ordL xs ys = -1 := by unfold ordL; rw [if_pos h]
theorem ordL_gt {xs ys : List Int} (h : ltL ys xs = true) : ordL xs ys = 1 := by unfold ordL; rw [if_neg (by rw [ltL_asymm h]; simp), if_pos h]
theorem ordL_eq (xs : List Int) : ordL xs xs = 0 := by unfold ordL; rw [if_neg (by rw [ltL_irr]; simp), if_neg (by rw [ltL_irr]; simp)]
theorem cmp_ord : ∀ {xs ys : List Int}, Bytes8 xs → Bytes8 ys → Lib.compareBytes (xs.map fun n => UInt8.ofNat n.toNat) (ys.map fun n => UInt8.ofNat n.toNat) = ordL xs ys
  | [], [], _, _ => rfl
  | _ :: _, [], _, _ => rfl
  | [], _ :: _, _, _ => rfl
  | x :: xs, y :: ys, hx, hy => by
    have h1 := hx x (by simp)
    have h2 := hy y (by simp)
    have ih := cmp_ord (xs := xs) (ys := ys) (fun z hz => hx z (by simp [hz])) (fun z hz => hy z (by simp [hz]))
    rw [List.map_cons, List.map_cons, Lib.compareBytes, ih]
    have e1 : ∀ {a b : Int}, 0 ≤ a ∧ a ≤ 255 → 0 ≤ b ∧ b ≤ 255 → ((UInt8.ofNat a.toNat < UInt8.ofNat b.toNat) ↔ a < b) := fun ha hb => by
      rw [UInt8.lt_iff_toNat_lt]
      simp only [UInt8.toNat_ofNat']
      omega
    by_cases c1 : x < y
    · rw [if_pos ((e1 h1 h2).2 c1), ordL_lt (by simp [ltL, c1])]
    · rw [if_neg (fun q => c1 ((e1 h1 h2).1 q))]
      by_cases c2 : y < x
      · rw [if_pos ((e1 h2 h1).2 c2), ordL_gt (by simp [ltL, c2])]
      · rw [if_neg (fun q => c2 ((e1 h2 h1).1 q))]
        obtain rfl : x = y := by omega
        have e2 : ∀ p q : List Int, ltL (x :: p) (x :: q) = ltL p q := fun p q => by simp [ltL]
        unfold ordL
        rw [e2, e2]
theorem bytesOf_in {P : Program} {w : World} {a : Option Addr} {n cap : Nat} {bs : List Int} (h : InBytes w a n cap bs) : (Extern.Bytes.bytesOf (.slice a n cap)).run P w = .ok (strOfNums bs) w := by
  by_cases h0 : 0 < n
  · obtain ⟨g, off, rfl, _, hseg⟩ := h.place h0
    have hl := Lib.run_loadBytesX (P := P) w bs ⟨g, off, none⟩ .empty (fun j x hj => by
      have hjl : j < bs.length := (List.getElem?_eq_some_iff.1 hj).1
      have e : (⟨g, off, none⟩ : Addr).add j = ⟨g, off + j, none⟩ := by unfold Addr.add; split <;> simp_all
      rw [e, hseg j hjl]
      rw [List.getElem?_eq_getElem hjl] at hj
      injection hj with hj
      rw [hj])
    rw [h.len] at hl
    have e : (⟨ByteArray.empty.data ++ (Lib.bytesOf bs).toArray⟩ : ByteArray) = strOfNums bs := by
      apply ByteArray.ext
      show (#[] : Array UInt8) ++ (Lib.bytesOf bs).toArray = _
      simp [strOfNums, Lib.bytesOf]
    rw [e] at hl
    exact hl
  · have hn : n = 0 := by omega
    subst hn
    have hb : bs = [] := List.eq_nil_of_length_eq_zero h.len
    subst hb
    cases a with
    | none => rfl
    | some x => rfl
theorem run_compare {P : Program} {w : World} {a b : Option Addr} {n m c d : Nat} {xs ys : List Int} (hx : InBytes w a n c xs) (hy : InBytes w b m d ys) :
    (Extern.BytealgCompare.compare #[.slice a n c, .slice b m d]).run P w = .ok (.int .i64 (ordL xs ys)) w := by
  change Sem.run P (do pure (goInt (Extern.BytealgCompare.cmp (← Extern.Bytes.bytesOf (.slice a n c)) (← Extern.Bytes.bytesOf (.slice b m d))))) w = _
  simp only [Sem.run_bind, Sem.run_pure, bytesOf_in hx, bytesOf_in hy, Result.andThen]
  rw [Lib.cmp_eq, strOfNums_data, strOfNums_data, cmp_ord hx.bytes hy.bytes]
  rfl
theorem compare_fact {w : World} {a b : Option Addr} {n m c d : Nat} {xs ys : List Int} (hx : InBytes w a n c xs) (hy : InBytes w b m d ys) :
    (callFunc 82 #[.slice a n c, .slice b m d]).run Tryd.prog w = .ok (.value (.int .i64 (ordL xs ys))) w := by
  rw [run_callFunc_extern Tryd.func82 (by kernel_rfl) (by kernel_rfl) (by kernel_rfl) (e := Extern.BytealgCompare.compare) (by kernel_rfl), run_compare hx hy]
  rfl
set_option maxRecDepth 100000 in
/-- bytes.Compare: the world is as it was. -/
theorem compare_any (xs ys : List Int) (a b : Option Addr) (n m c d : Nat) (w : World) (hx : InBytes w a n c xs) (hy : InBytes w b m d ys) :
    Calls Tryd.prog 68 #[.slice a n c, .slice b m d] w fun e w' => e = .returned (.int .i64 (ordL xs ys)) ∧ w' = w := by
  have hc := compare_fact hx hy
  go_enter Tryd.func68, Tryd.ntmps68
  go_wp2
  go_ret
  exact ⟨rfl, rfl⟩
end Go.Proofs.YtioifkbkllnkgaaDoor

/- The contract of the program's In of spans. -/
namespace Go.Proofs.YtioifkbkllnkgaaDoor
open Go.RowKit
set_option linter.unusedVariables false

/-- Which of three numbers tells of an order. -/
theorem ord_is (xs ys : List Int) : (ltL xs ys = true ∧ ordL xs ys = -1) ∨ (ltL xs ys = false ∧ ordL xs ys = 0) ∨ (ltL xs ys = false ∧ ordL xs ys = 1) := by
  rcases ltL_three xs ys with c | c | c
  · exact .inl ⟨c, ordL_lt c⟩
  · subst c
    exact .inr (.inl ⟨ltL_irr _, ordL_eq _⟩)
  · exact .inr (.inr ⟨ltL_asymm c, ordL_gt c⟩)

set_option maxRecDepth 100000 in
set_option maxHeartbeats 4000000 in
theorem scanIn_any (h : DH) (f t key : List Int) (ka : Option Addr) (kn kc : Nat) (w : World) (hs : SpanIn w h f t) (hk : InBytes w ka kn kc key) : Calls Tryd.prog 69 #[h.v, .slice ka kn kc] w (Says w (.bool (inS f t h.out key))) := by
  unfold DH.v
  have q0 : Below w.heap.size w (w.alloc (.cells #[.slice h.ka h.kn h.kc, .slice h.va h.vn h.vc, .bool h.out] 49)) := (Below.refl _ _).alloc (Nat.le_refl _) _
  obtain ⟨x0, x1, x2⟩ := (DH.box w 49 h).three
  have HS := Lib.hid (hs.below q0)
  have HK := Lib.hid (hk.below q0)
  have HB := Lib.hid q0
  clear q0 hs hk
  have HE : Hid (inS f t h.out key = (!ltL key f && (h.out || ltL key t))) := Lib.hid rfl
  go_enter Tryd.func69, Tryd.ntmps69
  go_upto_region 1 with fail
  generalize (w.alloc (.cells #[.slice h.ka h.kn h.kc, .slice h.va h.vn h.vc, .bool h.out] 49)) = w0 at *
  generalize hio : inS f t h.out key = io at *
  clear hio
  generalize h.out = oo at *
  rcases ord_is key f with ⟨c0, o0⟩ | ⟨c0, o0⟩ | ⟨c0, o0⟩
  · have HO := Lib.hid o0
    have HC := Lib.hid c0
    clear o0 c0
    go_wp2_with (first
      | (go_at_call 68
         refine (compare_any key f _ _ _ _ _ _ _ HK.out HS.out.f).mono ?_
         rintro _ w1 ⟨rfl, hw1⟩
         rw [hw1]
         clear hw1
         rw [HO.out]))
    go_ret
    exact ⟨by rw [HE.out, HC.out]; rfl, HB.out⟩
  all_goals
    have HO := Lib.hid o0
    have HC := Lib.hid c0
    clear o0 c0
    cases oo with
    | true =>
      go_wp2_with (first
        | (go_at_call 68
           refine (compare_any key f _ _ _ _ _ _ _ HK.out HS.out.f).mono ?_
           rintro _ w1 ⟨rfl, hw1⟩
           rw [hw1]
           clear hw1
           rw [HO.out]))
      go_ret
      exact ⟨by rw [HE.out, HC.out]; rfl, HB.out⟩
    | false =>
      rcases ord_is key t with ⟨c1, o1⟩ | ⟨c1, o1⟩ | ⟨c1, o1⟩
      all_goals
        have HO1 := Lib.hid o1
        have HC1 := Lib.hid c1
        clear o1 c1
        go_wp2_with (first
          | (go_at_call 68
             refine (compare_any key f _ _ _ _ _ _ _ HK.out HS.out.f).mono ?_
             rintro _ w1 ⟨rfl, hw1⟩
             rw [hw1]
             clear hw1
             rw [HO.out])
          | (go_at_call 68
             refine (compare_any key t _ _ _ _ _ _ _ HK.out HS.out.t).mono ?_
             rintro _ w1 ⟨rfl, hw1⟩
             rw [hw1]
             clear hw1
             rw [HO1.out]))
        go_ret
        exact ⟨by rw [HE.out, HC.out, HC1.out]; rfl, HB.out⟩
end Go.Proofs.YtioifkbkllnkgaaDoor

/- The contract of bytes.Clone. -/
namespace Go.Proofs.YtioifkbkllnkgaaDoor
open Go.RowKit
set_option linter.unusedVariables false

/-- A slice of new memory, or nil, that holds the bytes bs. -/
def NewBytes (w : World) (bs : List Int) (e : Ending) (w' : World) : Prop :=
  ∃ a2 c2, e = .returned (.slice a2 bs.length c2) ∧ InBytes w' a2 bs.length c2 bs ∧ (∀ ad, a2 = some ad → w.heap.size ≤ ad.block ∧ ad.block < w'.heap.size) ∧ Below w.heap.size w w'
end Go.Proofs.YtioifkbkllnkgaaDoor

/- bytes.Clone, as a row of one's own. -/
namespace Go.Proofs.YtioifkbkllnkgaaDoor
open Go.RowKit
set_option linter.unusedVariables false

/-- A row of new memory, or nil, that holds the bytes bs. -/
def OwnBytes (w : World) (bs : List Int) (e : Ending) (w' : World) : Prop :=
  ∃ v, e = .returned v ∧ w'.ownsRow w.heap.size 5 1 v bs.length (bs.map (Value.int .u8)) ∧ Below w.heap.size w w'
set_option maxRecDepth 100000 in
set_option maxHeartbeats 2000000 in
theorem clone_own (a : Option Addr) (n cap : Nat) (bs : List Int) (w : World) (hin : InBytes w a n cap bs) (hn : n ≤ 140737488355328) :
    Calls Tryd.prog 43 #[.slice a n cap] w (OwnBytes w bs) := by
  obtain ⟨i0, hi0, hz0, hz1, hz2⟩ := info_parts infoU8
  have hq : ∀ (w : World) (a : Option Addr) (n c n' c' : Nat), (binOp .eql 22 (.slice a n c) (.slice none n' c')).run Tryd.prog w = .ok (.bool a.isNone) w := fun w a n c n' c' => Lib.run_eql_slice_nil w _ _ a n c n' c' Tryd.underlying22
  have HIN := Lib.hid hin
  clear hin
  go_enter Tryd.func43, Tryd.ntmps43
  cases a with
  | none =>
    have hc := HIN.out.nil rfl
    have hk : n = 0 := by have := HIN.out.le; omega
    subst hc
    subst hk
    have hr : bs = [] := List.eq_nil_of_length_eq_zero HIN.out.len
    subst hr
    have e : (none : Option Addr).isNone = true := rfl
    go_wp2_with fail
    go_ret
    exact ⟨_, rfl, ⟨rfl, .inl ⟨rfl, rfl⟩⟩, Below.refl _ _⟩
  | some ad =>
    have e : (some ad : Option Addr).isNone = false := rfl
    have hl := HIN.out.len
    go_wp2_with (first
      | (at_builtin
         refine wpList_append_bytes' _ rfl (.tmp 5) (.tmp 6) 22 rfl w.heap.size 5 i0 _ 1 Tryd.underlying22 hi0 hz0 hz1 hz2 rfl w.heap.size 0 0 [] rfl (own_new w 5 .u8 [] w.heap.size (Nat.le_refl _) (by simp [maxLen])) (some ad) n cap bs rfl (HIN.out.below ((Below.refl _ _).alloc (Nat.le_refl _) _)) (by simp only [maxLen]; omega) (by omega) (by simp) ?_
         intro g1 c1 w1 hown1 hg1
         have HO1 := Lib.hid hown1
         have HB1 : Hid (Below w.heap.size w w1) := Lib.hid (below_only ((Below.refl _ _).alloc (Nat.le_refl _) _) hg1 (by simp) (Nat.le_refl _))
         clear hown1 hg1))
    go_ret
    have ho := HO1.out
    rw [List.nil_append, Nat.zero_add] at ho
    exact ⟨_, rfl, by rw [hl]; exact ho, HB1.out⟩

theorem own_ge {w : World} {base size n j : Nat} {t : TypeId} {v : Value} {xs : List Value} (h : w.ownsRow base t size v n xs) (hj : v.ownBlock = some j) : base ≤ j := by
  rcases h.2 with ⟨rfl, _⟩ | ⟨g, c, _, rfl, hg, _⟩
  · cases hj
  · have e : g = j := Option.some.inj hj
    omega
end Go.Proofs.YtioifkbkllnkgaaDoor

/- A tree's box and a span's box; a pair's size. No function is named here. -/
namespace Go.Proofs.YtioifkbkllnkgaaDoor
open Go.RowKit
set_option linter.unusedVariables false

theorem infoPair : (Tryd.prog.info? 88).map (fun i => (i.zero, i.size, i.bytes)) = some (some (.agg #[.slice none 0 0, .slice none 0 0]), 2, 48) := by kernel_rfl
/-- At the entry: the tree's box, the span's box. -/
theorem enterS (w : World) (h : TH) (sp : DH) : Box ((w.alloc (.cells #[.int .i64 h.k, .slice h.ka h.kn h.kc, .slice h.va h.vn h.vc, .slice h.da h.dn h.dc, .slice h.ta h.tn h.tc] 25)).alloc (.cells #[.slice sp.ka sp.kn sp.kc, .slice sp.va sp.vn sp.vc, .bool sp.out] 49)) 25 w.heap.size h ∧ RBox recD ((w.alloc (.cells #[.int .i64 h.k, .slice h.ka h.kn h.kc, .slice h.va h.vn h.vc, .slice h.da h.dn h.dc, .slice h.ta h.tn h.tc] 25)).alloc (.cells #[.slice sp.ka sp.kn sp.kc, .slice sp.va sp.vn sp.vc, .bool sp.out] 49)) 49 (w.heap.size + 1) sp ∧ Below w.heap.size w ((w.alloc (.cells #[.int .i64 h.k, .slice h.ka h.kn h.kc, .slice h.va h.vn h.vc, .slice h.da h.dn h.dc, .slice h.ta h.tn h.tc] 25)).alloc (.cells #[.slice sp.ka sp.kn sp.kc, .slice sp.va sp.vn sp.vc, .bool sp.out] 49)) ∧ ((w.alloc (.cells #[.int .i64 h.k, .slice h.ka h.kn h.kc, .slice h.va h.vn h.vc, .slice h.da h.dn h.dc, .slice h.ta h.tn h.tc] 25)).alloc (.cells #[.slice sp.ka sp.kn sp.kc, .slice sp.va sp.vn sp.vc, .bool sp.out] 49)).heap.size = w.heap.size + 2 := by
  have s1 : (w.alloc (.cells #[.int .i64 h.k, .slice h.ka h.kn h.kc, .slice h.va h.vn h.vc, .slice h.da h.dn h.dc, .slice h.ta h.tn h.tc] 25)).heap.size = w.heap.size + 1 := by simp
  have q1 : Below w.heap.size w (w.alloc (.cells #[.int .i64 h.k, .slice h.ka h.kn h.kc, .slice h.va h.vn h.vc, .slice h.da h.dn h.dc, .slice h.ta h.tn h.tc] 25)) := (Below.refl _ _).alloc (Nat.le_refl _) _
  have x1 := Box.new w 25 h
  have x2 := DH.box (w.alloc (.cells #[.int .i64 h.k, .slice h.ka h.kn h.kc, .slice h.va h.vn h.vc, .slice h.da h.dn h.dc, .slice h.ta h.tn h.tc] 25)) 49 sp
  rw [s1] at x2
  exact ⟨x1.below ((Below.refl _ _).alloc (Nat.le_refl _) _) x1.lt, x2, q1.alloc (by rw [s1]; omega) _, by simp⟩
end Go.Proofs.YtioifkbkllnkgaaDoor

/- Pairs whose keys and values are rows of one's own. -/
namespace Go.Proofs.YtioifkbkllnkgaaDoor
open Go.RowKit
set_option linter.unusedVariables false

/-- A pair whose key and value are rows of one's own. -/
structure POK (W : World) (base : Nat) (p : PH) (q : KV) : Prop where
  k : W.ownsRow base 5 1 (.slice p.ka p.kn p.kc) q.1.length (q.1.map (Value.int .u8))
  v : W.ownsRow base 5 1 (.slice p.va p.vn p.vc) q.2.length (q.2.map (Value.int .u8))
  kb : Bytes8 q.1
  vb : Bytes8 q.2
theorem POK.pair {W : World} {base : Nat} {p : PH} {q : KV} (x : POK W base p q) : InBytes W p.ka p.kn p.kc q.1 ∧ InBytes W p.va p.vn p.vc q.2 := ⟨own_in x.k x.kb, own_in x.v x.vb⟩
theorem POK.keep {W W' : World} {base : Nat} {p : PH} {q : KV} (x : POK W base p q) (hb : Below W.heap.size W W') : POK W' base p q := ⟨own_keep x.k hb, own_keep x.v hb, x.kb, x.vb⟩
theorem POK.grown {W W' : World} {base b' size n : Nat} {e : TypeId} {v : Value} {xs : List Value} {p : PH} {q : KV} (x : POK W base p q) (ho : W.ownsRow b' e size v n xs) (hne : 5 ≠ e) (hg : W.grownBy W' v.ownBlock) : POK W' base p q :=
  ⟨World.ownsRow.kept x.k hg (own_apart x.k ho hne), World.ownsRow.kept x.v hg (own_apart x.v ho hne), x.kb, x.vb⟩
/-- Many such pairs. -/
def PV (W : World) (base : Nat) (ps : List PH) (kvs : List KV) : Prop := ps.length = kvs.length ∧ ∀ i (h1 : i < ps.length) (h2 : i < kvs.length), POK W base ps[i] kvs[i]
section
variable {W W' : World} {base : Nat} {ps : List PH} {kvs : List KV}
theorem PV.nil (W : World) (base : Nat) : PV W base [] [] := ⟨rfl, fun i h1 => by simp at h1⟩
theorem PV.keep (x : PV W base ps kvs) (hb : Below W.heap.size W W') : PV W' base ps kvs := ⟨x.1, fun i h1 h2 => (x.2 i h1 h2).keep hb⟩
theorem PV.grown {b' size n : Nat} {e : TypeId} {v : Value} {xs : List Value} (x : PV W base ps kvs) (ho : W.ownsRow b' e size v n xs) (hne : 5 ≠ e) (hg : W.grownBy W' v.ownBlock) : PV W' base ps kvs := ⟨x.1, fun i h1 h2 => (x.2 i h1 h2).grown ho hne hg⟩
theorem PV.snoc (x : PV W base ps kvs) {p : PH} {q : KV} (h : POK W base p q) : PV W base (ps ++ [p]) (kvs ++ [q]) := by
  refine ⟨by simp [x.1], fun i h1 h2 => ?_⟩
  by_cases hi : i < ps.length
  · rw [List.getElem_append_left hi, List.getElem_append_left (by rw [← x.1]; exact hi)]
    exact x.2 i hi _
  · have e0 : i = ps.length := by simp at h1; omega
    subst e0
    have e2 : (kvs ++ [q])[ps.length] = q := by simp [x.1]
    rw [e2]
    simpa using h
theorem PV.pairs (x : PV W base ps kvs) : PairsIn W ps kvs := ⟨x.1, fun i h1 h2 => (x.2 i h1 h2).pair⟩
theorem PV.weak {base' : Nat} (x : PV W base ps kvs) (hb : base' ≤ base) : PV W base' ps kvs := ⟨x.1, fun i h1 h2 => ⟨own_weak (x.2 i h1 h2).k hb, own_weak (x.2 i h1 h2).v hb, (x.2 i h1 h2).kb, (x.2 i h1 h2).vb⟩⟩
end
/-- Range's pairs, whose bytes are one's own. -/
def RangeOwn (w : World) (kvs : List KV) (e : Ending) (w' : World) : Prop := ∃ ra r rc rs, e = .returned (.tuple #[.slice ra r rc, .nilIface]) ∧ OwnR recP w' w.heap.size 88 (.slice ra r rc) rs ∧ rs.length = r ∧ PV w' w.heap.size rs kvs ∧ Below w.heap.size w w'
/-- The row of trees, the span's box, and the row of pairs of one's own. -/
structure RS (w W : World) (gs : Nat) (sp : DH) (a : Option Addr) (n c : Nat) (hs : List TH) (ts : List Tr) (rv : Value) (rs : List PH) (kvs : List KV) : Prop where
  b : Below w.heap.size w W
  o : OwnT W w.heap.size 25 (.slice a n c) hs
  hw : Heads w hs ts
  box : RBox recD W 49 gs sp
  row : OwnR recP W w.heap.size 88 rv rs
  pv : PV W w.heap.size rs kvs
section
variable {w W W' : World} {gs : Nat} {sp : DH} {a : Option Addr} {n c : Nat} {hs : List TH} {ts : List Tr} {rv rv' : Value} {rs : List PH} {kvs : List KV} {p : PH} {q : KV}
theorem RS.ls (x : RS w W gs sp a n c hs ts rv rs kvs) : LS w W a n c hs ts := ⟨x.o, x.hw.lower x.b, x.b⟩
theorem RS.below (x : RS w W gs sp a n c hs ts rv rs kvs) (hb : Below W.heap.size W W') : RS w W' gs sp a n c hs ts rv rs kvs :=
  ⟨x.b.trans (hb.mono x.b.size), x.o.keep hb, x.hw, x.box.below hb x.box.lt, x.row.keep hb, x.pv.keep hb⟩
theorem RS.app (x : RS w W gs sp a n c hs ts rv rs kvs) (hg : W.grownBy W' rv.ownBlock) (ho : OwnR recP W' w.heap.size 88 rv' (rs ++ [p])) (hp : POK W w.heap.size p q) : RS w W' gs sp a n c hs ts rv' (rs ++ [p]) (kvs ++ [q]) :=
  ⟨x.b.grown hg x.b.size (fun j hj => (x.row.base_le hj).1), World.ownsRow.kept x.o hg (own_apart x.o x.row (by decide)), x.hw, x.box.grown hg (fun e => by have := own_type x.row e.symm x.box; exact absurd this (by decide)), ho, (x.pv.grown x.row (by decide) hg).snoc (hp.grown x.row (by decide) hg)⟩
end
/-- And a node's box. -/
structure RN (w W : World) (gs : Nat) (sp : DH) (a : Option Addr) (n c : Nat) (hs : List TH) (ts : List Tr) (rv : Value) (rs : List PH) (kvs : List KV) (g : Nat) (hh : TH) : Prop where
  r : RS w W gs sp a n c hs ts rv rs kvs
  x : Box W 25 g hh
section
variable {w W W' : World} {gs : Nat} {sp : DH} {a : Option Addr} {n c g : Nat} {hs : List TH} {ts : List Tr} {rv rv' : Value} {rs : List PH} {kvs : List KV} {p : PH} {q : KV} {hh : TH}
theorem RN.below (x : RN w W gs sp a n c hs ts rv rs kvs g hh) (hb : Below W.heap.size W W') : RN w W' gs sp a n c hs ts rv rs kvs g hh := ⟨x.r.below hb, x.x.below hb x.x.lt⟩
theorem RN.drew (x : RN w W gs sp a n c hs ts rv rs kvs g hh) : RN w W.drew gs sp a n c hs ts rv rs kvs g hh := x.below (Below.refl _ _).drew
theorem RN.app (x : RN w W gs sp a n c hs ts rv rs kvs g hh) (hg : W.grownBy W' rv.ownBlock) (ho : OwnR recP W' w.heap.size 88 rv' (rs ++ [p])) (hp : POK W w.heap.size p q) : RN w W' gs sp a n c hs ts rv' (rs ++ [p]) (kvs ++ [q]) g hh :=
  ⟨x.r.app hg ho hp, (hg.block g x.x.lt (fun e => by have := own_type x.r.row e.symm x.x; exact absurd this (by decide))).trans x.x⟩
/-- Two cells of the node: its key, its value. -/
theorem RN.two (x : RN w W gs sp a n c hs ts rv rs kvs g hh) : W.cell? ⟨g, 1, none⟩ = some (.slice hh.ka hh.kn hh.kc) ∧ W.cell? ⟨g, 2, none⟩ = some (.slice hh.va hh.vn hh.vc) := ⟨x.x.cells.2.1, x.x.cells.2.2.1⟩
end
end Go.Proofs.YtioifkbkllnkgaaDoor

/- What the program's Check and Bytes of proofs tell, as their contracts say it. -/
namespace Go.Proofs.YtioifkbkllnkgaaDoor
open Go.RowKit
set_option linter.unusedVariables false

/-- All of Check: the error's number, and the pairs. -/
def checkX (x : Int) (root f t : List Int) (o : Bool) (p : Tr) : Nat × List KV := if 1 ≤ x ∧ x ≤ 32 ∧ (root.length : Int) = x then checkR x.toNat root f t o p else (1, [])
/-- Check's answer. -/
def ChkTold (w : World) (r : Nat × List KV) (e : Ending) (w' : World) : Prop := ∃ ra n c rs, e = .returned (.tuple #[.slice ra n c, codeV r.1]) ∧ OwnR recP w' w.heap.size 88 (.slice ra n c) rs ∧ rs.length = n ∧ PV w' w.heap.size rs r.2 ∧ Below w.heap.size w w'
/-- Bytes' answer. -/
def BytesTold (w : World) (r : Nat × List KV) (e : Ending) (w' : World) : Prop := ∃ a n c is, e = .returned (.tuple #[.slice a n c, .bool is, codeV r.1]) ∧ ((is = false ∧ n = 0 ∧ (r.1 ≠ 0 ∨ r.2 = [])) ∨ ∃ key v, is = true ∧ r.1 = 0 ∧ r.2 = [(key, v)] ∧ InBytes w' a n c v) ∧ Below w.heap.size w w'
theorem checkX_ok {k : Nat} (hk1 : 1 ≤ k) (hk2 : k ≤ 32) {root : List Int} (hr : root.length = k) (f t : List Int) (o : Bool) (p : Tr) : checkX k root f t o p = checkR k root f t o p := by
  unfold checkX
  rw [if_pos ⟨by omega, by omega, by omega⟩]
  rfl
theorem checkX_no {x : Int} {root : List Int} (h : ¬ (1 ≤ x ∧ x ≤ 32 ∧ (root.length : Int) = x)) (f t : List Int) (o : Bool) (p : Tr) : checkX x root f t o p = (1, []) := by
  unfold checkX
  rw [if_neg h]
end Go.Proofs.YtioifkbkllnkgaaDoor

/- The parts between a tree's nodes: what a proof shows, by its nodes and these. No program is named here. -/
namespace Go.Proofs.YtioifkbkllnkgaaDoor
open Go.RowKit
set_option linter.unusedVariables false

/-- The parts without kids, in the order of the keys. -/
def endsT (t : Tr) : List Tr := t.fold fun t rs => if rs.length = 0 then [t] else rs.flatten
theorem endsT_eq (t : Tr) : endsT t = if t.kids.length = 0 then [t] else (t.kids.map endsT).flatten := by
  conv => lhs; unfold endsT
  rw [Tr.fold_eq, List.length_map]
  rfl
theorem endsT_0 {t : Tr} (h : t.kids.length = 0) : endsT t = [t] := by rw [endsT_eq, if_pos h]
theorem endsT_2 {t : Tr} (h : t.kids.length = 2) : endsT t = endsT (t.kids[0]'(by omega)) ++ endsT (t.kids[1]'(by omega)) := by
  have q : ∀ (l : List Tr) (hl : l.length = 2), (l.map endsT).flatten = endsT (l[0]'(by omega)) ++ endsT (l[1]'(by omega)) := by
    intro l hl
    match l, hl with
    | [a, b], _ => simp
  rw [endsT_eq, if_neg (by omega), q t.kids h]
theorem ends_len (t : Tr) : (endsT t).length ≤ countT t := by
  induction t using Tr.ind with
  | h t ih =>
  rw [endsT_eq, countT_eq]
  split
  · simp
  · have : ∀ l : List Tr, (∀ x ∈ l, (endsT x).length ≤ countT x) → (l.map endsT).flatten.length ≤ (l.map countT).sum := by
      intro l
      induction l with
      | nil => intro _; simp
      | cons a l ihl =>
        intro hl
        have h1 := hl a List.mem_cons_self
        have h2 := ihl (fun x hx => hl x (List.mem_cons_of_mem _ hx))
        simp only [List.map_cons, List.flatten_cons, List.length_append, List.sum_cons]
        omega
    have := this t.kids ih
    omega
/-- A cut as an item; a node as an item; both, by turns. -/
def cutI (e : Tr) : List IT := if e.k = 3 then [⟨true, false, [], []⟩] else []
def nodI (n : Tr) : IT := ⟨false, n.k == 2, n.key, n.val⟩
def weave : List Tr → List Tr → List IT
  | e :: es, n :: ns => cutI e ++ nodI n :: weave es ns
  | e :: _, [] => cutI e
  | [], _ => []
theorem weave_app : ∀ (es ns es' ns' : List Tr) (n : Tr), es.length = ns.length + 1 → weave (es ++ es') (ns ++ n :: ns') = weave es ns ++ nodI n :: weave es' ns' := by
  intro es
  induction es with
  | nil => intro ns es' ns' n h; simp at h
  | cons e es ih =>
    intro ns es' ns' n h
    cases ns with
    | nil =>
      have : es = [] := List.eq_nil_of_length_eq_zero (by simpa using h)
      subst this
      rfl
    | cons m ns =>
      have := ih ns es' ns' n (by simpa using h)
      show cutI e ++ nodI m :: weave (es ++ es') (ns ++ n :: ns') = (cutI e ++ nodI m :: weave es ns) ++ nodI n :: weave es' ns'
      rw [this]
      simp
theorem items_weave (t : Tr) : formedT t = true → itemsT t = weave (endsT t) (listT t) ∧ (endsT t).length = (listT t).length + 1 := by
  induction t using Tr.ind with
  | h t ih =>
  intro hf
  obtain ⟨hp, hk⟩ := formed_kids hf
  rcases part_kids hp with ⟨h0, k0 | k3⟩ | ⟨h2, hk12⟩
  · rw [itemsT_0 k0, endsT_0 h0, listT_0 h0]
    exact ⟨by simp [weave, cutI, k0], rfl⟩
  · rw [itemsT_3 k3, endsT_0 h0, listT_0 h0]
    exact ⟨by simp [weave, cutI, k3], rfl⟩
  · obtain ⟨a1, a2⟩ := ih _ (List.getElem_mem (by omega : 0 < t.kids.length)) (hk 0 (by omega))
    obtain ⟨b1, b2⟩ := ih _ (List.getElem_mem (by omega : 1 < t.kids.length)) (hk 1 (by omega))
    rw [itemsT_node (by omega) (by omega) h2, endsT_2 h2, listT_2 h2, a1, b1]
    refine ⟨(weave_app _ _ _ _ _ a2).symm, ?_⟩
    rw [List.length_append, List.length_append, List.length_cons, a2, b2]
    omega
theorem keys_weave : ∀ (es ns : List Tr), es.length = ns.length + 1 → keysI (weave es ns) = ns.map nodI := by
  intro es
  induction es with
  | nil => intro ns h; simp at h
  | cons e es ih =>
    intro ns h
    have hc : ∀ l : List IT, keysI (cutI e ++ l) = keysI l := by
      intro l
      unfold keysI cutI
      split <;> simp
    cases ns with
    | nil =>
      have := hc []
      rw [List.append_nil] at this
      exact this
    | cons n ns =>
      show keysI (cutI e ++ nodI n :: weave es ns) = _
      rw [hc]
      have := ih ns (by simpa using h)
      unfold keysI at this ⊢
      rw [List.filter_cons_of_pos (by simp [nodI]), this]
      rfl
/-- The keys of the nodes rise at a place. -/
def condN (ns : List Tr) (i : Nat) : Bool := i == 0 || ltL (ns.getD (i - 1) (.mk 0 [] [] [] [])).key (ns.getD i (.mk 0 [] [] [] [])).key
theorem rise_weave {t : Tr} (hf : formedT t = true) : riseI (itemsT t) = (List.range (listT t).length).all (condN (listT t)) := by
  obtain ⟨h1, h2⟩ := items_weave t hf
  have hk := keys_weave _ _ h2
  rw [← h1] at hk
  unfold riseI
  rw [hk, List.length_map]
  refine Bool.eq_iff_iff.2 ?_
  rw [List.all_eq_true, List.all_eq_true]
  have hg : ∀ i, (((listT t).map nodI).getD i ⟨false, false, [], []⟩).key = ((listT t).getD i (.mk 0 [] [] [] [])).key := by
    intro i
    rw [List.getD, List.getD, List.getElem?_map]
    cases (listT t)[i]? <;> rfl
  refine forall_congr' fun i => forall_congr' fun _ => ?_
  unfold condN
  rw [hg, hg]
/-- Nothing of the span can lie where a part was cut out. -/
def gapB (f t : List Int) (o : Bool) (low : List Int) (has : Bool) (ns : List Tr) (i : Nat) (e : Tr) : Bool :=
  e.k != 3 || emptyS f t o (if i = 0 then low else (ns.getD (i - 1) (.mk 0 [] [] [] [])).key) (ns.getD i (.mk 0 [] [] [] [])).key (has || decide (0 < i)) (decide (i < ns.length))
def darkB (f t : List Int) (o : Bool) (n : Tr) : Bool := n.k == 2 && inS f t o n.key
def takeB (f t : List Int) (o : Bool) (n : Tr) : Bool := n.k == 1 && inS f t o n.key
def kvT (n : Tr) : KV := (n.key, n.val)
def covG (f t : List Int) (o : Bool) : List Int → Bool → List Tr → List Tr → Bool
  | low, has, e :: es, n :: ns => (e.k != 3 || emptyS f t o low n.key has true) && !darkB f t o n && covG f t o n.key true es ns
  | low, has, e :: _, [] => e.k != 3 || emptyS f t o low [] has false
  | _, _, [], _ => true
theorem scan_weave (f t : List Int) (o : Bool) : ∀ (es ns : List Tr) (low : List Int) (has : Bool), es.length = ns.length + 1 → (∀ n ∈ ns, n.k = 1 ∨ n.k = 2) →
    scanI f t o low has (weave es ns) = if covG f t o low has es ns then some ((ns.filter (takeB f t o)).map kvT) else none := by
  intro es
  induction es with
  | nil => intro ns low has h; simp at h
  | cons e es ih =>
    intro ns low has h hn
    cases ns with
    | nil =>
      show scanI f t o low has (cutI e) = if (e.k != 3 || emptyS f t o low [] has false) then some [] else none
      unfold cutI
      by_cases h3 : e.k = 3
      · rw [if_pos h3, scan_cut rfl, h3]
        rfl
      · rw [if_neg h3, scanI]
        have : (e.k != 3) = true := by simpa using h3
        rw [this]
        rfl
    | cons n ns =>
      have hr := ih ns n.key true (by simpa using h) (fun x hx => hn x (List.mem_cons_of_mem _ hx))
      have hkey : ∀ low has, scanI f t o low has (nodI n :: weave es ns) = if (!darkB f t o n && covG f t o n.key true es ns) then some (((n :: ns).filter (takeB f t o)).map kvT) else none := by
        intro low has
        rw [scan_key rfl]
        show (if inS f t o n.key = true then _ else scanI f t o n.key true (weave es ns)) = _
        rw [hr]
        rw [List.filter_cons]
        have e1 : takeB f t o n = (n.k == 1 && inS f t o n.key) := rfl
        have e2 : darkB f t o n = (n.k == 2 && inS f t o n.key) := rfl
        rw [e1, e2]
        rcases hn n List.mem_cons_self with k1 | k2
        · rw [k1]
          cases hi : inS f t o n.key with
          | false => simp
          | true =>
            have e3 : (nodI n).dark = false := by simp [nodI, k1]
            rw [if_pos rfl, e3, if_neg (by simp)]
            show (scanI f t o n.key true (weave es ns)).map _ = _
            rw [hr]
            cases covG f t o n.key true es ns <;> simp [nodI, kvT]
        · rw [k2]
          cases hi : inS f t o n.key with
          | false => simp
          | true => simp [nodI, k2]
      show scanI f t o low has (cutI e ++ nodI n :: weave es ns) = if ((e.k != 3 || emptyS f t o low n.key has true) && !darkB f t o n && covG f t o n.key true es ns) then _ else none
      unfold cutI
      by_cases h3 : e.k = 3
      · rw [if_pos h3, List.singleton_append, scan_cut rfl, hkey]
        have e1 : nextI (nodI n :: weave es ns) = (n.key, true) := by rw [nextI]; rfl
        rw [e1, h3]
        cases emptyS f t o low n.key has true <;> simp
      · rw [if_neg h3, List.nil_append, hkey]
        have : (e.k != 3) = true := by simpa using h3
        rw [this]
        simp
theorem cov_gaps (f t : List Int) (o : Bool) : ∀ (es ns : List Tr) (low : List Int) (has : Bool) (hl : es.length = ns.length + 1),
    covG f t o low has es ns = true ↔ (∀ n ∈ ns, darkB f t o n = false) ∧ ∀ i (hi : i < es.length), gapB f t o low has ns i es[i] = true := by
  intro es
  induction es with
  | nil => intro ns low has h; simp at h
  | cons e es ih =>
    intro ns low has h
    cases ns with
    | nil =>
      have : es = [] := List.eq_nil_of_length_eq_zero (by simpa using h)
      subst this
      have e0 : (Tr.mk 0 [] [] [] []).key = [] := rfl
      show (e.k != 3 || emptyS f t o low [] has false) = true ↔ _
      constructor
      · intro q
        refine ⟨fun n hn => (by cases hn), fun i hi => ?_⟩
        have : i = 0 := by simpa using hi
        subst this
        simpa [gapB, e0] using q
      · rintro ⟨-, q⟩
        have := q 0 (by simp)
        simpa [gapB, e0] using this
    | cons n ns =>
      have hr := ih ns n.key true (by simpa using h)
      have hs : ∀ i x, gapB f t o low has (n :: ns) (i + 1) x = gapB f t o n.key true ns i x := by
        intro i x
        unfold gapB
        cases i with
        | zero => simp
        | succ i => simp
      have h0 : gapB f t o low has (n :: ns) 0 e = (e.k != 3 || emptyS f t o low n.key has true) := by simp [gapB]
      show ((e.k != 3 || emptyS f t o low n.key has true) && !darkB f t o n && covG f t o n.key true es ns) = true ↔ _
      rw [Bool.and_eq_true, Bool.and_eq_true, hr, ← h0]
      constructor
      · rintro ⟨⟨q0, q1⟩, q2, q3⟩
        refine ⟨fun m hm => ?_, fun i hi => ?_⟩
        · rcases List.mem_cons.1 hm with rfl | hm
          · simpa using q1
          · exact q2 m hm
        · cases i with
          | zero => exact q0
          | succ i =>
            rw [hs]
            exact q3 i (by simpa using hi)
      · rintro ⟨q1, q2⟩
        refine ⟨⟨q2 0 (by simp), by simpa using q1 n List.mem_cons_self⟩, fun m hm => q1 m (List.mem_cons_of_mem _ hm), fun i hi => ?_⟩
        have := q2 (i + 1) (by simpa using hi)
        rw [hs] at this
        exact this
theorem list_kinds (t : Tr) : formedT t = true → ∀ n ∈ listT t, n.k = 1 ∨ n.k = 2 := by
  induction t using Tr.ind with
  | h t ih =>
  intro hf n hn
  obtain ⟨hp, hk⟩ := formed_kids hf
  rcases part_kids hp with ⟨h0, _⟩ | ⟨h2, hk12⟩
  · rw [listT_0 h0] at hn
    cases hn
  · rw [listT_2 h2, List.mem_append, List.mem_cons] at hn
    rcases hn with hn | rfl | hn
    · exact ih _ (List.getElem_mem (by omega : 0 < t.kids.length)) (hk 0 (by omega)) n hn
    · omega
    · exact ih _ (List.getElem_mem (by omega : 1 < t.kids.length)) (hk 1 (by omega)) n hn
/-- Does a proof cover a span, by its nodes and the parts between them? -/
def CovT (f t : List Int) (o : Bool) (p : Tr) : Prop := (∀ n ∈ listT p, darkB f t o n = false) ∧ ∀ i (hi : i < (endsT p).length), gapB f t o [] false (listT p) i (endsT p)[i] = true
theorem scan_cov {f t : List Int} {o : Bool} {p : Tr} (hf : formedT p = true) (h : CovT f t o p) : scanI f t o [] false (itemsT p) = some (((listT p).filter (takeB f t o)).map kvT) := by
  obtain ⟨h1, h2⟩ := items_weave p hf
  rw [h1, scan_weave f t o _ _ _ _ h2 (list_kinds p hf), if_pos ((cov_gaps f t o _ _ _ _ h2).2 h)]
theorem scan_not {f t : List Int} {o : Bool} {p : Tr} (hf : formedT p = true) (h : ¬ CovT f t o p) : scanI f t o [] false (itemsT p) = none := by
  obtain ⟨h1, h2⟩ := items_weave p hf
  rw [h1, scan_weave f t o _ _ _ _ h2 (list_kinds p hf), if_neg (fun q => h ((cov_gaps f t o _ _ _ _ h2).1 q))]
end Go.Proofs.YtioifkbkllnkgaaDoor

/- The contract of the program's list of nodes. -/
namespace Go.Proofs.YtioifkbkllnkgaaDoor
open Go.RowKit
set_option linter.unusedVariables false

/-- From w to w' block gn and the row v alone were written; the row is where it was, or in a new block. -/
structure Keeps (w w' : World) (gn : Nat) (v v' : Value) : Prop where
  os : w'.os = w.os
  tape : w'.tape = w.tape
  output : w'.output = w.output
  size : w.heap.size ≤ w'.heap.size
  block : ∀ j, j < w.heap.size → j ≠ gn → some j ≠ v.ownBlock → w'.heap[j]? = w.heap[j]?
  ob : v'.ownBlock = v.ownBlock ∨ ∃ g, v'.ownBlock = some g ∧ w.heap.size ≤ g
theorem Keeps.trans {a b c : World} {gn : Nat} {u v x : Value} (h : Keeps a b gn u v) (h' : Keeps b c gn v x) : Keeps a c gn u x :=
  ⟨h'.os.trans h.os, h'.tape.trans h.tape, h'.output.trans h.output, Nat.le_trans h.size h'.size, fun j hj hn ho => by
    rw [h'.block j (Nat.lt_of_lt_of_le hj h.size) hn ?_]
    · exact h.block j hj hn ho
    · rcases h.ob with e | ⟨g, e, hg⟩
      · rw [e]; exact ho
      · rw [e]
        intro q
        injection q with q
        omega, by
    rcases h'.ob with e | ⟨g, e, hg⟩
    · rw [e]; exact h.ob
    · exact .inr ⟨g, e, Nat.le_trans h.size hg⟩⟩
theorem Keeps.of_below {w w' : World} (gn : Nat) (v : Value) (hb : Below w.heap.size w w') : Keeps w w' gn v v :=
  ⟨hb.os, hb.tape, hb.output, hb.size, fun j hj _ _ => hb.block j hj, .inl rfl⟩
theorem Keeps.of_grown {w w' : World} (gn : Nat) {v v' : Value} (hg : w.grownBy w' v.ownBlock) (ho : v'.ownBlock = v.ownBlock ∨ v'.ownBlock = some w.heap.size) : Keeps w w' gn v v' :=
  ⟨hg.os, hg.tape, hg.output, hg.size, fun j hj _ h => hg.block j hj h, by
    rcases ho with h | h
    · exact .inl h
    · exact .inr ⟨_, h, Nat.le_refl _⟩⟩
theorem Keeps.of_set (w : World) (gn : Nat) (v u : Value) : Keeps w (w.setCell ⟨gn, 0, none⟩ u) gn v v :=
  ⟨rfl, rfl, rfl, by simp [World.setCell], fun j _ hn _ => Below.heap_setCell w ⟨gn, 0, none⟩ u j hn, .inl rfl⟩
theorem Keeps.below {wb w w' : World} {gn B : Nat} {v v' : Value} (h : Keeps w w' gn v v') (hb : Below B wb w) (hB : B ≤ w.heap.size) (hgn : B ≤ gn) (hv : ∀ k, v.ownBlock = some k → B ≤ k) : Below B wb w' :=
  ⟨h.os.trans hb.os, h.tape.trans hb.tape, h.output.trans hb.output, Nat.le_trans hb.size h.size, fun j hj => by
    rw [h.block j (by omega) (by omega) ?_]
    · exact hb.block j hj
    · intro q
      have := hv j q.symm
      omega⟩
/-- The world inside the closure of List: u is what the variable holds, v the row. -/
structure LW (wb w W : World) (gc gn : Nat) (h : TH) (v0 u v : Value) (hs : List TH) : Prop where
  box : Box W 25 w.heap.size h
  clo : Var1 W 97 gc (.func (.func 66) #[] #[.pointer (some ⟨gc, 0, none⟩), .pointer (some ⟨gn, 0, none⟩)])
  var : Var1 W 23 gn u
  own : OwnT W wb.heap.size 25 v hs
  b : Below wb.heap.size wb W
  nb : some w.heap.size ≠ v.ownBlock
  ge : wb.heap.size ≤ gn
  k : Keeps w W gn v0 v
section
variable {wb w W W' : World} {gc gn : Nat} {h : TH} {v0 u v u' v' : Value} {hs hs' : List TH}
theorem LW.step (d : LW wb w W gc gn h v0 u v hs) (hvar : Var1 W' 23 gn u') (hown : OwnT W' wb.heap.size 25 v' hs') (hk : Keeps W W' gn v v') : LW wb w W' gc gn h v0 u' v' hs' :=
  ⟨(hk.block _ d.box.lt (d.box.neV d.var (by decide)) d.nb).trans d.box, (hk.block _ d.clo.lt (d.clo.ne d.var (by decide)) (d.own.neV d.clo (by decide))).trans d.clo, hvar, hown,
    hk.below d.b d.b.size d.ge (fun k e => (d.own.lt k e).1), by
      rcases hk.ob with e | ⟨g, e, hg⟩
      · rw [e]; exact d.nb
      · rw [e]
        intro q
        injection q with q
        have := d.box.lt
        omega, d.ge, d.k.trans hk⟩
theorem LW.below (d : LW wb w W gc gn h v0 u v hs) (hb : Below W.heap.size W W') : LW wb w W' gc gn h v0 u v hs :=
  d.step (d.var.below hb d.var.lt) (d.own.keep hb) (Keeps.of_below gn v hb)
theorem LW.drew (d : LW wb w W gc gn h v0 u v hs) : LW wb w W.drew gc gn h v0 u v hs := d.below (Below.refl _ _).drew
/-- The row was written, or has grown. -/
theorem LW.grown (d : LW wb w W gc gn h v0 u v hs) (hown : OwnT W' wb.heap.size 25 v' hs') (hg : W.grownBy W' v.ownBlock) (ho : v'.ownBlock = v.ownBlock ∨ v'.ownBlock = some W.heap.size) : LW wb w W' gc gn h v0 u v' hs' :=
  d.step (d.var.grown hg (d.own.neV d.var (by decide))) hown (Keeps.of_grown gn hg ho)
/-- The variable was written. -/
theorem LW.put (d : LW wb w W gc gn h v0 u v hs) (x : Value) : LW wb w (W.setCell ⟨gn, 0, none⟩ x) gc gn h v0 x v hs :=
  d.step (d.var.set x) (d.own.far (p := ⟨gn, 0, none⟩) (d.own.neV d.var (by decide)) x) (Keeps.of_set W gn v x)
end
theorem LW.new {wb w : World} {gc gn : Nat} {v : Value} {hs : List TH} (h : TH) (hb : Below wb.heap.size wb w) (hge : wb.heap.size ≤ gn) (hc : Var1 w 97 gc (.func (.func 66) #[] #[.pointer (some ⟨gc, 0, none⟩), .pointer (some ⟨gn, 0, none⟩)])) (hv : Var1 w 23 gn v) (ho : OwnT w wb.heap.size 25 v hs) : LW wb w (w.alloc (.cells #[.int .i64 h.k, .slice h.ka h.kn h.kc, .slice h.va h.vn h.vc, .slice h.da h.dn h.dc, .slice h.ta h.tn h.tc] 25)) gc gn h v v v hs :=
  have h1 : Below w.heap.size w (w.alloc (.cells #[.int .i64 h.k, .slice h.ka h.kn h.kc, .slice h.va h.vn h.vc, .slice h.da h.dn h.dc, .slice h.ta h.tn h.tc] 25)) := (Below.refl _ _).alloc (Nat.le_refl _) _
  ⟨Box.new w _ h, hc.below h1 hc.lt, hv.below h1 hv.lt, ho.keep h1, hb.trans (h1.mono hb.size), fun q => by have := (ho.lt _ q.symm).2; omega, hge, Keeps.of_below gn v h1⟩

set_option maxRecDepth 100000 in
set_option maxHeartbeats 4000000 in
theorem listC_any (wb : World) : ∀ (t : Tr) (h : TH) (w : World) (gc gn : Nat) (v : Value) (hs : List TH), InTree wb h t → formedT t = true → hs.length + countT t ≤ 1000 → Below wb.heap.size wb w → wb.heap.size ≤ gn →
    Var1 w 97 gc (.func (.func 66) #[] #[.pointer (some ⟨gc, 0, none⟩), .pointer (some ⟨gn, 0, none⟩)]) → Var1 w 23 gn v → OwnT w wb.heap.size 25 v hs →
    Calls Tryd.prog 66 #[h.v, .pointer (some ⟨gc, 0, none⟩), .pointer (some ⟨gn, 0, none⟩)] w (fun e w' => ∃ v' hs', e = .returned (.tuple #[]) ∧ Var1 w' 23 gn v' ∧ OwnT w' wb.heap.size 25 v' (hs ++ hs') ∧ Heads wb hs' (listT t) ∧ Keeps w w' gn v v') := by
  intro t
  induction t using Tr.ind with
  | h t ih =>
  intro h w gc gn v hs ht hf hcn hbw hge hc hv ho
  obtain ⟨hpb, hfk⟩ := formed_kids hf
  unfold TH.v
  obtain ⟨H, hp⟩ := ht.parts
  have htl := hp.len
  have htm := Nat.le_trans hp.sl.le hp.sl.max
  have htc := hp.sl.le
  simp only [maxLen] at htm
  have HP := Lib.hid hp
  have HTT := Lib.hid ht
  have IH := Lib.hid ih
  have hd0 := LW.new h hbw hge hc hv ho
  have HD0 := Lib.hid hd0
  obtain ⟨x0, x1, x2, x3, x4⟩ := hd0.box.cells
  clear hp ht ih hbw hge hc hv ho hd0
  obtain ⟨ti, hti, htz⟩ := Option.map_eq_some_iff.1 infoTree2
  simp only [Prod.mk.injEq] at htz
  obtain ⟨hz0, hz1, hz2⟩ := htz
  go_enter Tryd.func66, Tryd.ntmps66
  go_upto_if 6 with (first
    | (go_at_call 67
       refine (isNode_any t h _ (HTT.out.lower HD0.out.b)).mono ?_
       rintro _ w1 ⟨rfl, hb1⟩
       have HD1 := Lib.hid (HD0.out.below hb1)
       clear hb1))
  clear x0 x1 x2 x3 x4 HD0
  rcases part_kids hpb with ⟨h0, hk⟩ | ⟨h2, hk⟩
  · have e1 : nodeK t = false := by unfold nodeK; rcases hk with hk | hk <;> rw [hk] <;> rfl
    rw [e1]
    clear e1 hk
    go_wp2_with fail
    first | go_end0 | refine bodyPost_ret (results_none rfl _ _ _) rfl ?_
    exact ⟨v, [], rfl, HD1.out.var, by rw [List.append_nil]; exact HD1.out.own, by rw [listT_0 h0]; exact Heads.nil wb, HD1.out.k⟩
  have e1 : nodeK t = true := by unfold nodeK; rcases hk with hk | hk <;> rw [hk] <;> rfl
  rw [e1]
  clear e1 hk
  simp only [Bool.not_true]
  have l0 : 0 < t.kids.length := by omega
  have l1 : 1 < t.kids.length := by omega
  have hct := count_two h2
  have ll0 := list_len _ (hfk 0 l0)
  have HL := Lib.hid (listT_2 h2)
  have HF := Lib.hid hfk
  have hbd0 : hs.length + countT t.kids[0] ≤ 1000 := by omega
  have hbd3 : hs.length + countT t.kids[0] + 1 + countT t.kids[1] ≤ 1000 := by omega
  clear hfk hf hct hcn
  go_upto_region 2 with fail
  obtain ⟨g, off, hta, hg, -⟩ := (HP.out.below HD1.out.b).place (by omega)
  have HTA := Lib.hid hta
  rw [hta]
  clear hta hg
  have ht1 : (1 : Int) < (h.tn : Int) := by omega
  have ht0 : 0 < h.tn := by omega
  refine wp_region_held_drew (S := (fun W => W.cell? ⟨gc, 0, none⟩ = some (.func (.func 66) #[] #[.pointer (some ⟨gc, 0, none⟩), .pointer (some ⟨gn, 0, none⟩)]) ∧ W.cell? ⟨w.heap.size, 4, none⟩ = some (.slice (some ⟨g, off, none⟩) h.tn h.tc) ∧ W.cell? ⟨g, off, none⟩ = some (.int .i64 (H 0).k) ∧ W.cell? ⟨g, off + 1, none⟩ = some (.slice (H 0).ka (H 0).kn (H 0).kc) ∧ W.cell? ⟨g, off + 2, none⟩ = some (.slice (H 0).va (H 0).vn (H 0).vc) ∧ W.cell? ⟨g, off + 3, none⟩ = some (.slice (H 0).da (H 0).dn (H 0).dc) ∧ W.cell? ⟨g, off + 4, none⟩ = some (.slice (H 0).ta (H 0).tn (H 0).tc))) (by kernel_rfl) ⟨HD1.out.drew.clo.cell, (HD1.out.drew.box.cells.2.2.2.2).trans (by rw [HTA.out]), (HP.out.below HD1.out.drew.b).kid0 HTA.out (by omega)⟩ (fun hHeld => ?_)
  refine take_w (i := 0) (oi := ?oZ1) (v := ?vZ1) ?hiZ1 (by kernel_rfl) (by kernel_rfl) (by kernel_rfl) ?hQZ1 ?hwZ1 ?hyZ1 (by assumption) ?restZ1
  case hiZ1 => (simp only [List.getElem?_toArray, List.getElem?_cons_zero] <;> rfl)
  case hQZ1 => exact (fun _ _ _ h => h)
  case hwZ1 => rfl
  case hyZ1 => (intro w hSw; (try dsimp only at hSw); go_simp; try with_reducible rfl)
  (try simp only [Act.put, List.setIfInBounds_toArray, List.set_cons_zero, List.set_cons_succ])
  refine take_w (i := 1) (oi := ?oZ2) (v := ?vZ2) ?hiZ2 (by kernel_rfl) (by kernel_rfl) (by kernel_rfl) ?hQZ2 ?hwZ2 ?hyZ2 (by assumption) ?restZ2
  case hiZ2 => (simp only [List.getElem?_toArray, List.getElem?_cons_succ, List.getElem?_cons_zero] <;> rfl)
  case hQZ2 => exact (fun _ _ _ h => h)
  case hwZ2 => rfl
  case hyZ2 => (intro w hSw; (try dsimp only at hSw); go_simp; try with_reducible rfl)
  (try simp only [Act.put, List.setIfInBounds_toArray, List.set_cons_zero, List.set_cons_succ])
  refine take_w (i := 2) (oi := ?oZ3) (v := ?vZ3) ?hiZ3 (by kernel_rfl) (by kernel_rfl) (by kernel_rfl) ?hQZ3 ?hwZ3 ?hyZ3 (by assumption) ?restZ3
  case hiZ3 => (simp only [List.getElem?_toArray, List.getElem?_cons_succ, List.getElem?_cons_zero] <;> rfl)
  case hQZ3 => exact (fun _ _ _ h => h)
  case hwZ3 => rfl
  case hyZ3 => (intro w hSw; (try dsimp only at hSw); go_simp; try with_reducible rfl)
  (try simp only [Act.put, List.setIfInBounds_toArray, List.set_cons_zero, List.set_cons_succ])
  refine take_w (i := 3) (oi := ?oZ4) (v := ?vZ4) ?hiZ4 (by kernel_rfl) (by kernel_rfl) (by kernel_rfl) ?hQZ4 ?hwZ4 ?hyZ4 (by assumption) ?restZ4
  case hiZ4 => (simp only [List.getElem?_toArray, List.getElem?_cons_succ, List.getElem?_cons_zero] <;> rfl)
  case hQZ4 => exact (fun _ _ _ h => h)
  case hwZ4 => rfl
  case hyZ4 => (intro w hSw; (try dsimp only at hSw); go_simp; try with_reducible rfl)
  (try simp only [Act.put, List.setIfInBounds_toArray, List.set_cons_zero, List.set_cons_succ])
  refine take_w (i := 4) (oi := ?oZ5) (v := ?vZ5) ?hiZ5 (by kernel_rfl) (by kernel_rfl) (by kernel_rfl) ?hQZ5 ?hwZ5 ?hyZ5 (by assumption) ?restZ5
  case hiZ5 => (simp only [List.getElem?_toArray, List.getElem?_cons_succ, List.getElem?_cons_zero] <;> rfl)
  case hQZ5 => exact (fun _ _ _ h => h)
  case hwZ5 => rfl
  case hyZ5 => (intro w hSw; (try dsimp only at hSw); go_simp; try with_reducible rfl)
  (try simp only [Act.put, List.setIfInBounds_toArray, List.set_cons_zero, List.set_cons_succ])
  refine wpAnyH_ready (rs := [5]) (by kernel_rfl) (by simp) ?_
  refine AllReadyH.cons (o := ?oZ6) ?hiZ6 (fun K hK => ?stZ6) AllReadyH.nil
  case hiZ6 => (simp only [List.getElem?_toArray, List.getElem?_cons_succ, List.getElem?_cons_zero] <;> rfl)
  go_simp
  go_at_call 66
  refine (IH.out _ (List.getElem_mem l0) (H 0) _ gc gn _ _ (HP.out.kids 0 l0) (HF.out 0 l0) hbd0 HD1.out.drew.b HD1.out.drew.ge HD1.out.drew.clo HD1.out.drew.var HD1.out.drew.own).mono ?_
  rintro _ w2 ⟨v2, hs2, rfl, hv2, ho2, hh2, hk2⟩
  have HD2 := Lib.hid (HD1.out.drew.step hv2 ho2 hk2)
  have HH2 := Lib.hid hh2
  clear hv2 ho2 hh2 hk2
  go_simp
  refine hK.out _ _ ?_ (fun hHeld => ?_)
  · (first | exact ⟨HD2.out.clo.cell, (HD2.out.box.cells.2.2.2.2).trans (by rw [HTA.out]), (HP.out.below HD2.out.b).kid0 HTA.out (by omega)⟩ | exact ⟨HD1.out.drew.clo.cell, (HD1.out.drew.box.cells.2.2.2.2).trans (by rw [HTA.out]), (HP.out.below HD1.out.drew.b).kid0 HTA.out (by omega)⟩)
  clear hK K
  (try simp only [Act.put, List.setIfInBounds_toArray, List.set_cons_zero, List.set_cons_succ])
  refine wpAnyH_done (by kernel_rfl) ?_ _
  
  clear hHeld
  have hhl := HH2.out.1
  obtain ⟨a2, c2, hv2⟩ := HD2.out.own.sl
  have hbd4 : (hs ++ hs2).length + 1 + countT t.kids[1] ≤ 1000 := by rw [List.length_append, hhl]; omega
  generalize hn2 : (hs ++ hs2).length = n2 at hv2 hbd4
  have HN2 := Lib.hid hn2
  subst hv2
  clear hhl hn2
  go_upto_region 3 with fail
  go_cut [] (fun wx => ∃ v3, LW wb w wx gc gn h v v3 v3 (hs ++ hs2 ++ [h]))
  case first =>
    have hba : Below w2.drew.heap.size w2.drew (w2.drew.alloc (.cells #[.int .i64 0, .slice none 0 0, .slice none 0 0, .slice none 0 0, .slice none 0 0] 25)) := (Below.refl _ _).alloc (Nat.le_refl _) _
    have HDA := Lib.hid (HD2.out.drew.below hba)
    have HZB : Hid (Box (w2.drew.alloc (.cells #[.int .i64 0, .slice none 0 0, .slice none 0 0, .slice none 0 0, .slice none 0 0] 25)) 25 w2.heap.size hZ) := Lib.hid (Box.new w2.drew 25 hZ)
    have cv2 := HD2.out.var.cell
    have cva : (w2.alloc (.cells #[.int .i64 0, .slice none 0 0, .slice none 0 0, .slice none 0 0, .slice none 0 0] 25)).cell? ⟨gn, 0, none⟩ = some (.slice a2 n2 c2) := HDA.out.var.cell
    have hlt2 : (n2 : Int) < (n2 : Int) + 1 := by omega
    clear hba
    refine wp_region_held_drew (S := (fun W => W.cell? ⟨w.heap.size, 0, none⟩ = some (.int .i64 h.k) ∧ W.cell? ⟨w.heap.size, 1, none⟩ = some (.slice h.ka h.kn h.kc) ∧ W.cell? ⟨w.heap.size, 2, none⟩ = some (.slice h.va h.vn h.vc) ∧ W.cell? ⟨w.heap.size, 3, none⟩ = some (.slice h.da h.dn h.dc) ∧ W.cell? ⟨w.heap.size, 4, none⟩ = some (.slice (some ⟨g, off, none⟩) h.tn h.tc))) (by kernel_rfl) ⟨HD2.out.drew.box.cells.1, HD2.out.drew.box.cells.2.1, HD2.out.drew.box.cells.2.2.1, HD2.out.drew.box.cells.2.2.2.1, (HD2.out.drew.box.cells.2.2.2.2).trans (by rw [HTA.out])⟩ (fun hHeld => ?_)
    refine take_w (i := 1) (oi := ?oZ13) (v := ?vZ13) ?hiZ13 (by kernel_rfl) (by kernel_rfl) (by kernel_rfl) ?hQZ13 ?hwZ13 ?hyZ13 (by assumption) ?restZ13
    case hiZ13 => (simp only [List.getElem?_toArray, List.getElem?_cons_succ, List.getElem?_cons_zero] <;> rfl)
    case hQZ13 => exact (fun _ _ _ h => h)
    case hwZ13 => rfl
    case hyZ13 => (intro w hSw; (try dsimp only at hSw); go_simp; try with_reducible rfl)
    (try simp only [Act.put, List.setIfInBounds_toArray, List.set_cons_zero, List.set_cons_succ])
    refine wpAnyH_ready (rs := [0, 3]) (by kernel_rfl) (by simp) ?_
    refine AllReadyH.cons (o := ?oZ14) ?hiZ14 (fun K hK => ?stZ14) (AllReadyH.cons (o := ?oZ15) ?hiZ15 (fun K hK => ?stZ15) AllReadyH.nil)
    case hiZ14 => (simp only [List.getElem?_toArray, List.getElem?_cons_zero] <;> rfl)
    case hiZ15 => (simp only [List.getElem?_toArray, List.getElem?_cons_succ, List.getElem?_cons_zero] <;> rfl)
    case stZ14 =>
      go_simp
      refine hK.out _ _ ?_ (fun hHeld => ?_)
      · (first | exact ⟨(HD4.out.put (.slice (some ⟨g3, 0, none⟩) (n2 + 1) c3)).box.cells.1, (HD4.out.put (.slice (some ⟨g3, 0, none⟩) (n2 + 1) c3)).box.cells.2.1, (HD4.out.put (.slice (some ⟨g3, 0, none⟩) (n2 + 1) c3)).box.cells.2.2.1, (HD4.out.put (.slice (some ⟨g3, 0, none⟩) (n2 + 1) c3)).box.cells.2.2.2.1, ((HD4.out.put (.slice (some ⟨g3, 0, none⟩) (n2 + 1) c3)).box.cells.2.2.2.2).trans (by rw [HTA.out])⟩ | exact ⟨HD5.out.box.cells.1, HD5.out.box.cells.2.1, HD5.out.box.cells.2.2.1, HD5.out.box.cells.2.2.2.1, (HD5.out.box.cells.2.2.2.2).trans (by rw [HTA.out])⟩ | exact ⟨HD4.out.box.cells.1, HD4.out.box.cells.2.1, HD4.out.box.cells.2.2.1, HD4.out.box.cells.2.2.2.1, (HD4.out.box.cells.2.2.2.2).trans (by rw [HTA.out])⟩ | exact ⟨(HD3.out.put (.slice (some ⟨g3, 0, none⟩) (n2 + 1) c3)).box.cells.1, (HD3.out.put (.slice (some ⟨g3, 0, none⟩) (n2 + 1) c3)).box.cells.2.1, (HD3.out.put (.slice (some ⟨g3, 0, none⟩) (n2 + 1) c3)).box.cells.2.2.1, (HD3.out.put (.slice (some ⟨g3, 0, none⟩) (n2 + 1) c3)).box.cells.2.2.2.1, ((HD3.out.put (.slice (some ⟨g3, 0, none⟩) (n2 + 1) c3)).box.cells.2.2.2.2).trans (by rw [HTA.out])⟩ | exact ⟨HD3.out.box.cells.1, HD3.out.box.cells.2.1, HD3.out.box.cells.2.2.1, HD3.out.box.cells.2.2.2.1, (HD3.out.box.cells.2.2.2.2).trans (by rw [HTA.out])⟩ | exact ⟨HDA.out.box.cells.1, HDA.out.box.cells.2.1, HDA.out.box.cells.2.2.1, HDA.out.box.cells.2.2.2.1, (HDA.out.box.cells.2.2.2.2).trans (by rw [HTA.out])⟩ | exact ⟨HD2.out.drew.box.cells.1, HD2.out.drew.box.cells.2.1, HD2.out.drew.box.cells.2.2.1, HD2.out.drew.box.cells.2.2.2.1, (HD2.out.drew.box.cells.2.2.2.2).trans (by rw [HTA.out])⟩)
      clear hK K
      (try simp only [Act.put, List.setIfInBounds_toArray, List.set_cons_zero, List.set_cons_succ])
      refine take_w (i := 2) (oi := ?oZ16) (v := ?vZ16) ?hiZ16 (by kernel_rfl) (by kernel_rfl) (by kernel_rfl) ?hQZ16 ?hwZ16 ?hyZ16 (by assumption) ?restZ16
      case hiZ16 => (simp only [List.getElem?_toArray, List.getElem?_cons_succ, List.getElem?_cons_zero] <;> rfl)
      case hQZ16 => exact (fun _ _ _ h => h)
      case hwZ16 => rfl
      case hyZ16 => (intro w hSw; (try dsimp only at hSw); go_simp; try with_reducible rfl)
      (try simp only [Act.put, List.setIfInBounds_toArray, List.set_cons_zero, List.set_cons_succ])
      refine wpAnyH_ready (rs := [3]) (by kernel_rfl) (by simp) ?_
      refine AllReadyH.cons (o := ?oZ17) ?hiZ17 (fun K hK => ?stZ17) AllReadyH.nil
      case hiZ17 => (simp only [List.getElem?_toArray, List.getElem?_cons_succ, List.getElem?_cons_zero] <;> rfl)
      go_simp
      refine hK.out _ _ ?_ (fun hHeld => ?_)
      · (first | exact ⟨(HD4.out.put (.slice (some ⟨g3, 0, none⟩) (n2 + 1) c3)).box.cells.1, (HD4.out.put (.slice (some ⟨g3, 0, none⟩) (n2 + 1) c3)).box.cells.2.1, (HD4.out.put (.slice (some ⟨g3, 0, none⟩) (n2 + 1) c3)).box.cells.2.2.1, (HD4.out.put (.slice (some ⟨g3, 0, none⟩) (n2 + 1) c3)).box.cells.2.2.2.1, ((HD4.out.put (.slice (some ⟨g3, 0, none⟩) (n2 + 1) c3)).box.cells.2.2.2.2).trans (by rw [HTA.out])⟩ | exact ⟨HD5.out.box.cells.1, HD5.out.box.cells.2.1, HD5.out.box.cells.2.2.1, HD5.out.box.cells.2.2.2.1, (HD5.out.box.cells.2.2.2.2).trans (by rw [HTA.out])⟩ | exact ⟨HD4.out.box.cells.1, HD4.out.box.cells.2.1, HD4.out.box.cells.2.2.1, HD4.out.box.cells.2.2.2.1, (HD4.out.box.cells.2.2.2.2).trans (by rw [HTA.out])⟩ | exact ⟨(HD3.out.put (.slice (some ⟨g3, 0, none⟩) (n2 + 1) c3)).box.cells.1, (HD3.out.put (.slice (some ⟨g3, 0, none⟩) (n2 + 1) c3)).box.cells.2.1, (HD3.out.put (.slice (some ⟨g3, 0, none⟩) (n2 + 1) c3)).box.cells.2.2.1, (HD3.out.put (.slice (some ⟨g3, 0, none⟩) (n2 + 1) c3)).box.cells.2.2.2.1, ((HD3.out.put (.slice (some ⟨g3, 0, none⟩) (n2 + 1) c3)).box.cells.2.2.2.2).trans (by rw [HTA.out])⟩ | exact ⟨HD3.out.box.cells.1, HD3.out.box.cells.2.1, HD3.out.box.cells.2.2.1, HD3.out.box.cells.2.2.2.1, (HD3.out.box.cells.2.2.2.2).trans (by rw [HTA.out])⟩ | exact ⟨HDA.out.box.cells.1, HDA.out.box.cells.2.1, HDA.out.box.cells.2.2.1, HDA.out.box.cells.2.2.2.1, (HDA.out.box.cells.2.2.2.2).trans (by rw [HTA.out])⟩ | exact ⟨HD2.out.drew.box.cells.1, HD2.out.drew.box.cells.2.1, HD2.out.drew.box.cells.2.2.1, HD2.out.drew.box.cells.2.2.2.1, (HD2.out.drew.box.cells.2.2.2.2).trans (by rw [HTA.out])⟩)
      clear hK K
      (try simp only [Act.put, List.setIfInBounds_toArray, List.set_cons_zero, List.set_cons_succ])
      refine wpAnyH_ready (rs := [4]) (by kernel_rfl) (by simp) ?_
      refine AllReadyH.cons (o := ?oZ18) ?hiZ18 (fun K hK => ?stZ18) AllReadyH.nil
      case hiZ18 => (simp only [List.getElem?_toArray, List.getElem?_cons_succ, List.getElem?_cons_zero] <;> rfl)
      refine step_append_trees _ rfl (.tmp 13) (.tmp 16) 23 rfl wb.heap.size 25 ti _ 104 Tryd.underlying23 hti hz0 hz1 hz2 rfl (.slice a2 n2 c2) (hs ++ hs2) rfl HDA.out.own w2.heap.size 1 [hZ] rfl HZB.out.row (by rw [HN2.out]; simp only [List.length_cons, List.length_nil]; omega) (by omega) HDA.out.b.size ?_
      intro v3 w3 ho3 hg3 hob3
      have hl3 : (hs ++ hs2 ++ [hZ]).length = n2 + 1 := by rw [List.length_append, HN2.out]; rfl
      rcases ho3.form with ⟨_, q1⟩ | ⟨g3, c3, q1, -, -, -, -, -⟩
      · exfalso
        rw [q1] at hl3
        simp at hl3
      rw [hl3] at q1
      subst q1
      clear hl3
      have hd3 := HDA.out.grown ho3 hg3 hob3
      have HD3 := Lib.hid hd3
      have cn3 := hd3.var.cell
      have cf3 := hd3.var.frozen 0
      clear ho3 hg3 hob3 hd3
      refine hK.out _ _ ?_ (fun hHeld => ?_)
      · (first | exact ⟨(HD4.out.put (.slice (some ⟨g3, 0, none⟩) (n2 + 1) c3)).box.cells.1, (HD4.out.put (.slice (some ⟨g3, 0, none⟩) (n2 + 1) c3)).box.cells.2.1, (HD4.out.put (.slice (some ⟨g3, 0, none⟩) (n2 + 1) c3)).box.cells.2.2.1, (HD4.out.put (.slice (some ⟨g3, 0, none⟩) (n2 + 1) c3)).box.cells.2.2.2.1, ((HD4.out.put (.slice (some ⟨g3, 0, none⟩) (n2 + 1) c3)).box.cells.2.2.2.2).trans (by rw [HTA.out])⟩ | exact ⟨HD5.out.box.cells.1, HD5.out.box.cells.2.1, HD5.out.box.cells.2.2.1, HD5.out.box.cells.2.2.2.1, (HD5.out.box.cells.2.2.2.2).trans (by rw [HTA.out])⟩ | exact ⟨HD4.out.box.cells.1, HD4.out.box.cells.2.1, HD4.out.box.cells.2.2.1, HD4.out.box.cells.2.2.2.1, (HD4.out.box.cells.2.2.2.2).trans (by rw [HTA.out])⟩ | exact ⟨(HD3.out.put (.slice (some ⟨g3, 0, none⟩) (n2 + 1) c3)).box.cells.1, (HD3.out.put (.slice (some ⟨g3, 0, none⟩) (n2 + 1) c3)).box.cells.2.1, (HD3.out.put (.slice (some ⟨g3, 0, none⟩) (n2 + 1) c3)).box.cells.2.2.1, (HD3.out.put (.slice (some ⟨g3, 0, none⟩) (n2 + 1) c3)).box.cells.2.2.2.1, ((HD3.out.put (.slice (some ⟨g3, 0, none⟩) (n2 + 1) c3)).box.cells.2.2.2.2).trans (by rw [HTA.out])⟩ | exact ⟨HD3.out.box.cells.1, HD3.out.box.cells.2.1, HD3.out.box.cells.2.2.1, HD3.out.box.cells.2.2.2.1, (HD3.out.box.cells.2.2.2.2).trans (by rw [HTA.out])⟩ | exact ⟨HDA.out.box.cells.1, HDA.out.box.cells.2.1, HDA.out.box.cells.2.2.1, HDA.out.box.cells.2.2.2.1, (HDA.out.box.cells.2.2.2.2).trans (by rw [HTA.out])⟩ | exact ⟨HD2.out.drew.box.cells.1, HD2.out.drew.box.cells.2.1, HD2.out.drew.box.cells.2.2.1, HD2.out.drew.box.cells.2.2.2.1, (HD2.out.drew.box.cells.2.2.2.2).trans (by rw [HTA.out])⟩)
      clear hK K
      (try simp only [Act.put, List.setIfInBounds_toArray, List.set_cons_zero, List.set_cons_succ])
      refine take_w (i := 5) (oi := ?oZ19) (v := ?vZ19) ?hiZ19 (by kernel_rfl) (by kernel_rfl) (by kernel_rfl) ?hQZ19 ?hwZ19 ?hyZ19 (by assumption) ?restZ19
      case hiZ19 => (simp only [List.getElem?_toArray, List.getElem?_cons_succ, List.getElem?_cons_zero] <;> rfl)
      case hQZ19 => exact (fun _ _ _ h => h)
      case hwZ19 => rfl
      case hyZ19 => (intro w hSw; (try dsimp only at hSw); go_simp; try with_reducible rfl)
      (try simp only [Act.put, List.setIfInBounds_toArray, List.set_cons_zero, List.set_cons_succ])
      refine wpAnyH_ready (rs := [6, 7]) (by kernel_rfl) (by simp) ?_
      refine AllReadyH.cons (o := ?oZ20) ?hiZ20 (fun K hK => ?stZ20) (AllReadyH.cons (o := ?oZ21) ?hiZ21 (fun K hK => ?stZ21) AllReadyH.nil)
      case hiZ20 => (simp only [List.getElem?_toArray, List.getElem?_cons_succ, List.getElem?_cons_zero] <;> rfl)
      case hiZ21 => (simp only [List.getElem?_toArray, List.getElem?_cons_succ, List.getElem?_cons_zero] <;> rfl)
      case stZ20 =>
        refine step_store_last _ rfl 25 (.tmp 18) (.tmp 14) rfl wb.heap.size 25 g3 n2 c3 (hs ++ hs2) hZ h HN2.out HD3.out.own rfl (by unfold TH.v; rw [HTA.out]; rfl) infoTree5 ?_
        intro w4 ho4 hg4
        have hd4 := HD3.out.grown ho4 hg4 (.inl rfl)
        have HD4 := Lib.hid hd4
        have cn4 := hd4.var.cell
        have cf4 := hd4.var.frozen 0
        clear ho4 hg4 hd4
        refine hK.out _ _ ?_ (fun hHeld => ?_)
        · (first | exact ⟨(HD4.out.put (.slice (some ⟨g3, 0, none⟩) (n2 + 1) c3)).box.cells.1, (HD4.out.put (.slice (some ⟨g3, 0, none⟩) (n2 + 1) c3)).box.cells.2.1, (HD4.out.put (.slice (some ⟨g3, 0, none⟩) (n2 + 1) c3)).box.cells.2.2.1, (HD4.out.put (.slice (some ⟨g3, 0, none⟩) (n2 + 1) c3)).box.cells.2.2.2.1, ((HD4.out.put (.slice (some ⟨g3, 0, none⟩) (n2 + 1) c3)).box.cells.2.2.2.2).trans (by rw [HTA.out])⟩ | exact ⟨HD5.out.box.cells.1, HD5.out.box.cells.2.1, HD5.out.box.cells.2.2.1, HD5.out.box.cells.2.2.2.1, (HD5.out.box.cells.2.2.2.2).trans (by rw [HTA.out])⟩ | exact ⟨HD4.out.box.cells.1, HD4.out.box.cells.2.1, HD4.out.box.cells.2.2.1, HD4.out.box.cells.2.2.2.1, (HD4.out.box.cells.2.2.2.2).trans (by rw [HTA.out])⟩ | exact ⟨(HD3.out.put (.slice (some ⟨g3, 0, none⟩) (n2 + 1) c3)).box.cells.1, (HD3.out.put (.slice (some ⟨g3, 0, none⟩) (n2 + 1) c3)).box.cells.2.1, (HD3.out.put (.slice (some ⟨g3, 0, none⟩) (n2 + 1) c3)).box.cells.2.2.1, (HD3.out.put (.slice (some ⟨g3, 0, none⟩) (n2 + 1) c3)).box.cells.2.2.2.1, ((HD3.out.put (.slice (some ⟨g3, 0, none⟩) (n2 + 1) c3)).box.cells.2.2.2.2).trans (by rw [HTA.out])⟩ | exact ⟨HD3.out.box.cells.1, HD3.out.box.cells.2.1, HD3.out.box.cells.2.2.1, HD3.out.box.cells.2.2.2.1, (HD3.out.box.cells.2.2.2.2).trans (by rw [HTA.out])⟩ | exact ⟨HDA.out.box.cells.1, HDA.out.box.cells.2.1, HDA.out.box.cells.2.2.1, HDA.out.box.cells.2.2.2.1, (HDA.out.box.cells.2.2.2.2).trans (by rw [HTA.out])⟩ | exact ⟨HD2.out.drew.box.cells.1, HD2.out.drew.box.cells.2.1, HD2.out.drew.box.cells.2.2.1, HD2.out.drew.box.cells.2.2.2.1, (HD2.out.drew.box.cells.2.2.2.2).trans (by rw [HTA.out])⟩)
        clear hK K
        (try simp only [Act.put])
        refine wpAnyH_ready (rs := [7]) (by kernel_rfl) (by simp) ?_
        refine AllReadyH.cons (o := ?oZ22) ?hiZ22 (fun K hK => ?stZ22) AllReadyH.nil
        case hiZ22 => (simp only [List.getElem?_toArray, List.getElem?_cons_succ, List.getElem?_cons_zero] <;> rfl)
        go_simp
        refine hK.out _ _ ?_ (fun hHeld => ?_)
        · (first | exact ⟨(HD4.out.put (.slice (some ⟨g3, 0, none⟩) (n2 + 1) c3)).box.cells.1, (HD4.out.put (.slice (some ⟨g3, 0, none⟩) (n2 + 1) c3)).box.cells.2.1, (HD4.out.put (.slice (some ⟨g3, 0, none⟩) (n2 + 1) c3)).box.cells.2.2.1, (HD4.out.put (.slice (some ⟨g3, 0, none⟩) (n2 + 1) c3)).box.cells.2.2.2.1, ((HD4.out.put (.slice (some ⟨g3, 0, none⟩) (n2 + 1) c3)).box.cells.2.2.2.2).trans (by rw [HTA.out])⟩ | exact ⟨HD5.out.box.cells.1, HD5.out.box.cells.2.1, HD5.out.box.cells.2.2.1, HD5.out.box.cells.2.2.2.1, (HD5.out.box.cells.2.2.2.2).trans (by rw [HTA.out])⟩ | exact ⟨HD4.out.box.cells.1, HD4.out.box.cells.2.1, HD4.out.box.cells.2.2.1, HD4.out.box.cells.2.2.2.1, (HD4.out.box.cells.2.2.2.2).trans (by rw [HTA.out])⟩ | exact ⟨(HD3.out.put (.slice (some ⟨g3, 0, none⟩) (n2 + 1) c3)).box.cells.1, (HD3.out.put (.slice (some ⟨g3, 0, none⟩) (n2 + 1) c3)).box.cells.2.1, (HD3.out.put (.slice (some ⟨g3, 0, none⟩) (n2 + 1) c3)).box.cells.2.2.1, (HD3.out.put (.slice (some ⟨g3, 0, none⟩) (n2 + 1) c3)).box.cells.2.2.2.1, ((HD3.out.put (.slice (some ⟨g3, 0, none⟩) (n2 + 1) c3)).box.cells.2.2.2.2).trans (by rw [HTA.out])⟩ | exact ⟨HD3.out.box.cells.1, HD3.out.box.cells.2.1, HD3.out.box.cells.2.2.1, HD3.out.box.cells.2.2.2.1, (HD3.out.box.cells.2.2.2.2).trans (by rw [HTA.out])⟩ | exact ⟨HDA.out.box.cells.1, HDA.out.box.cells.2.1, HDA.out.box.cells.2.2.1, HDA.out.box.cells.2.2.2.1, (HDA.out.box.cells.2.2.2.2).trans (by rw [HTA.out])⟩ | exact ⟨HD2.out.drew.box.cells.1, HD2.out.drew.box.cells.2.1, HD2.out.drew.box.cells.2.2.1, HD2.out.drew.box.cells.2.2.2.1, (HD2.out.drew.box.cells.2.2.2.2).trans (by rw [HTA.out])⟩)
        clear hK K
        (try simp only [Act.put])
        refine wpAnyH_done (by kernel_rfl) ?_ _
        go_wp2_with fail
        go_meet
        first | exact ⟨_, HD5.out⟩ | exact ⟨_, HD4.out.put _⟩
      case stZ21 =>
        go_simp
        refine hK.out _ _ ?_ (fun hHeld => ?_)
        · (first | exact ⟨(HD4.out.put (.slice (some ⟨g3, 0, none⟩) (n2 + 1) c3)).box.cells.1, (HD4.out.put (.slice (some ⟨g3, 0, none⟩) (n2 + 1) c3)).box.cells.2.1, (HD4.out.put (.slice (some ⟨g3, 0, none⟩) (n2 + 1) c3)).box.cells.2.2.1, (HD4.out.put (.slice (some ⟨g3, 0, none⟩) (n2 + 1) c3)).box.cells.2.2.2.1, ((HD4.out.put (.slice (some ⟨g3, 0, none⟩) (n2 + 1) c3)).box.cells.2.2.2.2).trans (by rw [HTA.out])⟩ | exact ⟨HD5.out.box.cells.1, HD5.out.box.cells.2.1, HD5.out.box.cells.2.2.1, HD5.out.box.cells.2.2.2.1, (HD5.out.box.cells.2.2.2.2).trans (by rw [HTA.out])⟩ | exact ⟨HD4.out.box.cells.1, HD4.out.box.cells.2.1, HD4.out.box.cells.2.2.1, HD4.out.box.cells.2.2.2.1, (HD4.out.box.cells.2.2.2.2).trans (by rw [HTA.out])⟩ | exact ⟨(HD3.out.put (.slice (some ⟨g3, 0, none⟩) (n2 + 1) c3)).box.cells.1, (HD3.out.put (.slice (some ⟨g3, 0, none⟩) (n2 + 1) c3)).box.cells.2.1, (HD3.out.put (.slice (some ⟨g3, 0, none⟩) (n2 + 1) c3)).box.cells.2.2.1, (HD3.out.put (.slice (some ⟨g3, 0, none⟩) (n2 + 1) c3)).box.cells.2.2.2.1, ((HD3.out.put (.slice (some ⟨g3, 0, none⟩) (n2 + 1) c3)).box.cells.2.2.2.2).trans (by rw [HTA.out])⟩ | exact ⟨HD3.out.box.cells.1, HD3.out.box.cells.2.1, HD3.out.box.cells.2.2.1, HD3.out.box.cells.2.2.2.1, (HD3.out.box.cells.2.2.2.2).trans (by rw [HTA.out])⟩ | exact ⟨HDA.out.box.cells.1, HDA.out.box.cells.2.1, HDA.out.box.cells.2.2.1, HDA.out.box.cells.2.2.2.1, (HDA.out.box.cells.2.2.2.2).trans (by rw [HTA.out])⟩ | exact ⟨HD2.out.drew.box.cells.1, HD2.out.drew.box.cells.2.1, HD2.out.drew.box.cells.2.2.1, HD2.out.drew.box.cells.2.2.2.1, (HD2.out.drew.box.cells.2.2.2.2).trans (by rw [HTA.out])⟩)
        clear hK K
        (try simp only [Act.put])
        refine wpAnyH_ready (rs := [6]) (by kernel_rfl) (by simp) ?_
        refine AllReadyH.cons (o := ?oZ23) ?hiZ23 (fun K hK => ?stZ23) AllReadyH.nil
        case hiZ23 => (simp only [List.getElem?_toArray, List.getElem?_cons_succ, List.getElem?_cons_zero] <;> rfl)
        refine step_store_last _ rfl 25 (.tmp 18) (.tmp 14) rfl wb.heap.size 25 g3 n2 c3 (hs ++ hs2) hZ h HN2.out (HD3.out.put (.slice (some ⟨g3, 0, none⟩) (n2 + 1) c3)).own rfl (by unfold TH.v; rw [HTA.out]; rfl) infoTree5 ?_
        intro w5 ho4 hg4
        have hd4 := (HD3.out.put (.slice (some ⟨g3, 0, none⟩) (n2 + 1) c3)).grown ho4 hg4 (.inl rfl)
        have HD5 := Lib.hid hd4
        have cn4 := hd4.var.cell
        have cf4 := hd4.var.frozen 0
        clear ho4 hg4 hd4
        refine hK.out _ _ ?_ (fun hHeld => ?_)
        · (first | exact ⟨(HD4.out.put (.slice (some ⟨g3, 0, none⟩) (n2 + 1) c3)).box.cells.1, (HD4.out.put (.slice (some ⟨g3, 0, none⟩) (n2 + 1) c3)).box.cells.2.1, (HD4.out.put (.slice (some ⟨g3, 0, none⟩) (n2 + 1) c3)).box.cells.2.2.1, (HD4.out.put (.slice (some ⟨g3, 0, none⟩) (n2 + 1) c3)).box.cells.2.2.2.1, ((HD4.out.put (.slice (some ⟨g3, 0, none⟩) (n2 + 1) c3)).box.cells.2.2.2.2).trans (by rw [HTA.out])⟩ | exact ⟨HD5.out.box.cells.1, HD5.out.box.cells.2.1, HD5.out.box.cells.2.2.1, HD5.out.box.cells.2.2.2.1, (HD5.out.box.cells.2.2.2.2).trans (by rw [HTA.out])⟩ | exact ⟨HD4.out.box.cells.1, HD4.out.box.cells.2.1, HD4.out.box.cells.2.2.1, HD4.out.box.cells.2.2.2.1, (HD4.out.box.cells.2.2.2.2).trans (by rw [HTA.out])⟩ | exact ⟨(HD3.out.put (.slice (some ⟨g3, 0, none⟩) (n2 + 1) c3)).box.cells.1, (HD3.out.put (.slice (some ⟨g3, 0, none⟩) (n2 + 1) c3)).box.cells.2.1, (HD3.out.put (.slice (some ⟨g3, 0, none⟩) (n2 + 1) c3)).box.cells.2.2.1, (HD3.out.put (.slice (some ⟨g3, 0, none⟩) (n2 + 1) c3)).box.cells.2.2.2.1, ((HD3.out.put (.slice (some ⟨g3, 0, none⟩) (n2 + 1) c3)).box.cells.2.2.2.2).trans (by rw [HTA.out])⟩ | exact ⟨HD3.out.box.cells.1, HD3.out.box.cells.2.1, HD3.out.box.cells.2.2.1, HD3.out.box.cells.2.2.2.1, (HD3.out.box.cells.2.2.2.2).trans (by rw [HTA.out])⟩ | exact ⟨HDA.out.box.cells.1, HDA.out.box.cells.2.1, HDA.out.box.cells.2.2.1, HDA.out.box.cells.2.2.2.1, (HDA.out.box.cells.2.2.2.2).trans (by rw [HTA.out])⟩ | exact ⟨HD2.out.drew.box.cells.1, HD2.out.drew.box.cells.2.1, HD2.out.drew.box.cells.2.2.1, HD2.out.drew.box.cells.2.2.2.1, (HD2.out.drew.box.cells.2.2.2.2).trans (by rw [HTA.out])⟩)
        clear hK K
        (try simp only [Act.put])
        refine wpAnyH_done (by kernel_rfl) ?_ _
        go_wp2_with fail
        go_meet
        first | exact ⟨_, HD5.out⟩ | exact ⟨_, HD4.out.put _⟩
    case stZ15 =>
      go_simp
      refine hK.out _ _ ?_ (fun hHeld => ?_)
      · (first | exact ⟨(HD4.out.put (.slice (some ⟨g3, 0, none⟩) (n2 + 1) c3)).box.cells.1, (HD4.out.put (.slice (some ⟨g3, 0, none⟩) (n2 + 1) c3)).box.cells.2.1, (HD4.out.put (.slice (some ⟨g3, 0, none⟩) (n2 + 1) c3)).box.cells.2.2.1, (HD4.out.put (.slice (some ⟨g3, 0, none⟩) (n2 + 1) c3)).box.cells.2.2.2.1, ((HD4.out.put (.slice (some ⟨g3, 0, none⟩) (n2 + 1) c3)).box.cells.2.2.2.2).trans (by rw [HTA.out])⟩ | exact ⟨HD5.out.box.cells.1, HD5.out.box.cells.2.1, HD5.out.box.cells.2.2.1, HD5.out.box.cells.2.2.2.1, (HD5.out.box.cells.2.2.2.2).trans (by rw [HTA.out])⟩ | exact ⟨HD4.out.box.cells.1, HD4.out.box.cells.2.1, HD4.out.box.cells.2.2.1, HD4.out.box.cells.2.2.2.1, (HD4.out.box.cells.2.2.2.2).trans (by rw [HTA.out])⟩ | exact ⟨(HD3.out.put (.slice (some ⟨g3, 0, none⟩) (n2 + 1) c3)).box.cells.1, (HD3.out.put (.slice (some ⟨g3, 0, none⟩) (n2 + 1) c3)).box.cells.2.1, (HD3.out.put (.slice (some ⟨g3, 0, none⟩) (n2 + 1) c3)).box.cells.2.2.1, (HD3.out.put (.slice (some ⟨g3, 0, none⟩) (n2 + 1) c3)).box.cells.2.2.2.1, ((HD3.out.put (.slice (some ⟨g3, 0, none⟩) (n2 + 1) c3)).box.cells.2.2.2.2).trans (by rw [HTA.out])⟩ | exact ⟨HD3.out.box.cells.1, HD3.out.box.cells.2.1, HD3.out.box.cells.2.2.1, HD3.out.box.cells.2.2.2.1, (HD3.out.box.cells.2.2.2.2).trans (by rw [HTA.out])⟩ | exact ⟨HDA.out.box.cells.1, HDA.out.box.cells.2.1, HDA.out.box.cells.2.2.1, HDA.out.box.cells.2.2.2.1, (HDA.out.box.cells.2.2.2.2).trans (by rw [HTA.out])⟩ | exact ⟨HD2.out.drew.box.cells.1, HD2.out.drew.box.cells.2.1, HD2.out.drew.box.cells.2.2.1, HD2.out.drew.box.cells.2.2.2.1, (HD2.out.drew.box.cells.2.2.2.2).trans (by rw [HTA.out])⟩)
      clear hK K
      (try simp only [Act.put, List.setIfInBounds_toArray, List.set_cons_zero, List.set_cons_succ])
      refine wpAnyH_ready (rs := [0]) (by kernel_rfl) (by simp) ?_
      refine AllReadyH.cons (o := ?oZ24) ?hiZ24 (fun K hK => ?stZ24) AllReadyH.nil
      case hiZ24 => (simp only [List.getElem?_toArray, List.getElem?_cons_zero] <;> rfl)
      go_simp
      refine hK.out _ _ ?_ (fun hHeld => ?_)
      · (first | exact ⟨(HD4.out.put (.slice (some ⟨g3, 0, none⟩) (n2 + 1) c3)).box.cells.1, (HD4.out.put (.slice (some ⟨g3, 0, none⟩) (n2 + 1) c3)).box.cells.2.1, (HD4.out.put (.slice (some ⟨g3, 0, none⟩) (n2 + 1) c3)).box.cells.2.2.1, (HD4.out.put (.slice (some ⟨g3, 0, none⟩) (n2 + 1) c3)).box.cells.2.2.2.1, ((HD4.out.put (.slice (some ⟨g3, 0, none⟩) (n2 + 1) c3)).box.cells.2.2.2.2).trans (by rw [HTA.out])⟩ | exact ⟨HD5.out.box.cells.1, HD5.out.box.cells.2.1, HD5.out.box.cells.2.2.1, HD5.out.box.cells.2.2.2.1, (HD5.out.box.cells.2.2.2.2).trans (by rw [HTA.out])⟩ | exact ⟨HD4.out.box.cells.1, HD4.out.box.cells.2.1, HD4.out.box.cells.2.2.1, HD4.out.box.cells.2.2.2.1, (HD4.out.box.cells.2.2.2.2).trans (by rw [HTA.out])⟩ | exact ⟨(HD3.out.put (.slice (some ⟨g3, 0, none⟩) (n2 + 1) c3)).box.cells.1, (HD3.out.put (.slice (some ⟨g3, 0, none⟩) (n2 + 1) c3)).box.cells.2.1, (HD3.out.put (.slice (some ⟨g3, 0, none⟩) (n2 + 1) c3)).box.cells.2.2.1, (HD3.out.put (.slice (some ⟨g3, 0, none⟩) (n2 + 1) c3)).box.cells.2.2.2.1, ((HD3.out.put (.slice (some ⟨g3, 0, none⟩) (n2 + 1) c3)).box.cells.2.2.2.2).trans (by rw [HTA.out])⟩ | exact ⟨HD3.out.box.cells.1, HD3.out.box.cells.2.1, HD3.out.box.cells.2.2.1, HD3.out.box.cells.2.2.2.1, (HD3.out.box.cells.2.2.2.2).trans (by rw [HTA.out])⟩ | exact ⟨HDA.out.box.cells.1, HDA.out.box.cells.2.1, HDA.out.box.cells.2.2.1, HDA.out.box.cells.2.2.2.1, (HDA.out.box.cells.2.2.2.2).trans (by rw [HTA.out])⟩ | exact ⟨HD2.out.drew.box.cells.1, HD2.out.drew.box.cells.2.1, HD2.out.drew.box.cells.2.2.1, HD2.out.drew.box.cells.2.2.2.1, (HD2.out.drew.box.cells.2.2.2.2).trans (by rw [HTA.out])⟩)
      clear hK K
      (try simp only [Act.put, List.setIfInBounds_toArray, List.set_cons_zero, List.set_cons_succ])
      refine take_w (i := 2) (oi := ?oZ25) (v := ?vZ25) ?hiZ25 (by kernel_rfl) (by kernel_rfl) (by kernel_rfl) ?hQZ25 ?hwZ25 ?hyZ25 (by assumption) ?restZ25
      case hiZ25 => (simp only [List.getElem?_toArray, List.getElem?_cons_succ, List.getElem?_cons_zero] <;> rfl)
      case hQZ25 => exact (fun _ _ _ h => h)
      case hwZ25 => rfl
      case hyZ25 => (intro w hSw; (try dsimp only at hSw); go_simp; try with_reducible rfl)
      (try simp only [Act.put, List.setIfInBounds_toArray, List.set_cons_zero, List.set_cons_succ])
      refine wpAnyH_ready (rs := [4]) (by kernel_rfl) (by simp) ?_
      refine AllReadyH.cons (o := ?oZ26) ?hiZ26 (fun K hK => ?stZ26) AllReadyH.nil
      case hiZ26 => (simp only [List.getElem?_toArray, List.getElem?_cons_succ, List.getElem?_cons_zero] <;> rfl)
      refine step_append_trees _ rfl (.tmp 13) (.tmp 16) 23 rfl wb.heap.size 25 ti _ 104 Tryd.underlying23 hti hz0 hz1 hz2 rfl (.slice a2 n2 c2) (hs ++ hs2) rfl HDA.out.own w2.heap.size 1 [hZ] rfl HZB.out.row (by rw [HN2.out]; simp only [List.length_cons, List.length_nil]; omega) (by omega) HDA.out.b.size ?_
      intro v3 w3 ho3 hg3 hob3
      have hl3 : (hs ++ hs2 ++ [hZ]).length = n2 + 1 := by rw [List.length_append, HN2.out]; rfl
      rcases ho3.form with ⟨_, q1⟩ | ⟨g3, c3, q1, -, -, -, -, -⟩
      · exfalso
        rw [q1] at hl3
        simp at hl3
      rw [hl3] at q1
      subst q1
      clear hl3
      have hd3 := HDA.out.grown ho3 hg3 hob3
      have HD3 := Lib.hid hd3
      have cn3 := hd3.var.cell
      have cf3 := hd3.var.frozen 0
      clear ho3 hg3 hob3 hd3
      refine hK.out _ _ ?_ (fun hHeld => ?_)
      · (first | exact ⟨(HD4.out.put (.slice (some ⟨g3, 0, none⟩) (n2 + 1) c3)).box.cells.1, (HD4.out.put (.slice (some ⟨g3, 0, none⟩) (n2 + 1) c3)).box.cells.2.1, (HD4.out.put (.slice (some ⟨g3, 0, none⟩) (n2 + 1) c3)).box.cells.2.2.1, (HD4.out.put (.slice (some ⟨g3, 0, none⟩) (n2 + 1) c3)).box.cells.2.2.2.1, ((HD4.out.put (.slice (some ⟨g3, 0, none⟩) (n2 + 1) c3)).box.cells.2.2.2.2).trans (by rw [HTA.out])⟩ | exact ⟨HD5.out.box.cells.1, HD5.out.box.cells.2.1, HD5.out.box.cells.2.2.1, HD5.out.box.cells.2.2.2.1, (HD5.out.box.cells.2.2.2.2).trans (by rw [HTA.out])⟩ | exact ⟨HD4.out.box.cells.1, HD4.out.box.cells.2.1, HD4.out.box.cells.2.2.1, HD4.out.box.cells.2.2.2.1, (HD4.out.box.cells.2.2.2.2).trans (by rw [HTA.out])⟩ | exact ⟨(HD3.out.put (.slice (some ⟨g3, 0, none⟩) (n2 + 1) c3)).box.cells.1, (HD3.out.put (.slice (some ⟨g3, 0, none⟩) (n2 + 1) c3)).box.cells.2.1, (HD3.out.put (.slice (some ⟨g3, 0, none⟩) (n2 + 1) c3)).box.cells.2.2.1, (HD3.out.put (.slice (some ⟨g3, 0, none⟩) (n2 + 1) c3)).box.cells.2.2.2.1, ((HD3.out.put (.slice (some ⟨g3, 0, none⟩) (n2 + 1) c3)).box.cells.2.2.2.2).trans (by rw [HTA.out])⟩ | exact ⟨HD3.out.box.cells.1, HD3.out.box.cells.2.1, HD3.out.box.cells.2.2.1, HD3.out.box.cells.2.2.2.1, (HD3.out.box.cells.2.2.2.2).trans (by rw [HTA.out])⟩ | exact ⟨HDA.out.box.cells.1, HDA.out.box.cells.2.1, HDA.out.box.cells.2.2.1, HDA.out.box.cells.2.2.2.1, (HDA.out.box.cells.2.2.2.2).trans (by rw [HTA.out])⟩ | exact ⟨HD2.out.drew.box.cells.1, HD2.out.drew.box.cells.2.1, HD2.out.drew.box.cells.2.2.1, HD2.out.drew.box.cells.2.2.2.1, (HD2.out.drew.box.cells.2.2.2.2).trans (by rw [HTA.out])⟩)
      clear hK K
      (try simp only [Act.put, List.setIfInBounds_toArray, List.set_cons_zero, List.set_cons_succ])
      refine take_w (i := 5) (oi := ?oZ27) (v := ?vZ27) ?hiZ27 (by kernel_rfl) (by kernel_rfl) (by kernel_rfl) ?hQZ27 ?hwZ27 ?hyZ27 (by assumption) ?restZ27
      case hiZ27 => (simp only [List.getElem?_toArray, List.getElem?_cons_succ, List.getElem?_cons_zero] <;> rfl)
      case hQZ27 => exact (fun _ _ _ h => h)
      case hwZ27 => rfl
      case hyZ27 => (intro w hSw; (try dsimp only at hSw); go_simp; try with_reducible rfl)
      (try simp only [Act.put, List.setIfInBounds_toArray, List.set_cons_zero, List.set_cons_succ])
      refine wpAnyH_ready (rs := [6, 7]) (by kernel_rfl) (by simp) ?_
      refine AllReadyH.cons (o := ?oZ28) ?hiZ28 (fun K hK => ?stZ28) (AllReadyH.cons (o := ?oZ29) ?hiZ29 (fun K hK => ?stZ29) AllReadyH.nil)
      case hiZ28 => (simp only [List.getElem?_toArray, List.getElem?_cons_succ, List.getElem?_cons_zero] <;> rfl)
      case hiZ29 => (simp only [List.getElem?_toArray, List.getElem?_cons_succ, List.getElem?_cons_zero] <;> rfl)
      case stZ28 =>
        refine step_store_last _ rfl 25 (.tmp 18) (.tmp 14) rfl wb.heap.size 25 g3 n2 c3 (hs ++ hs2) hZ h HN2.out HD3.out.own rfl (by unfold TH.v; rw [HTA.out]; rfl) infoTree5 ?_
        intro w4 ho4 hg4
        have hd4 := HD3.out.grown ho4 hg4 (.inl rfl)
        have HD4 := Lib.hid hd4
        have cn4 := hd4.var.cell
        have cf4 := hd4.var.frozen 0
        clear ho4 hg4 hd4
        refine hK.out _ _ ?_ (fun hHeld => ?_)
        · (first | exact ⟨(HD4.out.put (.slice (some ⟨g3, 0, none⟩) (n2 + 1) c3)).box.cells.1, (HD4.out.put (.slice (some ⟨g3, 0, none⟩) (n2 + 1) c3)).box.cells.2.1, (HD4.out.put (.slice (some ⟨g3, 0, none⟩) (n2 + 1) c3)).box.cells.2.2.1, (HD4.out.put (.slice (some ⟨g3, 0, none⟩) (n2 + 1) c3)).box.cells.2.2.2.1, ((HD4.out.put (.slice (some ⟨g3, 0, none⟩) (n2 + 1) c3)).box.cells.2.2.2.2).trans (by rw [HTA.out])⟩ | exact ⟨HD5.out.box.cells.1, HD5.out.box.cells.2.1, HD5.out.box.cells.2.2.1, HD5.out.box.cells.2.2.2.1, (HD5.out.box.cells.2.2.2.2).trans (by rw [HTA.out])⟩ | exact ⟨HD4.out.box.cells.1, HD4.out.box.cells.2.1, HD4.out.box.cells.2.2.1, HD4.out.box.cells.2.2.2.1, (HD4.out.box.cells.2.2.2.2).trans (by rw [HTA.out])⟩ | exact ⟨(HD3.out.put (.slice (some ⟨g3, 0, none⟩) (n2 + 1) c3)).box.cells.1, (HD3.out.put (.slice (some ⟨g3, 0, none⟩) (n2 + 1) c3)).box.cells.2.1, (HD3.out.put (.slice (some ⟨g3, 0, none⟩) (n2 + 1) c3)).box.cells.2.2.1, (HD3.out.put (.slice (some ⟨g3, 0, none⟩) (n2 + 1) c3)).box.cells.2.2.2.1, ((HD3.out.put (.slice (some ⟨g3, 0, none⟩) (n2 + 1) c3)).box.cells.2.2.2.2).trans (by rw [HTA.out])⟩ | exact ⟨HD3.out.box.cells.1, HD3.out.box.cells.2.1, HD3.out.box.cells.2.2.1, HD3.out.box.cells.2.2.2.1, (HD3.out.box.cells.2.2.2.2).trans (by rw [HTA.out])⟩ | exact ⟨HDA.out.box.cells.1, HDA.out.box.cells.2.1, HDA.out.box.cells.2.2.1, HDA.out.box.cells.2.2.2.1, (HDA.out.box.cells.2.2.2.2).trans (by rw [HTA.out])⟩ | exact ⟨HD2.out.drew.box.cells.1, HD2.out.drew.box.cells.2.1, HD2.out.drew.box.cells.2.2.1, HD2.out.drew.box.cells.2.2.2.1, (HD2.out.drew.box.cells.2.2.2.2).trans (by rw [HTA.out])⟩)
        clear hK K
        (try simp only [Act.put])
        refine wpAnyH_ready (rs := [7]) (by kernel_rfl) (by simp) ?_
        refine AllReadyH.cons (o := ?oZ30) ?hiZ30 (fun K hK => ?stZ30) AllReadyH.nil
        case hiZ30 => (simp only [List.getElem?_toArray, List.getElem?_cons_succ, List.getElem?_cons_zero] <;> rfl)
        go_simp
        refine hK.out _ _ ?_ (fun hHeld => ?_)
        · (first | exact ⟨(HD4.out.put (.slice (some ⟨g3, 0, none⟩) (n2 + 1) c3)).box.cells.1, (HD4.out.put (.slice (some ⟨g3, 0, none⟩) (n2 + 1) c3)).box.cells.2.1, (HD4.out.put (.slice (some ⟨g3, 0, none⟩) (n2 + 1) c3)).box.cells.2.2.1, (HD4.out.put (.slice (some ⟨g3, 0, none⟩) (n2 + 1) c3)).box.cells.2.2.2.1, ((HD4.out.put (.slice (some ⟨g3, 0, none⟩) (n2 + 1) c3)).box.cells.2.2.2.2).trans (by rw [HTA.out])⟩ | exact ⟨HD5.out.box.cells.1, HD5.out.box.cells.2.1, HD5.out.box.cells.2.2.1, HD5.out.box.cells.2.2.2.1, (HD5.out.box.cells.2.2.2.2).trans (by rw [HTA.out])⟩ | exact ⟨HD4.out.box.cells.1, HD4.out.box.cells.2.1, HD4.out.box.cells.2.2.1, HD4.out.box.cells.2.2.2.1, (HD4.out.box.cells.2.2.2.2).trans (by rw [HTA.out])⟩ | exact ⟨(HD3.out.put (.slice (some ⟨g3, 0, none⟩) (n2 + 1) c3)).box.cells.1, (HD3.out.put (.slice (some ⟨g3, 0, none⟩) (n2 + 1) c3)).box.cells.2.1, (HD3.out.put (.slice (some ⟨g3, 0, none⟩) (n2 + 1) c3)).box.cells.2.2.1, (HD3.out.put (.slice (some ⟨g3, 0, none⟩) (n2 + 1) c3)).box.cells.2.2.2.1, ((HD3.out.put (.slice (some ⟨g3, 0, none⟩) (n2 + 1) c3)).box.cells.2.2.2.2).trans (by rw [HTA.out])⟩ | exact ⟨HD3.out.box.cells.1, HD3.out.box.cells.2.1, HD3.out.box.cells.2.2.1, HD3.out.box.cells.2.2.2.1, (HD3.out.box.cells.2.2.2.2).trans (by rw [HTA.out])⟩ | exact ⟨HDA.out.box.cells.1, HDA.out.box.cells.2.1, HDA.out.box.cells.2.2.1, HDA.out.box.cells.2.2.2.1, (HDA.out.box.cells.2.2.2.2).trans (by rw [HTA.out])⟩ | exact ⟨HD2.out.drew.box.cells.1, HD2.out.drew.box.cells.2.1, HD2.out.drew.box.cells.2.2.1, HD2.out.drew.box.cells.2.2.2.1, (HD2.out.drew.box.cells.2.2.2.2).trans (by rw [HTA.out])⟩)
        clear hK K
        (try simp only [Act.put])
        refine wpAnyH_done (by kernel_rfl) ?_ _
        go_wp2_with fail
        go_meet
        first | exact ⟨_, HD5.out⟩ | exact ⟨_, HD4.out.put _⟩
      case stZ29 =>
        go_simp
        refine hK.out _ _ ?_ (fun hHeld => ?_)
        · (first | exact ⟨(HD4.out.put (.slice (some ⟨g3, 0, none⟩) (n2 + 1) c3)).box.cells.1, (HD4.out.put (.slice (some ⟨g3, 0, none⟩) (n2 + 1) c3)).box.cells.2.1, (HD4.out.put (.slice (some ⟨g3, 0, none⟩) (n2 + 1) c3)).box.cells.2.2.1, (HD4.out.put (.slice (some ⟨g3, 0, none⟩) (n2 + 1) c3)).box.cells.2.2.2.1, ((HD4.out.put (.slice (some ⟨g3, 0, none⟩) (n2 + 1) c3)).box.cells.2.2.2.2).trans (by rw [HTA.out])⟩ | exact ⟨HD5.out.box.cells.1, HD5.out.box.cells.2.1, HD5.out.box.cells.2.2.1, HD5.out.box.cells.2.2.2.1, (HD5.out.box.cells.2.2.2.2).trans (by rw [HTA.out])⟩ | exact ⟨HD4.out.box.cells.1, HD4.out.box.cells.2.1, HD4.out.box.cells.2.2.1, HD4.out.box.cells.2.2.2.1, (HD4.out.box.cells.2.2.2.2).trans (by rw [HTA.out])⟩ | exact ⟨(HD3.out.put (.slice (some ⟨g3, 0, none⟩) (n2 + 1) c3)).box.cells.1, (HD3.out.put (.slice (some ⟨g3, 0, none⟩) (n2 + 1) c3)).box.cells.2.1, (HD3.out.put (.slice (some ⟨g3, 0, none⟩) (n2 + 1) c3)).box.cells.2.2.1, (HD3.out.put (.slice (some ⟨g3, 0, none⟩) (n2 + 1) c3)).box.cells.2.2.2.1, ((HD3.out.put (.slice (some ⟨g3, 0, none⟩) (n2 + 1) c3)).box.cells.2.2.2.2).trans (by rw [HTA.out])⟩ | exact ⟨HD3.out.box.cells.1, HD3.out.box.cells.2.1, HD3.out.box.cells.2.2.1, HD3.out.box.cells.2.2.2.1, (HD3.out.box.cells.2.2.2.2).trans (by rw [HTA.out])⟩ | exact ⟨HDA.out.box.cells.1, HDA.out.box.cells.2.1, HDA.out.box.cells.2.2.1, HDA.out.box.cells.2.2.2.1, (HDA.out.box.cells.2.2.2.2).trans (by rw [HTA.out])⟩ | exact ⟨HD2.out.drew.box.cells.1, HD2.out.drew.box.cells.2.1, HD2.out.drew.box.cells.2.2.1, HD2.out.drew.box.cells.2.2.2.1, (HD2.out.drew.box.cells.2.2.2.2).trans (by rw [HTA.out])⟩)
        clear hK K
        (try simp only [Act.put])
        refine wpAnyH_ready (rs := [6]) (by kernel_rfl) (by simp) ?_
        refine AllReadyH.cons (o := ?oZ31) ?hiZ31 (fun K hK => ?stZ31) AllReadyH.nil
        case hiZ31 => (simp only [List.getElem?_toArray, List.getElem?_cons_succ, List.getElem?_cons_zero] <;> rfl)
        refine step_store_last _ rfl 25 (.tmp 18) (.tmp 14) rfl wb.heap.size 25 g3 n2 c3 (hs ++ hs2) hZ h HN2.out (HD3.out.put (.slice (some ⟨g3, 0, none⟩) (n2 + 1) c3)).own rfl (by unfold TH.v; rw [HTA.out]; rfl) infoTree5 ?_
        intro w5 ho4 hg4
        have hd4 := (HD3.out.put (.slice (some ⟨g3, 0, none⟩) (n2 + 1) c3)).grown ho4 hg4 (.inl rfl)
        have HD5 := Lib.hid hd4
        have cn4 := hd4.var.cell
        have cf4 := hd4.var.frozen 0
        clear ho4 hg4 hd4
        refine hK.out _ _ ?_ (fun hHeld => ?_)
        · (first | exact ⟨(HD4.out.put (.slice (some ⟨g3, 0, none⟩) (n2 + 1) c3)).box.cells.1, (HD4.out.put (.slice (some ⟨g3, 0, none⟩) (n2 + 1) c3)).box.cells.2.1, (HD4.out.put (.slice (some ⟨g3, 0, none⟩) (n2 + 1) c3)).box.cells.2.2.1, (HD4.out.put (.slice (some ⟨g3, 0, none⟩) (n2 + 1) c3)).box.cells.2.2.2.1, ((HD4.out.put (.slice (some ⟨g3, 0, none⟩) (n2 + 1) c3)).box.cells.2.2.2.2).trans (by rw [HTA.out])⟩ | exact ⟨HD5.out.box.cells.1, HD5.out.box.cells.2.1, HD5.out.box.cells.2.2.1, HD5.out.box.cells.2.2.2.1, (HD5.out.box.cells.2.2.2.2).trans (by rw [HTA.out])⟩ | exact ⟨HD4.out.box.cells.1, HD4.out.box.cells.2.1, HD4.out.box.cells.2.2.1, HD4.out.box.cells.2.2.2.1, (HD4.out.box.cells.2.2.2.2).trans (by rw [HTA.out])⟩ | exact ⟨(HD3.out.put (.slice (some ⟨g3, 0, none⟩) (n2 + 1) c3)).box.cells.1, (HD3.out.put (.slice (some ⟨g3, 0, none⟩) (n2 + 1) c3)).box.cells.2.1, (HD3.out.put (.slice (some ⟨g3, 0, none⟩) (n2 + 1) c3)).box.cells.2.2.1, (HD3.out.put (.slice (some ⟨g3, 0, none⟩) (n2 + 1) c3)).box.cells.2.2.2.1, ((HD3.out.put (.slice (some ⟨g3, 0, none⟩) (n2 + 1) c3)).box.cells.2.2.2.2).trans (by rw [HTA.out])⟩ | exact ⟨HD3.out.box.cells.1, HD3.out.box.cells.2.1, HD3.out.box.cells.2.2.1, HD3.out.box.cells.2.2.2.1, (HD3.out.box.cells.2.2.2.2).trans (by rw [HTA.out])⟩ | exact ⟨HDA.out.box.cells.1, HDA.out.box.cells.2.1, HDA.out.box.cells.2.2.1, HDA.out.box.cells.2.2.2.1, (HDA.out.box.cells.2.2.2.2).trans (by rw [HTA.out])⟩ | exact ⟨HD2.out.drew.box.cells.1, HD2.out.drew.box.cells.2.1, HD2.out.drew.box.cells.2.2.1, HD2.out.drew.box.cells.2.2.2.1, (HD2.out.drew.box.cells.2.2.2.2).trans (by rw [HTA.out])⟩)
        clear hK K
        (try simp only [Act.put])
        refine wpAnyH_done (by kernel_rfl) ?_ _
        go_wp2_with fail
        go_meet
        first | exact ⟨_, HD5.out⟩ | exact ⟨_, HD4.out.put _⟩
  case rest =>
    obtain ⟨v3, hd3⟩ := hcut
    have HD3 := Lib.hid hd3
    clear hd3 HD2 HD1
    have hbd1 : (hs ++ hs2 ++ [h]).length + countT t.kids[1] ≤ 1000 := by rw [List.length_append, HN2.out]; simp only [List.length_cons, List.length_nil]; omega
    clear hbd3 hbd4
    go_upto_region 4 with fail
    refine wp_region_held_drew (S := (fun W => W.cell? ⟨gc, 0, none⟩ = some (.func (.func 66) #[] #[.pointer (some ⟨gc, 0, none⟩), .pointer (some ⟨gn, 0, none⟩)]) ∧ W.cell? ⟨w.heap.size, 4, none⟩ = some (.slice (some ⟨g, off, none⟩) h.tn h.tc) ∧ W.cell? ⟨g, off + 5, none⟩ = some (.int .i64 (H 1).k) ∧ W.cell? ⟨g, off + 5 + 1, none⟩ = some (.slice (H 1).ka (H 1).kn (H 1).kc) ∧ W.cell? ⟨g, off + 5 + 2, none⟩ = some (.slice (H 1).va (H 1).vn (H 1).vc) ∧ W.cell? ⟨g, off + 5 + 3, none⟩ = some (.slice (H 1).da (H 1).dn (H 1).dc) ∧ W.cell? ⟨g, off + 5 + 4, none⟩ = some (.slice (H 1).ta (H 1).tn (H 1).tc))) (by kernel_rfl) ⟨HD3.out.drew.clo.cell, (HD3.out.drew.box.cells.2.2.2.2).trans (by rw [HTA.out]), (HP.out.below HD3.out.drew.b).kid1 HTA.out (by omega)⟩ (fun hHeld => ?_)
    refine take_w (i := 0) (oi := ?oZ7) (v := ?vZ7) ?hiZ7 (by kernel_rfl) (by kernel_rfl) (by kernel_rfl) ?hQZ7 ?hwZ7 ?hyZ7 (by assumption) ?restZ7
    case hiZ7 => (simp only [List.getElem?_toArray, List.getElem?_cons_zero] <;> rfl)
    case hQZ7 => exact (fun _ _ _ h => h)
    case hwZ7 => rfl
    case hyZ7 => (intro w hSw; (try dsimp only at hSw); go_simp; try with_reducible rfl)
    (try simp only [Act.put, List.setIfInBounds_toArray, List.set_cons_zero, List.set_cons_succ])
    refine take_w (i := 1) (oi := ?oZ8) (v := ?vZ8) ?hiZ8 (by kernel_rfl) (by kernel_rfl) (by kernel_rfl) ?hQZ8 ?hwZ8 ?hyZ8 (by assumption) ?restZ8
    case hiZ8 => (simp only [List.getElem?_toArray, List.getElem?_cons_succ, List.getElem?_cons_zero] <;> rfl)
    case hQZ8 => exact (fun _ _ _ h => h)
    case hwZ8 => rfl
    case hyZ8 => (intro w hSw; (try dsimp only at hSw); go_simp; try with_reducible rfl)
    (try simp only [Act.put, List.setIfInBounds_toArray, List.set_cons_zero, List.set_cons_succ])
    refine take_w (i := 2) (oi := ?oZ9) (v := ?vZ9) ?hiZ9 (by kernel_rfl) (by kernel_rfl) (by kernel_rfl) ?hQZ9 ?hwZ9 ?hyZ9 (by assumption) ?restZ9
    case hiZ9 => (simp only [List.getElem?_toArray, List.getElem?_cons_succ, List.getElem?_cons_zero] <;> rfl)
    case hQZ9 => exact (fun _ _ _ h => h)
    case hwZ9 => rfl
    case hyZ9 => (intro w hSw; (try dsimp only at hSw); go_simp; try with_reducible rfl)
    (try simp only [Act.put, List.setIfInBounds_toArray, List.set_cons_zero, List.set_cons_succ])
    refine take_w (i := 3) (oi := ?oZ10) (v := ?vZ10) ?hiZ10 (by kernel_rfl) (by kernel_rfl) (by kernel_rfl) ?hQZ10 ?hwZ10 ?hyZ10 (by assumption) ?restZ10
    case hiZ10 => (simp only [List.getElem?_toArray, List.getElem?_cons_succ, List.getElem?_cons_zero] <;> rfl)
    case hQZ10 => exact (fun _ _ _ h => h)
    case hwZ10 => rfl
    case hyZ10 => (intro w hSw; (try dsimp only at hSw); go_simp; try with_reducible rfl)
    (try simp only [Act.put, List.setIfInBounds_toArray, List.set_cons_zero, List.set_cons_succ])
    refine take_w (i := 4) (oi := ?oZ11) (v := ?vZ11) ?hiZ11 (by kernel_rfl) (by kernel_rfl) (by kernel_rfl) ?hQZ11 ?hwZ11 ?hyZ11 (by assumption) ?restZ11
    case hiZ11 => (simp only [List.getElem?_toArray, List.getElem?_cons_succ, List.getElem?_cons_zero] <;> rfl)
    case hQZ11 => exact (fun _ _ _ h => h)
    case hwZ11 => rfl
    case hyZ11 => (intro w hSw; (try dsimp only at hSw); go_simp; try with_reducible rfl)
    (try simp only [Act.put, List.setIfInBounds_toArray, List.set_cons_zero, List.set_cons_succ])
    refine wpAnyH_ready (rs := [5]) (by kernel_rfl) (by simp) ?_
    refine AllReadyH.cons (o := ?oZ12) ?hiZ12 (fun K hK => ?stZ12) AllReadyH.nil
    case hiZ12 => (simp only [List.getElem?_toArray, List.getElem?_cons_succ, List.getElem?_cons_zero] <;> rfl)
    go_simp
    go_at_call 66
    refine (IH.out _ (List.getElem_mem l1) (H 1) _ gc gn _ _ (HP.out.kids 1 l1) (HF.out 1 l1) hbd1 HD3.out.drew.b HD3.out.drew.ge HD3.out.drew.clo HD3.out.drew.var HD3.out.drew.own).mono ?_
    rintro _ w4 ⟨v4, hs4, rfl, hv4, ho4, hh4, hk4⟩
    have HD4 := Lib.hid (HD3.out.drew.step hv4 ho4 hk4)
    have HH4 := Lib.hid hh4
    clear hv4 ho4 hh4 hk4
    go_simp
    refine hK.out _ _ ?_ (fun hHeld => ?_)
    · (first | exact ⟨HD4.out.clo.cell, (HD4.out.box.cells.2.2.2.2).trans (by rw [HTA.out]), (HP.out.below HD4.out.b).kid1 HTA.out (by omega)⟩ | exact ⟨HD3.out.drew.clo.cell, (HD3.out.drew.box.cells.2.2.2.2).trans (by rw [HTA.out]), (HP.out.below HD3.out.drew.b).kid1 HTA.out (by omega)⟩)
    clear hK K
    (try simp only [Act.put, List.setIfInBounds_toArray, List.set_cons_zero, List.set_cons_succ])
    refine wpAnyH_done (by kernel_rfl) ?_ _
    
    clear hHeld
    go_wp2_with fail
    first | go_end0 | refine bodyPost_ret (results_none rfl _ _ _) rfl ?_
    refine ⟨v4, hs2 ++ ([h] ++ hs4), rfl, HD4.out.var, ?_, ?_, HD4.out.k⟩
    · have := HD4.out.own
      rw [List.append_assoc, List.append_assoc] at this
      exact this
    · rw [HL.out]
      exact HH2.out.app ((Heads.one HTT.out).app HH4.out)

set_option maxRecDepth 100000 in
set_option maxHeartbeats 4000000 in
theorem list_any (t : Tr) (h : TH) (w : World) (ht : InTree w h t) (hcn : countT t ≤ 1000) : Calls Tryd.prog 46 #[h.v] w (fun e w' => ∃ v hs, e = .returned v ∧ OwnT w' w.heap.size 25 v hs ∧ (checkT t = 0 → Heads w hs (listT t)) ∧ (checkT t ≠ 0 → hs = []) ∧ Below w.heap.size w w') := by
  have hmf : ∀ (fn : Fn) (first cap : Array Value) (w : World), (Instr.makeFunc fn first cap).run Tryd.prog w = .ok (.func fn first cap) w := fun _ _ _ _ => rfl
  unfold TH.v
  have hbox := Box.new w 25 h
  have HX := Lib.hid hbox
  have HT := Lib.hid ht
  obtain ⟨x0, x1, x2, x3, x4⟩ := hbox.cells
  clear hbox ht
  go_enter Tryd.func46, Tryd.ntmps46
  go_upto_region 1 with fail
  by_cases hc : checkT t = 0
  · have HCZ := Lib.hid hc
    clear hc
    go_upto_region 3 with (first
      | (go_at_call 37
         refine (check_any t h _ ?_).mono ?_
         · exact HT.out.lower ((Below.refl _ _).alloc (Nat.le_refl _) _)
         rintro _ w1 ⟨rfl, hb1⟩
         have HB1 : Hid (Below w.heap.size w w1) := Lib.hid (((Below.refl w.heap.size w).alloc (Nat.le_refl _) _).trans (hb1.mono (by simp)))
         have HX1 := Lib.hid (HX.out.below hb1 HX.out.lt)
         have hcv : codeV (checkT t) = .nilIface := by rw [HCZ.out]; rfl
         rw [hcv]
         clear hcv
         clear hb1 x0 x1 x2 x3 x4))
    have hb2 : Below w1.heap.size w1 (w1.alloc (.cells #[.slice none 0 0] 23)) := (Below.refl _ _).alloc (Nat.le_refl _) _
    have hv2 := Var1.new w1 23 (.slice none 0 0)
    have hx2 := HX1.out.below hb2 HX1.out.lt
    have hs2 : (w1.alloc (.cells #[.slice none 0 0] 23)).heap.size = w1.heap.size + 1 := by simp
    have hb3 : Below w1.heap.size w1 ((w1.alloc (.cells #[.slice none 0 0] 23)).alloc (.cells #[.nilFunc] 97)) := hb2.alloc (by rw [hs2]; omega) _
    have hba : Below (w1.alloc (.cells #[.slice none 0 0] 23)).heap.size (w1.alloc (.cells #[.slice none 0 0] 23)) ((w1.alloc (.cells #[.slice none 0 0] 23)).alloc (.cells #[.nilFunc] 97)) := (Below.refl _ _).alloc (Nat.le_refl _) _
    have hv3 := hv2.below hba hv2.lt
    have hx3 := hx2.below hba hx2.lt
    have hn3 := Var1.new (w1.alloc (.cells #[.slice none 0 0] 23)) 97 .nilFunc
    rw [hs2] at hn3
    have hsz := HB1.out.size
    clear hb2 hv2 hx2 hs2 hba
    go_upto_region 5 with fail
    generalize ((w1.alloc (.cells #[.slice none 0 0] 23)).alloc (.cells #[.nilFunc] 97)) = w2 at *
    have c0 := hn3.cell
    have c1 := hn3.frozen 0
    have hn4 := hn3.set (.func (.func 66) #[] #[.pointer (some ⟨(w1.heap.size + 1), 0, none⟩), .pointer (some ⟨w1.heap.size, 0, none⟩)])
    have hne : w.heap.size ≠ w1.heap.size + 1 := by have := HX1.out.lt; omega
    have hx4 : Box (w2.setCell ⟨w1.heap.size + 1, 0, none⟩ (.func (.func 66) #[] #[.pointer (some ⟨(w1.heap.size + 1), 0, none⟩), .pointer (some ⟨w1.heap.size, 0, none⟩)])) 25 w.heap.size h := (Below.heap_setCell w2 ⟨w1.heap.size + 1, 0, none⟩ _ w.heap.size hne).trans hx3
    have hv4 := hv3.far (p := ⟨w1.heap.size + 1, 0, none⟩) (by simp) (.func (.func 66) #[] #[.pointer (some ⟨(w1.heap.size + 1), 0, none⟩), .pointer (some ⟨w1.heap.size, 0, none⟩)])
    have hb4 : Below w1.heap.size w1 (w2.setCell ⟨w1.heap.size + 1, 0, none⟩ (.func (.func 66) #[] #[.pointer (some ⟨(w1.heap.size + 1), 0, none⟩), .pointer (some ⟨w1.heap.size, 0, none⟩)])) := hb3.setCell (by simp) _
    clear hn3 hx3 hv3 hb3 hne
    go_upto_region 6 with fail
    generalize (w2.setCell ⟨w1.heap.size + 1, 0, none⟩ (.func (.func 66) #[] #[.pointer (some ⟨(w1.heap.size + 1), 0, none⟩), .pointer (some ⟨w1.heap.size, 0, none⟩)])) = w3 at *
    obtain ⟨x0, x1, x2, x3, x4⟩ := hx4.cells
    have c2 := hn4.cell
    have HN := Lib.hid hn4
    have HV := Lib.hid hv4
    have HB4 : Hid (Below w.heap.size w w3) := Lib.hid (HB1.out.trans (hb4.mono hsz))
    have HSZ := Lib.hid hsz
    clear c0 c1 hx4 hb4 hn4 hsz hv4
    go_upto_region 7 with (first
      | (go_at_call 66
         refine (listC_any w t h _ (w1.heap.size + 1) w1.heap.size (.slice none 0 0) [] HT.out (check_zero HCZ.out).1 (by simp only [List.length_nil]; omega) HB4.out HSZ.out HN.out HV.out (OwnT.nil _ _ _)).mono ?_
         rintro _ w4 ⟨v4, hs4, rfl, hv4, ho4, hh4, hk4⟩
         have HB5 : Hid (Below w.heap.size w w4) := Lib.hid (hk4.below HB4.out HB4.out.size HSZ.out (fun k e => by cases e))
         have HO4 : Hid (OwnT w4 w.heap.size 25 v4 hs4) := Lib.hid ho4
         have HH4 := Lib.hid hh4
         have c4 := hv4.cell
         clear hv4 ho4 hh4 hk4))
    go_wp2_with fail
    go_ret
    exact ⟨v4, hs4, rfl, HO4.out, fun _ => HH4.out, fun q => absurd HCZ.out q, HB5.out⟩
  · have HCZ := Lib.hid hc
    clear hc
    go_wp2_with (first
      | (go_at_call 37
         refine (check_any t h _ ?_).mono ?_
         · exact HT.out.lower ((Below.refl _ _).alloc (Nat.le_refl _) _)
         rintro _ w1 ⟨rfl, hb1⟩
         have HB1 : Hid (Below w.heap.size w w1) := Lib.hid (((Below.refl w.heap.size w).alloc (Nat.le_refl _) _).trans (hb1.mono (by simp)))
         rw [codeV_pos HCZ.out]
         clear hb1 x0 x1 x2 x3 x4))
    go_ret
    exact ⟨_, [], rfl, OwnT.nil _ _ _, fun q => absurd q HCZ.out, fun _ => rfl, HB1.out⟩
end Go.Proofs.YtioifkbkllnkgaaDoor

/- The contracts of bytes.Equal, and of whether keys rise in a row of trees. -/
namespace Go.Proofs.YtioifkbkllnkgaaDoor
open Go.RowKit
set_option linter.unusedVariables false

/-- A row of trees, n of them. -/
structure RT (W : World) (base : Nat) (a : Option Addr) (n c : Nat) (hs : List TH) (ts : List Tr) : Prop where
  o : OwnT W base 25 (.slice a n c) hs
  hh : Heads W hs ts
  l : ts.length = n
section
variable {W W' : World} {base : Nat} {a : Option Addr} {n c : Nat} {hs : List TH} {ts : List Tr}
theorem RT.below (x : RT W base a n c hs ts) (hb : Below W.heap.size W W') : RT W' base a n c hs ts := ⟨x.o.keep hb, x.hh.lower hb, x.l⟩
theorem RT.drew (x : RT W base a n c hs ts) : RT W.drew base a n c hs ts := x.below (Below.refl _ _).drew
theorem RT.hl (x : RT W base a n c hs ts) : hs.length = n := x.hh.1.trans x.l
theorem RT.block (x : RT W base a n c hs ts) {i : Nat} (hi : i < n) : ∃ g, a = some ⟨g, 0, none⟩ := by
  obtain ⟨g, e, -⟩ := x.o.at x.hl i (by rw [x.hl]; exact hi)
  exact ⟨g, e⟩
theorem RT.cells {g : Nat} (x : RT W base (some ⟨g, 0, none⟩) n c hs ts) (i : Nat) (hi : i < hs.length) : W.cell? ⟨g, i * 5, none⟩ = some (.int .i64 (hs[i]).k) ∧ W.cell? ⟨g, i * 5 + 1, none⟩ = some (.slice (hs[i]).ka (hs[i]).kn (hs[i]).kc) ∧ W.cell? ⟨g, i * 5 + 2, none⟩ = some (.slice (hs[i]).va (hs[i]).vn (hs[i]).vc) ∧ W.cell? ⟨g, i * 5 + 3, none⟩ = some (.slice (hs[i]).da (hs[i]).dn (hs[i]).dc) ∧ W.cell? ⟨g, i * 5 + 4, none⟩ = some (.slice (hs[i]).ta (hs[i]).tn (hs[i]).tc) := by
  obtain ⟨g', e, h⟩ := x.o.at x.hl i hi
  injection e with e
  injection e with e
  subst e
  exact h
theorem RT.tree (x : RT W base a n c hs ts) (i : Nat) (h1 : i < hs.length) (h2 : i < ts.length) : InTree W hs[i] ts[i] := x.hh.2 i h1 h2
theorem RT.key (x : RT W base a n c hs ts) (i : Nat) (h1 : i < hs.length) (h2 : i < ts.length) : InBytes W (hs[i]).ka (hs[i]).kn (hs[i]).kc (ts[i]).key := by
  obtain ⟨H, hp⟩ := (x.tree i h1 h2).parts
  exact hp.key
theorem RT.kind (x : RT W base a n c hs ts) (i : Nat) (h1 : i < hs.length) (h2 : i < ts.length) : (hs[i]).k = (ts[i]).k := by
  obtain ⟨H, hp⟩ := (x.tree i h1 h2).parts
  exact hp.hk
end
theorem condN_succ {ts : List Tr} {i j : Nat} (hj : i = j + 1) (hi : i < ts.length) : condN ts i = ltL (ts[j]'(by omega)).key (ts[i]).key := by
  subst hj
  unfold condN
  simp only [List.getD, Nat.add_sub_cancel, List.getElem?_eq_getElem hi, List.getElem?_eq_getElem (show j < ts.length by omega), Option.getD_some]
  simp

set_option maxRecDepth 100000 in
set_option maxHeartbeats 4000000 in
theorem asc8_any (ts : List Tr) (hs : List TH) (base : Nat) (a : Option Addr) (n c : Nat) (w : World) (hr : RT w base a n c hs ts) (hn : n ≤ 500) : Calls Tryd.prog 47 #[.slice a n c] w (Says w (.bool ((List.range n).all (condN ts)))) := by
  have HR := Lib.hid hr
  clear hr
  go_enter Tryd.func47, Tryd.ntmps47
  go_wp2_with fail
  go_loopw [3] (fun s3 wx => ∃ i : Nat, 1 ≤ i ∧ (i ≤ n ∨ i = 1) ∧ s3 = .int .i64 i ∧ RT wx base a n c hs ts ∧ Below w.heap.size w wx ∧ (List.range i).all (condN ts) = true) (fun s3 _ => n - (intOf s3).toNat)
  case atStart => exact ⟨1, by omega, .inr rfl, rfl, HR.out, Below.refl _ _, rfl⟩
  case round =>
    clear HR
    obtain ⟨i, hi1, hi2, rfl, hr, hbw, hall⟩ := hrel
    have HALL := Lib.hid hall
    by_cases hlt : i < n
    · obtain ⟨j, hj⟩ : ∃ j, i = j + 1 := ⟨i - 1, by omega⟩
      have q1 : (i : Int) < (n : Int) := by omega
      have hjj : (i : Int) - 1 = (j : Int) := by omega
      have hjn : (j : Int) < (n : Int) := by omega
      have hwj : IntKind.i64.wrap (j : Int) = (j : Int) := by rw [IntKind.wrap_i64]; omega
      have hhl := hr.hl
      have htl := hr.l
      have hik : i < hs.length := by omega
      have hjk : j < hs.length := by omega
      have hix : i < ts.length := by omega
      have hjx : j < ts.length := by omega
      obtain ⟨g, hga⟩ := hr.block hlt
      subst hga
      have hrd := hr.drew
      have HRD := Lib.hid hrd
      have HBD := Lib.hid hbw.drew
      have HKJ := Lib.hid (hrd.key j hjk hjx)
      have HKI := Lib.hid (hrd.key i hik hix)
      have HS4 : Hid ((fun W => W.cell? ⟨g, j * 5 + 1, none⟩ = some (.slice (hs[j]).ka (hs[j]).kn (hs[j]).kc) ∧ W.cell? ⟨g, i * 5 + 1, none⟩ = some (.slice (hs[i]).ka (hs[i]).kn (hs[i]).kc)) wr.drew) := Lib.hid ⟨(hrd.cells j hjk).2.1, (hrd.cells i hik).2.1⟩
      have HCD : Hid (condN ts i = ltL (ts[j]).key (ts[i]).key) := Lib.hid (condN_succ hj hix)
      clear hr hrd hbw hall hj hhl htl
      rcases ord_is (ts[j]).key (ts[i]).key with ⟨c0, o0⟩ | ⟨c0, o0⟩ | ⟨c0, o0⟩
      · have HO := Lib.hid o0
        have HC := Lib.hid c0
        clear o0 c0
        go_upto_region 4 with fail
        refine wp_region_held_drew (S := (fun W => W.cell? ⟨g, j * 5 + 1, none⟩ = some (.slice (hs[j]).ka (hs[j]).kn (hs[j]).kc) ∧ W.cell? ⟨g, i * 5 + 1, none⟩ = some (.slice (hs[i]).ka (hs[i]).kn (hs[i]).kc))) (by kernel_rfl) HS4.out (fun hHeld => ?_)
        refine take_w (i := 0) (oi := ?oZ1) (v := ?vZ1) ?hiZ1 (by kernel_rfl) (by kernel_rfl) (by kernel_rfl) ?hQZ1 ?hwZ1 ?hyZ1 (by assumption) ?restZ1
        case hiZ1 => (simp only [List.getElem?_toArray, List.getElem?_cons_zero] <;> rfl)
        case hQZ1 => exact (fun _ _ _ h => h)
        case hwZ1 => rfl
        case hyZ1 => (intro w hSw; (try dsimp only at hSw); go_simp; try with_reducible rfl)
        (try simp only [Act.put, List.setIfInBounds_toArray, List.set_cons_zero, List.set_cons_succ])
        refine take_w (i := 1) (oi := ?oZ2) (v := ?vZ2) ?hiZ2 (by kernel_rfl) (by kernel_rfl) (by kernel_rfl) ?hQZ2 ?hwZ2 ?hyZ2 (by assumption) ?restZ2
        case hiZ2 => (simp only [List.getElem?_toArray, List.getElem?_cons_succ, List.getElem?_cons_zero] <;> rfl)
        case hQZ2 => exact (fun _ _ _ h => h)
        case hwZ2 => rfl
        case hyZ2 => (intro w hSw; (try dsimp only at hSw); go_simp; try with_reducible rfl)
        (try simp only [Act.put, List.setIfInBounds_toArray, List.set_cons_zero, List.set_cons_succ])
        refine take_w (i := 2) (oi := ?oZ3) (v := ?vZ3) ?hiZ3 (by kernel_rfl) (by kernel_rfl) (by kernel_rfl) ?hQZ3 ?hwZ3 ?hyZ3 (by assumption) ?restZ3
        case hiZ3 => (simp only [List.getElem?_toArray, List.getElem?_cons_succ, List.getElem?_cons_zero] <;> rfl)
        case hQZ3 => exact (fun _ _ _ h => h)
        case hwZ3 => rfl
        case hyZ3 => (intro w hSw; (try dsimp only at hSw); go_simp; try with_reducible rfl)
        (try simp only [Act.put, List.setIfInBounds_toArray, List.set_cons_zero, List.set_cons_succ])
        refine take_w (i := 3) (oi := ?oZ4) (v := ?vZ4) ?hiZ4 (by kernel_rfl) (by kernel_rfl) (by kernel_rfl) ?hQZ4 ?hwZ4 ?hyZ4 (by assumption) ?restZ4
        case hiZ4 => (simp only [List.getElem?_toArray, List.getElem?_cons_succ, List.getElem?_cons_zero] <;> rfl)
        case hQZ4 => exact (fun _ _ _ h => h)
        case hwZ4 => rfl
        case hyZ4 => (intro w hSw; (try dsimp only at hSw); go_simp; try with_reducible rfl)
        (try simp only [Act.put, List.setIfInBounds_toArray, List.set_cons_zero, List.set_cons_succ])
        refine take_w (i := 4) (oi := ?oZ5) (v := ?vZ5) ?hiZ5 (by kernel_rfl) (by kernel_rfl) (by kernel_rfl) ?hQZ5 ?hwZ5 ?hyZ5 (by assumption) ?restZ5
        case hiZ5 => (simp only [List.getElem?_toArray, List.getElem?_cons_succ, List.getElem?_cons_zero] <;> rfl)
        case hQZ5 => exact (fun _ _ _ h => h)
        case hwZ5 => rfl
        case hyZ5 => (intro w hSw; (try dsimp only at hSw); go_simp; try with_reducible rfl)
        (try simp only [Act.put, List.setIfInBounds_toArray, List.set_cons_zero, List.set_cons_succ])
        refine take_w (i := 5) (oi := ?oZ6) (v := ?vZ6) ?hiZ6 (by kernel_rfl) (by kernel_rfl) (by kernel_rfl) ?hQZ6 ?hwZ6 ?hyZ6 (by assumption) ?restZ6
        case hiZ6 => (simp only [List.getElem?_toArray, List.getElem?_cons_succ, List.getElem?_cons_zero] <;> rfl)
        case hQZ6 => exact (fun _ _ _ h => h)
        case hwZ6 => rfl
        case hyZ6 => (intro w hSw; (try dsimp only at hSw); go_simp; try with_reducible rfl)
        (try simp only [Act.put, List.setIfInBounds_toArray, List.set_cons_zero, List.set_cons_succ])
        refine take_w (i := 6) (oi := ?oZ7) (v := ?vZ7) ?hiZ7 (by kernel_rfl) (by kernel_rfl) (by kernel_rfl) ?hQZ7 ?hwZ7 ?hyZ7 (by assumption) ?restZ7
        case hiZ7 => (simp only [List.getElem?_toArray, List.getElem?_cons_succ, List.getElem?_cons_zero] <;> rfl)
        case hQZ7 => exact (fun _ _ _ h => h)
        case hwZ7 => rfl
        case hyZ7 => (intro w hSw; (try dsimp only at hSw); go_simp; try with_reducible rfl)
        (try simp only [Act.put, List.setIfInBounds_toArray, List.set_cons_zero, List.set_cons_succ])
        refine take_w (i := 7) (oi := ?oZ8) (v := ?vZ8) ?hiZ8 (by kernel_rfl) (by kernel_rfl) (by kernel_rfl) ?hQZ8 ?hwZ8 ?hyZ8 (by assumption) ?restZ8
        case hiZ8 => (simp only [List.getElem?_toArray, List.getElem?_cons_succ, List.getElem?_cons_zero] <;> rfl)
        case hQZ8 => exact (fun _ _ _ h => h)
        case hwZ8 => rfl
        case hyZ8 => (intro w hSw; (try dsimp only at hSw); go_simp; try with_reducible rfl)
        (try simp only [Act.put, List.setIfInBounds_toArray, List.set_cons_zero, List.set_cons_succ])
        refine take_w (i := 8) (oi := ?oZ9) (v := ?vZ9) ?hiZ9 (by kernel_rfl) (by kernel_rfl) (by kernel_rfl) ?hQZ9 ?hwZ9 ?hyZ9 (by assumption) ?restZ9
        case hiZ9 => (simp only [List.getElem?_toArray, List.getElem?_cons_succ, List.getElem?_cons_zero] <;> rfl)
        case hQZ9 => exact (fun _ _ _ h => h)
        case hwZ9 => rfl
        case hyZ9 => (intro w hSw; (try dsimp only at hSw); go_simp; try with_reducible rfl)
        (try simp only [Act.put, List.setIfInBounds_toArray, List.set_cons_zero, List.set_cons_succ])
        refine take_w (i := 9) (oi := ?oZ10) (v := ?vZ10) ?hiZ10 (by kernel_rfl) (by kernel_rfl) (by kernel_rfl) ?hQZ10 ?hwZ10 ?hyZ10 (by assumption) ?restZ10
        case hiZ10 => (simp only [List.getElem?_toArray, List.getElem?_cons_succ, List.getElem?_cons_zero] <;> rfl)
        case hQZ10 => exact (fun _ _ _ h => h)
        case hwZ10 => rfl
        case hyZ10 => (intro w hSw; (try dsimp only at hSw); go_simp; try with_reducible rfl)
        (try simp only [Act.put, List.setIfInBounds_toArray, List.set_cons_zero, List.set_cons_succ])
        refine take_w (i := 10) (oi := ?oZ11) (v := ?vZ11) ?hiZ11 (by kernel_rfl) (by kernel_rfl) (by kernel_rfl) ?hQZ11 ?hwZ11 ?hyZ11 (by assumption) ?restZ11
        case hiZ11 => (simp only [List.getElem?_toArray, List.getElem?_cons_succ, List.getElem?_cons_zero] <;> rfl)
        case hQZ11 => exact (fun _ _ _ h => h)
        case hwZ11 => rfl
        case hyZ11 => (intro w hSw; (try dsimp only at hSw); go_simp; try with_reducible rfl)
        (try simp only [Act.put, List.setIfInBounds_toArray, List.set_cons_zero, List.set_cons_succ])
        refine wpAnyH_ready (rs := [11]) (by kernel_rfl) (by simp) ?_
        refine AllReadyH.cons (o := ?oZ12) ?hiZ12 (fun K hK => ?stZ12) AllReadyH.nil
        case hiZ12 => (simp only [List.getElem?_toArray, List.getElem?_cons_succ, List.getElem?_cons_zero] <;> rfl)
        go_simp
        go_at_call 68
        refine (compare_any (ts[j]).key (ts[i]).key _ _ _ _ _ _ _ HKJ.out HKI.out).mono ?_
        rintro _ w6 ⟨rfl, hw6⟩
        rw [hw6]
        clear hw6
        rw [HO.out]
        go_simp
        refine hK.out _ _ ?_ (fun hHeld => ?_)
        · (exact HS4.out)
        clear hK K
        (try simp only [Act.put, List.setIfInBounds_toArray, List.set_cons_zero, List.set_cons_succ])
        refine take_w (i := 12) (oi := ?oZ13) (v := ?vZ13) ?hiZ13 (by kernel_rfl) (by kernel_rfl) (by kernel_rfl) ?hQZ13 ?hwZ13 ?hyZ13 (by assumption) ?restZ13
        case hiZ13 => (simp only [List.getElem?_toArray, List.getElem?_cons_succ, List.getElem?_cons_zero] <;> rfl)
        case hQZ13 => exact (fun _ _ _ h => h)
        case hwZ13 => rfl
        case hyZ13 => (intro w hSw; (try dsimp only at hSw); go_simp; try with_reducible rfl)
        (try simp only [Act.put, List.setIfInBounds_toArray, List.set_cons_zero, List.set_cons_succ])
        refine wpAnyH_done (by kernel_rfl) ?_ _
        clear hHeld
        go_wp2_with fail
        exact ⟨⟨i + 1, by omega, .inl (by omega), by go_num, HRD.out, HBD.out, by rw [List.range_succ, List.all_append, HALL.out]; simp [HCD.out, HC.out]⟩, by simp [intOf]; omega⟩
      · have HO := Lib.hid o0
        have HC := Lib.hid c0
        clear o0 c0
        go_upto_region 4 with fail
        refine wp_region_held_drew (S := (fun W => W.cell? ⟨g, j * 5 + 1, none⟩ = some (.slice (hs[j]).ka (hs[j]).kn (hs[j]).kc) ∧ W.cell? ⟨g, i * 5 + 1, none⟩ = some (.slice (hs[i]).ka (hs[i]).kn (hs[i]).kc))) (by kernel_rfl) HS4.out (fun hHeld => ?_)
        refine take_w (i := 0) (oi := ?oZ14) (v := ?vZ14) ?hiZ14 (by kernel_rfl) (by kernel_rfl) (by kernel_rfl) ?hQZ14 ?hwZ14 ?hyZ14 (by assumption) ?restZ14
        case hiZ14 => (simp only [List.getElem?_toArray, List.getElem?_cons_zero] <;> rfl)
        case hQZ14 => exact (fun _ _ _ h => h)
        case hwZ14 => rfl
        case hyZ14 => (intro w hSw; (try dsimp only at hSw); go_simp; try with_reducible rfl)
        (try simp only [Act.put, List.setIfInBounds_toArray, List.set_cons_zero, List.set_cons_succ])
        refine take_w (i := 1) (oi := ?oZ15) (v := ?vZ15) ?hiZ15 (by kernel_rfl) (by kernel_rfl) (by kernel_rfl) ?hQZ15 ?hwZ15 ?hyZ15 (by assumption) ?restZ15
        case hiZ15 => (simp only [List.getElem?_toArray, List.getElem?_cons_succ, List.getElem?_cons_zero] <;> rfl)
        case hQZ15 => exact (fun _ _ _ h => h)
        case hwZ15 => rfl
        case hyZ15 => (intro w hSw; (try dsimp only at hSw); go_simp; try with_reducible rfl)
        (try simp only [Act.put, List.setIfInBounds_toArray, List.set_cons_zero, List.set_cons_succ])
        refine take_w (i := 2) (oi := ?oZ16) (v := ?vZ16) ?hiZ16 (by kernel_rfl) (by kernel_rfl) (by kernel_rfl) ?hQZ16 ?hwZ16 ?hyZ16 (by assumption) ?restZ16
        case hiZ16 => (simp only [List.getElem?_toArray, List.getElem?_cons_succ, List.getElem?_cons_zero] <;> rfl)
        case hQZ16 => exact (fun _ _ _ h => h)
        case hwZ16 => rfl
        case hyZ16 => (intro w hSw; (try dsimp only at hSw); go_simp; try with_reducible rfl)
        (try simp only [Act.put, List.setIfInBounds_toArray, List.set_cons_zero, List.set_cons_succ])
        refine take_w (i := 3) (oi := ?oZ17) (v := ?vZ17) ?hiZ17 (by kernel_rfl) (by kernel_rfl) (by kernel_rfl) ?hQZ17 ?hwZ17 ?hyZ17 (by assumption) ?restZ17
        case hiZ17 => (simp only [List.getElem?_toArray, List.getElem?_cons_succ, List.getElem?_cons_zero] <;> rfl)
        case hQZ17 => exact (fun _ _ _ h => h)
        case hwZ17 => rfl
        case hyZ17 => (intro w hSw; (try dsimp only at hSw); go_simp; try with_reducible rfl)
        (try simp only [Act.put, List.setIfInBounds_toArray, List.set_cons_zero, List.set_cons_succ])
        refine take_w (i := 4) (oi := ?oZ18) (v := ?vZ18) ?hiZ18 (by kernel_rfl) (by kernel_rfl) (by kernel_rfl) ?hQZ18 ?hwZ18 ?hyZ18 (by assumption) ?restZ18
        case hiZ18 => (simp only [List.getElem?_toArray, List.getElem?_cons_succ, List.getElem?_cons_zero] <;> rfl)
        case hQZ18 => exact (fun _ _ _ h => h)
        case hwZ18 => rfl
        case hyZ18 => (intro w hSw; (try dsimp only at hSw); go_simp; try with_reducible rfl)
        (try simp only [Act.put, List.setIfInBounds_toArray, List.set_cons_zero, List.set_cons_succ])
        refine take_w (i := 5) (oi := ?oZ19) (v := ?vZ19) ?hiZ19 (by kernel_rfl) (by kernel_rfl) (by kernel_rfl) ?hQZ19 ?hwZ19 ?hyZ19 (by assumption) ?restZ19
        case hiZ19 => (simp only [List.getElem?_toArray, List.getElem?_cons_succ, List.getElem?_cons_zero] <;> rfl)
        case hQZ19 => exact (fun _ _ _ h => h)
        case hwZ19 => rfl
        case hyZ19 => (intro w hSw; (try dsimp only at hSw); go_simp; try with_reducible rfl)
        (try simp only [Act.put, List.setIfInBounds_toArray, List.set_cons_zero, List.set_cons_succ])
        refine take_w (i := 6) (oi := ?oZ20) (v := ?vZ20) ?hiZ20 (by kernel_rfl) (by kernel_rfl) (by kernel_rfl) ?hQZ20 ?hwZ20 ?hyZ20 (by assumption) ?restZ20
        case hiZ20 => (simp only [List.getElem?_toArray, List.getElem?_cons_succ, List.getElem?_cons_zero] <;> rfl)
        case hQZ20 => exact (fun _ _ _ h => h)
        case hwZ20 => rfl
        case hyZ20 => (intro w hSw; (try dsimp only at hSw); go_simp; try with_reducible rfl)
        (try simp only [Act.put, List.setIfInBounds_toArray, List.set_cons_zero, List.set_cons_succ])
        refine take_w (i := 7) (oi := ?oZ21) (v := ?vZ21) ?hiZ21 (by kernel_rfl) (by kernel_rfl) (by kernel_rfl) ?hQZ21 ?hwZ21 ?hyZ21 (by assumption) ?restZ21
        case hiZ21 => (simp only [List.getElem?_toArray, List.getElem?_cons_succ, List.getElem?_cons_zero] <;> rfl)
        case hQZ21 => exact (fun _ _ _ h => h)
        case hwZ21 => rfl
        case hyZ21 => (intro w hSw; (try dsimp only at hSw); go_simp; try with_reducible rfl)
        (try simp only [Act.put, List.setIfInBounds_toArray, List.set_cons_zero, List.set_cons_succ])
        refine take_w (i := 8) (oi := ?oZ22) (v := ?vZ22) ?hiZ22 (by kernel_rfl) (by kernel_rfl) (by kernel_rfl) ?hQZ22 ?hwZ22 ?hyZ22 (by assumption) ?restZ22
        case hiZ22 => (simp only [List.getElem?_toArray, List.getElem?_cons_succ, List.getElem?_cons_zero] <;> rfl)
        case hQZ22 => exact (fun _ _ _ h => h)
        case hwZ22 => rfl
        case hyZ22 => (intro w hSw; (try dsimp only at hSw); go_simp; try with_reducible rfl)
        (try simp only [Act.put, List.setIfInBounds_toArray, List.set_cons_zero, List.set_cons_succ])
        refine take_w (i := 9) (oi := ?oZ23) (v := ?vZ23) ?hiZ23 (by kernel_rfl) (by kernel_rfl) (by kernel_rfl) ?hQZ23 ?hwZ23 ?hyZ23 (by assumption) ?restZ23
        case hiZ23 => (simp only [List.getElem?_toArray, List.getElem?_cons_succ, List.getElem?_cons_zero] <;> rfl)
        case hQZ23 => exact (fun _ _ _ h => h)
        case hwZ23 => rfl
        case hyZ23 => (intro w hSw; (try dsimp only at hSw); go_simp; try with_reducible rfl)
        (try simp only [Act.put, List.setIfInBounds_toArray, List.set_cons_zero, List.set_cons_succ])
        refine take_w (i := 10) (oi := ?oZ24) (v := ?vZ24) ?hiZ24 (by kernel_rfl) (by kernel_rfl) (by kernel_rfl) ?hQZ24 ?hwZ24 ?hyZ24 (by assumption) ?restZ24
        case hiZ24 => (simp only [List.getElem?_toArray, List.getElem?_cons_succ, List.getElem?_cons_zero] <;> rfl)
        case hQZ24 => exact (fun _ _ _ h => h)
        case hwZ24 => rfl
        case hyZ24 => (intro w hSw; (try dsimp only at hSw); go_simp; try with_reducible rfl)
        (try simp only [Act.put, List.setIfInBounds_toArray, List.set_cons_zero, List.set_cons_succ])
        refine wpAnyH_ready (rs := [11]) (by kernel_rfl) (by simp) ?_
        refine AllReadyH.cons (o := ?oZ25) ?hiZ25 (fun K hK => ?stZ25) AllReadyH.nil
        case hiZ25 => (simp only [List.getElem?_toArray, List.getElem?_cons_succ, List.getElem?_cons_zero] <;> rfl)
        go_simp
        go_at_call 68
        refine (compare_any (ts[j]).key (ts[i]).key _ _ _ _ _ _ _ HKJ.out HKI.out).mono ?_
        rintro _ w6 ⟨rfl, hw6⟩
        rw [hw6]
        clear hw6
        rw [HO.out]
        go_simp
        refine hK.out _ _ ?_ (fun hHeld => ?_)
        · (exact HS4.out)
        clear hK K
        (try simp only [Act.put, List.setIfInBounds_toArray, List.set_cons_zero, List.set_cons_succ])
        refine take_w (i := 12) (oi := ?oZ26) (v := ?vZ26) ?hiZ26 (by kernel_rfl) (by kernel_rfl) (by kernel_rfl) ?hQZ26 ?hwZ26 ?hyZ26 (by assumption) ?restZ26
        case hiZ26 => (simp only [List.getElem?_toArray, List.getElem?_cons_succ, List.getElem?_cons_zero] <;> rfl)
        case hQZ26 => exact (fun _ _ _ h => h)
        case hwZ26 => rfl
        case hyZ26 => (intro w hSw; (try dsimp only at hSw); go_simp; try with_reducible rfl)
        (try simp only [Act.put, List.setIfInBounds_toArray, List.set_cons_zero, List.set_cons_succ])
        refine wpAnyH_done (by kernel_rfl) ?_ _
        clear hHeld
        go_wp2_with fail
        go_ret
        have e : (List.range n).all (condN ts) = false := by
          cases q : (List.range n).all (condN ts) with
          | false => rfl
          | true =>
            have := (List.all_eq_true.1 q) i (List.mem_range.2 hlt)
            rw [HCD.out, HC.out] at this
            cases this
        exact ⟨by rw [e]; rfl, HBD.out⟩
      · have HO := Lib.hid o0
        have HC := Lib.hid c0
        clear o0 c0
        go_upto_region 4 with fail
        refine wp_region_held_drew (S := (fun W => W.cell? ⟨g, j * 5 + 1, none⟩ = some (.slice (hs[j]).ka (hs[j]).kn (hs[j]).kc) ∧ W.cell? ⟨g, i * 5 + 1, none⟩ = some (.slice (hs[i]).ka (hs[i]).kn (hs[i]).kc))) (by kernel_rfl) HS4.out (fun hHeld => ?_)
        refine take_w (i := 0) (oi := ?oZ27) (v := ?vZ27) ?hiZ27 (by kernel_rfl) (by kernel_rfl) (by kernel_rfl) ?hQZ27 ?hwZ27 ?hyZ27 (by assumption) ?restZ27
        case hiZ27 => (simp only [List.getElem?_toArray, List.getElem?_cons_zero] <;> rfl)
        case hQZ27 => exact (fun _ _ _ h => h)
        case hwZ27 => rfl
        case hyZ27 => (intro w hSw; (try dsimp only at hSw); go_simp; try with_reducible rfl)
        (try simp only [Act.put, List.setIfInBounds_toArray, List.set_cons_zero, List.set_cons_succ])
        refine take_w (i := 1) (oi := ?oZ28) (v := ?vZ28) ?hiZ28 (by kernel_rfl) (by kernel_rfl) (by kernel_rfl) ?hQZ28 ?hwZ28 ?hyZ28 (by assumption) ?restZ28
        case hiZ28 => (simp only [List.getElem?_toArray, List.getElem?_cons_succ, List.getElem?_cons_zero] <;> rfl)
        case hQZ28 => exact (fun _ _ _ h => h)
        case hwZ28 => rfl
        case hyZ28 => (intro w hSw; (try dsimp only at hSw); go_simp; try with_reducible rfl)
        (try simp only [Act.put, List.setIfInBounds_toArray, List.set_cons_zero, List.set_cons_succ])
        refine take_w (i := 2) (oi := ?oZ29) (v := ?vZ29) ?hiZ29 (by kernel_rfl) (by kernel_rfl) (by kernel_rfl) ?hQZ29 ?hwZ29 ?hyZ29 (by assumption) ?restZ29
        case hiZ29 => (simp only [List.getElem?_toArray, List.getElem?_cons_succ, List.getElem?_cons_zero] <;> rfl)
        case hQZ29 => exact (fun _ _ _ h => h)
        case hwZ29 => rfl
        case hyZ29 => (intro w hSw; (try dsimp only at hSw); go_simp; try with_reducible rfl)
        (try simp only [Act.put, List.setIfInBounds_toArray, List.set_cons_zero, List.set_cons_succ])
        refine take_w (i := 3) (oi := ?oZ30) (v := ?vZ30) ?hiZ30 (by kernel_rfl) (by kernel_rfl) (by kernel_rfl) ?hQZ30 ?hwZ30 ?hyZ30 (by assumption) ?restZ30
        case hiZ30 => (simp only [List.getElem?_toArray, List.getElem?_cons_succ, List.getElem?_cons_zero] <;> rfl)
        case hQZ30 => exact (fun _ _ _ h => h)
        case hwZ30 => rfl
        case hyZ30 => (intro w hSw; (try dsimp only at hSw); go_simp; try with_reducible rfl)
        (try simp only [Act.put, List.setIfInBounds_toArray, List.set_cons_zero, List.set_cons_succ])
        refine take_w (i := 4) (oi := ?oZ31) (v := ?vZ31) ?hiZ31 (by kernel_rfl) (by kernel_rfl) (by kernel_rfl) ?hQZ31 ?hwZ31 ?hyZ31 (by assumption) ?restZ31
        case hiZ31 => (simp only [List.getElem?_toArray, List.getElem?_cons_succ, List.getElem?_cons_zero] <;> rfl)
        case hQZ31 => exact (fun _ _ _ h => h)
        case hwZ31 => rfl
        case hyZ31 => (intro w hSw; (try dsimp only at hSw); go_simp; try with_reducible rfl)
        (try simp only [Act.put, List.setIfInBounds_toArray, List.set_cons_zero, List.set_cons_succ])
        refine take_w (i := 5) (oi := ?oZ32) (v := ?vZ32) ?hiZ32 (by kernel_rfl) (by kernel_rfl) (by kernel_rfl) ?hQZ32 ?hwZ32 ?hyZ32 (by assumption) ?restZ32
        case hiZ32 => (simp only [List.getElem?_toArray, List.getElem?_cons_succ, List.getElem?_cons_zero] <;> rfl)
        case hQZ32 => exact (fun _ _ _ h => h)
        case hwZ32 => rfl
        case hyZ32 => (intro w hSw; (try dsimp only at hSw); go_simp; try with_reducible rfl)
        (try simp only [Act.put, List.setIfInBounds_toArray, List.set_cons_zero, List.set_cons_succ])
        refine take_w (i := 6) (oi := ?oZ33) (v := ?vZ33) ?hiZ33 (by kernel_rfl) (by kernel_rfl) (by kernel_rfl) ?hQZ33 ?hwZ33 ?hyZ33 (by assumption) ?restZ33
        case hiZ33 => (simp only [List.getElem?_toArray, List.getElem?_cons_succ, List.getElem?_cons_zero] <;> rfl)
        case hQZ33 => exact (fun _ _ _ h => h)
        case hwZ33 => rfl
        case hyZ33 => (intro w hSw; (try dsimp only at hSw); go_simp; try with_reducible rfl)
        (try simp only [Act.put, List.setIfInBounds_toArray, List.set_cons_zero, List.set_cons_succ])
        refine take_w (i := 7) (oi := ?oZ34) (v := ?vZ34) ?hiZ34 (by kernel_rfl) (by kernel_rfl) (by kernel_rfl) ?hQZ34 ?hwZ34 ?hyZ34 (by assumption) ?restZ34
        case hiZ34 => (simp only [List.getElem?_toArray, List.getElem?_cons_succ, List.getElem?_cons_zero] <;> rfl)
        case hQZ34 => exact (fun _ _ _ h => h)
        case hwZ34 => rfl
        case hyZ34 => (intro w hSw; (try dsimp only at hSw); go_simp; try with_reducible rfl)
        (try simp only [Act.put, List.setIfInBounds_toArray, List.set_cons_zero, List.set_cons_succ])
        refine take_w (i := 8) (oi := ?oZ35) (v := ?vZ35) ?hiZ35 (by kernel_rfl) (by kernel_rfl) (by kernel_rfl) ?hQZ35 ?hwZ35 ?hyZ35 (by assumption) ?restZ35
        case hiZ35 => (simp only [List.getElem?_toArray, List.getElem?_cons_succ, List.getElem?_cons_zero] <;> rfl)
        case hQZ35 => exact (fun _ _ _ h => h)
        case hwZ35 => rfl
        case hyZ35 => (intro w hSw; (try dsimp only at hSw); go_simp; try with_reducible rfl)
        (try simp only [Act.put, List.setIfInBounds_toArray, List.set_cons_zero, List.set_cons_succ])
        refine take_w (i := 9) (oi := ?oZ36) (v := ?vZ36) ?hiZ36 (by kernel_rfl) (by kernel_rfl) (by kernel_rfl) ?hQZ36 ?hwZ36 ?hyZ36 (by assumption) ?restZ36
        case hiZ36 => (simp only [List.getElem?_toArray, List.getElem?_cons_succ, List.getElem?_cons_zero] <;> rfl)
        case hQZ36 => exact (fun _ _ _ h => h)
        case hwZ36 => rfl
        case hyZ36 => (intro w hSw; (try dsimp only at hSw); go_simp; try with_reducible rfl)
        (try simp only [Act.put, List.setIfInBounds_toArray, List.set_cons_zero, List.set_cons_succ])
        refine take_w (i := 10) (oi := ?oZ37) (v := ?vZ37) ?hiZ37 (by kernel_rfl) (by kernel_rfl) (by kernel_rfl) ?hQZ37 ?hwZ37 ?hyZ37 (by assumption) ?restZ37
        case hiZ37 => (simp only [List.getElem?_toArray, List.getElem?_cons_succ, List.getElem?_cons_zero] <;> rfl)
        case hQZ37 => exact (fun _ _ _ h => h)
        case hwZ37 => rfl
        case hyZ37 => (intro w hSw; (try dsimp only at hSw); go_simp; try with_reducible rfl)
        (try simp only [Act.put, List.setIfInBounds_toArray, List.set_cons_zero, List.set_cons_succ])
        refine wpAnyH_ready (rs := [11]) (by kernel_rfl) (by simp) ?_
        refine AllReadyH.cons (o := ?oZ38) ?hiZ38 (fun K hK => ?stZ38) AllReadyH.nil
        case hiZ38 => (simp only [List.getElem?_toArray, List.getElem?_cons_succ, List.getElem?_cons_zero] <;> rfl)
        go_simp
        go_at_call 68
        refine (compare_any (ts[j]).key (ts[i]).key _ _ _ _ _ _ _ HKJ.out HKI.out).mono ?_
        rintro _ w6 ⟨rfl, hw6⟩
        rw [hw6]
        clear hw6
        rw [HO.out]
        go_simp
        refine hK.out _ _ ?_ (fun hHeld => ?_)
        · (exact HS4.out)
        clear hK K
        (try simp only [Act.put, List.setIfInBounds_toArray, List.set_cons_zero, List.set_cons_succ])
        refine take_w (i := 12) (oi := ?oZ39) (v := ?vZ39) ?hiZ39 (by kernel_rfl) (by kernel_rfl) (by kernel_rfl) ?hQZ39 ?hwZ39 ?hyZ39 (by assumption) ?restZ39
        case hiZ39 => (simp only [List.getElem?_toArray, List.getElem?_cons_succ, List.getElem?_cons_zero] <;> rfl)
        case hQZ39 => exact (fun _ _ _ h => h)
        case hwZ39 => rfl
        case hyZ39 => (intro w hSw; (try dsimp only at hSw); go_simp; try with_reducible rfl)
        (try simp only [Act.put, List.setIfInBounds_toArray, List.set_cons_zero, List.set_cons_succ])
        refine wpAnyH_done (by kernel_rfl) ?_ _
        clear hHeld
        go_wp2_with fail
        go_ret
        have e : (List.range n).all (condN ts) = false := by
          cases q : (List.range n).all (condN ts) with
          | false => rfl
          | true =>
            have := (List.all_eq_true.1 q) i (List.mem_range.2 hlt)
            rw [HCD.out, HC.out] at this
            cases this
        exact ⟨by rw [e]; rfl, HBD.out⟩
    · have q1 : ¬ (i : Int) < (n : Int) := by omega
      have HB := Lib.hid hbw
      have e : (List.range n).all (condN ts) = true := by
        rw [List.all_eq_true]
        intro x hx
        rw [List.mem_range] at hx
        exact (List.all_eq_true.1 hall) x (List.mem_range.2 (by omega))
      have HE := Lib.hid e
      clear hall hr hbw e
      go_wp2_with fail
      go_ret
      exact ⟨by rw [HE.out]; rfl, HB.out⟩
end Go.Proofs.YtioifkbkllnkgaaDoor

/- The contract of the program's list of the parts without kids. -/
namespace Go.Proofs.YtioifkbkllnkgaaDoor
open Go.RowKit
set_option linter.unusedVariables false

/-- The world inside the closure of ends: u is what the variable holds, v the row. -/
structure LE (wb w W : World) (gc gn : Nat) (h : TH) (v0 u v : Value) (hs : List TH) : Prop where
  box : Box W 25 w.heap.size h
  clo : Var1 W 97 gc (.func (.func 83) #[] #[.pointer (some ⟨gn, 0, none⟩), .pointer (some ⟨gc, 0, none⟩)])
  var : Var1 W 23 gn u
  own : OwnT W wb.heap.size 25 v hs
  b : Below wb.heap.size wb W
  nb : some w.heap.size ≠ v.ownBlock
  ge : wb.heap.size ≤ gn
  k : Keeps w W gn v0 v
section
variable {wb w W W' : World} {gc gn : Nat} {h : TH} {v0 u v u' v' : Value} {hs hs' : List TH}
theorem LE.step (d : LE wb w W gc gn h v0 u v hs) (hvar : Var1 W' 23 gn u') (hown : OwnT W' wb.heap.size 25 v' hs') (hk : Keeps W W' gn v v') : LE wb w W' gc gn h v0 u' v' hs' :=
  ⟨(hk.block _ d.box.lt (d.box.neV d.var (by decide)) d.nb).trans d.box, (hk.block _ d.clo.lt (d.clo.ne d.var (by decide)) (d.own.neV d.clo (by decide))).trans d.clo, hvar, hown,
    hk.below d.b d.b.size d.ge (fun k e => (d.own.lt k e).1), by
      rcases hk.ob with e | ⟨g, e, hg⟩
      · rw [e]; exact d.nb
      · rw [e]
        intro q
        injection q with q
        have := d.box.lt
        omega, d.ge, d.k.trans hk⟩
theorem LE.below (d : LE wb w W gc gn h v0 u v hs) (hb : Below W.heap.size W W') : LE wb w W' gc gn h v0 u v hs :=
  d.step (d.var.below hb d.var.lt) (d.own.keep hb) (Keeps.of_below gn v hb)
theorem LE.drew (d : LE wb w W gc gn h v0 u v hs) : LE wb w W.drew gc gn h v0 u v hs := d.below (Below.refl _ _).drew
/-- The row was written, or has grown. -/
theorem LE.grown (d : LE wb w W gc gn h v0 u v hs) (hown : OwnT W' wb.heap.size 25 v' hs') (hg : W.grownBy W' v.ownBlock) (ho : v'.ownBlock = v.ownBlock ∨ v'.ownBlock = some W.heap.size) : LE wb w W' gc gn h v0 u v' hs' :=
  d.step (d.var.grown hg (d.own.neV d.var (by decide))) hown (Keeps.of_grown gn hg ho)
/-- The variable was written. -/
theorem LE.put (d : LE wb w W gc gn h v0 u v hs) (x : Value) : LE wb w (W.setCell ⟨gn, 0, none⟩ x) gc gn h v0 x v hs :=
  d.step (d.var.set x) (d.own.far (p := ⟨gn, 0, none⟩) (d.own.neV d.var (by decide)) x) (Keeps.of_set W gn v x)
end
theorem LE.new {wb w : World} {gc gn : Nat} {v : Value} {hs : List TH} (h : TH) (hb : Below wb.heap.size wb w) (hge : wb.heap.size ≤ gn) (hc : Var1 w 97 gc (.func (.func 83) #[] #[.pointer (some ⟨gn, 0, none⟩), .pointer (some ⟨gc, 0, none⟩)])) (hv : Var1 w 23 gn v) (ho : OwnT w wb.heap.size 25 v hs) : LE wb w (w.alloc (.cells #[.int .i64 h.k, .slice h.ka h.kn h.kc, .slice h.va h.vn h.vc, .slice h.da h.dn h.dc, .slice h.ta h.tn h.tc] 25)) gc gn h v v v hs :=
  have h1 : Below w.heap.size w (w.alloc (.cells #[.int .i64 h.k, .slice h.ka h.kn h.kc, .slice h.va h.vn h.vc, .slice h.da h.dn h.dc, .slice h.ta h.tn h.tc] 25)) := (Below.refl _ _).alloc (Nat.le_refl _) _
  ⟨Box.new w _ h, hc.below h1 hc.lt, hv.below h1 hv.lt, ho.keep h1, hb.trans (h1.mono hb.size), fun q => by have := (ho.lt _ q.symm).2; omega, hge, Keeps.of_below gn v h1⟩
/-- What ends tells. -/
def Ends (w : World) (t : Tr) (e : Ending) (w' : World) : Prop := ∃ v hs, e = .returned v ∧ OwnT w' w.heap.size 25 v hs ∧ Heads w hs (endsT t) ∧ Below w.heap.size w w'
/-- What the closure of ends does. -/
def EndsPost (wb w : World) (gn : Nat) (v : Value) (hs : List TH) (t : Tr) (e : Ending) (w' : World) : Prop := ∃ v' hs', e = .returned (.tuple #[]) ∧ Var1 w' 23 gn v' ∧ OwnT w' wb.heap.size 25 v' (hs ++ hs') ∧ Heads wb hs' (endsT t) ∧ Keeps w w' gn v v'
theorem flat_take (l : List Tr) (i : Nat) (hi : i < l.length) : ((l.take (i + 1)).map endsT).flatten = ((l.take i).map endsT).flatten ++ endsT l[i] := by
  rw [List.take_add_one, List.getElem?_eq_getElem hi, List.map_append, List.flatten_append]
  simp only [Option.toList, List.map_cons, List.map_nil, List.flatten_cons, List.flatten_nil, List.append_nil]
theorem ends_sum (l : List Tr) : (l.map endsT).flatten.length ≤ (l.map countT).sum := by
  induction l with
  | nil => simp
  | cons a l ih =>
    have h1 := ends_len a
    simp only [List.map_cons, List.flatten_cons, List.length_append, List.sum_cons]
    omega
theorem count_take (t : Tr) (i : Nat) (hi : i < t.kids.length) : ((t.kids.take i).map endsT).flatten.length + countT t.kids[i] < countT t := by
  have h1 := ends_sum (t.kids.take i)
  have e : t.kids = t.kids.take i ++ (t.kids[i] :: t.kids.drop (i + 1)) := by rw [← List.drop_eq_getElem_cons hi, List.take_append_drop]
  have h2 : (t.kids.map countT).sum = ((t.kids.take i).map countT ++ (countT t.kids[i] :: (t.kids.drop (i + 1)).map countT)).sum := by
    conv => lhs; rw [e, List.map_append, List.map_cons]
  rw [List.sum_append, List.sum_cons] at h2
  have h3 := countT_eq t
  omega

set_option maxRecDepth 100000 in
set_option maxHeartbeats 4000000 in
theorem endsC_any (wb : World) : ∀ (t : Tr) (h : TH) (w : World) (gc gn : Nat) (v : Value) (hs : List TH), InTree wb h t → hs.length + countT t ≤ 1000 → Below wb.heap.size wb w → wb.heap.size ≤ gn →
    Var1 w 97 gc (.func (.func 83) #[] #[.pointer (some ⟨gn, 0, none⟩), .pointer (some ⟨gc, 0, none⟩)]) → Var1 w 23 gn v → OwnT w wb.heap.size 25 v hs →
    Calls Tryd.prog 83 #[h.v, .pointer (some ⟨gn, 0, none⟩), .pointer (some ⟨gc, 0, none⟩)] w (EndsPost wb w gn v hs t) := by
  intro t
  induction t using Tr.ind with
  | h t ih =>
  intro h w gc gn v hs ht hcn hbw hge hc hv ho
  unfold TH.v
  obtain ⟨H, hp⟩ := ht.parts
  have htl := hp.len
  have htm := Nat.le_trans hp.sl.le hp.sl.max
  have htc := hp.sl.le
  simp only [maxLen] at htm
  have hcp : 1 ≤ countT t := by rw [countT_eq]; omega
  have HP := Lib.hid hp
  have HTT := Lib.hid ht
  have IH := Lib.hid ih
  have hd0 := LE.new h hbw hge hc hv ho
  obtain ⟨a2, c2, hv2⟩ := ho.sl
  have HD0 := Lib.hid hd0
  obtain ⟨x0, x1, x2, x3, x4⟩ := hd0.box.cells
  clear hp ht ih hbw hge hc hv ho hd0
  obtain ⟨ti, hti, htz⟩ := Option.map_eq_some_iff.1 infoTree2
  simp only [Prod.mk.injEq] at htz
  obtain ⟨hz0, hz1, hz2⟩ := htz
  have HEN : Hid (endsT t = (if h.tn = 0 then [t] else []) ++ (t.kids.map endsT).flatten) := Lib.hid (by
    rw [endsT_eq]
    by_cases q : h.tn = 0
    · have q2 : t.kids = [] := List.eq_nil_of_length_eq_zero (by omega)
      rw [if_pos (by omega), if_pos q, q2]
      rfl
    · rw [if_neg (by omega), if_neg q, List.nil_append])
  have HCT := Lib.hid (count_take t)
  go_enter Tryd.func83, Tryd.ntmps83
  go_upto_if 9 with fail
  generalize (w.alloc (.cells #[.int .i64 h.k, .slice h.ka h.kn h.kc, .slice h.va h.vn h.vc, .slice h.da h.dn h.dc, .slice h.ta h.tn h.tc] 25)) = w0 at *
  clear x0 x1 x2 x3 x4
  go_cut [] (fun wx => ∃ v2 hs0, LE wb w wx gc gn h v v2 v2 (hs ++ hs0) ∧ Heads wb hs0 (if h.tn = 0 then [t] else []))
  case first =>
    by_cases hk0 : h.tn = 0
    · have HK0 : Hid ((if h.tn = 0 then [t] else []) = [t]) := Lib.hid (if_pos hk0)
      have hb0 : ((h.tn : Int) == 0) = true := by rw [hk0]; rfl
      generalize hn2 : hs.length = n2 at hv2 hcn
      have HN2 := Lib.hid hn2
      subst hv2
      obtain ⟨x0, x1, x2, x3, x4⟩ := HD0.out.box.cells
      clear hn2 hk0
      go_upto_region 2 with fail
      clear x0 x1 x2 x3 x4 hb0
      have hba : Below w0.drew.heap.size w0.drew (w0.drew.alloc (.cells #[.int .i64 0, .slice none 0 0, .slice none 0 0, .slice none 0 0, .slice none 0 0] 25)) := (Below.refl _ _).alloc (Nat.le_refl _) _
      have HDA := Lib.hid (HD0.out.drew.below hba)
      have HZB : Hid (Box (w0.drew.alloc (.cells #[.int .i64 0, .slice none 0 0, .slice none 0 0, .slice none 0 0, .slice none 0 0] 25)) 25 w0.heap.size hZ) := Lib.hid (Box.new w0.drew 25 hZ)
      have cv2 := HD0.out.var.cell
      have cva : (w0.alloc (.cells #[.int .i64 0, .slice none 0 0, .slice none 0 0, .slice none 0 0, .slice none 0 0] 25)).cell? ⟨gn, 0, none⟩ = some (.slice a2 n2 c2) := HDA.out.var.cell
      have hlt2 : (n2 : Int) < (n2 : Int) + 1 := by omega
      clear hba
      refine wp_region_held_drew (S := (fun W => W.cell? ⟨w.heap.size, 0, none⟩ = some (.int .i64 h.k) ∧ W.cell? ⟨w.heap.size, 1, none⟩ = some (.slice h.ka h.kn h.kc) ∧ W.cell? ⟨w.heap.size, 2, none⟩ = some (.slice h.va h.vn h.vc) ∧ W.cell? ⟨w.heap.size, 3, none⟩ = some (.slice h.da h.dn h.dc) ∧ W.cell? ⟨w.heap.size, 4, none⟩ = some (.slice h.ta h.tn h.tc))) (by kernel_rfl) HD0.out.drew.box.cells (fun hHeld => ?_)
      refine take_w (i := 1) (oi := ?oZ40) (v := ?vZ40) ?hiZ40 (by kernel_rfl) (by kernel_rfl) (by kernel_rfl) ?hQZ40 ?hwZ40 ?hyZ40 (by assumption) ?restZ40
      case hiZ40 => (simp only [List.getElem?_toArray, List.getElem?_cons_succ, List.getElem?_cons_zero] <;> rfl)
      case hQZ40 => exact (fun _ _ _ h => h)
      case hwZ40 => rfl
      case hyZ40 => (intro w hSw; (try dsimp only at hSw); go_simp; try with_reducible rfl)
      (try simp only [Act.put, List.setIfInBounds_toArray, List.set_cons_zero, List.set_cons_succ])
      refine wpAnyH_ready (rs := [0, 3]) (by kernel_rfl) (by simp) ?_
      refine AllReadyH.cons (o := ?oZ41) ?hiZ41 (fun K hK => ?stZ41) (AllReadyH.cons (o := ?oZ42) ?hiZ42 (fun K hK => ?stZ42) AllReadyH.nil)
      case hiZ41 => (simp only [List.getElem?_toArray, List.getElem?_cons_zero] <;> rfl)
      case hiZ42 => (simp only [List.getElem?_toArray, List.getElem?_cons_succ, List.getElem?_cons_zero] <;> rfl)
      case stZ41 =>
        go_simp
        refine hK.out _ _ ?_ (fun hHeld => ?_)
        · (first | exact (HD4.out.put (.slice (some ⟨g3, 0, none⟩) (n2 + 1) c3)).box.cells | exact HD5.out.box.cells | exact HD4.out.box.cells | exact (HD3.out.put (.slice (some ⟨g3, 0, none⟩) (n2 + 1) c3)).box.cells | exact HD3.out.box.cells | exact HDA.out.box.cells | exact HD0.out.drew.box.cells)
        clear hK K
        (try simp only [Act.put, List.setIfInBounds_toArray, List.set_cons_zero, List.set_cons_succ])
        refine take_w (i := 2) (oi := ?oZ43) (v := ?vZ43) ?hiZ43 (by kernel_rfl) (by kernel_rfl) (by kernel_rfl) ?hQZ43 ?hwZ43 ?hyZ43 (by assumption) ?restZ43
        case hiZ43 => (simp only [List.getElem?_toArray, List.getElem?_cons_succ, List.getElem?_cons_zero] <;> rfl)
        case hQZ43 => exact (fun _ _ _ h => h)
        case hwZ43 => rfl
        case hyZ43 => (intro w hSw; (try dsimp only at hSw); go_simp; try with_reducible rfl)
        (try simp only [Act.put, List.setIfInBounds_toArray, List.set_cons_zero, List.set_cons_succ])
        refine wpAnyH_ready (rs := [3]) (by kernel_rfl) (by simp) ?_
        refine AllReadyH.cons (o := ?oZ44) ?hiZ44 (fun K hK => ?stZ44) AllReadyH.nil
        case hiZ44 => (simp only [List.getElem?_toArray, List.getElem?_cons_succ, List.getElem?_cons_zero] <;> rfl)
        go_simp
        refine hK.out _ _ ?_ (fun hHeld => ?_)
        · (first | exact (HD4.out.put (.slice (some ⟨g3, 0, none⟩) (n2 + 1) c3)).box.cells | exact HD5.out.box.cells | exact HD4.out.box.cells | exact (HD3.out.put (.slice (some ⟨g3, 0, none⟩) (n2 + 1) c3)).box.cells | exact HD3.out.box.cells | exact HDA.out.box.cells | exact HD0.out.drew.box.cells)
        clear hK K
        (try simp only [Act.put, List.setIfInBounds_toArray, List.set_cons_zero, List.set_cons_succ])
        refine wpAnyH_ready (rs := [4]) (by kernel_rfl) (by simp) ?_
        refine AllReadyH.cons (o := ?oZ45) ?hiZ45 (fun K hK => ?stZ45) AllReadyH.nil
        case hiZ45 => (simp only [List.getElem?_toArray, List.getElem?_cons_succ, List.getElem?_cons_zero] <;> rfl)
        refine step_append_trees _ rfl (.tmp 10) (.tmp 13) 23 rfl wb.heap.size 25 ti _ 104 Tryd.underlying23 hti hz0 hz1 hz2 rfl (.slice a2 n2 c2) hs rfl HDA.out.own w0.heap.size 1 [hZ] rfl HZB.out.row (by rw [HN2.out]; simp only [List.length_cons, List.length_nil]; omega) (by omega) HDA.out.b.size ?_
        intro v3 w3 ho3 hg3 hob3
        have hl3 : (hs ++ [hZ]).length = n2 + 1 := by rw [List.length_append, HN2.out]; rfl
        rcases ho3.form with ⟨_, q1⟩ | ⟨g3, c3, q1, -, -, -, -, -⟩
        · exfalso
          rw [q1] at hl3
          simp at hl3
        rw [hl3] at q1
        subst q1
        clear hl3
        have hd3 := HDA.out.grown ho3 hg3 hob3
        have HD3 := Lib.hid hd3
        have cn3 := hd3.var.cell
        have cf3 := hd3.var.frozen 0
        clear ho3 hg3 hob3 hd3
        refine hK.out _ _ ?_ (fun hHeld => ?_)
        · (first | exact (HD4.out.put (.slice (some ⟨g3, 0, none⟩) (n2 + 1) c3)).box.cells | exact HD5.out.box.cells | exact HD4.out.box.cells | exact (HD3.out.put (.slice (some ⟨g3, 0, none⟩) (n2 + 1) c3)).box.cells | exact HD3.out.box.cells | exact HDA.out.box.cells | exact HD0.out.drew.box.cells)
        clear hK K
        (try simp only [Act.put, List.setIfInBounds_toArray, List.set_cons_zero, List.set_cons_succ])
        refine take_w (i := 5) (oi := ?oZ46) (v := ?vZ46) ?hiZ46 (by kernel_rfl) (by kernel_rfl) (by kernel_rfl) ?hQZ46 ?hwZ46 ?hyZ46 (by assumption) ?restZ46
        case hiZ46 => (simp only [List.getElem?_toArray, List.getElem?_cons_succ, List.getElem?_cons_zero] <;> rfl)
        case hQZ46 => exact (fun _ _ _ h => h)
        case hwZ46 => rfl
        case hyZ46 => (intro w hSw; (try dsimp only at hSw); go_simp; try with_reducible rfl)
        (try simp only [Act.put, List.setIfInBounds_toArray, List.set_cons_zero, List.set_cons_succ])
        refine wpAnyH_ready (rs := [6, 7]) (by kernel_rfl) (by simp) ?_
        refine AllReadyH.cons (o := ?oZ47) ?hiZ47 (fun K hK => ?stZ47) (AllReadyH.cons (o := ?oZ48) ?hiZ48 (fun K hK => ?stZ48) AllReadyH.nil)
        case hiZ47 => (simp only [List.getElem?_toArray, List.getElem?_cons_succ, List.getElem?_cons_zero] <;> rfl)
        case hiZ48 => (simp only [List.getElem?_toArray, List.getElem?_cons_succ, List.getElem?_cons_zero] <;> rfl)
        case stZ47 =>
          refine step_store_last _ rfl 25 (.tmp 15) (.tmp 11) rfl wb.heap.size 25 g3 n2 c3 hs hZ h HN2.out HD3.out.own rfl (by unfold TH.v; rfl) infoTree5 ?_
          intro w4 ho4 hg4
          have hd4 := HD3.out.grown ho4 hg4 (.inl rfl)
          have HD4 := Lib.hid hd4
          have cn4 := hd4.var.cell
          have cf4 := hd4.var.frozen 0
          clear ho4 hg4 hd4
          refine hK.out _ _ ?_ (fun hHeld => ?_)
          · (first | exact (HD4.out.put (.slice (some ⟨g3, 0, none⟩) (n2 + 1) c3)).box.cells | exact HD5.out.box.cells | exact HD4.out.box.cells | exact (HD3.out.put (.slice (some ⟨g3, 0, none⟩) (n2 + 1) c3)).box.cells | exact HD3.out.box.cells | exact HDA.out.box.cells | exact HD0.out.drew.box.cells)
          clear hK K
          (try simp only [Act.put])
          refine wpAnyH_ready (rs := [7]) (by kernel_rfl) (by simp) ?_
          refine AllReadyH.cons (o := ?oZ49) ?hiZ49 (fun K hK => ?stZ49) AllReadyH.nil
          case hiZ49 => (simp only [List.getElem?_toArray, List.getElem?_cons_succ, List.getElem?_cons_zero] <;> rfl)
          go_simp
          refine hK.out _ _ ?_ (fun hHeld => ?_)
          · (first | exact (HD4.out.put (.slice (some ⟨g3, 0, none⟩) (n2 + 1) c3)).box.cells | exact HD5.out.box.cells | exact HD4.out.box.cells | exact (HD3.out.put (.slice (some ⟨g3, 0, none⟩) (n2 + 1) c3)).box.cells | exact HD3.out.box.cells | exact HDA.out.box.cells | exact HD0.out.drew.box.cells)
          clear hK K
          (try simp only [Act.put])
          refine wpAnyH_done (by kernel_rfl) ?_ _
          go_wp2_with fail
          go_meet
          first
            | exact ⟨_, [h], HD5.out, by rw [HK0.out]; exact Heads.one HTT.out⟩
            | exact ⟨_, [h], HD4.out.put _, by rw [HK0.out]; exact Heads.one HTT.out⟩
        case stZ48 =>
          go_simp
          refine hK.out _ _ ?_ (fun hHeld => ?_)
          · (first | exact (HD4.out.put (.slice (some ⟨g3, 0, none⟩) (n2 + 1) c3)).box.cells | exact HD5.out.box.cells | exact HD4.out.box.cells | exact (HD3.out.put (.slice (some ⟨g3, 0, none⟩) (n2 + 1) c3)).box.cells | exact HD3.out.box.cells | exact HDA.out.box.cells | exact HD0.out.drew.box.cells)
          clear hK K
          (try simp only [Act.put])
          refine wpAnyH_ready (rs := [6]) (by kernel_rfl) (by simp) ?_
          refine AllReadyH.cons (o := ?oZ50) ?hiZ50 (fun K hK => ?stZ50) AllReadyH.nil
          case hiZ50 => (simp only [List.getElem?_toArray, List.getElem?_cons_succ, List.getElem?_cons_zero] <;> rfl)
          refine step_store_last _ rfl 25 (.tmp 15) (.tmp 11) rfl wb.heap.size 25 g3 n2 c3 hs hZ h HN2.out (HD3.out.put (.slice (some ⟨g3, 0, none⟩) (n2 + 1) c3)).own rfl (by unfold TH.v; rfl) infoTree5 ?_
          intro w5 ho4 hg4
          have hd4 := (HD3.out.put (.slice (some ⟨g3, 0, none⟩) (n2 + 1) c3)).grown ho4 hg4 (.inl rfl)
          have HD5 := Lib.hid hd4
          have cn4 := hd4.var.cell
          have cf4 := hd4.var.frozen 0
          clear ho4 hg4 hd4
          refine hK.out _ _ ?_ (fun hHeld => ?_)
          · (first | exact (HD4.out.put (.slice (some ⟨g3, 0, none⟩) (n2 + 1) c3)).box.cells | exact HD5.out.box.cells | exact HD4.out.box.cells | exact (HD3.out.put (.slice (some ⟨g3, 0, none⟩) (n2 + 1) c3)).box.cells | exact HD3.out.box.cells | exact HDA.out.box.cells | exact HD0.out.drew.box.cells)
          clear hK K
          (try simp only [Act.put])
          refine wpAnyH_done (by kernel_rfl) ?_ _
          go_wp2_with fail
          go_meet
          first
            | exact ⟨_, [h], HD5.out, by rw [HK0.out]; exact Heads.one HTT.out⟩
            | exact ⟨_, [h], HD4.out.put _, by rw [HK0.out]; exact Heads.one HTT.out⟩
      case stZ42 =>
        go_simp
        refine hK.out _ _ ?_ (fun hHeld => ?_)
        · (first | exact (HD4.out.put (.slice (some ⟨g3, 0, none⟩) (n2 + 1) c3)).box.cells | exact HD5.out.box.cells | exact HD4.out.box.cells | exact (HD3.out.put (.slice (some ⟨g3, 0, none⟩) (n2 + 1) c3)).box.cells | exact HD3.out.box.cells | exact HDA.out.box.cells | exact HD0.out.drew.box.cells)
        clear hK K
        (try simp only [Act.put, List.setIfInBounds_toArray, List.set_cons_zero, List.set_cons_succ])
        refine wpAnyH_ready (rs := [0]) (by kernel_rfl) (by simp) ?_
        refine AllReadyH.cons (o := ?oZ51) ?hiZ51 (fun K hK => ?stZ51) AllReadyH.nil
        case hiZ51 => (simp only [List.getElem?_toArray, List.getElem?_cons_zero] <;> rfl)
        go_simp
        refine hK.out _ _ ?_ (fun hHeld => ?_)
        · (first | exact (HD4.out.put (.slice (some ⟨g3, 0, none⟩) (n2 + 1) c3)).box.cells | exact HD5.out.box.cells | exact HD4.out.box.cells | exact (HD3.out.put (.slice (some ⟨g3, 0, none⟩) (n2 + 1) c3)).box.cells | exact HD3.out.box.cells | exact HDA.out.box.cells | exact HD0.out.drew.box.cells)
        clear hK K
        (try simp only [Act.put, List.setIfInBounds_toArray, List.set_cons_zero, List.set_cons_succ])
        refine take_w (i := 2) (oi := ?oZ52) (v := ?vZ52) ?hiZ52 (by kernel_rfl) (by kernel_rfl) (by kernel_rfl) ?hQZ52 ?hwZ52 ?hyZ52 (by assumption) ?restZ52
        case hiZ52 => (simp only [List.getElem?_toArray, List.getElem?_cons_succ, List.getElem?_cons_zero] <;> rfl)
        case hQZ52 => exact (fun _ _ _ h => h)
        case hwZ52 => rfl
        case hyZ52 => (intro w hSw; (try dsimp only at hSw); go_simp; try with_reducible rfl)
        (try simp only [Act.put, List.setIfInBounds_toArray, List.set_cons_zero, List.set_cons_succ])
        refine wpAnyH_ready (rs := [4]) (by kernel_rfl) (by simp) ?_
        refine AllReadyH.cons (o := ?oZ53) ?hiZ53 (fun K hK => ?stZ53) AllReadyH.nil
        case hiZ53 => (simp only [List.getElem?_toArray, List.getElem?_cons_succ, List.getElem?_cons_zero] <;> rfl)
        refine step_append_trees _ rfl (.tmp 10) (.tmp 13) 23 rfl wb.heap.size 25 ti _ 104 Tryd.underlying23 hti hz0 hz1 hz2 rfl (.slice a2 n2 c2) hs rfl HDA.out.own w0.heap.size 1 [hZ] rfl HZB.out.row (by rw [HN2.out]; simp only [List.length_cons, List.length_nil]; omega) (by omega) HDA.out.b.size ?_
        intro v3 w3 ho3 hg3 hob3
        have hl3 : (hs ++ [hZ]).length = n2 + 1 := by rw [List.length_append, HN2.out]; rfl
        rcases ho3.form with ⟨_, q1⟩ | ⟨g3, c3, q1, -, -, -, -, -⟩
        · exfalso
          rw [q1] at hl3
          simp at hl3
        rw [hl3] at q1
        subst q1
        clear hl3
        have hd3 := HDA.out.grown ho3 hg3 hob3
        have HD3 := Lib.hid hd3
        have cn3 := hd3.var.cell
        have cf3 := hd3.var.frozen 0
        clear ho3 hg3 hob3 hd3
        refine hK.out _ _ ?_ (fun hHeld => ?_)
        · (first | exact (HD4.out.put (.slice (some ⟨g3, 0, none⟩) (n2 + 1) c3)).box.cells | exact HD5.out.box.cells | exact HD4.out.box.cells | exact (HD3.out.put (.slice (some ⟨g3, 0, none⟩) (n2 + 1) c3)).box.cells | exact HD3.out.box.cells | exact HDA.out.box.cells | exact HD0.out.drew.box.cells)
        clear hK K
        (try simp only [Act.put, List.setIfInBounds_toArray, List.set_cons_zero, List.set_cons_succ])
        refine take_w (i := 5) (oi := ?oZ54) (v := ?vZ54) ?hiZ54 (by kernel_rfl) (by kernel_rfl) (by kernel_rfl) ?hQZ54 ?hwZ54 ?hyZ54 (by assumption) ?restZ54
        case hiZ54 => (simp only [List.getElem?_toArray, List.getElem?_cons_succ, List.getElem?_cons_zero] <;> rfl)
        case hQZ54 => exact (fun _ _ _ h => h)
        case hwZ54 => rfl
        case hyZ54 => (intro w hSw; (try dsimp only at hSw); go_simp; try with_reducible rfl)
        (try simp only [Act.put, List.setIfInBounds_toArray, List.set_cons_zero, List.set_cons_succ])
        refine wpAnyH_ready (rs := [6, 7]) (by kernel_rfl) (by simp) ?_
        refine AllReadyH.cons (o := ?oZ55) ?hiZ55 (fun K hK => ?stZ55) (AllReadyH.cons (o := ?oZ56) ?hiZ56 (fun K hK => ?stZ56) AllReadyH.nil)
        case hiZ55 => (simp only [List.getElem?_toArray, List.getElem?_cons_succ, List.getElem?_cons_zero] <;> rfl)
        case hiZ56 => (simp only [List.getElem?_toArray, List.getElem?_cons_succ, List.getElem?_cons_zero] <;> rfl)
        case stZ55 =>
          refine step_store_last _ rfl 25 (.tmp 15) (.tmp 11) rfl wb.heap.size 25 g3 n2 c3 hs hZ h HN2.out HD3.out.own rfl (by unfold TH.v; rfl) infoTree5 ?_
          intro w4 ho4 hg4
          have hd4 := HD3.out.grown ho4 hg4 (.inl rfl)
          have HD4 := Lib.hid hd4
          have cn4 := hd4.var.cell
          have cf4 := hd4.var.frozen 0
          clear ho4 hg4 hd4
          refine hK.out _ _ ?_ (fun hHeld => ?_)
          · (first | exact (HD4.out.put (.slice (some ⟨g3, 0, none⟩) (n2 + 1) c3)).box.cells | exact HD5.out.box.cells | exact HD4.out.box.cells | exact (HD3.out.put (.slice (some ⟨g3, 0, none⟩) (n2 + 1) c3)).box.cells | exact HD3.out.box.cells | exact HDA.out.box.cells | exact HD0.out.drew.box.cells)
          clear hK K
          (try simp only [Act.put])
          refine wpAnyH_ready (rs := [7]) (by kernel_rfl) (by simp) ?_
          refine AllReadyH.cons (o := ?oZ57) ?hiZ57 (fun K hK => ?stZ57) AllReadyH.nil
          case hiZ57 => (simp only [List.getElem?_toArray, List.getElem?_cons_succ, List.getElem?_cons_zero] <;> rfl)
          go_simp
          refine hK.out _ _ ?_ (fun hHeld => ?_)
          · (first | exact (HD4.out.put (.slice (some ⟨g3, 0, none⟩) (n2 + 1) c3)).box.cells | exact HD5.out.box.cells | exact HD4.out.box.cells | exact (HD3.out.put (.slice (some ⟨g3, 0, none⟩) (n2 + 1) c3)).box.cells | exact HD3.out.box.cells | exact HDA.out.box.cells | exact HD0.out.drew.box.cells)
          clear hK K
          (try simp only [Act.put])
          refine wpAnyH_done (by kernel_rfl) ?_ _
          go_wp2_with fail
          go_meet
          first
            | exact ⟨_, [h], HD5.out, by rw [HK0.out]; exact Heads.one HTT.out⟩
            | exact ⟨_, [h], HD4.out.put _, by rw [HK0.out]; exact Heads.one HTT.out⟩
        case stZ56 =>
          go_simp
          refine hK.out _ _ ?_ (fun hHeld => ?_)
          · (first | exact (HD4.out.put (.slice (some ⟨g3, 0, none⟩) (n2 + 1) c3)).box.cells | exact HD5.out.box.cells | exact HD4.out.box.cells | exact (HD3.out.put (.slice (some ⟨g3, 0, none⟩) (n2 + 1) c3)).box.cells | exact HD3.out.box.cells | exact HDA.out.box.cells | exact HD0.out.drew.box.cells)
          clear hK K
          (try simp only [Act.put])
          refine wpAnyH_ready (rs := [6]) (by kernel_rfl) (by simp) ?_
          refine AllReadyH.cons (o := ?oZ58) ?hiZ58 (fun K hK => ?stZ58) AllReadyH.nil
          case hiZ58 => (simp only [List.getElem?_toArray, List.getElem?_cons_succ, List.getElem?_cons_zero] <;> rfl)
          refine step_store_last _ rfl 25 (.tmp 15) (.tmp 11) rfl wb.heap.size 25 g3 n2 c3 hs hZ h HN2.out (HD3.out.put (.slice (some ⟨g3, 0, none⟩) (n2 + 1) c3)).own rfl (by unfold TH.v; rfl) infoTree5 ?_
          intro w5 ho4 hg4
          have hd4 := (HD3.out.put (.slice (some ⟨g3, 0, none⟩) (n2 + 1) c3)).grown ho4 hg4 (.inl rfl)
          have HD5 := Lib.hid hd4
          have cn4 := hd4.var.cell
          have cf4 := hd4.var.frozen 0
          clear ho4 hg4 hd4
          refine hK.out _ _ ?_ (fun hHeld => ?_)
          · (first | exact (HD4.out.put (.slice (some ⟨g3, 0, none⟩) (n2 + 1) c3)).box.cells | exact HD5.out.box.cells | exact HD4.out.box.cells | exact (HD3.out.put (.slice (some ⟨g3, 0, none⟩) (n2 + 1) c3)).box.cells | exact HD3.out.box.cells | exact HDA.out.box.cells | exact HD0.out.drew.box.cells)
          clear hK K
          (try simp only [Act.put])
          refine wpAnyH_done (by kernel_rfl) ?_ _
          go_wp2_with fail
          go_meet
          first
            | exact ⟨_, [h], HD5.out, by rw [HK0.out]; exact Heads.one HTT.out⟩
            | exact ⟨_, [h], HD4.out.put _, by rw [HK0.out]; exact Heads.one HTT.out⟩
    · have HK0 : Hid ((if h.tn = 0 then [t] else []) = []) := Lib.hid (if_neg hk0)
      have hb0 : ((h.tn : Int) == 0) = false := by simpa using hk0
      go_wp2_with fail
      go_meet
      exact ⟨v, [], by rw [List.append_nil]; exact HD0.out, by rw [HK0.out]; exact Heads.nil wb⟩
  case rest =>
    obtain ⟨v1, hs0, hd1, hh0⟩ := hcut
    have HD1 := Lib.hid hd1
    have HH0 := Lib.hid hh0
    obtain ⟨x0, x1, x2, x3, x4⟩ := hd1.box.cells
    clear hd1 hh0 HD0 hv2
    go_upto_region 3 with fail
    go_wp2_with fail
    clear x0 x1 x2 x3 x4
    go_loopw [19] (fun s19 wx => ∃ (i : Nat) (v2 : Value) (hs2 : List TH), i ≤ h.tn ∧ s19 = .int .i64 i ∧ LE wb w wx gc gn h v v2 v2 (hs ++ hs0 ++ hs2) ∧ Heads wb hs2 ((t.kids.take i).map endsT).flatten) (fun s19 _ => h.tn - (intOf s19).toNat)
    case atStart => exact ⟨0, v1, [], by omega, rfl, by rw [List.append_nil]; exact HD1.out, by simpa using Heads.nil wb⟩
    case round =>
      clear HD1
      obtain ⟨i, v2, hs2, hi, rfl, hd, hh⟩ := hrel
      have HD := Lib.hid hd
      have HH := Lib.hid hh
      clear hd hh
      by_cases hlt : i < h.tn
      · have q1 : (i : Int) < (h.tn : Int) := by omega
        obtain ⟨g, off, hta, hg, hcs⟩ := (HP.out.below HD.out.b).place (by omega)
        obtain ⟨k0, k1, k2, k3, k4⟩ := hcs i hlt
        have him : i < t.kids.length := by omega
        have hbd : (hs ++ hs0 ++ hs2).length + countT t.kids[i] ≤ 1000 := by
          have q2 := HCT.out i him
          have q3 := HH0.out.1
          rw [if_neg (by omega)] at q3
          rw [List.length_append, List.length_append, HH.out.1, q3]
          simp only [List.length_nil]
          omega
        have HBD := Lib.hid hbd
        clear hcs hbd hcn
        rw [hta]
        go_upto_region 6 with fail
        have b2 : Below wr.heap.size wr (wr.alloc (.cells #[.int .i64 (H i).k, .slice (H i).ka (H i).kn (H i).kc, .slice (H i).va (H i).vn (H i).vc, .slice (H i).da (H i).dn (H i).dc, .slice (H i).ta (H i).tn (H i).tc] 25)) := (Below.refl _ _).alloc (Nat.le_refl _) _
        have bx := Box.new wr 25 (H i)
        generalize (wr.alloc (.cells #[.int .i64 (H i).k, .slice (H i).ka (H i).kn (H i).kc, .slice (H i).va (H i).vn (H i).vc, .slice (H i).da (H i).dn (H i).dc, .slice (H i).ta (H i).tn (H i).tc] 25)) = w2 at *
        have HD2 := Lib.hid (HD.out.below b2)
        have hc2 := HD2.out.clo.cell
        obtain ⟨y0, y1, y2, y3, y4⟩ := bx.cells
        clear b2 bx k0 k1 k2 k3 k4 hta
        go_upto_region 7 with (first
          | (go_at_call 83
             refine (IH.out _ (List.getElem_mem him) (H i) _ gc gn _ _ (HP.out.kids i him) HBD.out HD2.out.b HD2.out.ge HD2.out.clo HD2.out.var HD2.out.own).mono ?_
             rintro _ w3 ⟨v3, hs3, rfl, hv3, ho3, hh3, hk3⟩
             have HD3 := Lib.hid (HD2.out.step hv3 ho3 hk3)
             have HH3 := Lib.hid hh3
             clear hv3 ho3 hh3 hk3 y0 y1 y2 y3 y4 hc2))
        go_wp2_with fail
        exact ⟨⟨i + 1, v3, hs2 ++ hs3, by omega, by go_num, by rw [← List.append_assoc]; exact HD3.out, by rw [flat_take _ i him]; exact HH.out.app HH3.out⟩, by simp [intOf]; omega⟩
      · obtain rfl : i = h.tn := by omega
        have q1 : ¬ (h.tn : Int) < (h.tn : Int) := by omega
        go_wp2_with fail
        first | go_end0 | refine bodyPost_ret (results_none rfl _ _ _) rfl ?_
        refine ⟨v2, hs0 ++ hs2, rfl, HD.out.var, by rw [← List.append_assoc]; exact HD.out.own, ?_, HD.out.k⟩
        have q := HH.out
        rw [List.take_of_length_le (by omega)] at q
        rw [HEN.out]
        exact HH0.out.app q

set_option maxRecDepth 100000 in
set_option maxHeartbeats 4000000 in
theorem ends_any (t : Tr) (h : TH) (w : World) (ht : InTree w h t) (hcn : countT t ≤ 1000) : Calls Tryd.prog 70 #[h.v] w (Ends w t) := by
  have hmf : ∀ (fn : Fn) (first cap : Array Value) (w : World), (Instr.makeFunc fn first cap).run Tryd.prog w = .ok (.func fn first cap) w := fun _ _ _ _ => rfl
  unfold TH.v
  have HT := Lib.hid ht
  clear ht
  have hb1 : Below w.heap.size w (w.alloc (.cells #[.int .i64 h.k, .slice h.ka h.kn h.kc, .slice h.va h.vn h.vc, .slice h.da h.dn h.dc, .slice h.ta h.tn h.tc] 25)) := (Below.refl _ _).alloc (Nat.le_refl _) _
  have hx1 := Box.new w 25 h
  have e1 : (w.alloc (.cells #[.int .i64 h.k, .slice h.ka h.kn h.kc, .slice h.va h.vn h.vc, .slice h.da h.dn h.dc, .slice h.ta h.tn h.tc] 25)).heap.size = w.heap.size + 1 := by simp
  go_enter Tryd.func70, Tryd.ntmps70
  go_upto_region 1 with fail
  generalize (w.alloc (.cells #[.int .i64 h.k, .slice h.ka h.kn h.kc, .slice h.va h.vn h.vc, .slice h.da h.dn h.dc, .slice h.ta h.tn h.tc] 25)) = w1 at *
  have E1 := Lib.hid e1
  clear e1
  have hb2 : Below w1.heap.size w1 (w1.alloc (.cells #[.slice none 0 0] 23)) := (Below.refl _ _).alloc (Nat.le_refl _) _
  have hv2 := Var1.new w1 23 (.slice none 0 0)
  have hx2 := hx1.below hb2 hx1.lt
  have hs2 : (w1.alloc (.cells #[.slice none 0 0] 23)).heap.size = w1.heap.size + 1 := by simp
  have hb3 : Below w1.heap.size w1 ((w1.alloc (.cells #[.slice none 0 0] 23)).alloc (.cells #[.nilFunc] 97)) := hb2.alloc (by rw [hs2]; omega) _
  have hba : Below (w1.alloc (.cells #[.slice none 0 0] 23)).heap.size (w1.alloc (.cells #[.slice none 0 0] 23)) ((w1.alloc (.cells #[.slice none 0 0] 23)).alloc (.cells #[.nilFunc] 97)) := (Below.refl _ _).alloc (Nat.le_refl _) _
  have hv3 := hv2.below hba hv2.lt
  have hx3 := hx2.below hba hx2.lt
  have hn3 := Var1.new (w1.alloc (.cells #[.slice none 0 0] 23)) 97 .nilFunc
  rw [hs2] at hn3
  clear hb2 hv2 hx2 hs2 hba
  go_upto_region 3 with fail
  generalize ((w1.alloc (.cells #[.slice none 0 0] 23)).alloc (.cells #[.nilFunc] 97)) = w2 at *
  have c0 := hn3.cell
  have c1 := hn3.frozen 0
  have hn4 := hn3.set (.func (.func 83) #[] #[.pointer (some ⟨w1.heap.size, 0, none⟩), .pointer (some ⟨(w1.heap.size + 1), 0, none⟩)])
  have hne : w.heap.size ≠ w1.heap.size + 1 := by have := E1.out; omega
  have hx4 : Box (w2.setCell ⟨w1.heap.size + 1, 0, none⟩ (.func (.func 83) #[] #[.pointer (some ⟨w1.heap.size, 0, none⟩), .pointer (some ⟨(w1.heap.size + 1), 0, none⟩)])) 25 w.heap.size h := (Below.heap_setCell w2 ⟨w1.heap.size + 1, 0, none⟩ _ w.heap.size hne).trans hx3
  have hv4 := hv3.far (p := ⟨w1.heap.size + 1, 0, none⟩) (by simp) (.func (.func 83) #[] #[.pointer (some ⟨w1.heap.size, 0, none⟩), .pointer (some ⟨(w1.heap.size + 1), 0, none⟩)])
  have hb4 : Below w1.heap.size w1 (w2.setCell ⟨w1.heap.size + 1, 0, none⟩ (.func (.func 83) #[] #[.pointer (some ⟨w1.heap.size, 0, none⟩), .pointer (some ⟨(w1.heap.size + 1), 0, none⟩)])) := hb3.setCell (by simp) _
  clear hn3 hx3 hv3 hb3 hne
  go_upto_region 4 with fail
  generalize (w2.setCell ⟨w1.heap.size + 1, 0, none⟩ (.func (.func 83) #[] #[.pointer (some ⟨w1.heap.size, 0, none⟩), .pointer (some ⟨(w1.heap.size + 1), 0, none⟩)])) = w3 at *
  obtain ⟨x0, x1, x2, x3, x4⟩ := hx4.cells
  have c2 := hn4.cell
  have HN := Lib.hid hn4
  have HV := Lib.hid hv4
  have HSZ : Hid (w.heap.size ≤ w1.heap.size) := Lib.hid hb1.size
  have HB4 : Hid (Below w.heap.size w w3) := Lib.hid (hb1.trans (hb4.mono hb1.size))
  clear c0 c1 hx4 hb4 hn4 hv4 hb1 hx1
  go_upto_region 5 with (first
    | (go_at_call 83
       refine (endsC_any w t h _ (w1.heap.size + 1) w1.heap.size (.slice none 0 0) [] HT.out (by simp only [List.length_nil]; omega) HB4.out HSZ.out HN.out HV.out (OwnT.nil _ _ _)).mono ?_
       rintro _ w4 ⟨v4, hs4, rfl, hv4, ho4, hh4, hk4⟩
       have HB5 : Hid (Below w.heap.size w w4) := Lib.hid (hk4.below HB4.out HB4.out.size HSZ.out (fun k e => by cases e))
       have HO4 : Hid (OwnT w4 w.heap.size 25 v4 hs4) := Lib.hid ho4
       have HH4 := Lib.hid hh4
       have c4 := hv4.cell
       clear hv4 ho4 hh4 hk4))
  go_wp2_with fail
  go_ret
  exact ⟨v4, hs4, rfl, HO4.out, HH4.out, HB5.out⟩
end Go.Proofs.YtioifkbkllnkgaaDoor

/- The contracts of the program's Point and Empty of spans. -/
namespace Go.Proofs.YtioifkbkllnkgaaDoor
open Go.RowKit
set_option linter.unusedVariables false

set_option maxRecDepth 100000 in
set_option maxHeartbeats 2000000 in
theorem succ_any (key : List Int) (a : Option Addr) (n cap : Nat) (w : World) (hk : InBytes w a n cap key) (hn : n ≤ 140737488351232) : Calls Tryd.prog 90 #[.slice a n cap] w (OwnBytes w (key ++ [0])) := by
  obtain ⟨i0, hi0, hz0, hz1, hz2⟩ := info_parts infoU8
  have HK := Lib.hid hk
  have hl := hk.len
  clear hk
  go_enter Tryd.func90, Tryd.ntmps90
  go_wp2_with (first
    | (go_at_call 43
       refine (clone_own a n cap key w HK.out (by omega)).mono ?_
       rintro _ w1 ⟨v, rfl, ho, hb⟩
       have HO := Lib.hid ho
       have HB := Lib.hid hb
       clear ho hb)
    | (at_builtin
       have hb2 : Below w1.heap.size w1 (w1.alloc (.cells #[.int .u8 0] 5)) := (Below.refl _ _).alloc (Nat.le_refl _) _
       refine wpList_append_own _ rfl (.tmp 4) (.tmp 5) 22 rfl w.heap.size 5 i0 _ 1 1 Tryd.underlying22 hi0 hz0 hz1 hz2 rfl (by omega) v key.length _ rfl (own_keep HO.out hb2) ⟨w1.heap.size, 0, none⟩ 1 1 [.int .u8 0] rfl rfl ?_ (by simp [Value.oneCell']) (by simp only [maxLen]; omega) (by omega) (by have := HB.out.size; simp; omega) ?_
       · exact (InBytes.of_row (zs := [0]) (t := 5) (heap_alloc_new w1 _) (fun z hz => by simp at hz; omega) (by simp)).news
       intro v' w' h1 h2 h3
       have HO2 := Lib.hid h1
       have HB2 : Hid (Below w.heap.size w w') := Lib.hid ((HB.out.trans (hb2.mono HB.out.size)).grown h2 (by have := HB.out.size; simp; omega) (fun j hj => (own_ge HO.out hj)))
       clear h1 h2 h3 hb2))
  go_ret
  exact ⟨v', rfl, by have q := HO2.out; simpa using q, HB2.out⟩theorem len_zero (key : List Int) : (key ++ [0]).length = key.length + 1 := by simp
theorem succ_new (key : List Int) (a : Option Addr) (n cap : Nat) (w : World) (hk : InBytes w a n cap key) (hn : n ≤ 140737488351232) : Calls Tryd.prog 90 #[.slice a n cap] w (NewBytes w (key ++ [0])) := by
  refine (succ_any key a n cap w hk hn).mono ?_
  rintro _ w' ⟨v, rfl, ho, hb⟩
  obtain ⟨a2, c2, rfl, hi⟩ := own_any ho (bytes_zero hk.bytes)
  refine ⟨a2, c2, rfl, hi, fun ad e => ?_, hb⟩
  subst e
  rcases ho.2 with ⟨q, _⟩ | ⟨g, c, cur, q, hg, hh, _⟩
  · cases q
  · injection q with q
    injection q with q
    rw [q]
    exact ⟨hg, (Array.getElem?_eq_some_iff.1 hh).1⟩

theorem least_ge (f low : List Int) (hl : Bool) : ltL (leastS f low hl) f = false := by
  unfold leastS
  split
  · rename_i hc
    rw [Bool.and_eq_true, Bool.not_eq_true'] at hc
    cases q : ltL (low ++ [0]) f with
    | false => rfl
    | true => rw [ltL_trans (zero_lt low) q] at hc; cases hc.2
  · exact ltL_irr f
theorem empty_is (f t low high : List Int) (o hl hh : Bool) : emptyS f t o low high hl hh = (!inS f t o (leastS f low hl) || (hh && !ltL (leastS f low hl) high)) := by
  unfold emptyS inS
  rw [least_ge, Bool.not_false, Bool.true_and, Bool.not_or, Bool.or_comm]

set_option maxRecDepth 100000 in
set_option maxHeartbeats 4000000 in
theorem scanEmpty_any (h : DH) (f t low high : List Int) (la ha : Option Addr) (ln lc hn hc : Nat) (hl hh : Bool) (w : World) (hs : SpanIn w h f t) (hlo : InBytes w la ln lc low) (hhi : InBytes w ha hn hc high) (hln : ln ≤ 140737488351232) :
    Calls Tryd.prog 84 #[h.v, .slice la ln lc, .slice ha hn hc, .bool hl, .bool hh] w (Says w (.bool (emptyS f t h.out low high hl hh))) := by
  unfold DH.v
  have HX := Lib.hid (SX.new w hs)
  have HLO := Lib.hid hlo
  have HHI := Lib.hid hhi
  obtain ⟨x0, x1, x2⟩ := HX.out.box.three
  clear hs hlo hhi
  have HE := Lib.hid (empty_is f t low high h.out hl hh)
  go_enter Tryd.func84, Tryd.ntmps84
  go_upto_region 2 with fail
  generalize (w.alloc (.cells #[.slice h.ka h.kn h.kc, .slice h.va h.vn h.vc, .bool h.out] 49)) = w0 at *
  generalize hio : emptyS f t h.out low high hl hh = io at *
  clear hio
  go_cut [20] (fun s20 wx => s20 = .bool (hl && !ltL low f) ∧ wx = w0)
  case first =>
    cases hl with
    | false =>
      go_wp2_with fail
      go_meet
      exact ⟨rfl, rfl⟩
    | true =>
      rcases ord_is low f with ⟨c0, o0⟩ | ⟨c0, o0⟩ | ⟨c0, o0⟩
      all_goals
        have HO := Lib.hid o0
        have HC := Lib.hid c0
        clear o0 c0
        go_wp2_with (first
          | (go_at_call 68
             refine (compare_any low f _ _ _ _ _ _ _ (HLO.out.below HX.out.b) HX.out.sp.f).mono ?_
             rintro _ w1 ⟨rfl, hw1⟩
             rw [hw1]
             clear hw1
             rw [HO.out]))
        go_meet
        exact ⟨by rw [HC.out]; rfl, rfl⟩
  case rest =>
    obtain ⟨rfl, hwc⟩ := hcut
    rw [hwc]
    clear hwc
    go_upto_if 20 with fail
    go_cut [11] (fun s11 wx => ∃ a n c, s11 = .slice a n c ∧ InBytes wx a n c (leastS f low hl) ∧ SX w wx h f t)
    case first =>
      cases hq : (hl && !ltL low f) with
      | false =>
        have HQ := Lib.hid hq
        clear hq
        go_wp2_with fail
        go_meet
        exact ⟨_, _, _, rfl, by unfold leastS; rw [HQ.out]; exact HX.out.sp.f, HX.out⟩
      | true =>
        have HQ := Lib.hid hq
        clear hq
        go_wp2_with (first
          | (go_at_call 90
             refine (succ_new low la ln lc _ (HLO.out.below HX.out.b) hln).mono ?_
             rintro _ w2 ⟨a2, c2, rfl, hi2, -, hb2⟩
             have HI2 := Lib.hid hi2
             have HX2 := Lib.hid (HX.out.below hb2)
             clear hi2 hb2))
        go_meet
        exact ⟨_, _, _, rfl, by have q := HI2.out; rw [len_zero] at q; unfold leastS; rw [HQ.out]; exact q, HX2.out⟩
    case rest =>
      obtain ⟨a, n, c, rfl, hi, hx⟩ := hcut
      have HI := Lib.hid hi
      have HY := Lib.hid hx
      clear hi hx x0 x1 x2 HX
      obtain ⟨x0, x1, x2⟩ := HY.out.box.three
      generalize leastS f low hl = le at *
      cases hq : inS f t h.out le with
      | false =>
        have HQ := Lib.hid hq
        clear hq
        go_wp2_with (first
          | (go_at_call 69
             refine (scanIn_any h f t le _ _ _ _ HY.out.sp HI.out).mono ?_
             rintro _ w3 ⟨rfl, hb3⟩
             have HY3 := Lib.hid (HY.out.below hb3)
             rw [HQ.out]
             clear hb3))
        go_ret
        exact ⟨by rw [HE.out, HQ.out]; rfl, HY3.out.b⟩
      | true =>
        have HQ := Lib.hid hq
        clear hq
        cases hh with
        | false =>
          go_wp2_with (first
            | (go_at_call 69
               refine (scanIn_any h f t le _ _ _ _ HY.out.sp HI.out).mono ?_
               rintro _ w3 ⟨rfl, hb3⟩
               have HY3 := Lib.hid (HY.out.below hb3)
               rw [HQ.out]
               clear hb3))
          go_ret
          exact ⟨by rw [HE.out, HQ.out]; rfl, HY3.out.b⟩
        | true =>
          rcases ord_is le high with ⟨c0, o0⟩ | ⟨c0, o0⟩ | ⟨c0, o0⟩
          all_goals
            have HO := Lib.hid o0
            have HC := Lib.hid c0
            clear o0 c0
            go_wp2_with (first
              | (go_at_call 69
                 refine (scanIn_any h f t le _ _ _ _ HY.out.sp HI.out).mono ?_
                 rintro _ w3 ⟨rfl, hb3⟩
                 have HY3 := Lib.hid (HY.out.below hb3)
                 have HI3 := Lib.hid (HI.out.below hb3)
                 rw [HQ.out]
                 clear hb3)
              | (go_at_call 68
                 refine (compare_any le high _ _ _ _ _ _ _ HI3.out (HHI.out.below HY3.out.b)).mono ?_
                 rintro _ w4 ⟨rfl, hw4⟩
                 rw [hw4]
                 clear hw4
                 rw [HO.out]))
            go_ret
            exact ⟨by rw [HE.out, HQ.out, HC.out]; rfl, HY3.out.b⟩
end Go.Proofs.YtioifkbkllnkgaaDoor

/- The contract of whether no key of a span lies between two nodes. -/
namespace Go.Proofs.YtioifkbkllnkgaaDoor
open Go.RowKit
set_option linter.unusedVariables false

set_option maxRecDepth 100000 in
set_option maxHeartbeats 4000000 in
theorem gap_any (ts : List Tr) (hs : List TH) (base : Nat) (a : Option Addr) (n c i : Nat) (sp : DH) (f t : List Int) (w : World) (hr : RT w base a n c hs ts) (hi : i ≤ n) (hn : n ≤ 500) (hsp : SpanIn w sp f t) (hkl : ∀ x ∈ ts, x.key.length ≤ 80) :
    Calls Tryd.prog 71 #[.slice a n c, .int .i64 i, sp.v] w (Says w (.bool (emptyS f t sp.out (if i = 0 then [] else (ts.getD (i - 1) (.mk 0 [] [] [] [])).key) (ts.getD i (.mk 0 [] [] [] [])).key (decide (0 < i)) (decide (i < n))))) := by
  unfold DH.v
  have HX := Lib.hid (SX.new w hsp)
  obtain ⟨x0, x1, x2⟩ := HX.out.box.three
  have hr0 := hr.below (W' := (w.alloc (.cells #[.slice sp.ka sp.kn sp.kc, .slice sp.va sp.vn sp.vc, .bool sp.out] 49))) ((Below.refl _ _).alloc (Nat.le_refl _) _)
  have hhl := hr.hl
  have htl := hr.l
  clear hr hsp
  generalize hgr : emptyS f t sp.out (if i = 0 then [] else (ts.getD (i - 1) (.mk 0 [] [] [] [])).key) (ts.getD i (.mk 0 [] [] [] [])).key (decide (0 < i)) (decide (i < n)) = gr
  have HGR := Lib.hid hgr
  clear hgr
  go_enter Tryd.func71, Tryd.ntmps71
  go_upto_region 1 with fail
  generalize (w.alloc (.cells #[.slice sp.ka sp.kn sp.kc, .slice sp.va sp.vn sp.vc, .bool sp.out] 49)) = w0 at *
  by_cases h0 : i = 0
  · have q0 : ¬ (0 : Int) < (i : Int) := by omega
    by_cases hlt : i < n
    · have q1 : (i : Int) < (n : Int) := by omega
      obtain ⟨g, hga⟩ := hr0.block hlt
      subst hga
      have hik : i < hs.length := by omega
      have hix : i < ts.length := by omega
      have y1 := (hr0.cells i hik).2.1
      have HKI := Lib.hid (hr0.key i hik hix)
      have HE : Hid (emptyS f t sp.out (if i = 0 then [] else (ts.getD (i - 1) (.mk 0 [] [] [] [])).key) (ts.getD i (.mk 0 [] [] [] [])).key (decide (0 < i)) (decide (i < n)) = emptyS f t sp.out [] (ts[i]).key false true) := Lib.hid (by
        rw [if_pos (by omega)]
        have e2 : ts.getD i (.mk 0 [] [] [] []) = ts[i] := by simp only [List.getD, List.getElem?_eq_getElem hix, Option.getD_some]
        rw [e2]
        rw [decide_eq_false (by omega), decide_eq_true (by omega)])
      clear hr0 hhl htl hkl h0
      go_wp2_with (first
        | (go_at_call 84
           refine (scanEmpty_any sp f t [] (ts[i]).key none (hs[i]).ka 0 0 (hs[i]).kn (hs[i]).kc false true _ HX.out.sp (none_in _) HKI.out (by omega)).mono ?_
           rintro _ w3 ⟨rfl, hb3⟩
           have HB3 : Hid (Below w.heap.size w w3) := Lib.hid (HX.out.b.trans (hb3.mono HX.out.b.size))
           clear hb3))
      go_ret
      exact ⟨by rw [← HGR.out, HE.out]; rfl, HB3.out⟩
    · have q1 : ¬ (i : Int) < (n : Int) := by omega

      have HE : Hid (emptyS f t sp.out (if i = 0 then [] else (ts.getD (i - 1) (.mk 0 [] [] [] [])).key) (ts.getD i (.mk 0 [] [] [] [])).key (decide (0 < i)) (decide (i < n)) = emptyS f t sp.out [] [] false false) := Lib.hid (by
        rw [if_pos (by omega)]
        have e2 : ts.getD i (.mk 0 [] [] [] []) = .mk 0 [] [] [] [] := by simp only [List.getD, List.getElem?_eq_none (show ts.length ≤ i by omega), Option.getD_none]
        rw [e2]
        rw [decide_eq_false (by omega), decide_eq_false (by omega)]
        rfl)
      clear hr0 hhl htl hkl h0
      go_wp2_with (first
        | (go_at_call 84
           refine (scanEmpty_any sp f t [] [] none none 0 0 0 0 false false _ HX.out.sp (none_in _) (none_in _) (by omega)).mono ?_
           rintro _ w3 ⟨rfl, hb3⟩
           have HB3 : Hid (Below w.heap.size w w3) := Lib.hid (HX.out.b.trans (hb3.mono HX.out.b.size))
           clear hb3))
      go_ret
      exact ⟨by rw [← HGR.out, HE.out]; rfl, HB3.out⟩
  · have q0 : (0 : Int) < (i : Int) := by omega
    obtain ⟨g, hga⟩ := hr0.block (show i - 1 < n by omega)
    subst hga
    by_cases hlt : i < n
    · have q1 : (i : Int) < (n : Int) := by omega
      obtain ⟨j, hj⟩ : ∃ j, i = j + 1 := ⟨i - 1, by omega⟩
      have hjj : (i : Int) - 1 = (j : Int) := by omega
      have hjn : (j : Int) < (n : Int) := by omega
      have hwj : IntKind.i64.wrap (j : Int) = (j : Int) := by rw [IntKind.wrap_i64]; omega
      have hjk : j < hs.length := by omega
      have hjx : j < ts.length := by omega
      have z1 := (hr0.cells j hjk).2.1
      have HKJ := Lib.hid (hr0.key j hjk hjx)
      have HLJ : Hid ((hs[j]).kn ≤ 140737488351232) := Lib.hid (by have q1 := (hr0.key j hjk hjx).len; have q2 := hkl _ (List.getElem_mem hjx); omega)
      have hik : i < hs.length := by omega
      have hix : i < ts.length := by omega
      have y1 := (hr0.cells i hik).2.1
      have HKI := Lib.hid (hr0.key i hik hix)
      have HE : Hid (emptyS f t sp.out (if i = 0 then [] else (ts.getD (i - 1) (.mk 0 [] [] [] [])).key) (ts.getD i (.mk 0 [] [] [] [])).key (decide (0 < i)) (decide (i < n)) = emptyS f t sp.out (ts[j]).key (ts[i]).key true true) := Lib.hid (by
        rw [if_neg (by omega)]
        have e1 : ts.getD (i - 1) (.mk 0 [] [] [] []) = ts[j] := by subst hj; simp only [Nat.add_sub_cancel, List.getD, List.getElem?_eq_getElem hjx, Option.getD_some]
        rw [e1]
        have e2 : ts.getD i (.mk 0 [] [] [] []) = ts[i] := by simp only [List.getD, List.getElem?_eq_getElem hix, Option.getD_some]
        rw [e2]
        rw [decide_eq_true (by omega), decide_eq_true (by omega)])
      clear hr0 hhl htl hkl h0 hj
      go_wp2_with (first
        | (go_at_call 84
           refine (scanEmpty_any sp f t (ts[j]).key (ts[i]).key (hs[j]).ka (hs[i]).ka (hs[j]).kn (hs[j]).kc (hs[i]).kn (hs[i]).kc true true _ HX.out.sp HKJ.out HKI.out HLJ.out).mono ?_
           rintro _ w3 ⟨rfl, hb3⟩
           have HB3 : Hid (Below w.heap.size w w3) := Lib.hid (HX.out.b.trans (hb3.mono HX.out.b.size))
           clear hb3))
      go_ret
      exact ⟨by rw [← HGR.out, HE.out]; rfl, HB3.out⟩
    · have q1 : ¬ (i : Int) < (n : Int) := by omega
      obtain ⟨j, hj⟩ : ∃ j, i = j + 1 := ⟨i - 1, by omega⟩
      have hjj : (i : Int) - 1 = (j : Int) := by omega
      have hjn : (j : Int) < (n : Int) := by omega
      have hwj : IntKind.i64.wrap (j : Int) = (j : Int) := by rw [IntKind.wrap_i64]; omega
      have hjk : j < hs.length := by omega
      have hjx : j < ts.length := by omega
      have z1 := (hr0.cells j hjk).2.1
      have HKJ := Lib.hid (hr0.key j hjk hjx)
      have HLJ : Hid ((hs[j]).kn ≤ 140737488351232) := Lib.hid (by have q1 := (hr0.key j hjk hjx).len; have q2 := hkl _ (List.getElem_mem hjx); omega)
      have HE : Hid (emptyS f t sp.out (if i = 0 then [] else (ts.getD (i - 1) (.mk 0 [] [] [] [])).key) (ts.getD i (.mk 0 [] [] [] [])).key (decide (0 < i)) (decide (i < n)) = emptyS f t sp.out (ts[j]).key [] true false) := Lib.hid (by
        rw [if_neg (by omega)]
        have e1 : ts.getD (i - 1) (.mk 0 [] [] [] []) = ts[j] := by subst hj; simp only [Nat.add_sub_cancel, List.getD, List.getElem?_eq_getElem hjx, Option.getD_some]
        rw [e1]
        have e2 : ts.getD i (.mk 0 [] [] [] []) = .mk 0 [] [] [] [] := by simp only [List.getD, List.getElem?_eq_none (show ts.length ≤ i by omega), Option.getD_none]
        rw [e2]
        rw [decide_eq_true (by omega), decide_eq_false (by omega)]
        rfl)
      clear hr0 hhl htl hkl h0 hj
      go_wp2_with (first
        | (go_at_call 84
           refine (scanEmpty_any sp f t (ts[j]).key [] (hs[j]).ka none (hs[j]).kn (hs[j]).kc 0 0 true false _ HX.out.sp HKJ.out (none_in _) HLJ.out).mono ?_
           rintro _ w3 ⟨rfl, hb3⟩
           have HB3 : Hid (Below w.heap.size w w3) := Lib.hid (HX.out.b.trans (hb3.mono HX.out.b.size))
           clear hb3))
      go_ret
      exact ⟨by rw [← HGR.out, HE.out]; rfl, HB3.out⟩
end Go.Proofs.YtioifkbkllnkgaaDoor

/- The contract of whether a proof covers a span. -/
namespace Go.Proofs.YtioifkbkllnkgaaDoor
open Go.RowKit
set_option linter.unusedVariables false

/-- The boxes of covers, and the row of nodes. -/
structure CVX (w W : World) (h : TH) (sp : DH) (base : Nat) (a : Option Addr) (n c : Nat) (hs : List TH) (ts : List Tr) : Prop where
  box : Box W 25 w.heap.size h
  sb : RBox recD W 49 (w.heap.size + 1) sp
  b : Below w.heap.size w W
  r : RT W base a n c hs ts
section
variable {w W W' : World} {h : TH} {sp : DH} {base : Nat} {a : Option Addr} {n c : Nat} {hs : List TH} {ts : List Tr}
theorem CVX.below (x : CVX w W h sp base a n c hs ts) (hb : Below W.heap.size W W') : CVX w W' h sp base a n c hs ts := ⟨x.box.below hb x.box.lt, x.sb.below hb x.sb.lt, x.b.trans (hb.mono x.b.size), x.r.below hb⟩
end
theorem list_keys {p : Tr} (hf : formedT p = true) : ∀ x ∈ listT p, x.key.length ≤ 80 ∧ x.val.length ≤ 1024 := by
  revert hf
  induction p using Tr.ind with
  | h p ih =>
  intro hf x hx
  obtain ⟨hp, hk⟩ := formed_kids hf
  rcases part_kids hp with ⟨h0, _⟩ | ⟨h2, _⟩
  · rw [listT_0 h0] at hx
    cases hx
  · rw [listT_2 h2, List.mem_append, List.mem_cons] at hx
    rcases hx with hx | rfl | hx
    · exact ih _ (List.getElem_mem (by omega : 0 < p.kids.length)) (hk 0 (by omega)) x hx
    · exact part_lens80 hp
    · exact ih _ (List.getElem_mem (by omega : 1 < p.kids.length)) (hk 1 (by omega)) x hx
/-- What covers tells. -/
def Covers (w : World) (f t : List Int) (o : Bool) (p : Tr) (e : Ending) (w' : World) : Prop := ∃ b, e = .returned (.bool b) ∧ (b = true ↔ CovT f t o p) ∧ Below w.heap.size w w'

set_option maxRecDepth 100000 in
set_option maxHeartbeats 4000000 in
theorem covers_any (p : Tr) (h : TH) (hs : List TH) (base : Nat) (a : Option Addr) (n c : Nat) (sp : DH) (f t : List Int) (w : World) (ht : InTree w h p) (hf : formedT p = true) (hcn : countT p ≤ 500) (hr : RT w base a n c hs (listT p)) (hsp : SpanIn w sp f t) :
    Calls Tryd.prog 48 #[h.v, .slice a n c, sp.v] w (Covers w f t sp.out p) := by
  unfold TH.v DH.v
  obtain ⟨e1, e2, e3, e4⟩ := enterS w h sp
  have HX : Hid (CVX w ((w.alloc (.cells #[.int .i64 h.k, .slice h.ka h.kn h.kc, .slice h.va h.vn h.vc, .slice h.da h.dn h.dc, .slice h.ta h.tn h.tc] 25)).alloc (.cells #[.slice sp.ka sp.kn sp.kc, .slice sp.va sp.vn sp.vc, .bool sp.out] 49)) h sp base a n c hs (listT p)) := Lib.hid ⟨e1, e2, e3, hr.below (((Below.refl _ _).alloc (Nat.le_refl _) _).alloc (by simp) _)⟩
  have HT := Lib.hid ht
  have HSP := Lib.hid hsp
  have hll := list_len p hf
  have htl := hr.l
  have hn5 : n ≤ 500 := by omega
  have HKL := Lib.hid (list_keys hf)
  have hwv := (items_weave p hf).2
  have hel := ends_len p
  have hhl := hr.hl
  clear e1 e2 e3 e4 ht hsp hr hll
  go_enter Tryd.func48, Tryd.ntmps48
  go_upto_region 1 with fail
  generalize ((w.alloc (.cells #[.int .i64 h.k, .slice h.ka h.kn h.kc, .slice h.va h.vn h.vc, .slice h.da h.dn h.dc, .slice h.ta h.tn h.tc] 25)).alloc (.cells #[.slice sp.ka sp.kn sp.kc, .slice sp.va sp.vn sp.vc, .bool sp.out] 49)) = w0 at *
  go_wp2_with fail
  go_loopw [13] (fun s13 wx => ∃ i : Nat, i ≤ n ∧ s13 = .int .i64 i ∧ CVX w wx h sp base a n c hs (listT p) ∧ ∀ j (h2 : j < (listT p).length), j < i → darkB f t sp.out (listT p)[j] = false) (fun s13 _ => n - (intOf s13).toNat)
  case atStart => exact ⟨0, by omega, rfl, HX.out, fun j _ hj => by omega⟩
  case round =>
    clear HX
    obtain ⟨i, hi, rfl, hx, hall⟩ := hrel
    have HX := Lib.hid hx
    have HA := Lib.hid hall
    clear hx hall
    by_cases hlt : i < n
    · have q1 : (i : Int) < (n : Int) := by omega
      have him : i < hs.length := by omega
      have hix : i < (listT p).length := by omega
      obtain ⟨g, hga⟩ := HX.out.r.block hlt
      subst hga
      obtain ⟨k0, k1, k2, k3, k4⟩ := HX.out.r.cells i him
      have HKD : Hid ((hs[i]).k = ((listT p)[i]).k) := Lib.hid (HX.out.r.kind i him hix)
      go_upto_region 4 with fail
      have b5 : Below wr.heap.size wr (wr.alloc (.cells #[.int .i64 (hs[i]).k, .slice (hs[i]).ka (hs[i]).kn (hs[i]).kc, .slice (hs[i]).va (hs[i]).vn (hs[i]).vc, .slice (hs[i]).da (hs[i]).dn (hs[i]).dc, .slice (hs[i]).ta (hs[i]).tn (hs[i]).tc] 25)) := (Below.refl _ _).alloc (Nat.le_refl _) _
      have bx := Box.new wr 25 (hs[i])
      generalize (wr.alloc (.cells #[.int .i64 (hs[i]).k, .slice (hs[i]).ka (hs[i]).kn (hs[i]).kc, .slice (hs[i]).va (hs[i]).vn (hs[i]).vc, .slice (hs[i]).da (hs[i]).dn (hs[i]).dc, .slice (hs[i]).ta (hs[i]).tn (hs[i]).tc] 25)) = w5 at *
      have HX5 := Lib.hid (HX.out.below b5)
      obtain ⟨y0, y1, y2, y3, y4⟩ := bx.cells
      have HXB := Lib.hid bx
      generalize wr.heap.size = g8 at *
      clear b5 bx k0 k1 k2 k3 k4
      cases hk2 : ((hs[i]).k == 2) with
      | false =>
        have HK2 := Lib.hid hk2
        go_wp2_with fail
        exact ⟨⟨i + 1, by omega, by go_num, HX5.out, fun j h2 hj => by
          by_cases e : j = i
          · subst e
            unfold darkB
            rw [← HKD.out, HK2.out, Bool.false_and]
          · exact HA.out j h2 (by omega)⟩, by simp [intOf]; omega⟩
      | true =>
        have HD : Hid (darkB f t sp.out (listT p)[i] = inS f t sp.out ((listT p)[i]).key) := Lib.hid (by unfold darkB; rw [← HKD.out, hk2, Bool.true_and])
        obtain ⟨z0, z1, z2⟩ := HX5.out.sb.three
        cases hin : inS f t sp.out ((listT p)[i]).key with
        | true =>
          have HIN := Lib.hid hin
          clear hin
          go_wp2_with (first
            | (go_at_call 69
               refine (scanIn_any sp f t ((listT p)[i]).key (hs[i]).ka (hs[i]).kn (hs[i]).kc _ (HSP.out.below HX5.out.b) (HX5.out.r.key i him hix)).mono ?_
               rintro _ w6 ⟨rfl, hb6⟩
               have HX6 := Lib.hid (HX5.out.below hb6)
               rw [HIN.out]
               clear hb6 y0 y1 y2 y3 y4 z0 z1 z2))
          go_ret
          refine ⟨false, rfl, ⟨fun q => (by cases q), fun q => ?_⟩, HX6.out.b⟩
          have q2 := q.1 _ (List.getElem_mem hix)
          rw [HD.out, HIN.out] at q2
          cases q2
        | false =>
          have HIN := Lib.hid hin
          clear hin
          go_wp2_with (first
            | (go_at_call 69
               refine (scanIn_any sp f t ((listT p)[i]).key (hs[i]).ka (hs[i]).kn (hs[i]).kc _ (HSP.out.below HX5.out.b) (HX5.out.r.key i him hix)).mono ?_
               rintro _ w6 ⟨rfl, hb6⟩
               have HX6 := Lib.hid (HX5.out.below hb6)
               rw [HIN.out]
               clear hb6 y0 y1 y2 y3 y4 z0 z1 z2))
          exact ⟨⟨i + 1, by omega, by go_num, HX6.out, fun j h2 hj => by
            by_cases e : j = i
            · subst e
              rw [HD.out, HIN.out]
            · exact HA.out j h2 (by omega)⟩, by simp [intOf]; omega⟩
    · obtain rfl : i = n := by omega
      have q1 : ¬ (i : Int) < (i : Int) := by omega
      have HDK : Hid (∀ x ∈ listT p, darkB f t sp.out x = false) := Lib.hid (fun x hx => by
        obtain ⟨j, hj, rfl⟩ := List.mem_iff_getElem.1 hx
        exact HA.out j hj (by omega))
      obtain ⟨x0, x1, x2, x3, x4⟩ := HX.out.box.cells
      clear HA hi
      go_upto_region 7 with fail
      go_wp2_with (first
        | (go_at_call 70
           refine (ends_any p h _ (HT.out.lower HX.out.b) (by omega)).mono ?_
           rintro _ w7 ⟨v7, es, rfl, ho7, hh7, hb7⟩
           obtain ⟨ea, ec, hv7⟩ := ho7.sl
           subst hv7
           have HX7 := Lib.hid (HX.out.below hb7)
           have HR7 : Hid (RT w7 wr.heap.size ea es.length ec es (endsT p)) := Lib.hid ⟨ho7, hh7.lower hb7, hh7.1.symm⟩
           clear ho7 hh7 hb7 x0 x1 x2 x3 x4))
      have hem : es.length = (endsT p).length := HR7.out.l.symm
      generalize wr.heap.size = base2 at *
      generalize hm : es.length = m at *
      have HM := Lib.hid hm
      have HME : Hid (m = (endsT p).length ∧ m = i + 1) := Lib.hid ⟨hem, by omega⟩
      have HTL := Lib.hid htl
      have hm5 : m ≤ 501 := by omega
      clear hm hem htl hwv hel hhl
      go_loopw [30] (fun s30 wx => ∃ k : Nat, k ≤ m ∧ s30 = .int .i64 k ∧ CVX w wx h sp base a i c hs (listT p) ∧ RT wx base2 ea m ec es (endsT p) ∧ ∀ j (h2 : j < (endsT p).length), j < k → gapB f t sp.out [] false (listT p) j (endsT p)[j] = true) (fun s30 _ => m - (intOf s30).toNat)
      case atStart => exact ⟨0, by omega, rfl, HX7.out, HR7.out, fun j _ hj => by omega⟩
      case round =>
        clear HX7 HR7
        obtain ⟨k, hk, rfl, hx, hr, hall⟩ := hrel
        have HX := Lib.hid hx
        have HR := Lib.hid hr
        have HA := Lib.hid hall
        clear hx hr hall
        by_cases hlt : k < m
        · have q2 : (k : Int) < (m : Int) := by omega
          have him : k < es.length := by rw [HM.out]; exact hlt
          have hix : k < (endsT p).length := by have := HME.out; omega
          obtain ⟨g, hga⟩ := HR.out.block hlt
          subst hga
          obtain ⟨k0, k1, k2, k3, k4⟩ := HR.out.cells k him
          have HKD : Hid ((es[k]).k = ((endsT p)[k]).k) := Lib.hid (HR.out.kind k him hix)
          go_upto_region 10 with fail
          have b5 : Below wr.heap.size wr (wr.alloc (.cells #[.int .i64 (es[k]).k, .slice (es[k]).ka (es[k]).kn (es[k]).kc, .slice (es[k]).va (es[k]).vn (es[k]).vc, .slice (es[k]).da (es[k]).dn (es[k]).dc, .slice (es[k]).ta (es[k]).tn (es[k]).tc] 25)) := (Below.refl _ _).alloc (Nat.le_refl _) _
          have bx := Box.new wr 25 (es[k])
          generalize (wr.alloc (.cells #[.int .i64 (es[k]).k, .slice (es[k]).ka (es[k]).kn (es[k]).kc, .slice (es[k]).va (es[k]).vn (es[k]).vc, .slice (es[k]).da (es[k]).dn (es[k]).dc, .slice (es[k]).ta (es[k]).tn (es[k]).tc] 25)) = w5 at *
          have HX5 := Lib.hid (HX.out.below b5)
          have HR5 := Lib.hid (HR.out.below b5)
          have y0 := bx.cells.1
          have HXB := Lib.hid bx
          generalize wr.heap.size = g8 at *
          clear b5 bx k0 k1 k2 k3 k4
          cases hk3 : ((es[k]).k == 3) with
          | false =>
            have HK3 := Lib.hid hk3
            go_wp2_with fail
            exact ⟨⟨k + 1, by omega, by go_num, HX5.out, HR5.out, fun j h2 hj => by
              by_cases e : j = k
              · subst e
                unfold gapB
                have q3 := HK3.out
                rw [HKD.out] at q3
                have q4 : ((endsT p)[j].k != 3) = true := by rw [bne, q3]; rfl
                rw [q4, Bool.true_or]
              · exact HA.out j h2 (by omega)⟩, by simp [intOf]; omega⟩
          | true =>
            have HG : Hid (gapB f t sp.out [] false (listT p) k (endsT p)[k] = emptyS f t sp.out (if k = 0 then [] else ((listT p).getD (k - 1) (.mk 0 [] [] [] [])).key) ((listT p).getD k (.mk 0 [] [] [] [])).key (decide (0 < k)) (decide (k < i))) := Lib.hid (by
              unfold gapB
              have q4 : ((endsT p)[k].k != 3) = false := by rw [← HKD.out, bne, hk3]; rfl
              rw [q4, Bool.false_or, Bool.false_or, HTL.out])
            obtain ⟨z0, z1, z2⟩ := HX5.out.sb.three
            have hki : k ≤ i := by have := HME.out; omega
            generalize hgr : emptyS f t sp.out (if k = 0 then [] else ((listT p).getD (k - 1) (.mk 0 [] [] [] [])).key) ((listT p).getD k (.mk 0 [] [] [] [])).key (decide (0 < k)) (decide (k < i)) = gr at *
            have HGR := Lib.hid hgr
            clear hgr
            cases gr with
            | false =>
              go_wp2_with (first
                | (go_at_call 71
                   refine (gap_any (listT p) hs base a i c k sp f t _ HX5.out.r hki hn5 (HSP.out.below HX5.out.b) (fun x hx => (HKL.out x hx).1)).mono ?_
                   rintro _ w6 ⟨rfl, hb6⟩
                   have HX6 := Lib.hid (HX5.out.below hb6)
                   rw [HGR.out]
                   clear hb6 y0 z0 z1 z2))
              go_ret
              refine ⟨false, rfl, ⟨fun q => (by cases q), fun q => ?_⟩, HX6.out.b⟩
              have q3 := q.2 k hix
              rw [HG.out] at q3
              cases q3
            | true =>
              go_wp2_with (first
                | (go_at_call 71
                   refine (gap_any (listT p) hs base a i c k sp f t _ HX5.out.r hki hn5 (HSP.out.below HX5.out.b) (fun x hx => (HKL.out x hx).1)).mono ?_
                   rintro _ w6 ⟨rfl, hb6⟩
                   have HX6 := Lib.hid (HX5.out.below hb6)
                   have HR6 := Lib.hid (HR5.out.below hb6)
                   rw [HGR.out]
                   clear hb6 y0 z0 z1 z2))
              exact ⟨⟨k + 1, by omega, by go_num, HX6.out, HR6.out, fun j h2 hj => by
                by_cases e : j = k
                · subst e
                  exact HG.out
                · exact HA.out j h2 (by omega)⟩, by simp [intOf]; omega⟩
        · obtain rfl : k = m := by omega
          have q2 : ¬ (k : Int) < (k : Int) := by omega
          go_wp2_with fail
          go_ret
          exact ⟨true, rfl, ⟨fun _ => ⟨HDK.out, fun j hj => HA.out j hj (by have := HME.out; omega)⟩, fun _ => rfl⟩, HX.out.b⟩
end Go.Proofs.YtioifkbkllnkgaaDoor
