/- The contracts of the program's In, Point and Empty of spans. -/
import Derived.Test.YtpjojhmdgeejmaaScanDef
import Derived.Test.YtpjojhmdgeejmaaClone
import Derived.Test.YtpjojhmdgeejmaaCmp
import Derived.Test.YtpjojhmdgeejmaaTake
import Derived.Test.YtpjojhmdgeejmaaOne
namespace Go.Proofs.Ytpjojhmdgeejmaa
open Go.RowKit
set_option linter.unusedVariables false

/-- Which of three numbers tells of an order. -/
theorem ord_is (xs ys : List Int) : (ltL xs ys = true ∧ ordL xs ys = -1) ∨ (ltL xs ys = false ∧ ordL xs ys = 0) ∨ (ltL xs ys = false ∧ ordL xs ys = 1) := by
  rcases ltL_three xs ys with c | c | c
  · exact .inl ⟨c, ordL_lt c⟩
  · subst c
    exact .inr (.inl ⟨ltL_irr _, ordL_eq _⟩)
  · exact .inr (.inr ⟨ltL_asymm c, ordL_gt c⟩)

set_option maxRecDepth 100000 in
set_option maxHeartbeats 4000000 in
theorem scanIn_any (h : DH) (f t key : List Int) (ka : Option Addr) (kn kc : Nat) (w : World) (hs : SpanIn w h f t) (hk : InBytes w ka kn kc key) : Calls Try.prog 11 #[h.v, .slice ka kn kc] w (Says w (.bool (inS f t h.out key))) := by
  unfold DH.v
  have q0 : Below w.heap.size w (w.alloc (.cells #[.slice h.ka h.kn h.kc, .slice h.va h.vn h.vc, .bool h.out] 24)) := (Below.refl _ _).alloc (Nat.le_refl _) _
  obtain ⟨x0, x1, x2⟩ := (DH.box w 24 h).three
  have HS := Lib.hid (hs.below q0)
  have HK := Lib.hid (hk.below q0)
  have HB := Lib.hid q0
  clear q0 hs hk
  have HE : Hid (inS f t h.out key = (!ltL key f && (h.out || ltL key t))) := Lib.hid rfl
  go_enter Try.func11, Try.ntmps11
  go_upto_region 1 with fail
  generalize (w.alloc (.cells #[.slice h.ka h.kn h.kc, .slice h.va h.vn h.vc, .bool h.out] 24)) = w0 at *
  generalize hio : inS f t h.out key = io at *
  clear hio
  generalize h.out = oo at *
  rcases ord_is key f with ⟨c0, o0⟩ | ⟨c0, o0⟩ | ⟨c0, o0⟩
  · have HO := Lib.hid o0
    have HC := Lib.hid c0
    clear o0 c0
    go_wp2_with (first
      | (go_at_call 26
         refine (compare_any key f _ _ _ _ _ _ _ HK.out HS.out.f).mono ?_
         rintro _ w1 ⟨rfl, hw1⟩
         rw [hw1]
         clear hw1
         rw [HO.out]))
    go_ret
    exact ⟨by rw [HE.out, HC.out]; rfl, HB.out⟩
  all_goals
    have HO := Lib.hid o0
    have HC := Lib.hid c0
    clear o0 c0
    cases oo with
    | true =>
      go_wp2_with (first
        | (go_at_call 26
           refine (compare_any key f _ _ _ _ _ _ _ HK.out HS.out.f).mono ?_
           rintro _ w1 ⟨rfl, hw1⟩
           rw [hw1]
           clear hw1
           rw [HO.out]))
      go_ret
      exact ⟨by rw [HE.out, HC.out]; rfl, HB.out⟩
    | false =>
      rcases ord_is key t with ⟨c1, o1⟩ | ⟨c1, o1⟩ | ⟨c1, o1⟩
      all_goals
        have HO1 := Lib.hid o1
        have HC1 := Lib.hid c1
        clear o1 c1
        go_wp2_with (first
          | (go_at_call 26
             refine (compare_any key f _ _ _ _ _ _ _ HK.out HS.out.f).mono ?_
             rintro _ w1 ⟨rfl, hw1⟩
             rw [hw1]
             clear hw1
             rw [HO.out])
          | (go_at_call 26
             refine (compare_any key t _ _ _ _ _ _ _ HK.out HS.out.t).mono ?_
             rintro _ w1 ⟨rfl, hw1⟩
             rw [hw1]
             clear hw1
             rw [HO1.out]))
        go_ret
        exact ⟨by rw [HE.out, HC.out, HC1.out]; rfl, HB.out⟩
/-- A row of new memory, or nil, that holds the bytes bs. -/
def OwnBytes (w : World) (bs : List Int) (e : Ending) (w' : World) : Prop :=
  ∃ v, e = .returned v ∧ w'.ownsRow w.heap.size 5 1 v bs.length (bs.map (Value.int .u8)) ∧ Below w.heap.size w w'
set_option maxRecDepth 100000 in
set_option maxHeartbeats 2000000 in
theorem clone_own (a : Option Addr) (n cap : Nat) (bs : List Int) (w : World) (hin : InBytes w a n cap bs) (hn : n ≤ 140737488355328) :
    Calls Try.prog 24 #[.slice a n cap] w (OwnBytes w bs) := by
  obtain ⟨i0, hi0, hz0, hz1, hz2⟩ := info_parts infoU8
  have hq : ∀ (w : World) (a : Option Addr) (n c n' c' : Nat), (binOp .eql 22 (.slice a n c) (.slice none n' c')).run Try.prog w = .ok (.bool a.isNone) w := fun w a n c n' c' => Lib.run_eql_slice_nil w _ _ a n c n' c' Try.underlying22
  have HIN := Lib.hid hin
  clear hin
  go_enter Try.func24, Try.ntmps24
  cases a with
  | none =>
    have hc := HIN.out.nil rfl
    have hk : n = 0 := by have := HIN.out.le; omega
    subst hc
    subst hk
    have hr : bs = [] := List.eq_nil_of_length_eq_zero HIN.out.len
    subst hr
    have e : (none : Option Addr).isNone = true := rfl
    go_wp2_with fail
    go_ret
    exact ⟨_, rfl, ⟨rfl, .inl ⟨rfl, rfl⟩⟩, Below.refl _ _⟩
  | some ad =>
    have e : (some ad : Option Addr).isNone = false := rfl
    have hl := HIN.out.len
    go_wp2_with (first
      | (at_builtin
         refine wpList_append_bytes' _ rfl (.tmp 5) (.tmp 6) 22 rfl w.heap.size 5 i0 _ 1 Try.underlying22 hi0 hz0 hz1 hz2 rfl w.heap.size 0 0 [] rfl (own_new w 5 .u8 [] w.heap.size (Nat.le_refl _) (by simp [maxLen])) (some ad) n cap bs rfl (HIN.out.below ((Below.refl _ _).alloc (Nat.le_refl _) _)) (by simp only [maxLen]; omega) (by omega) (by simp) ?_
         intro g1 c1 w1 hown1 hg1
         have HO1 := Lib.hid hown1
         have HB1 : Hid (Below w.heap.size w w1) := Lib.hid (below_only ((Below.refl _ _).alloc (Nat.le_refl _) _) hg1 (by simp) (Nat.le_refl _))
         clear hown1 hg1))
    go_ret
    have ho := HO1.out
    rw [List.nil_append, Nat.zero_add] at ho
    exact ⟨_, rfl, by rw [hl]; exact ho, HB1.out⟩

theorem own_ge {w : World} {base size n j : Nat} {t : TypeId} {v : Value} {xs : List Value} (h : w.ownsRow base t size v n xs) (hj : v.ownBlock = some j) : base ≤ j := by
  rcases h.2 with ⟨rfl, _⟩ | ⟨g, c, _, rfl, hg, _⟩
  · cases hj
  · have e : g = j := Option.some.inj hj
    omega

set_option maxRecDepth 100000 in
set_option maxHeartbeats 2000000 in
theorem succ_any (key : List Int) (a : Option Addr) (n cap : Nat) (w : World) (hk : InBytes w a n cap key) (hn : n ≤ 140737488351232) : Calls Try.prog 25 #[.slice a n cap] w (OwnBytes w (key ++ [0])) := by
  obtain ⟨i0, hi0, hz0, hz1, hz2⟩ := info_parts infoU8
  have HK := Lib.hid hk
  have hl := hk.len
  clear hk
  go_enter Try.func25, Try.ntmps25
  go_wp2_with (first
    | (go_at_call 24
       refine (clone_own a n cap key w HK.out (by omega)).mono ?_
       rintro _ w1 ⟨v, rfl, ho, hb⟩
       have HO := Lib.hid ho
       have HB := Lib.hid hb
       clear ho hb)
    | (at_builtin
       have hb2 : Below w1.heap.size w1 (w1.alloc (.cells #[.int .u8 0] 5)) := (Below.refl _ _).alloc (Nat.le_refl _) _
       refine wpList_append_own _ rfl (.tmp 4) (.tmp 5) 22 rfl w.heap.size 5 i0 _ 1 1 Try.underlying22 hi0 hz0 hz1 hz2 rfl (by omega) v key.length _ rfl (own_keep HO.out hb2) ⟨w1.heap.size, 0, none⟩ 1 1 [.int .u8 0] rfl rfl ?_ (by simp [Value.oneCell']) (by simp only [maxLen]; omega) (by omega) (by have := HB.out.size; simp; omega) ?_
       · exact (InBytes.of_row (zs := [0]) (t := 5) (heap_alloc_new w1 _) (fun z hz => by simp at hz; omega) (by simp)).news
       intro v' w' h1 h2 h3
       have HO2 := Lib.hid h1
       have HB2 : Hid (Below w.heap.size w w') := Lib.hid ((HB.out.trans (hb2.mono HB.out.size)).grown h2 (by have := HB.out.size; simp; omega) (fun j hj => (own_ge HO.out hj)))
       clear h1 h2 h3 hb2))
  go_ret
  exact ⟨v', rfl, by have q := HO2.out; simpa using q, HB2.out⟩theorem len_zero (key : List Int) : (key ++ [0]).length = key.length + 1 := by simp
theorem succ_new (key : List Int) (a : Option Addr) (n cap : Nat) (w : World) (hk : InBytes w a n cap key) (hn : n ≤ 140737488351232) : Calls Try.prog 25 #[.slice a n cap] w (NewBytes w (key ++ [0])) := by
  refine (succ_any key a n cap w hk hn).mono ?_
  rintro _ w' ⟨v, rfl, ho, hb⟩
  obtain ⟨a2, c2, rfl, hi⟩ := own_any ho (bytes_zero hk.bytes)
  refine ⟨a2, c2, rfl, hi, fun ad e => ?_, hb⟩
  subst e
  rcases ho.2 with ⟨q, _⟩ | ⟨g, c, cur, q, hg, hh, _⟩
  · cases q
  · injection q with q
    injection q with q
    rw [q]
    exact ⟨hg, (Array.getElem?_eq_some_iff.1 hh).1⟩

/-- A function's only result, in a record's box. -/
theorem result_rec {R : Type} {c : Rec R} {P : Program} {fn : Func} {p : Tmp} {ty : TypeId} (h : fn.results = #[.cell p ty]) (tmps : Array Value) {w : World} {g : Nat} {t : TypeId} {r : R} {fs : Array Field} (hx : RBox c w t g r)
    (hp : tmps.getD p undef = .pointer (some ⟨g, 0, none⟩)) (hu : P.underlying ty = some (.struct fs)) (hi : (P.info? ty).map (·.size) = some c.sz) : (results fn tmps).run P w = .ok (.agg (c.cells r).toArray) w := by
  have hp' : tmps[p]?.getD undef = .pointer (some ⟨g, 0, none⟩) := by simpa using hp
  have hl := run_loadVar_row (P := P) w g t ty _ _ (.struct fs) hx hu rfl (by rw [List.size_toArray, c.len]; exact hi)
  simp [results, h, hp', asAddr, hl]

set_option maxRecDepth 100000 in
set_option maxHeartbeats 2000000 in
theorem scanPoint_any (key : List Int) (ka : Option Addr) (kn kc : Nat) (w : World) (hk : InBytes w ka kn kc key) (hn : kn ≤ 140737488351232) : Calls Try.prog 10 #[.slice ka kn kc] w (Points w key) := by
  have HK := Lib.hid hk
  have hb0 : Below w.heap.size w (w.alloc (.cells #[.slice none 0 0, .slice none 0 0, .bool false] 24)) := (Below.refl _ _).alloc (Nat.le_refl _) _
  have HB0 := Lib.hid hb0
  have HX0 := Lib.hid (DH.box w 24 dZ)
  clear hk hb0
  go_enter Try.func10, Try.ntmps10
  go_wp2_with (first
    | (go_at_call 24
       refine (clone_any ka kn kc key _ (HK.out.below HB0.out) (by omega)).mono ?_
       rintro _ w1 ⟨a1, c1, rfl, hi1, hf1, hb1⟩
       have HI1 := Lib.hid hi1
       have HF1 : Hid (∀ ad, a1 = some ad → some ad.block ≠ some w.heap.size) := Lib.hid (fun ad e q => by
         have q1 := (hf1 ad e).1
         rw [alloc_size] at q1
         injection q with q
         omega)
       have HB1 : Hid (Below w.heap.size w w1) := Lib.hid (HB0.out.trans (hb1.mono HB0.out.size))
       have HX1 := Lib.hid (HX0.out.below hb1 HX0.out.lt)
       clear hi1 hf1 hb1)
    | (go_at_call 25
       refine (succ_new key ka kn kc _ (HK.out.below HB1.out) hn).mono ?_
       rintro _ w2 ⟨a2, c2, rfl, hi2, hf2, hb2⟩
       have HI2 := Lib.hid hi2
       have HF2 : Hid (∀ ad, a2 = some ad → some ad.block ≠ some w.heap.size) := Lib.hid (fun ad e q => by
         have q1 := (hf2 ad e).1
         have q2 := HX1.out.lt
         injection q with q
         omega)
       have HJ1 := Lib.hid (HI1.out.below hb2)
       have HB2 : Hid (Below w.heap.size w w2) := Lib.hid (HB1.out.trans (hb2.mono HB1.out.size))
       have HX2 := Lib.hid (HX1.out.below hb2 HX1.out.lt)
       have HE2 := Lib.hid (len_zero key)
       clear hi2 hf2 hb2)
    | (refine wpList_store_rec rfl 24 (.tmp 2) (.tmp 7) rfl recD w.heap.size dZ ⟨a1, key.length, c1, a2, key.length + 1, c2, false⟩ rfl rfl 24 HX2.out infoSpan ?_
       intro w3 hx3 hg3
       have hb3 : Below w.heap.size w w3 := HB2.out.grown hg3 HB2.out.size (fun j hj => by injection hj; omega)
       have HX3 := Lib.hid hx3
       have HB3 := Lib.hid hb3
       have HI3 : Hid (InBytes w3 a1 key.length c1 key ∧ InBytes w3 a2 (key.length + 1) c2 (key ++ [0])) := Lib.hid ⟨HJ1.out.grown hg3 HF1.out, (by rw [← HE2.out]; exact HI2.out.grown hg3 HF2.out)⟩
       clear hx3 hg3 hb3))
  exact bodyPost_ret (v := DH.v ⟨a1, key.length, c1, a2, key.length + 1, c2, false⟩) (result_rec Try.results10 _ HX3.out rfl Try.underlying24 infoSpan) rfl ⟨_, rfl, ⟨HI3.out.1, HI3.out.2⟩, rfl, HB3.out⟩
theorem least_ge (f low : List Int) (hl : Bool) : ltL (leastS f low hl) f = false := by
  unfold leastS
  split
  · rename_i hc
    rw [Bool.and_eq_true, Bool.not_eq_true'] at hc
    cases q : ltL (low ++ [0]) f with
    | false => rfl
    | true => rw [ltL_trans (zero_lt low) q] at hc; cases hc.2
  · exact ltL_irr f
theorem least_bytes {f low : List Int} (hl : Bool) (hf : Bytes8 f) (h : Bytes8 low) : Bytes8 (leastS f low hl) := by
  unfold leastS
  split
  · exact bytes_zero h
  · exact hf
theorem empty_is (f t low high : List Int) (o hl hh : Bool) : emptyS f t o low high hl hh = (!inS f t o (leastS f low hl) || (hh && !ltL (leastS f low hl) high)) := by
  unfold emptyS inS
  rw [least_ge, Bool.not_false, Bool.true_and, Bool.not_or, Bool.or_comm]

set_option maxRecDepth 100000 in
set_option maxHeartbeats 4000000 in
theorem scanEmpty_any (h : DH) (f t low high : List Int) (la ha : Option Addr) (ln lc hn hc : Nat) (hl hh : Bool) (w : World) (hs : SpanIn w h f t) (hlo : InBytes w la ln lc low) (hhi : InBytes w ha hn hc high) (hln : ln ≤ 140737488351232) :
    Calls Try.prog 13 #[h.v, .slice la ln lc, .slice ha hn hc, .bool hl, .bool hh] w (Says w (.bool (emptyS f t h.out low high hl hh))) := by
  unfold DH.v
  have HX := Lib.hid (SX.new w hs)
  have HLO := Lib.hid hlo
  have HHI := Lib.hid hhi
  obtain ⟨x0, x1, x2⟩ := HX.out.box.three
  clear hs hlo hhi
  have HE := Lib.hid (empty_is f t low high h.out hl hh)
  go_enter Try.func13, Try.ntmps13
  go_upto_region 2 with fail
  generalize (w.alloc (.cells #[.slice h.ka h.kn h.kc, .slice h.va h.vn h.vc, .bool h.out] 24)) = w0 at *
  generalize hio : emptyS f t h.out low high hl hh = io at *
  clear hio
  go_cut [20] (fun s20 wx => s20 = .bool (hl && !ltL low f) ∧ wx = w0)
  case first =>
    cases hl with
    | false =>
      go_wp2_with fail
      go_meet
      exact ⟨rfl, rfl⟩
    | true =>
      rcases ord_is low f with ⟨c0, o0⟩ | ⟨c0, o0⟩ | ⟨c0, o0⟩
      all_goals
        have HO := Lib.hid o0
        have HC := Lib.hid c0
        clear o0 c0
        go_wp2_with (first
          | (go_at_call 26
             refine (compare_any low f _ _ _ _ _ _ _ (HLO.out.below HX.out.b) HX.out.sp.f).mono ?_
             rintro _ w1 ⟨rfl, hw1⟩
             rw [hw1]
             clear hw1
             rw [HO.out]))
        go_meet
        exact ⟨by rw [HC.out]; rfl, rfl⟩
  case rest =>
    obtain ⟨rfl, hwc⟩ := hcut
    rw [hwc]
    clear hwc
    go_upto_if 20 with fail
    go_cut [11] (fun s11 wx => ∃ a n c, s11 = .slice a n c ∧ InBytes wx a n c (leastS f low hl) ∧ SX w wx h f t)
    case first =>
      cases hq : (hl && !ltL low f) with
      | false =>
        have HQ := Lib.hid hq
        clear hq
        go_wp2_with fail
        go_meet
        exact ⟨_, _, _, rfl, by unfold leastS; rw [HQ.out]; exact HX.out.sp.f, HX.out⟩
      | true =>
        have HQ := Lib.hid hq
        clear hq
        go_wp2_with (first
          | (go_at_call 25
             refine (succ_new low la ln lc _ (HLO.out.below HX.out.b) hln).mono ?_
             rintro _ w2 ⟨a2, c2, rfl, hi2, -, hb2⟩
             have HI2 := Lib.hid hi2
             have HX2 := Lib.hid (HX.out.below hb2)
             clear hi2 hb2))
        go_meet
        exact ⟨_, _, _, rfl, by have q := HI2.out; rw [len_zero] at q; unfold leastS; rw [HQ.out]; exact q, HX2.out⟩
    case rest =>
      obtain ⟨a, n, c, rfl, hi, hx⟩ := hcut
      have HI := Lib.hid hi
      have HY := Lib.hid hx
      clear hi hx x0 x1 x2 HX
      obtain ⟨x0, x1, x2⟩ := HY.out.box.three
      generalize leastS f low hl = le at *
      cases hq : inS f t h.out le with
      | false =>
        have HQ := Lib.hid hq
        clear hq
        go_wp2_with (first
          | (go_at_call 11
             refine (scanIn_any h f t le _ _ _ _ HY.out.sp HI.out).mono ?_
             rintro _ w3 ⟨rfl, hb3⟩
             have HY3 := Lib.hid (HY.out.below hb3)
             rw [HQ.out]
             clear hb3))
        go_ret
        exact ⟨by rw [HE.out, HQ.out]; rfl, HY3.out.b⟩
      | true =>
        have HQ := Lib.hid hq
        clear hq
        cases hh with
        | false =>
          go_wp2_with (first
            | (go_at_call 11
               refine (scanIn_any h f t le _ _ _ _ HY.out.sp HI.out).mono ?_
               rintro _ w3 ⟨rfl, hb3⟩
               have HY3 := Lib.hid (HY.out.below hb3)
               rw [HQ.out]
               clear hb3))
          go_ret
          exact ⟨by rw [HE.out, HQ.out]; rfl, HY3.out.b⟩
        | true =>
          rcases ord_is le high with ⟨c0, o0⟩ | ⟨c0, o0⟩ | ⟨c0, o0⟩
          all_goals
            have HO := Lib.hid o0
            have HC := Lib.hid c0
            clear o0 c0
            go_wp2_with (first
              | (go_at_call 11
                 refine (scanIn_any h f t le _ _ _ _ HY.out.sp HI.out).mono ?_
                 rintro _ w3 ⟨rfl, hb3⟩
                 have HY3 := Lib.hid (HY.out.below hb3)
                 have HI3 := Lib.hid (HI.out.below hb3)
                 rw [HQ.out]
                 clear hb3)
              | (go_at_call 26
                 refine (compare_any le high _ _ _ _ _ _ _ HI3.out (HHI.out.below HY3.out.b)).mono ?_
                 rintro _ w4 ⟨rfl, hw4⟩
                 rw [hw4]
                 clear hw4
                 rw [HO.out]))
            go_ret
            exact ⟨by rw [HE.out, HQ.out, HC.out]; rfl, HY3.out.b⟩
end Go.Proofs.Ytpjojhmdgeejmaa
