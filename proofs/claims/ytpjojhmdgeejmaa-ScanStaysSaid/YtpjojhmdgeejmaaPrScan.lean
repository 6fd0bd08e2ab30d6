/- The contract of the program's Range of trees. -/
import Derived.Test.YtpjojhmdgeejmaaPairOwn
import Derived.Test.YtpjojhmdgeejmaaPrIs
import Derived.Test.YtpjojhmdgeejmaaPrTreeL
namespace Go.Proofs.Ytpjojhmdgeejmaa
open Go.RowKit
set_option linter.unusedVariables false

set_option maxRecDepth 100000 in
set_option maxHeartbeats 4000000 in
theorem scanRange_bad (t : Tr) (h : TH) (sp : DH) (f tt : List Int) (w : World) (ht : InTree w h t) (hs : SpanIn w sp f tt) (hb : isT t = false) : Calls Try.prog 16 #[h.v, sp.v] w (RangeBad w) := by
  unfold TH.v DH.v
  obtain ⟨e1, e2, e3, e4⟩ := enterS w h sp
  have hcd : codeV 3 = .iface 41 (.int .i64 3) := rfl
  have HT := Lib.hid ht
  have HI := Lib.hid hb
  clear ht hs hb
  go_enter Try.func16, Try.ntmps16
  go_upto_region 1 with fail
  generalize ((w.alloc (.cells #[.int .i64 h.k, .slice h.ka h.kn h.kc, .slice h.va h.vn h.vc, .slice h.da h.dn h.dc, .slice h.ta h.tn h.tc] 33)).alloc (.cells #[.slice sp.ka sp.kn sp.kc, .slice sp.va sp.vn sp.vc, .bool sp.out] 24)) = w0 at *
  obtain ⟨x0, x1, x2, x3, x4⟩ := e1.cells
  have HB := Lib.hid e3
  clear e1 e2 e3 e4
  go_wp2_with (first
    | (go_at_call 27
       refine (is_any t h _ (HT.out.lower HB.out)).mono ?_
       rw [HI.out]
       rintro _ w1 ⟨rfl, hb1⟩
       have HB1 : Hid (Below w.heap.size w w1) := Lib.hid (HB.out.trans (hb1.mono HB.out.size))
       clear hb1))
  go_ret2
  exact ⟨none, 0, rfl, HB1.out⟩

set_option maxRecDepth 100000 in
set_option maxHeartbeats 4000000 in
theorem scanRange_own (a : AT) (h : TH) (sp : DH) (f tt : List Int) (w : World) (ht : InTree w h a.tr) (hs : SpanIn w sp f tt) (hb : isT a.tr = true) (hcn : countT a.tr ≤ 500) : Calls Try.prog 16 #[h.v, sp.v] w (RangeOwn w (a.pairs.filter (fun p => inS f tt sp.out p.1))) := by
  unfold TH.v DH.v
  obtain ⟨ti, hti, htz⟩ := Option.map_eq_some_iff.1 infoPair
  simp only [Prod.mk.injEq] at htz
  obtain ⟨hz0, hz1, hz2⟩ := htz
  have HTI := Lib.hid (And.intro hti (And.intro hz0 (And.intro hz1 hz2)))
  clear hti hz0 hz1 hz2
  obtain ⟨e1, e2, e3, e4⟩ := enterS w h sp
  have HSP := Lib.hid hs
  have hlim : Lim a.pairs := by
    obtain ⟨a', q1, _, _, q2, _⟩ := (isT_iff _).1 hb
    rw [AT.tr_inj q1]
    exact q2
  have hck : checkT a.tr = 0 := by
    unfold isT at hb
    rw [Bool.and_eq_true, decide_eq_true_eq] at hb
    exact hb.1
  have hfo := (AT.tr_formed a).2 hlim
  have hln := list_len a.tr hfo
  have hlp : (listT a.tr).length = a.pairs.length := by rw [AT.tr_list, List.length_map, ← AT.nodes_kv, List.length_map]
  generalize hn : (listT a.tr).length = n at hln hlp
  have HN := Lib.hid (And.intro hn hlp)
  have hn5 : n ≤ 500 := by omega
  have HCK := Lib.hid hck
  have HI := Lib.hid hb
  have HLIM := Lib.hid hlim
  clear hs hfo hln hn hlp hck hlim hb
  go_enter Try.func16, Try.ntmps16
  go_upto_region 1 with fail
  generalize ((w.alloc (.cells #[.int .i64 h.k, .slice h.ka h.kn h.kc, .slice h.va h.vn h.vc, .slice h.da h.dn h.dc, .slice h.ta h.tn h.tc] 33)).alloc (.cells #[.slice sp.ka sp.kn sp.kc, .slice sp.va sp.vn sp.vc, .bool sp.out] 24)) = w0 at *
  obtain ⟨x0, x1, x2, x3, x4⟩ := e1.cells
  have HX := Lib.hid (And.intro e1 (And.intro e2 e3))
  have HT := Lib.hid ht
  clear e1 e2 e3 e4 ht
  go_upto_region 5 with (first
    | (go_at_call 27
       refine (is_any a.tr h _ (HT.out.lower HX.out.2.2)).mono ?_
       rw [HI.out]
       rintro _ w1 ⟨rfl, hb1⟩
       have HX1 : Hid (Box w1 33 w.heap.size h ∧ RBox recD w1 24 (w.heap.size + 1) sp ∧ Below w.heap.size w w1) := Lib.hid ⟨HX.out.1.below hb1 HX.out.1.lt, HX.out.2.1.below hb1 HX.out.2.1.lt, HX.out.2.2.trans (hb1.mono HX.out.2.2.size)⟩
       clear hb1 x0 x1 x2 x3 x4
       obtain ⟨x0, x1, x2, x3, x4⟩ := HX1.out.1.cells)
    | (go_at_call 28
       refine (list_any a.tr h _ (HT.out.lower HX1.out.2.2) (by omega)).mono ?_
       rintro _ w3 ⟨v3, hs, rfl, ho3, hh3, -, hb3⟩
       obtain ⟨la, lc, hv3⟩ := ho3.sl
       have hh4 := hh3 HCK.out
       rw [hh4.1, HN.out.1] at hv3
       subst hv3
       have HG3 : Hid (RS w1 w3 (w.heap.size + 1) sp la n lc hs (listT a.tr) (.slice none 0 0) [] []) := Lib.hid ⟨hb3, ho3, hh4, HX1.out.2.1.below hb3 HX1.out.2.1.lt, OwnR.nil _ _ _ _, PV.nil _ _⟩
       clear ho3 hh3 hh4 hb3 x0 x1 x2 x3 x4))
  go_loopw [6, 16] (fun s6 s16 wx => ∃ (i : Nat) (ra : Option Addr) (r rc : Nat) (rs : List PH), i ≤ n ∧ s6 = .slice ra r rc ∧ rs.length = r ∧ s16 = .int .i64 i ∧ RS w1 wx (w.heap.size + 1) sp la n lc hs (listT a.tr) (.slice ra r rc) rs ((a.pairs.take i).filter (fun p => inS f tt sp.out p.1))) (fun _ s16 _ => n - (intOf s16).toNat)
  case atStart => exact ⟨0, none, 0, 0, [], by omega, rfl, rfl, rfl, HG3.out⟩
  case round =>
    clear HG3
    obtain ⟨i, ra, r, rc, rs, hi, rfl, hrl, rfl, hrg⟩ := hrel
    have hr5 : r ≤ 500 := by
      have h1 := hrg.pv.1
      have h2 := List.length_filter_le (fun p : KV => inS f tt sp.out p.1) (a.pairs.take i)
      rw [List.length_take] at h2
      omega
    by_cases hlt : i < n
    · have q1 : (i : Int) < (n : Int) := by omega
      have hhl : hs.length = n := hrg.hw.1.trans HN.out.1
      have him : i < hs.length := by omega
      have him2 : i < (listT a.tr).length := by rw [HN.out.1]; exact hlt
      obtain ⟨g, hga, -⟩ := hrg.o.at hhl i him
      subst hga
      obtain ⟨l, k, v, rr, e1, -, -, e4⟩ := AT.node_at a i him2
      have HE1 := Lib.hid e1
      have HE4 := Lib.hid e4
      obtain ⟨x0, x1, x2, x3, x4⟩ := hrg.ls.cells hhl i him
      have HL := Lib.hid hrg
      have HKL : Hid (k.length ≤ 80 ∧ v.length ≤ 1024) := Lib.hid (HLIM.out (k, v) (List.mem_of_getElem? e4))
      have HKV8 : Hid (Bytes8 k ∧ Bytes8 v) := Lib.hid ⟨(hrg.ls.key i him him2 e1).1.bytes, (hrg.ls.key i him him2 e1).2.bytes⟩
      clear hrg e1 e4
      have hx5 := Box.new wr 33 (hs[i])
      have q5 : Below wr.heap.size wr (wr.alloc (.cells #[.int .i64 (hs[i]).k, .slice (hs[i]).ka (hs[i]).kn (hs[i]).kc, .slice (hs[i]).va (hs[i]).vn (hs[i]).vc, .slice (hs[i]).da (hs[i]).dn (hs[i]).dc, .slice (hs[i]).ta (hs[i]).tn (hs[i]).tc] 33)) := (Below.refl _ _).alloc (Nat.le_refl _) _
      go_upto_region 7 with fail
      generalize (wr.alloc (.cells #[.int .i64 (hs[i]).k, .slice (hs[i]).ka (hs[i]).kn (hs[i]).kc, .slice (hs[i]).va (hs[i]).vn (hs[i]).vc, .slice (hs[i]).da (hs[i]).dn (hs[i]).dc, .slice (hs[i]).ta (hs[i]).tn (hs[i]).tc] 33)) = w5 at *
      have HN5 : Hid (RN w1 w5 (w.heap.size + 1) sp (some ⟨g, 0, none⟩) n lc hs (listT a.tr) (.slice ra r rc) rs ((a.pairs.take i).filter (fun p => inS f tt sp.out p.1)) wr.heap.size (hs[i])) := Lib.hid ⟨HL.out.below q5, hx5⟩
      obtain ⟨y0, y1, y2⟩ := HN5.out.r.box.three
      obtain ⟨z0, z1, z2, z3, z4⟩ := HN5.out.x.cells
      clear hx5 q5 x0 x1 x2 x3 x4 HL
      generalize wr.heap.size = g8 at *
      cases hin : inS f tt sp.out k with
      | false =>
        have HIN := Lib.hid hin
        clear hin
        go_wp2_with (first
          | (go_at_call 11
             refine (scanIn_any sp f tt k (hs[i]).ka (hs[i]).kn (hs[i]).kc _ (HSP.out.below (HX1.out.2.2.trans (HN5.out.r.b.mono HX1.out.2.2.size))) (HN5.out.r.ls.key i him him2 HE1.out).1).mono ?_
             rintro _ w6 ⟨rfl, hb6⟩
             have HN6 := Lib.hid (HN5.out.below hb6)
             rw [HIN.out]
             clear hb6 y0 y1 y2 z0 z1 z2 z3 z4))
        exact ⟨⟨i + 1, ra, r, rc, rs, by omega, rfl, hrl, by go_num, by rw [filter_out HE4.out HIN.out]; exact HN6.out.r⟩, by simp [intOf]; omega⟩
      | true =>
        have HIN := Lib.hid hin
        clear hin
        go_upto_region 8 with (first
          | (go_at_call 11
             refine (scanIn_any sp f tt k (hs[i]).ka (hs[i]).kn (hs[i]).kc _ (HSP.out.below (HX1.out.2.2.trans (HN5.out.r.b.mono HX1.out.2.2.size))) (HN5.out.r.ls.key i him him2 HE1.out).1).mono ?_
             rintro _ w6 ⟨rfl, hb6⟩
             have HN6 := Lib.hid (HN5.out.below hb6)
             rw [HIN.out]
             clear hb6 y0 y1 y2 z0 z1 z2 z3 z4))
        have HN6D := Lib.hid HN6.out.drew
        refine wp_region_held_drew (S := (fun W => W.cell? ⟨g8, 1, none⟩ = some (.slice (hs[i]).ka (hs[i]).kn (hs[i]).kc) ∧ W.cell? ⟨g8, 2, none⟩ = some (.slice (hs[i]).va (hs[i]).vn (hs[i]).vc))) (by kernel_rfl) HN6D.out.two (fun hHeld => ?_)
        refine take_w (i := 0) (oi := ?oZ1) (v := ?vZ1) ?hiZ1 (by kernel_rfl) (by kernel_rfl) (by kernel_rfl) ?hQZ1 ?hwZ1 ?hyZ1 (by assumption) ?restZ1
        case hiZ1 => (simp only [List.getElem?_toArray, List.getElem?_cons_zero] <;> rfl)
        case hQZ1 => exact (fun _ _ _ h => h)
        case hwZ1 => rfl
        case hyZ1 => (intro w hSw; (try dsimp only at hSw); go_simp; try with_reducible rfl)
        (try simp only [Act.put, List.setIfInBounds_toArray, List.set_cons_zero, List.set_cons_succ])
        refine take_w (i := 1) (oi := ?oZ2) (v := ?vZ2) ?hiZ2 (by kernel_rfl) (by kernel_rfl) (by kernel_rfl) ?hQZ2 ?hwZ2 ?hyZ2 (by assumption) ?restZ2
        case hiZ2 => (simp only [List.getElem?_toArray, List.getElem?_cons_succ, List.getElem?_cons_zero] <;> rfl)
        case hQZ2 => exact (fun _ _ _ h => h)
        case hwZ2 => rfl
        case hyZ2 => (intro w hSw; (try dsimp only at hSw); go_simp; try with_reducible rfl)
        (try simp only [Act.put, List.setIfInBounds_toArray, List.set_cons_zero, List.set_cons_succ])
        refine take_w (i := 2) (oi := ?oZ3) (v := ?vZ3) ?hiZ3 (by kernel_rfl) (by kernel_rfl) (by kernel_rfl) ?hQZ3 ?hwZ3 ?hyZ3 (by assumption) ?restZ3
        case hiZ3 => (simp only [List.getElem?_toArray, List.getElem?_cons_succ, List.getElem?_cons_zero] <;> rfl)
        case hQZ3 => exact (fun _ _ _ h => h)
        case hwZ3 => rfl
        case hyZ3 => (intro w hSw; (try dsimp only at hSw); go_simp; try with_reducible rfl)
        (try simp only [Act.put, List.setIfInBounds_toArray, List.set_cons_zero, List.set_cons_succ])
        refine take_w (i := 4) (oi := ?oZ4) (v := ?vZ4) ?hiZ4 (by kernel_rfl) (by kernel_rfl) (by kernel_rfl) ?hQZ4 ?hwZ4 ?hyZ4 (by assumption) ?restZ4
        case hiZ4 => (simp only [List.getElem?_toArray, List.getElem?_cons_succ, List.getElem?_cons_zero] <;> rfl)
        case hQZ4 => exact (fun _ _ _ h => h)
        case hwZ4 => rfl
        case hyZ4 => (intro w hSw; (try dsimp only at hSw); go_simp; try with_reducible rfl)
        (try simp only [Act.put, List.setIfInBounds_toArray, List.set_cons_zero, List.set_cons_succ])
        refine take_w (i := 5) (oi := ?oZ5) (v := ?vZ5) ?hiZ5 (by kernel_rfl) (by kernel_rfl) (by kernel_rfl) ?hQZ5 ?hwZ5 ?hyZ5 (by assumption) ?restZ5
        case hiZ5 => (simp only [List.getElem?_toArray, List.getElem?_cons_succ, List.getElem?_cons_zero] <;> rfl)
        case hQZ5 => exact (fun _ _ _ h => h)
        case hwZ5 => rfl
        case hyZ5 => (intro w hSw; (try dsimp only at hSw); go_simp; try with_reducible rfl)
        (try simp only [Act.put, List.setIfInBounds_toArray, List.set_cons_zero, List.set_cons_succ])
        refine wpAnyH_ready (rs := [3]) (by kernel_rfl) (by simp) ?_
        refine AllReadyH.cons (o := ?oZ6) ?hiZ6 (fun K hK => ?stZ6) AllReadyH.nil
        case hiZ6 => (simp only [List.getElem?_toArray, List.getElem?_cons_succ, List.getElem?_cons_zero] <;> rfl)
        go_simp
        go_at_call 24
        refine (clone_own (hs[i]).ka (hs[i]).kn (hs[i]).kc k _ (HN6D.out.r.ls.key i him him2 HE1.out).1 (by have q := (HN6D.out.r.ls.key i him him2 HE1.out).1.len; have q2 := HKL.out; omega)).mono ?_
        rintro _ w7 ⟨v7, rfl, ho7, hb7⟩
        obtain ⟨a7, c7, rfl, -⟩ := own_any ho7 (HN6D.out.r.ls.key i him him2 HE1.out).1.bytes
        have HN7 := Lib.hid (HN6D.out.below hb7)
        have HO7 := Lib.hid (own_weak ho7 HN6D.out.r.b.size)
        clear ho7 hb7
        go_simp
        refine hK.out _ _ ?_ (fun hHeld => ?_)
        · (first | exact HN9.out.two | exact HN8.out.two | exact HN7.out.two | exact HN6D.out.two | exact (HN8.out.below ((Below.refl _ _).alloc (Nat.le_refl _) _)).two)
        clear hK K
        (try simp only [Act.put, List.setIfInBounds_toArray, List.set_cons_zero, List.set_cons_succ])
        refine wpAnyH_ready (rs := [6]) (by kernel_rfl) (by simp) ?_
        refine AllReadyH.cons (o := ?oZ7) ?hiZ7 (fun K hK => ?stZ7) AllReadyH.nil
        case hiZ7 => (simp only [List.getElem?_toArray, List.getElem?_cons_succ, List.getElem?_cons_zero] <;> rfl)
        go_simp
        go_at_call 24
        refine (clone_own (hs[i]).va (hs[i]).vn (hs[i]).vc v _ (HN7.out.r.ls.key i him him2 HE1.out).2 (by have q := (HN7.out.r.ls.key i him him2 HE1.out).2.len; have q2 := HKL.out; omega)).mono ?_
        rintro _ w8 ⟨v8, rfl, ho8, hb8⟩
        obtain ⟨a8, c8, rfl, -⟩ := own_any ho8 (HN7.out.r.ls.key i him him2 HE1.out).2.bytes
        have HN8 := Lib.hid (HN7.out.below hb8)
        have HO8 := Lib.hid (own_weak ho8 HN7.out.r.b.size)
        have HOK8 := Lib.hid (own_keep HO7.out hb8)
        clear ho8 hb8
        go_simp
        refine hK.out _ _ ?_ (fun hHeld => ?_)
        · (first | exact HN9.out.two | exact HN8.out.two | exact HN7.out.two | exact HN6D.out.two | exact (HN8.out.below ((Below.refl _ _).alloc (Nat.le_refl _) _)).two)
        clear hK K
        (try simp only [Act.put, List.setIfInBounds_toArray, List.set_cons_zero, List.set_cons_succ])
        refine take_w (i := 7) (oi := ?oZ8) (v := ?vZ8) ?hiZ8 (by kernel_rfl) (by kernel_rfl) (by kernel_rfl) ?hQZ8 ?hwZ8 ?hyZ8 (by assumption) ?restZ8
        case hiZ8 => (simp only [List.getElem?_toArray, List.getElem?_cons_succ, List.getElem?_cons_zero] <;> rfl)
        case hQZ8 => exact (fun _ _ _ h => h)
        case hwZ8 => rfl
        case hyZ8 => (intro w hSw; (try dsimp only at hSw); go_simp; try with_reducible rfl)
        (try simp only [Act.put, List.setIfInBounds_toArray, List.set_cons_zero, List.set_cons_succ])
        refine wpAnyH_ready (rs := [8]) (by kernel_rfl) (by simp) ?_
        refine AllReadyH.cons (o := ?oZ9) ?hiZ9 (fun K hK => ?stZ9) AllReadyH.nil
        case hiZ9 => (simp only [List.getElem?_toArray, List.getElem?_cons_succ, List.getElem?_cons_zero] <;> rfl)
        go_simp
        refine hK.out _ _ ?_ (fun hHeld => ?_)
        · (first | exact HN9.out.two | exact HN8.out.two | exact HN7.out.two | exact HN6D.out.two | exact (HN8.out.below ((Below.refl _ _).alloc (Nat.le_refl _) _)).two)
        clear hK K
        (try simp only [Act.put, List.setIfInBounds_toArray, List.set_cons_zero, List.set_cons_succ])
        refine wpAnyH_ready (rs := [9]) (by kernel_rfl) (by simp) ?_
        refine AllReadyH.cons (o := ?oZ10) ?hiZ10 (fun K hK => ?stZ10) AllReadyH.nil
        case hiZ10 => (simp only [List.getElem?_toArray, List.getElem?_cons_succ, List.getElem?_cons_zero] <;> rfl)
        have qa : Below w8.heap.size w8 (w8.alloc (.cells #[.slice a7 k.length c7, .slice a8 v.length c8] 49)) := (Below.refl _ _).alloc (Nat.le_refl _) _
        have HNA := Lib.hid (HN8.out.below qa)
        have HPA : Hid (POK (w8.alloc (.cells #[.slice a7 k.length c7, .slice a8 v.length c8] 49)) w1.heap.size (⟨a7, k.length, c7, a8, v.length, c8⟩ : PH) (k, v)) := Lib.hid ((⟨HOK8.out, HO8.out, HKV8.out.1, HKV8.out.2⟩ : POK w8 w1.heap.size (⟨a7, k.length, c7, a8, v.length, c8⟩ : PH) (k, v)).keep qa)
        refine step_append_rec _ rfl (.tmp 24) (.tmp 32) 35 rfl recP w1.heap.size 49 ti _ 48 Try.underlying35 HTI.out.1 HTI.out.2.1 HTI.out.2.2.1 HTI.out.2.2.2 rfl (.slice ra r rc) rs rfl HNA.out.r.row w8.heap.size 1 (⟨a7, k.length, c7, a8, v.length, c8⟩ : PH) rfl (RBox.cell (c := recP) (r := (⟨a7, k.length, c7, a8, v.length, c8⟩ : PH)) (heap_alloc_new w8 _)) ?_ (by omega) HNA.out.r.b.size ?_
        · rw [hrl]
          omega
        intro v9 w9 ho9 hg9 hw9 _
        obtain ⟨ra9, rc9, hv9⟩ := ho9.sl
        have hlen9 : (rs ++ [(⟨a7, k.length, c7, a8, v.length, c8⟩ : PH)]).length = r + 1 := by simp [hrl]
        rw [hlen9] at hv9
        subst hv9
        have HN9 := Lib.hid (HNA.out.app hg9 ho9 HPA.out)
        have HLE9 := Lib.hid hlen9
        clear ho9 hg9 hlen9 qa
        refine hK.out _ _ ?_ (fun hHeld => ?_)
        · (first | exact HN9.out.two | exact HN8.out.two | exact HN7.out.two | exact HN6D.out.two | exact (HN8.out.below ((Below.refl _ _).alloc (Nat.le_refl _) _)).two)
        clear hK K
        (try simp only [Act.put, List.setIfInBounds_toArray, List.set_cons_zero, List.set_cons_succ])
        refine take_w (i := 10) (oi := ?oZ11) (v := ?vZ11) ?hiZ11 (by kernel_rfl) (by kernel_rfl) (by kernel_rfl) ?hQZ11 ?hwZ11 ?hyZ11 (by assumption) ?restZ11
        case hiZ11 => (simp only [List.getElem?_toArray, List.getElem?_cons_succ, List.getElem?_cons_zero] <;> rfl)
        case hQZ11 => exact (fun _ _ _ h => h)
        case hwZ11 => rfl
        case hyZ11 => (intro w hSw; (try dsimp only at hSw); go_simp; try with_reducible rfl)
        (try simp only [Act.put, List.setIfInBounds_toArray, List.set_cons_zero, List.set_cons_succ])
        refine wpAnyH_done (by kernel_rfl) ?_ _
        clear hHeld
        go_wp2_with fail
        exact ⟨⟨i + 1, ra9, r + 1, rc9, _, by omega, rfl, HLE9.out, by go_num, by rw [filter_in HE4.out HIN.out]; exact HN9.out.r⟩, by simp [intOf]; omega⟩
    · obtain rfl : i = n := by omega
      have q1 : ¬ (i : Int) < (i : Int) := by omega
      go_wp2_with fail
      go_ret2
      have hk : a.pairs.take i = a.pairs := List.take_of_length_le (by rw [← HN.out.2]; exact Nat.le_refl _)
      rw [hk] at hrg
      have hb1 := HX1.out.2.2
      exact ⟨ra, r, rc, rs, rfl, hrg.row.weak hb1.size, hrl, hrg.pv.weak hb1.size, hb1.trans (hrg.b.mono hb1.size)⟩
theorem scanRange_ok (a : AT) (h : TH) (sp : DH) (f tt : List Int) (w : World) (ht : InTree w h a.tr) (hs : SpanIn w sp f tt) (hb : isT a.tr = true) (hcn : countT a.tr ≤ 500) : Calls Try.prog 16 #[h.v, sp.v] w (RangeOk w (a.pairs.filter (fun p => inS f tt sp.out p.1))) := by
  refine (scanRange_own a h sp f tt w ht hs hb hcn).mono ?_
  rintro _ w' ⟨ra, r, rc, rs, rfl, h1, h2, h3, h4⟩
  exact ⟨ra, r, rc, rs, rfl, h1, h2, h3.pairs, h3.vals, h4⟩
end Go.Proofs.Ytpjojhmdgeejmaa
