/- The walk of the law TreeLists. -/
import Derived.Test.YtcplfpnaepdddaaDoorTreeChecksW
import Derived.Test.YtcplfpnaepdddaaDoorPrTreeL
import Derived.Test.YtcplfpnaepdddaaDoorRefSame
namespace Go.Proofs.YtcplfpnaepdddaaDoor
open Go.RowKit
set_option linter.unusedVariables false

/-- The cells of the i-th tree of a row. -/
theorem OwnT.at {W : World} {base : Nat} {ty : TypeId} {a : Option Addr} {n c : Nat} {hs : List TH} (h : OwnT W base ty (.slice a n c) hs) (hl : hs.length = n) (i : Nat) (hi : i < hs.length) :
    ∃ g, a = some ⟨g, 0, none⟩ ∧ W.cell? ⟨g, i * 5, none⟩ = some (.int .i64 (hs[i]).k) ∧ W.cell? ⟨g, i * 5 + 1, none⟩ = some (.slice (hs[i]).ka (hs[i]).kn (hs[i]).kc) ∧ W.cell? ⟨g, i * 5 + 2, none⟩ = some (.slice (hs[i]).va (hs[i]).vn (hs[i]).vc) ∧ W.cell? ⟨g, i * 5 + 3, none⟩ = some (.slice (hs[i]).da (hs[i]).dn (hs[i]).dc) ∧ W.cell? ⟨g, i * 5 + 4, none⟩ = some (.slice (hs[i]).ta (hs[i]).tn (hs[i]).tc) := by
  rcases h.form with ⟨_, h2⟩ | ⟨g, c', h1, _, _, _, _, hc⟩
  · rw [h2] at hi
    simp at hi
  · injection h1 with h1
    refine ⟨g, h1, ?_, ?_, ?_, ?_, ?_⟩
    · exact hc _ _ (cellsT_get hs i 0 hi (by omega))
    · exact hc _ _ (cellsT_get hs i 1 hi (by omega))
    · exact hc _ _ (cellsT_get hs i 2 hi (by omega))
    · exact hc _ _ (cellsT_get hs i 3 hi (by omega))
    · exact hc _ _ (cellsT_get hs i 4 hi (by omega))
theorem Heads.lower {w w' : World} {hs : List TH} {ts : List Tr} (h : Heads w hs ts) (hb : Below w.heap.size w w') : Heads w' hs ts := ⟨h.1, fun i h1 h2 => (h.2 i h1 h2).lower hb⟩
/-- The law's box, and two rows of trees. -/
structure TR (w W : World) (h : TH) (t : Tr) (a : Option Addr) (n c : Nat) (hs : List TH) (a' : Option Addr) (c' : Nat) (hs' : List TH) : Prop where
  d : TW w W h t
  o : OwnT W w.heap.size 25 (.slice a n c) hs
  o' : OwnT W w.heap.size 25 (.slice a' n c') hs'
  hh : Heads W hs (listT t)
  hh' : Heads W hs' (listT t)
theorem TR.below {w W W' : World} {h : TH} {t : Tr} {a : Option Addr} {n c : Nat} {hs : List TH} {a' : Option Addr} {c' : Nat} {hs' : List TH} (x : TR w W h t a n c hs a' c' hs') (hb : Below W.heap.size W W') : TR w W' h t a n c hs a' c' hs' :=
  ⟨x.d.below hb, x.o.keep hb, x.o'.keep hb, x.hh.lower hb, x.hh'.lower hb⟩
theorem TR.drew {w W : World} {h : TH} {t : Tr} {a : Option Addr} {n c : Nat} {hs : List TH} {a' : Option Addr} {c' : Nat} {hs' : List TH} (x : TR w W h t a n c hs a' c' hs') : TR w W.drew h t a n c hs a' c' hs' := x.below (Below.refl _ _).drew

set_option maxRecDepth 100000 in
set_option maxHeartbeats 4000000 in
theorem lists_law (t : Tr) (h : TH) (w : World) (ht : InTree w h t) (hT : TabLies w) :
    Calls Tryd.prog 5 #[h.v] w (Says w (.bool true)) := by
  unfold TH.v
  have hd0 := TW.new w ht
  have HD0 := Lib.hid hd0
  have HT := Lib.hid hT
  clear ht hT hd0
  go_enter Tryd.func5, Tryd.ntmps5
  go_upto_region 3 with (first
    | (go_at_call 8
       refine (upT_any _ (HT.out.below HD0.out.b (Nat.le_refl _))).mono ?_
       rintro _ w1 ⟨rfl, hb1⟩
       have hd1 := HD0.out.below hb1
       have HD1 := Lib.hid hd1
       obtain ⟨x0, x1, x2, x3, x4⟩ := hd1.box.cells
       clear hb1 hd1)
    | (go_at_call 9
       refine (small_any t h _ HD1.out.t).mono ?_
       rintro _ w2 ⟨ok, rfl, hok, hb2⟩
       have hd2 := HD1.out.below hb2
       have HD2 := Lib.hid hd2
       have HOK := Lib.hid hok
       clear x0 x1 x2 x3 x4
       obtain ⟨x0, x1, x2, x3, x4⟩ := hd2.box.cells
       clear hb2 hd2 hok))
  cases ok
  · go_wp2_with fail
    go_ret
    exact ⟨rfl, HD2.out.b⟩
  have hcn := (HOK.out rfl).2
  go_upto_if 19 with (first
    | (go_at_call 20
       refine (list_any t h _ HD2.out.t (by omega)).mono ?_
       rintro _ w3 ⟨v3, hs, rfl, ho3, hh3, hn3, hb3⟩
       have hd3 := HD2.out.below hb3
       have HD3 := Lib.hid hd3
       have HO3 := Lib.hid (ho3.weak HD2.out.b.size)
       have HH3 := Lib.hid (And.intro (fun q => (hh3 q).lower hb3) hn3)
       clear x0 x1 x2 x3 x4
       obtain ⟨x0, x1, x2, x3, x4⟩ := hd3.box.cells
       clear hb3 hd3 ho3 hh3 hn3)
    | (go_at_call 11
       refine (refCheck_any t h _ HD3.out.t).mono ?_
       rintro _ w4 ⟨rfl, hb4⟩
       have hd4 := HD3.out.below hb4
       have HD4 := Lib.hid hd4
       have HO4 := Lib.hid (HO3.out.keep hb4)
       have HHH4 := Lib.hid (fun q => (HH3.out.1 q).lower hb4)
       clear x0 x1 x2 x3 x4
       obtain ⟨x0, x1, x2, x3, x4⟩ := hd4.box.cells
       clear hb4 hd4))
  obtain ⟨a, c, hv3⟩ := HO4.out.sl
  by_cases hchk : checkT t = 0
  · have hl3 := (HH3.out.1 hchk).1
    rw [hl3] at hv3
    have hct := list_len t (check_zero hchk).1
    have hln : (listT t).length ≤ 500 := by omega
    generalize hN : (listT t).length = n at hv3 hl3 hln
    subst hv3
    have HL3 := Lib.hid (And.intro hl3 hN)
    have HC := Lib.hid hchk
    have HH4 := Lib.hid (HHH4.out hchk)
    clear HHH4
    have hc0 : ((checkT t : Nat) : Int) = 0 := by rw [hchk]; rfl
    rw [hc0]
    clear hc0 hchk hct hl3 hN HO3
    go_upto_if 32 with (first
    | (go_at_call 21
       refine (refList_any t h w4 w4 HD4.out.t (Below.refl _ _) (check_zero HC.out).1 hcn).mono ?_
       rintro _ w5 ⟨v5, hs', rfl, ho5, hh5, hb5⟩
       obtain ⟨a', c', hv5⟩ := ho5.sl
       rw [hh5.1, HL3.out.2] at hv5
       subst hv5
       have HTR5 : Hid (TR w w5 h t a n c hs a' c' hs') := Lib.hid ⟨HD4.out.below hb5, HO4.out.keep hb5, ho5.weak HD4.out.b.size, HH4.out.lower hb5, hh5.lower hb5⟩
       clear ho5 hb5 hh5))
    clear x0 x1 x2 x3 x4 HD0 HD1 HD2 HD3 HD4 HO4 HH4 HH3
    have hnn : ((n : Int) != (n : Int)) = false := by simp
    go_wp2_with fail
    go_loopw [7] (fun s7 wx => ∃ i : Nat, i ≤ n ∧ s7 = .int .i64 i ∧ TR w wx h t a n c hs a' c' hs') (fun s7 _ => n - (intOf s7).toNat)
    case atStart => exact ⟨0, by omega, rfl, HTR5.out⟩
    case round =>
      clear HTR5
      obtain ⟨i, hi, rfl, htr⟩ := hrel
      have HTR := Lib.hid htr
      clear htr
      by_cases hlt : i < n
      · have q1 : (i : Int) < (n : Int) := by omega
        have him : i < hs.length := by rw [HL3.out.1]; exact hlt
        have him2 : i < (listT t).length := by rw [HL3.out.2]; exact hlt
        have him' : i < hs'.length := by rw [HTR.out.hh'.1]; exact him2
        obtain ⟨g, hga, -⟩ := HTR.out.o.at HL3.out.1 i him
        obtain ⟨g', hga', -⟩ := HTR.out.o'.at (HTR.out.hh'.1.trans HL3.out.2) i him'
        subst hga
        subst hga'
        have keepR : ∀ {W : World}, TR w W h t (some ⟨g, 0, none⟩) n c hs (some ⟨g', 0, none⟩) c' hs' → (fun W => W.cell? ⟨g, i * 5, none⟩ = some (.int .i64 (hs[i]).k) ∧ W.cell? ⟨g, i * 5 + 1, none⟩ = some (.slice (hs[i]).ka (hs[i]).kn (hs[i]).kc) ∧ W.cell? ⟨g, i * 5 + 2, none⟩ = some (.slice (hs[i]).va (hs[i]).vn (hs[i]).vc) ∧ W.cell? ⟨g, i * 5 + 3, none⟩ = some (.slice (hs[i]).da (hs[i]).dn (hs[i]).dc) ∧ W.cell? ⟨g, i * 5 + 4, none⟩ = some (.slice (hs[i]).ta (hs[i]).tn (hs[i]).tc) ∧ (W.cell? ⟨g', i * 5, none⟩ = some (.int .i64 (hs'[i]).k) ∧ W.cell? ⟨g', i * 5 + 1, none⟩ = some (.slice (hs'[i]).ka (hs'[i]).kn (hs'[i]).kc) ∧ W.cell? ⟨g', i * 5 + 2, none⟩ = some (.slice (hs'[i]).va (hs'[i]).vn (hs'[i]).vc) ∧ W.cell? ⟨g', i * 5 + 3, none⟩ = some (.slice (hs'[i]).da (hs'[i]).dn (hs'[i]).dc) ∧ W.cell? ⟨g', i * 5 + 4, none⟩ = some (.slice (hs'[i]).ta (hs'[i]).tn (hs'[i]).tc))) W := fun {W} x => by
          obtain ⟨_, e1, k0, k1, k2, k3, k4⟩ := x.o.at HL3.out.1 i him
          injection e1 with e1
          injection e1 with e1
          subst e1
          obtain ⟨_, e2, k5, k6, k7, k8, k9⟩ := x.o'.at (x.hh'.1.trans HL3.out.2) i him'
          injection e2 with e2
          injection e2 with e2
          subst e2
          exact ⟨k0, k1, k2, k3, k4, k5, k6, k7, k8, k9⟩
        go_upto_region 14 with fail
        refine wp_region_held_drew (S := (fun W => W.cell? ⟨g, i * 5, none⟩ = some (.int .i64 (hs[i]).k) ∧ W.cell? ⟨g, i * 5 + 1, none⟩ = some (.slice (hs[i]).ka (hs[i]).kn (hs[i]).kc) ∧ W.cell? ⟨g, i * 5 + 2, none⟩ = some (.slice (hs[i]).va (hs[i]).vn (hs[i]).vc) ∧ W.cell? ⟨g, i * 5 + 3, none⟩ = some (.slice (hs[i]).da (hs[i]).dn (hs[i]).dc) ∧ W.cell? ⟨g, i * 5 + 4, none⟩ = some (.slice (hs[i]).ta (hs[i]).tn (hs[i]).tc) ∧ (W.cell? ⟨g', i * 5, none⟩ = some (.int .i64 (hs'[i]).k) ∧ W.cell? ⟨g', i * 5 + 1, none⟩ = some (.slice (hs'[i]).ka (hs'[i]).kn (hs'[i]).kc) ∧ W.cell? ⟨g', i * 5 + 2, none⟩ = some (.slice (hs'[i]).va (hs'[i]).vn (hs'[i]).vc) ∧ W.cell? ⟨g', i * 5 + 3, none⟩ = some (.slice (hs'[i]).da (hs'[i]).dn (hs'[i]).dc) ∧ W.cell? ⟨g', i * 5 + 4, none⟩ = some (.slice (hs'[i]).ta (hs'[i]).tn (hs'[i]).tc)))) (by kernel_rfl) (keepR HTR.out.drew) (fun hHeld => ?_)
        refine take_w (i := 0) (oi := ?oZ1) (v := ?vZ1) ?hiZ1 (by kernel_rfl) (by kernel_rfl) (by kernel_rfl) ?hQZ1 ?hwZ1 ?hyZ1 (by assumption) ?restZ1
        case hiZ1 => (simp only [List.getElem?_toArray, List.getElem?_cons_zero] <;> rfl)
        case hQZ1 => exact (fun _ _ _ h => h)
        case hwZ1 => rfl
        case hyZ1 => (intro w hSw; (try dsimp only at hSw); go_simp; try with_reducible rfl)
        (try simp only [Act.put, List.setIfInBounds_toArray, List.set_cons_zero, List.set_cons_succ])
        refine take_w (i := 1) (oi := ?oZ2) (v := ?vZ2) ?hiZ2 (by kernel_rfl) (by kernel_rfl) (by kernel_rfl) ?hQZ2 ?hwZ2 ?hyZ2 (by assumption) ?restZ2
        case hiZ2 => (simp only [List.getElem?_toArray, List.getElem?_cons_succ, List.getElem?_cons_zero] <;> rfl)
        case hQZ2 => exact (fun _ _ _ h => h)
        case hwZ2 => rfl
        case hyZ2 => (intro w hSw; (try dsimp only at hSw); go_simp; try with_reducible rfl)
        (try simp only [Act.put, List.setIfInBounds_toArray, List.set_cons_zero, List.set_cons_succ])
        refine take_w (i := 2) (oi := ?oZ3) (v := ?vZ3) ?hiZ3 (by kernel_rfl) (by kernel_rfl) (by kernel_rfl) ?hQZ3 ?hwZ3 ?hyZ3 (by assumption) ?restZ3
        case hiZ3 => (simp only [List.getElem?_toArray, List.getElem?_cons_succ, List.getElem?_cons_zero] <;> rfl)
        case hQZ3 => exact (fun _ _ _ h => h)
        case hwZ3 => rfl
        case hyZ3 => (intro w hSw; (try dsimp only at hSw); go_simp; try with_reducible rfl)
        (try simp only [Act.put, List.setIfInBounds_toArray, List.set_cons_zero, List.set_cons_succ])
        refine take_w (i := 3) (oi := ?oZ4) (v := ?vZ4) ?hiZ4 (by kernel_rfl) (by kernel_rfl) (by kernel_rfl) ?hQZ4 ?hwZ4 ?hyZ4 (by assumption) ?restZ4
        case hiZ4 => (simp only [List.getElem?_toArray, List.getElem?_cons_succ, List.getElem?_cons_zero] <;> rfl)
        case hQZ4 => exact (fun _ _ _ h => h)
        case hwZ4 => rfl
        case hyZ4 => (intro w hSw; (try dsimp only at hSw); go_simp; try with_reducible rfl)
        (try simp only [Act.put, List.setIfInBounds_toArray, List.set_cons_zero, List.set_cons_succ])
        refine take_w (i := 4) (oi := ?oZ5) (v := ?vZ5) ?hiZ5 (by kernel_rfl) (by kernel_rfl) (by kernel_rfl) ?hQZ5 ?hwZ5 ?hyZ5 (by assumption) ?restZ5
        case hiZ5 => (simp only [List.getElem?_toArray, List.getElem?_cons_succ, List.getElem?_cons_zero] <;> rfl)
        case hQZ5 => exact (fun _ _ _ h => h)
        case hwZ5 => rfl
        case hyZ5 => (intro w hSw; (try dsimp only at hSw); go_simp; try with_reducible rfl)
        (try simp only [Act.put, List.setIfInBounds_toArray, List.set_cons_zero, List.set_cons_succ])
        refine take_w (i := 5) (oi := ?oZ6) (v := ?vZ6) ?hiZ6 (by kernel_rfl) (by kernel_rfl) (by kernel_rfl) ?hQZ6 ?hwZ6 ?hyZ6 (by assumption) ?restZ6
        case hiZ6 => (simp only [List.getElem?_toArray, List.getElem?_cons_succ, List.getElem?_cons_zero] <;> rfl)
        case hQZ6 => exact (fun _ _ _ h => h)
        case hwZ6 => rfl
        case hyZ6 => (intro w hSw; (try dsimp only at hSw); go_simp; try with_reducible rfl)
        (try simp only [Act.put, List.setIfInBounds_toArray, List.set_cons_zero, List.set_cons_succ])
        refine take_w (i := 6) (oi := ?oZ7) (v := ?vZ7) ?hiZ7 (by kernel_rfl) (by kernel_rfl) (by kernel_rfl) ?hQZ7 ?hwZ7 ?hyZ7 (by assumption) ?restZ7
        case hiZ7 => (simp only [List.getElem?_toArray, List.getElem?_cons_succ, List.getElem?_cons_zero] <;> rfl)
        case hQZ7 => exact (fun _ _ _ h => h)
        case hwZ7 => rfl
        case hyZ7 => (intro w hSw; (try dsimp only at hSw); go_simp; try with_reducible rfl)
        (try simp only [Act.put, List.setIfInBounds_toArray, List.set_cons_zero, List.set_cons_succ])
        refine take_w (i := 7) (oi := ?oZ8) (v := ?vZ8) ?hiZ8 (by kernel_rfl) (by kernel_rfl) (by kernel_rfl) ?hQZ8 ?hwZ8 ?hyZ8 (by assumption) ?restZ8
        case hiZ8 => (simp only [List.getElem?_toArray, List.getElem?_cons_succ, List.getElem?_cons_zero] <;> rfl)
        case hQZ8 => exact (fun _ _ _ h => h)
        case hwZ8 => rfl
        case hyZ8 => (intro w hSw; (try dsimp only at hSw); go_simp; try with_reducible rfl)
        (try simp only [Act.put, List.setIfInBounds_toArray, List.set_cons_zero, List.set_cons_succ])
        refine wpAnyH_ready (rs := [8]) (by kernel_rfl) (by simp) ?_
        refine AllReadyH.cons (o := ?oZ9) ?hiZ9 (fun K hK => ?stZ9) AllReadyH.nil
        case hiZ9 => (simp only [List.getElem?_toArray, List.getElem?_cons_succ, List.getElem?_cons_zero] <;> rfl)
        go_simp
        go_at_call 22
        refine (refSame_any (listT t)[i] hs[i] hs'[i] _ (HTR.out.drew.hh.2 i him him2) (HTR.out.drew.hh'.2 i him' him2)).mono ?_
        rintro _ w7 ⟨rfl, hb7⟩
        have HT7 := Lib.hid (HTR.out.drew.below hb7)
        clear hb7
        go_simp
        refine hK.out _ _ ?_ (fun hHeld => ?_)
        · (first | exact keepR HT7.out | exact keepR HTR.out.drew)
        clear hK K
        (try simp only [Act.put, List.setIfInBounds_toArray, List.set_cons_zero, List.set_cons_succ])
        refine take_w (i := 9) (oi := ?oZ10) (v := ?vZ10) ?hiZ10 (by kernel_rfl) (by kernel_rfl) (by kernel_rfl) ?hQZ10 ?hwZ10 ?hyZ10 (by assumption) ?restZ10
        case hiZ10 => (simp only [List.getElem?_toArray, List.getElem?_cons_succ, List.getElem?_cons_zero] <;> rfl)
        case hQZ10 => exact (fun _ _ _ h => h)
        case hwZ10 => rfl
        case hyZ10 => (intro w hSw; (try dsimp only at hSw); go_simp; try with_reducible rfl)
        (try simp only [Act.put, List.setIfInBounds_toArray, List.set_cons_zero, List.set_cons_succ])
        refine wpAnyH_done (by kernel_rfl) ?_ _
        
        go_wp2_with fail
        exact ⟨⟨i + 1, by omega, by go_num, HT7.out⟩, by simp [intOf]; omega⟩
      · obtain rfl : i = n := by omega
        have q1 : ¬ (i : Int) < (i : Int) := by omega
        go_wp2_with fail
        go_ret
        exact ⟨rfl, HTR.out.d.b⟩
  · have hl3 := HH3.out.2 hchk
    subst hl3
    subst hv3
    have hc0 : ¬ ((checkT t : Nat) : Int) = 0 := by omega
    go_wp2_with fail
    go_ret
    exact ⟨rfl, HD4.out.b⟩
end Go.Proofs.YtcplfpnaepdddaaDoor
