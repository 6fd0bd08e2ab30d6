/- The contract of the pairs that a proof shows. The contract of the program's Check of proofs. The contract of the document's Same of lists of pairs. The contract of the document's Same of any two lists of pairs. The walk of the law ClashProves. A tree that is an argument of the program. Spans, and lists of pairs, that are arguments. -/
import Derived.Test.YtioifkbkllnkgaaDoorMCF
import Derived.Test.YtioifkbkllnkgaaDoorMAB
import Derived.Test.YtioifkbkllnkgaaDoorMAC
import Derived.Test.YtioifkbkllnkgaaDoorMAA
import Derived.Test.YtioifkbkllnkgaaDoorProg
/- The contract of the pairs that a proof shows. -/
namespace Go.Proofs.YtioifkbkllnkgaaDoor
open Go.RowKit
set_option linter.unusedVariables false

theorem LS.bytes {w W : World} {a : Option Addr} {n c : Nat} {hs : List TH} {ts : List Tr} (x : LS w W a n c hs ts) (i : Nat) (h1 : i < hs.length) (h2 : i < ts.length) : InBytes W (hs[i]).ka (hs[i]).kn (hs[i]).kc (ts[i]).key ∧ InBytes W (hs[i]).va (hs[i]).vn (hs[i]).vc (ts[i]).val := by
  obtain ⟨H, hp⟩ := (x.hh.2 i h1 h2).parts
  exact ⟨hp.key, hp.val⟩
theorem takeT_in {ts : List Tr} {q : Tr → Bool} {i : Nat} (hi : i < ts.length) (h : q ts[i] = true) : ((ts.take (i + 1)).filter q).map kvT = ((ts.take i).filter q).map kvT ++ [kvT ts[i]] := by
  rw [List.take_add_one, List.getElem?_eq_getElem hi, List.filter_append, List.map_append]
  simp [h]
theorem takeT_out {ts : List Tr} {q : Tr → Bool} {i : Nat} (hi : i < ts.length) (h : q ts[i] = false) : ((ts.take (i + 1)).filter q).map kvT = ((ts.take i).filter q).map kvT := by
  rw [List.take_add_one, List.getElem?_eq_getElem hi, List.filter_append, List.map_append]
  simp [h]
/-- What is shown: pairs of one's own, behind the world wb. -/
def Shows8 (wb w : World) (kvs : List KV) (e : Ending) (w' : World) : Prop := ∃ ra r rc rs, e = .returned (.slice ra r rc) ∧ OwnR recP w' wb.heap.size 88 (.slice ra r rc) rs ∧ rs.length = r ∧ PV w' wb.heap.size rs kvs ∧ Below wb.heap.size wb w'
/-- Both ends, at another world. -/
theorem SpanIn.lower {wb w : World} {sp : DH} {f t : List Int} (x : SpanIn wb sp f t) (hb : Below wb.heap.size wb w) : SpanIn w sp f t := x.below hb

set_option maxRecDepth 100000 in
set_option maxHeartbeats 4000000 in
theorem shown8_any (wb : World) (ts : List Tr) (hs : List TH) (a : Option Addr) (n c : Nat) (sp : DH) (f t : List Int) (w : World) (hb : Below wb.heap.size wb w) (ho : OwnT w wb.heap.size 25 (.slice a n c) hs) (hh : Heads wb hs ts) (htl : ts.length = n) (hn : n ≤ 500) (hsp : SpanIn wb sp f t) (hkl : ∀ x ∈ ts, x.key.length ≤ 80 ∧ x.val.length ≤ 1024) :
    Calls Tryd.prog 49 #[.slice a n c, sp.v] w (Shows8 wb w ((ts.filter (takeB f t sp.out)).map kvT)) := by
  unfold DH.v
  obtain ⟨ti, hti, htz⟩ := Option.map_eq_some_iff.1 infoPair
  simp only [Prod.mk.injEq] at htz
  obtain ⟨hz0, hz1, hz2⟩ := htz
  have HTI := Lib.hid (And.intro hti (And.intro hz0 (And.intro hz1 hz2)))
  clear hti hz0 hz1 hz2
  have q1 : Below w.heap.size w (w.alloc (.cells #[.slice sp.ka sp.kn sp.kc, .slice sp.va sp.vn sp.vc, .bool sp.out] 49)) := (Below.refl _ _).alloc (Nat.le_refl _) _
  have HG3 : Hid (RS wb (w.alloc (.cells #[.slice sp.ka sp.kn sp.kc, .slice sp.va sp.vn sp.vc, .bool sp.out] 49)) w.heap.size sp a n c hs ts (.slice none 0 0) [] (((ts.take 0).filter (takeB f t sp.out)).map kvT)) := Lib.hid ⟨hb.trans (q1.mono hb.size), ho.keep q1, hh, DH.box w _ sp, OwnR.nil _ _ _ _, by simpa using PV.nil _ _⟩
  have HSP := Lib.hid hsp
  have HTL := Lib.hid htl
  have HHL : Hid (hs.length = n) := Lib.hid (hh.1.trans htl)
  have HKA := Lib.hid hkl
  clear q1 hsp hb ho hh htl hkl
  go_enter Tryd.func49, Tryd.ntmps49
  go_upto_region 1 with fail
  generalize (w.alloc (.cells #[.slice sp.ka sp.kn sp.kc, .slice sp.va sp.vn sp.vc, .bool sp.out] 49)) = w1 at *
  go_wp2_with fail
  go_loopw [5, 10] (fun s5 s10 wx => ∃ (i : Nat) (ra : Option Addr) (r rc : Nat) (rs : List PH), i ≤ n ∧ s5 = .slice ra r rc ∧ rs.length = r ∧ s10 = .int .i64 i ∧ RS wb wx w.heap.size sp a n c hs ts (.slice ra r rc) rs (((ts.take i).filter (takeB f t sp.out)).map kvT)) (fun _ s10 _ => n - (intOf s10).toNat)
  case atStart => exact ⟨0, none, 0, 0, [], by omega, rfl, rfl, rfl, HG3.out⟩
  case round =>
    clear HG3
    obtain ⟨i, ra, r, rc, rs, hi, rfl, hrl, rfl, hrg⟩ := hrel
    have hr5 : r ≤ 500 := by
      have h1 := hrg.pv.1
      have h2 := List.length_filter_le (takeB f t sp.out) (ts.take i)
      rw [List.length_map] at h1
      rw [List.length_take] at h2
      omega
    by_cases hlt : i < n
    · have q1 : (i : Int) < (n : Int) := by omega
      have him : i < hs.length := by rw [HHL.out]; exact hlt
      have hix : i < ts.length := by rw [HTL.out]; exact hlt
      obtain ⟨g, hga, -⟩ := hrg.o.at HHL.out i him
      subst hga
      obtain ⟨x0, x1, x2, x3, x4⟩ := hrg.ls.cells HHL.out i him
      have HL := Lib.hid hrg
      have HKL := Lib.hid (HKA.out _ (List.getElem_mem hix))
      have HKV8 : Hid (Bytes8 (ts[i]).key ∧ Bytes8 (ts[i]).val) := Lib.hid ⟨(hrg.ls.bytes i him hix).1.bytes, (hrg.ls.bytes i him hix).2.bytes⟩
      have HKD : Hid ((hs[i]).k = (ts[i]).k) := Lib.hid (by
        obtain ⟨H, hp⟩ := (hrg.ls.hh.2 i him hix).parts
        exact hp.hk)
      clear hrg
      have hx5 := Box.new wr 25 (hs[i])
      have q5 : Below wr.heap.size wr (wr.alloc (.cells #[.int .i64 (hs[i]).k, .slice (hs[i]).ka (hs[i]).kn (hs[i]).kc, .slice (hs[i]).va (hs[i]).vn (hs[i]).vc, .slice (hs[i]).da (hs[i]).dn (hs[i]).dc, .slice (hs[i]).ta (hs[i]).tn (hs[i]).tc] 25)) := (Below.refl _ _).alloc (Nat.le_refl _) _
      go_upto_region 5 with fail
      generalize (wr.alloc (.cells #[.int .i64 (hs[i]).k, .slice (hs[i]).ka (hs[i]).kn (hs[i]).kc, .slice (hs[i]).va (hs[i]).vn (hs[i]).vc, .slice (hs[i]).da (hs[i]).dn (hs[i]).dc, .slice (hs[i]).ta (hs[i]).tn (hs[i]).tc] 25)) = w5 at *
      have HN5 : Hid (RN wb w5 w.heap.size sp (some ⟨g, 0, none⟩) n c hs ts (.slice ra r rc) rs (((ts.take i).filter (takeB f t sp.out)).map kvT) wr.heap.size (hs[i])) := Lib.hid ⟨HL.out.below q5, hx5⟩
      obtain ⟨y0, y1, y2⟩ := HN5.out.r.box.three
      obtain ⟨z0, z1, z2, z3, z4⟩ := HN5.out.x.cells
      clear hx5 q5 x0 x1 x2 x3 x4 HL
      generalize wr.heap.size = g8 at *
      cases hk1 : ((hs[i]).k == 1) with
      | false =>
        have HO : Hid (takeB f t sp.out ts[i] = false) := Lib.hid (by unfold takeB; rw [← HKD.out, hk1, Bool.false_and])
        go_wp2_with fail
        exact ⟨⟨i + 1, ra, r, rc, rs, by omega, rfl, hrl, by go_num, by rw [takeT_out hix HO.out]; exact HN5.out.r⟩, by simp [intOf]; omega⟩
      | true =>
        cases hin : inS f t sp.out (ts[i]).key with
        | false =>
          have HIN := Lib.hid hin
          have HO : Hid (takeB f t sp.out ts[i] = false) := Lib.hid (by unfold takeB; rw [hin, Bool.and_false])
          clear hin
          go_wp2_with (first
            | (go_at_call 69
               refine (scanIn_any sp f t (ts[i]).key (hs[i]).ka (hs[i]).kn (hs[i]).kc _ (HSP.out.lower HN5.out.r.b) (HN5.out.r.ls.bytes i him hix).1).mono ?_
               rintro _ w6 ⟨rfl, hb6⟩
               have HN6 := Lib.hid (HN5.out.below hb6)
               rw [HIN.out]
               clear hb6 y0 y1 y2 z0 z1 z2 z3 z4))
          exact ⟨⟨i + 1, ra, r, rc, rs, by omega, rfl, hrl, by go_num, by rw [takeT_out hix HO.out]; exact HN6.out.r⟩, by simp [intOf]; omega⟩
        | true =>
          have HIN := Lib.hid hin
          have HO : Hid (takeB f t sp.out ts[i] = true) := Lib.hid (by unfold takeB; rw [hin, ← HKD.out, hk1]; rfl)
          clear hin
          go_upto_region 6 with (first
            | (go_at_call 69
               refine (scanIn_any sp f t (ts[i]).key (hs[i]).ka (hs[i]).kn (hs[i]).kc _ (HSP.out.lower HN5.out.r.b) (HN5.out.r.ls.bytes i him hix).1).mono ?_
               rintro _ w6 ⟨rfl, hb6⟩
               have HN6 := Lib.hid (HN5.out.below hb6)
               rw [HIN.out]
               clear hb6 y0 y1 y2 z0 z1 z2 z3 z4))
          clear hk1
          have HN6D := Lib.hid HN6.out.drew
          refine wp_region_held_drew (S := (fun W => W.cell? ⟨g8, 1, none⟩ = some (.slice (hs[i]).ka (hs[i]).kn (hs[i]).kc) ∧ W.cell? ⟨g8, 2, none⟩ = some (.slice (hs[i]).va (hs[i]).vn (hs[i]).vc))) (by kernel_rfl) HN6D.out.two (fun hHeld => ?_)
          refine take_w (i := 0) (oi := ?oZ59) (v := ?vZ59) ?hiZ59 (by kernel_rfl) (by kernel_rfl) (by kernel_rfl) ?hQZ59 ?hwZ59 ?hyZ59 (by assumption) ?restZ59
          case hiZ59 => (simp only [List.getElem?_toArray, List.getElem?_cons_zero] <;> rfl)
          case hQZ59 => exact (fun _ _ _ h => h)
          case hwZ59 => rfl
          case hyZ59 => (intro w hSw; (try dsimp only at hSw); go_simp; try with_reducible rfl)
          (try simp only [Act.put, List.setIfInBounds_toArray, List.set_cons_zero, List.set_cons_succ])
          refine take_w (i := 1) (oi := ?oZ60) (v := ?vZ60) ?hiZ60 (by kernel_rfl) (by kernel_rfl) (by kernel_rfl) ?hQZ60 ?hwZ60 ?hyZ60 (by assumption) ?restZ60
          case hiZ60 => (simp only [List.getElem?_toArray, List.getElem?_cons_succ, List.getElem?_cons_zero] <;> rfl)
          case hQZ60 => exact (fun _ _ _ h => h)
          case hwZ60 => rfl
          case hyZ60 => (intro w hSw; (try dsimp only at hSw); go_simp; try with_reducible rfl)
          (try simp only [Act.put, List.setIfInBounds_toArray, List.set_cons_zero, List.set_cons_succ])
          refine take_w (i := 2) (oi := ?oZ61) (v := ?vZ61) ?hiZ61 (by kernel_rfl) (by kernel_rfl) (by kernel_rfl) ?hQZ61 ?hwZ61 ?hyZ61 (by assumption) ?restZ61
          case hiZ61 => (simp only [List.getElem?_toArray, List.getElem?_cons_succ, List.getElem?_cons_zero] <;> rfl)
          case hQZ61 => exact (fun _ _ _ h => h)
          case hwZ61 => rfl
          case hyZ61 => (intro w hSw; (try dsimp only at hSw); go_simp; try with_reducible rfl)
          (try simp only [Act.put, List.setIfInBounds_toArray, List.set_cons_zero, List.set_cons_succ])
          refine take_w (i := 4) (oi := ?oZ62) (v := ?vZ62) ?hiZ62 (by kernel_rfl) (by kernel_rfl) (by kernel_rfl) ?hQZ62 ?hwZ62 ?hyZ62 (by assumption) ?restZ62
          case hiZ62 => (simp only [List.getElem?_toArray, List.getElem?_cons_succ, List.getElem?_cons_zero] <;> rfl)
          case hQZ62 => exact (fun _ _ _ h => h)
          case hwZ62 => rfl
          case hyZ62 => (intro w hSw; (try dsimp only at hSw); go_simp; try with_reducible rfl)
          (try simp only [Act.put, List.setIfInBounds_toArray, List.set_cons_zero, List.set_cons_succ])
          refine take_w (i := 5) (oi := ?oZ63) (v := ?vZ63) ?hiZ63 (by kernel_rfl) (by kernel_rfl) (by kernel_rfl) ?hQZ63 ?hwZ63 ?hyZ63 (by assumption) ?restZ63
          case hiZ63 => (simp only [List.getElem?_toArray, List.getElem?_cons_succ, List.getElem?_cons_zero] <;> rfl)
          case hQZ63 => exact (fun _ _ _ h => h)
          case hwZ63 => rfl
          case hyZ63 => (intro w hSw; (try dsimp only at hSw); go_simp; try with_reducible rfl)
          (try simp only [Act.put, List.setIfInBounds_toArray, List.set_cons_zero, List.set_cons_succ])
          refine wpAnyH_ready (rs := [3]) (by kernel_rfl) (by simp) ?_
          refine AllReadyH.cons (o := ?oZ64) ?hiZ64 (fun K hK => ?stZ64) AllReadyH.nil
          case hiZ64 => (simp only [List.getElem?_toArray, List.getElem?_cons_succ, List.getElem?_cons_zero] <;> rfl)
          go_simp
          go_at_call 43
          refine (clone_own (hs[i]).ka (hs[i]).kn (hs[i]).kc (ts[i]).key _ (HN6D.out.r.ls.bytes i him hix).1 (by have q := (HN6D.out.r.ls.bytes i him hix).1.len; have q2 := HKL.out; omega)).mono ?_
          rintro _ w7 ⟨v7, rfl, ho7, hb7⟩
          obtain ⟨a7, c7, rfl, -⟩ := own_any ho7 (HN6D.out.r.ls.bytes i him hix).1.bytes
          have HN7 := Lib.hid (HN6D.out.below hb7)
          have HO7 := Lib.hid (own_weak ho7 HN6D.out.r.b.size)
          clear ho7 hb7
          go_simp
          refine hK.out _ _ ?_ (fun hHeld => ?_)
          · (first | exact HN9.out.two | exact HN8.out.two | exact HN7.out.two | exact HN6D.out.two | exact (HN8.out.below ((Below.refl _ _).alloc (Nat.le_refl _) _)).two)
          clear hK K
          (try simp only [Act.put, List.setIfInBounds_toArray, List.set_cons_zero, List.set_cons_succ])
          refine wpAnyH_ready (rs := [6]) (by kernel_rfl) (by simp) ?_
          refine AllReadyH.cons (o := ?oZ65) ?hiZ65 (fun K hK => ?stZ65) AllReadyH.nil
          case hiZ65 => (simp only [List.getElem?_toArray, List.getElem?_cons_succ, List.getElem?_cons_zero] <;> rfl)
          go_simp
          go_at_call 43
          refine (clone_own (hs[i]).va (hs[i]).vn (hs[i]).vc (ts[i]).val _ (HN7.out.r.ls.bytes i him hix).2 (by have q := (HN7.out.r.ls.bytes i him hix).2.len; have q2 := HKL.out; omega)).mono ?_
          rintro _ w8 ⟨v8, rfl, ho8, hb8⟩
          obtain ⟨a8, c8, rfl, -⟩ := own_any ho8 (HN7.out.r.ls.bytes i him hix).2.bytes
          have HN8 := Lib.hid (HN7.out.below hb8)
          have HO8 := Lib.hid (own_weak ho8 HN7.out.r.b.size)
          have HOK8 := Lib.hid (own_keep HO7.out hb8)
          clear ho8 hb8
          go_simp
          refine hK.out _ _ ?_ (fun hHeld => ?_)
          · (first | exact HN9.out.two | exact HN8.out.two | exact HN7.out.two | exact HN6D.out.two | exact (HN8.out.below ((Below.refl _ _).alloc (Nat.le_refl _) _)).two)
          clear hK K
          (try simp only [Act.put, List.setIfInBounds_toArray, List.set_cons_zero, List.set_cons_succ])
          refine take_w (i := 7) (oi := ?oZ66) (v := ?vZ66) ?hiZ66 (by kernel_rfl) (by kernel_rfl) (by kernel_rfl) ?hQZ66 ?hwZ66 ?hyZ66 (by assumption) ?restZ66
          case hiZ66 => (simp only [List.getElem?_toArray, List.getElem?_cons_succ, List.getElem?_cons_zero] <;> rfl)
          case hQZ66 => exact (fun _ _ _ h => h)
          case hwZ66 => rfl
          case hyZ66 => (intro w hSw; (try dsimp only at hSw); go_simp; try with_reducible rfl)
          (try simp only [Act.put, List.setIfInBounds_toArray, List.set_cons_zero, List.set_cons_succ])
          refine wpAnyH_ready (rs := [8]) (by kernel_rfl) (by simp) ?_
          refine AllReadyH.cons (o := ?oZ67) ?hiZ67 (fun K hK => ?stZ67) AllReadyH.nil
          case hiZ67 => (simp only [List.getElem?_toArray, List.getElem?_cons_succ, List.getElem?_cons_zero] <;> rfl)
          go_simp
          refine hK.out _ _ ?_ (fun hHeld => ?_)
          · (first | exact HN9.out.two | exact HN8.out.two | exact HN7.out.two | exact HN6D.out.two | exact (HN8.out.below ((Below.refl _ _).alloc (Nat.le_refl _) _)).two)
          clear hK K
          (try simp only [Act.put, List.setIfInBounds_toArray, List.set_cons_zero, List.set_cons_succ])
          refine wpAnyH_ready (rs := [9]) (by kernel_rfl) (by simp) ?_
          refine AllReadyH.cons (o := ?oZ68) ?hiZ68 (fun K hK => ?stZ68) AllReadyH.nil
          case hiZ68 => (simp only [List.getElem?_toArray, List.getElem?_cons_succ, List.getElem?_cons_zero] <;> rfl)
          have qa : Below w8.heap.size w8 (w8.alloc (.cells #[.slice a7 ((ts[i]).key).length c7, .slice a8 ((ts[i]).val).length c8] 88)) := (Below.refl _ _).alloc (Nat.le_refl _) _
          have HNA := Lib.hid (HN8.out.below qa)
          have HPA : Hid (POK (w8.alloc (.cells #[.slice a7 ((ts[i]).key).length c7, .slice a8 ((ts[i]).val).length c8] 88)) wb.heap.size (⟨a7, ((ts[i]).key).length, c7, a8, ((ts[i]).val).length, c8⟩ : PH) (kvT ts[i])) := Lib.hid ((⟨HOK8.out, HO8.out, HKV8.out.1, HKV8.out.2⟩ : POK w8 wb.heap.size (⟨a7, ((ts[i]).key).length, c7, a8, ((ts[i]).val).length, c8⟩ : PH) (kvT ts[i])).keep qa)
          refine step_append_rec _ rfl (.tmp 23) (.tmp 31) 51 rfl recP wb.heap.size 88 ti _ 48 Tryd.underlying51 HTI.out.1 HTI.out.2.1 HTI.out.2.2.1 HTI.out.2.2.2 rfl (.slice ra r rc) rs rfl HNA.out.r.row w8.heap.size 1 (⟨a7, ((ts[i]).key).length, c7, a8, ((ts[i]).val).length, c8⟩ : PH) rfl (RBox.cell (c := recP) (r := (⟨a7, ((ts[i]).key).length, c7, a8, ((ts[i]).val).length, c8⟩ : PH)) (heap_alloc_new w8 _)) ?_ (by omega) HNA.out.r.b.size ?_
          · rw [hrl]
            omega
          intro v9 w9 ho9 hg9 hw9 _
          obtain ⟨ra9, rc9, hv9⟩ := ho9.sl
          have hlen9 : (rs ++ [(⟨a7, ((ts[i]).key).length, c7, a8, ((ts[i]).val).length, c8⟩ : PH)]).length = r + 1 := by simp [hrl]
          rw [hlen9] at hv9
          subst hv9
          have HN9 := Lib.hid (HNA.out.app hg9 ho9 HPA.out)
          have HLE9 := Lib.hid hlen9
          clear ho9 hg9 hlen9 qa
          refine hK.out _ _ ?_ (fun hHeld => ?_)
          · (first | exact HN9.out.two | exact HN8.out.two | exact HN7.out.two | exact HN6D.out.two | exact (HN8.out.below ((Below.refl _ _).alloc (Nat.le_refl _) _)).two)
          clear hK K
          (try simp only [Act.put, List.setIfInBounds_toArray, List.set_cons_zero, List.set_cons_succ])
          refine take_w (i := 10) (oi := ?oZ69) (v := ?vZ69) ?hiZ69 (by kernel_rfl) (by kernel_rfl) (by kernel_rfl) ?hQZ69 ?hwZ69 ?hyZ69 (by assumption) ?restZ69
          case hiZ69 => (simp only [List.getElem?_toArray, List.getElem?_cons_succ, List.getElem?_cons_zero] <;> rfl)
          case hQZ69 => exact (fun _ _ _ h => h)
          case hwZ69 => rfl
          case hyZ69 => (intro w hSw; (try dsimp only at hSw); go_simp; try with_reducible rfl)
          (try simp only [Act.put, List.setIfInBounds_toArray, List.set_cons_zero, List.set_cons_succ])
          refine wpAnyH_done (by kernel_rfl) ?_ _
          clear hHeld
          go_wp2_with fail
          exact ⟨⟨i + 1, ra9, r + 1, rc9, _, by omega, rfl, HLE9.out, by go_num, by rw [takeT_in hix HO.out]; exact HN9.out.r⟩, by simp [intOf]; omega⟩
    · obtain rfl : i = n := by omega
      have q1 : ¬ (i : Int) < (i : Int) := by omega
      have hk : ts.take i = ts := List.take_of_length_le (by rw [HTL.out]; exact Nat.le_refl _)
      rw [hk] at hrg
      have HRG := Lib.hid hrg
      clear hrg hk
      go_wp2_with fail
      go_ret
      exact ⟨ra, r, rc, rs, rfl, HRG.out.row, hrl, HRG.out.pv, HRG.out.b⟩
end Go.Proofs.YtioifkbkllnkgaaDoor

/- The contract of the program's Check of proofs. -/
namespace Go.Proofs.YtioifkbkllnkgaaDoor
open Go.RowKit
set_option linter.unusedVariables false

/-- Check's boxes. -/
structure KX (w W : World) (h : TH) (sp : DH) : Prop where
  sb : RBox recD W 49 w.heap.size sp
  box : Box W 25 (w.heap.size + 1) h
  b : Below w.heap.size w W
section
variable {w W W' : World} {h : TH} {sp : DH}
theorem KX.below (x : KX w W h sp) (hb : Below W.heap.size W W') : KX w W' h sp := ⟨x.sb.below hb x.sb.lt, x.box.below hb x.box.lt, x.b.trans (hb.mono x.b.size)⟩
theorem KX.enter (w : World) (h : TH) (sp : DH) : KX w ((w.alloc (.cells #[.slice sp.ka sp.kn sp.kc, .slice sp.va sp.vn sp.vc, .bool sp.out] 49)).alloc (.cells #[.int .i64 h.k, .slice h.ka h.kn h.kc, .slice h.va h.vn h.vc, .slice h.da h.dn h.dc, .slice h.ta h.tn h.tc] 25)) h sp := by
  have s1 : (w.alloc (.cells #[.slice sp.ka sp.kn sp.kc, .slice sp.va sp.vn sp.vc, .bool sp.out] 49)).heap.size = w.heap.size + 1 := by simp
  have q1 : Below w.heap.size w (w.alloc (.cells #[.slice sp.ka sp.kn sp.kc, .slice sp.va sp.vn sp.vc, .bool sp.out] 49)) := (Below.refl _ _).alloc (Nat.le_refl _) _
  have x1 := DH.box w 49 sp
  have x2 := Box.new (w.alloc (.cells #[.slice sp.ka sp.kn sp.kc, .slice sp.va sp.vn sp.vc, .bool sp.out] 49)) 25 h
  rw [s1] at x2
  exact ⟨x1.below ((Below.refl _ _).alloc (Nat.le_refl _) _) x1.lt, x2, q1.alloc (by rw [s1]; omega) _⟩
end
theorem digest_no (k : Nat) (hk1 : 1 ≤ k) (hk2 : k ≤ 32) (p : Tr) (h : TH) (w : World) (ht : InTree w h p) (hT : TabLies w) (m : Nat) (hm : (checkT p = m ∧ m ≠ 0) ∨ (checkT p = 0 ∧ digT k p = none ∧ m = 3)) :
    Calls Tryd.prog 17 #[.int .i64 k, h.v] w (fun e w' => ∃ a c, e = .returned (.tuple #[.slice a 0 c, .iface 42 (.int .i64 (m : Nat))]) ∧ Below w.heap.size w w') := by
  rcases hm with ⟨rfl, h0⟩ | ⟨h0, h1, rfl⟩
  · exact (digest_err k hk1 hk2 p h w ht h0).mono fun e w' ⟨a, c, q1, q2⟩ => ⟨a, c, by rw [q1, codeV_pos h0], q2⟩
  · exact (digest_none k hk1 hk2 p h w ht hT h0 h1).mono fun e w' ⟨a, c, q1, q2⟩ => ⟨a, c, by rw [q1, codeV_pos (by omega)], q2⟩
theorem items_b8 : ∀ (t : Tr) (h : TH) (w : World), InTree w h t → formedT t = true → ∀ x ∈ itemsT t, Bytes8 x.key := by
  intro t
  induction t using Tr.ind with
  | h t ih =>
  intro h w ht hf x hx
  obtain ⟨hp, hk⟩ := formed_kids hf
  obtain ⟨H, ha⟩ := ht.parts
  rcases part_kids hp with ⟨h0, k0 | k3⟩ | ⟨h2, hk12⟩
  · rw [itemsT_0 k0] at hx
    cases hx
  · rw [itemsT_3 k3] at hx
    rw [List.mem_singleton.1 hx]
    exact fun z hz => (by cases hz)
  · rw [itemsT_node (by omega) (by omega) h2, List.mem_append, List.mem_cons] at hx
    rcases hx with hx | rfl | hx
    · exact ih _ (List.getElem_mem (by omega : 0 < t.kids.length)) (H 0) w (ha.kids 0 (by omega)) (hk 0 (by omega)) x hx
    · exact ha.key.bytes
    · exact ih _ (List.getElem_mem (by omega : 1 < t.kids.length)) (H 1) w (ha.kids 1 (by omega)) (hk 1 (by omega)) x hx
theorem chk_six {k : Nat} {root f t zs : List Int} {o : Bool} {p : Tr} (hck : checkT p = 0) (hzs : digT k p = some zs) (h : (zs == root) = false) : checkR k root f t o p = (6, []) := by
  unfold checkR
  rw [if_neg (by rw [hck]; simp), hzs]
  simp only [ne_eq]
  rw [if_pos (by simpa using h)]
theorem chk_rest {k : Nat} {root f t zs : List Int} {o : Bool} {p : Tr} (hck : checkT p = 0) (hzs : digT k p = some zs) (h : (zs == root) = true) : checkR k root f t o p = if riseI (itemsT p) = false then (7, []) else tellR (scanI f t o [] false (itemsT p)) := by
  unfold checkR
  rw [if_neg (by rw [hck]; simp), hzs]
  simp only [ne_eq]
  rw [if_neg (by simpa using h)]
  unfold tellR
  rfl
theorem ChkTold.err (w w' : World) (m : Nat) (hm : m ≠ 0) (hb : Below w.heap.size w w') : ChkTold w (m, []) (.returned (.tuple #[.slice none 0 0, .iface 42 (.int .i64 (m : Nat))])) w' :=
  ⟨none, 0, 0, [], by rw [codeV_pos hm], OwnR.nil _ _ _ _, rfl, PV.nil _ _, hb⟩

set_option maxRecDepth 100000 in
set_option maxHeartbeats 4000000 in
theorem chk_any (x : Int) (hx1 : -9223372036854775808 ≤ x) (hx2 : x ≤ 9223372036854775807) (ra : Option Addr) (rn rc : Nat) (root : List Int) (sp : DH) (f t : List Int) (p : Tr) (h : TH) (w : World) (hro : InBytes w ra rn rc root) (hs : SpanIn w sp f t) (ht : InTree w h p) (hcn : countT p ≤ 500) (hT : TabLies w) : Calls Tryd.prog 18 #[.int .i64 x, .slice ra rn rc, sp.v, h.v] w (ChkTold w (checkX x root f t sp.out p)) := by
  unfold TH.v DH.v
  have HX := Lib.hid (KX.enter w h sp)
  have HT := Lib.hid ht
  have HTAB := Lib.hid hT
  have HSP := Lib.hid hs
  have HRO := Lib.hid hro
  have hrl := hro.len
  have hrm := Nat.le_trans hro.le hro.max
  simp only [maxLen] at hrm
  generalize hres : checkX x root f t sp.out p = res
  have HRES := Lib.hid hres
  clear ht hT hs hro hres
  by_cases hx : 1 ≤ x ∧ x ≤ 32 ∧ (root.length : Int) = x
  case neg =>
    have HE : Hid (res = (1, [])) := Lib.hid (by rw [← HRES.out, checkX_no hx])
    go_enter Tryd.func18, Tryd.ntmps18
    go_upto_region 1 with fail
    generalize ((w.alloc (.cells #[.slice sp.ka sp.kn sp.kc, .slice sp.va sp.vn sp.vc, .bool sp.out] 49)).alloc (.cells #[.int .i64 h.k, .slice h.ka h.kn h.kc, .slice h.va h.vn h.vc, .slice h.da h.dn h.dc, .slice h.ta h.tn h.tc] 25)) = w0 at *
    by_cases c1 : x < 1
    · clear hx hrl
      go_wp2_with fail
      go_ret2
      rw [HE.out]
      exact ChkTold.err _ _ 1 (by omega) HX.out.b
    · by_cases c2 : (32 : Int) < x
      · clear hx hrl
        go_wp2_with fail
        go_ret2
        rw [HE.out]
        exact ChkTold.err _ _ 1 (by omega) HX.out.b
      · have c3 : ((rn : Int) != x) = true := by simp; omega
        clear hx hrl
        go_wp2_with fail
        go_ret2
        rw [HE.out]
        exact ChkTold.err _ _ 1 (by omega) HX.out.b
  obtain ⟨k, hk⟩ : ∃ k : Nat, x = (k : Int) := ⟨x.toNat, by omega⟩
  have hk1 : 1 ≤ k := by omega
  have hk2 : k ≤ 32 := by omega
  have HRL : Hid (root.length = k) := Lib.hid (by omega)
  have c1 : ¬ (k : Int) < 1 := by omega
  have c2 : ¬ (32 : Int) < (k : Int) := by omega
  have c3 : ((rn : Int) != (k : Int)) = false := by simp; omega
  subst hk
  have HCR : Hid (checkR k root f t sp.out p = res) := Lib.hid (by rw [← HRES.out, checkX_ok hk1 hk2 HRL.out])
  clear hx hrl hx1 hx2 HRES
  go_enter Tryd.func18, Tryd.ntmps18
  go_upto_region 3 with fail
  generalize ((w.alloc (.cells #[.slice sp.ka sp.kn sp.kc, .slice sp.va sp.vn sp.vc, .bool sp.out] 49)).alloc (.cells #[.int .i64 h.k, .slice h.ka h.kn h.kc, .slice h.va h.vn h.vc, .slice h.da h.dn h.dc, .slice h.ta h.tn h.tc] 25)) = w0 at *
  obtain ⟨x0, x1, x2, x3, x4⟩ := HX.out.box.cells
  clear c1 c2 c3
  by_cases hno : checkT p = 0 ∧ ∃ zs, digT k p = some zs
  case neg =>
    obtain ⟨m, hm, hm0, hme⟩ : ∃ m, ((checkT p = m ∧ m ≠ 0) ∨ (checkT p = 0 ∧ digT k p = none ∧ m = 3)) ∧ m ≠ 0 ∧ checkR k root f t sp.out p = (m, []) := by
      by_cases hc : checkT p = 0
      · cases hd : digT k p with
        | none => exact ⟨3, .inr ⟨hc, rfl, rfl⟩, by omega, by unfold checkR; rw [if_neg (by rw [hc]; simp), hd]⟩
        | some zs => exact absurd ⟨hc, zs, hd⟩ hno
      · exact ⟨checkT p, .inl ⟨rfl, hc⟩, hc, by unfold checkR; rw [if_pos hc]⟩
    have HM := Lib.hid hm
    have HM0 := Lib.hid hm0
    have HME : Hid (res = (m, [])) := Lib.hid (by rw [← HCR.out, hme])
    clear hm hme hno hm0
    go_wp2_with (first
      | (go_at_call 17
         refine (digest_no k hk1 hk2 p h _ (HT.out.lower HX.out.b) (HTAB.out.below HX.out.b (Nat.le_refl _)) m HM.out).mono ?_
         rintro _ w1 ⟨a1, c1, rfl, hb1⟩
         have HX1 := Lib.hid (HX.out.below hb1)
         clear hb1 x0 x1 x2 x3 x4))
    go_ret2
    rw [HME.out]
    exact ChkTold.err _ _ m HM0.out HX1.out.b
  obtain ⟨hck, zs, hzs⟩ := hno
  have HCK := Lib.hid hck
  have HF := Lib.hid (check_zeroR hck).1
  have HDG : Hid (DigIs (k : Int) p k zs) := Lib.hid ⟨rfl, hk1, hk2, hck, hzs⟩
  have HC2 : Hid (checkT p = 0 ∧ digT k p = some zs) := Lib.hid ⟨hck, hzs⟩
  clear hck hzs
  cases heq : (zs == root) with
  | false =>
    have HEQ := Lib.hid heq
    have HE : Hid (res = (6, [])) := Lib.hid (by rw [← HCR.out, chk_six HC2.out.1 HC2.out.2 heq])
    clear heq
    go_wp2_with (first
      | (go_at_call 17
         refine (digest_is (k : Nat) p h _ (HT.out.lower HX.out.b) (HTAB.out.below HX.out.b (Nat.le_refl _)) HDG.out).mono ?_
         rintro _ w1 ⟨a1, c1, rfl, hi1, hb1⟩
         have HX1 := Lib.hid (HX.out.below hb1)
         have HI1 := Lib.hid hi1
         clear hb1 hi1 x0 x1 x2 x3 x4)
      | (go_at_call 25
         refine (equal_any zs root _ _ _ _ _ _ _ HI1.out (HRO.out.below HX1.out.b)).mono ?_
         rintro _ w9 ⟨rfl, hw9⟩
         rw [hw9]
         clear hw9
         rw [HEQ.out]))
    go_ret2
    rw [HE.out]
    exact ChkTold.err _ _ 6 (by omega) HX1.out.b
  | true =>
  have HEQ := Lib.hid heq
  have HC3 : Hid ((if riseI (itemsT p) = false then (7, []) else tellR (scanI f t sp.out [] false (itemsT p))) = res) := Lib.hid (by rw [← HCR.out, chk_rest HC2.out.1 HC2.out.2 heq])
  clear heq
  go_upto_region 8 with (first
    | (go_at_call 17
       refine (digest_is (k : Nat) p h _ (HT.out.lower HX.out.b) (HTAB.out.below HX.out.b (Nat.le_refl _)) HDG.out).mono ?_
       rintro _ w1 ⟨a1, c1, rfl, hi1, hb1⟩
       have HX1 := Lib.hid (HX.out.below hb1)
       have HI1 := Lib.hid hi1
       clear hb1 hi1 x0 x1 x2 x3 x4)
    | (go_at_call 25
       refine (equal_any zs root _ _ _ _ _ _ _ HI1.out (HRO.out.below HX1.out.b)).mono ?_
       rintro _ w9 ⟨rfl, hw9⟩
       rw [hw9]
       clear hw9
       rw [HEQ.out]))
  obtain ⟨y0, y1, y2, y3, y4⟩ := HX1.out.box.cells
  have HN5 : Hid ((listT p).length ≤ 500) := Lib.hid (Nat.le_trans (list_len p HF.out) hcn)
  have HKL := Lib.hid (list_keys HF.out)
  have hrw := rise_weave HF.out
  generalize (List.range (listT p).length).all (condN (listT p)) = ri at hrw
  cases ri with
  | false =>
    have HRI : Hid ((List.range (listT p).length).all (condN (listT p)) = false) := Lib.hid (by rw [← rise_weave HF.out, hrw])
    have HE : Hid (res = (7, [])) := Lib.hid (by rw [← HC3.out, if_pos hrw])
    clear hrw
    go_wp2_with (first
      | (go_at_call 46
         refine (list_any p h _ (HT.out.lower HX1.out.b) (by omega)).mono ?_
         rintro _ w2 ⟨v2, hs, rfl, ho2, hh2, -, hb2⟩
         obtain ⟨la, lc, hv2⟩ := ho2.sl
         have hh3 := hh2 HCK.out
         rw [hh3.1] at hv2
         subst hv2
         have HX2 := Lib.hid (HX1.out.below hb2)
         have HR2 : Hid (RT w2 w1.heap.size la (listT p).length lc hs (listT p)) := Lib.hid ⟨ho2, hh3.lower hb2, rfl⟩
         have HB2 := Lib.hid hb2
         have HH2 := Lib.hid hh3
         clear ho2 hh2 hh3 hb2 y0 y1 y2 y3 y4)
      | (go_at_call 47
         refine (asc8_any (listT p) hs w1.heap.size la _ lc _ HR2.out HN5.out).mono ?_
         rintro _ w3 ⟨rfl, hb3⟩
         have HX3 := Lib.hid (HX2.out.below hb3)
         have HR3 := Lib.hid (HR2.out.below hb3)
         have HB3 : Hid (Below w1.heap.size w1 w3) := Lib.hid (HB2.out.trans (hb3.mono HB2.out.size))
         rw [HRI.out]
         clear hb3))
    go_ret2
    rw [HE.out]
    exact ChkTold.err _ _ 7 (by omega) HX3.out.b
  | true =>
  have HRI : Hid ((List.range (listT p).length).all (condN (listT p)) = true) := Lib.hid (by rw [← rise_weave HF.out, hrw])
  have HC4 : Hid (tellR (scanI f t sp.out [] false (itemsT p)) = res) := Lib.hid (by rw [← HC3.out, if_neg (by rw [hrw]; simp)])
  clear hrw HC3
  go_upto_region 11 with (first
    | (go_at_call 46
       refine (list_any p h _ (HT.out.lower HX1.out.b) (by omega)).mono ?_
       rintro _ w2 ⟨v2, hs, rfl, ho2, hh2, -, hb2⟩
       obtain ⟨la, lc, hv2⟩ := ho2.sl
       have hh3 := hh2 HCK.out
       rw [hh3.1] at hv2
       subst hv2
       have HX2 := Lib.hid (HX1.out.below hb2)
       have HR2 : Hid (RT w2 w1.heap.size la (listT p).length lc hs (listT p)) := Lib.hid ⟨ho2, hh3.lower hb2, rfl⟩
       have HB2 := Lib.hid hb2
       have HH2 := Lib.hid hh3
       clear ho2 hh2 hh3 hb2 y0 y1 y2 y3 y4)
    | (go_at_call 47
       refine (asc8_any (listT p) hs w1.heap.size la _ lc _ HR2.out HN5.out).mono ?_
       rintro _ w3 ⟨rfl, hb3⟩
       have HX3 := Lib.hid (HX2.out.below hb3)
       have HR3 := Lib.hid (HR2.out.below hb3)
       have HB3 : Hid (Below w1.heap.size w1 w3) := Lib.hid (HB2.out.trans (hb3.mono HB2.out.size))
       rw [HRI.out]
       clear hb3))
  obtain ⟨z0, z1, z2, z3, z4⟩ := HX3.out.box.cells
  obtain ⟨u0, u1, u2⟩ := HX3.out.sb.three
  by_cases hcov : CovT f t sp.out p
  · have HE : Hid (res = (0, ((listT p).filter (takeB f t sp.out)).map kvT)) := Lib.hid (by rw [← HC4.out, scan_cov HF.out hcov]; rfl)
    obtain ⟨BB, hbb, hbt⟩ : ∃ BB : Bool, (∀ b : Bool, (b = true ↔ CovT f t sp.out p) → b = BB) ∧ BB = true := ⟨true, fun b hb => hb.2 hcov, rfl⟩
    have HBB := Lib.hid hbb
    clear hbb hcov
    go_upto_region 13 with (first
      | (go_at_call 48
         refine (covers_any p h hs w1.heap.size la _ lc sp f t _ (HT.out.lower HX3.out.b) HF.out hcn HR3.out (HSP.out.below HX3.out.b)).mono ?_
         rintro _ w4 ⟨b4, rfl, hiff, hb4⟩
         obtain rfl : b4 = BB := HBB.out b4 hiff
         have HX4 := Lib.hid (HX3.out.below hb4)
         have HR4 := Lib.hid (HR3.out.below hb4)
         have HB4 : Hid (Below w1.heap.size w1 w4) := Lib.hid (HB3.out.trans (hb4.mono HB3.out.size))
         clear hb4 hiff z0 z1 z2 z3 z4 u0 u1 u2))
    obtain ⟨z0, z1, z2⟩ := HX4.out.sb.three
    go_wp2_with (first
      | (go_at_call 49
         refine (shown8_any w1 (listT p) hs la _ lc sp f t _ HB4.out HR4.out.o HH2.out rfl HN5.out (HSP.out.below HX1.out.b) HKL.out).mono ?_
         rintro _ w5 ⟨ra5, r5, rc5, rs5, rfl, ho5, hr5, hp5, hb5⟩
         have HO5 := Lib.hid (And.intro ho5 (And.intro hr5 (And.intro hp5 hb5)))
         clear ho5 hr5 hp5 hb5 z0 z1 z2))
    go_ret2
    rw [HE.out]
    obtain ⟨q1, q2, q3, q4⟩ := HO5.out
    have hle := HX1.out.b.size
    exact ⟨ra5, r5, rc5, rs5, rfl, q1.weak hle, q2, q3.weak hle, HX1.out.b.trans (q4.mono hle)⟩
  · have HE : Hid (res = (8, [])) := Lib.hid (by rw [← HC4.out, scan_not HF.out hcov]; rfl)
    obtain ⟨BB, hbb, hbt⟩ : ∃ BB : Bool, (∀ b : Bool, (b = true ↔ CovT f t sp.out p) → b = BB) ∧ BB = false := ⟨false, fun b hb => (by cases b with | false => rfl | true => exact absurd (hb.1 rfl) hcov), rfl⟩
    have HBB := Lib.hid hbb
    clear hbb hcov
    go_wp2_with (first
      | (go_at_call 48
         refine (covers_any p h hs w1.heap.size la _ lc sp f t _ (HT.out.lower HX3.out.b) HF.out hcn HR3.out (HSP.out.below HX3.out.b)).mono ?_
         rintro _ w4 ⟨b4, rfl, hiff, hb4⟩
         obtain rfl : b4 = BB := HBB.out b4 hiff
         have HX4 := Lib.hid (HX3.out.below hb4)
         have HR4 := Lib.hid (HR3.out.below hb4)
         have HB4 : Hid (Below w1.heap.size w1 w4) := Lib.hid (HB3.out.trans (hb4.mono HB3.out.size))
         clear hb4 hiff z0 z1 z2 z3 z4 u0 u1 u2))
    go_ret2
    rw [HE.out]
    exact ChkTold.err _ _ 8 (by omega) HX4.out.b
end Go.Proofs.YtioifkbkllnkgaaDoor

/- The contract of the document's Same of lists of pairs. -/
namespace Go.Proofs.YtioifkbkllnkgaaDoor
open Go.RowKit
set_option linter.unusedVariables false

/-- Heads, by number, and pairs. -/
def PairsD (w : World) (D : Nat → PH) (kvs : List KV) : Prop := ∀ i (h : i < kvs.length), InBytes w (D i).ka (D i).kn (D i).kc (kvs[i]).1 ∧ InBytes w (D i).va (D i).vn (D i).vc (kvs[i]).2
theorem PairsD.below {w w' : World} {D : Nat → PH} {kvs : List KV} (h : PairsD w D kvs) (hb : Below w.heap.size w w') : PairsD w' D kvs := fun i hi => ⟨(h i hi).1.below hb, (h i hi).2.below hb⟩
def pZ : PH := ⟨none, 0, 0, none, 0, 0⟩
theorem PairsIn.byD {w : World} {ps : List PH} {kvs : List KV} (h : PairsIn w ps kvs) : PairsD w (fun i => ps.getD i pZ) kvs := fun i hi => by
  have h1 : i < ps.length := by rw [h.1]; exact hi
  have e : ps.getD i pZ = ps[i] := by simp [List.getD, h1]
  dsimp only
  rw [e]
  exact h.2 i h1 hi
/-- The two cells of the i-th pair that came in. -/
theorem InRec.pair {w : World} {a : Option Addr} {n cap : Nat} {D : Nat → PH} (h : InRec recP w a n cap D) {g off : Nat} (e : a = some ⟨g, off, none⟩) (i : Nat) (hi : i < n) : w.cell? ⟨g, off + i * 2, none⟩ = some (.slice (D i).ka (D i).kn (D i).kc) ∧ w.cell? ⟨g, off + i * 2 + 1, none⟩ = some (.slice (D i).va (D i).vn (D i).vc) := by
  obtain ⟨g', off', e', _, hc⟩ := h.at (by omega)
  rw [e] at e'
  injection e' with e'
  injection e' with e1 e2
  subst e1 e2
  exact ⟨hc i hi 0 _ rfl, hc i hi 1 _ rfl⟩

end Go.Proofs.YtioifkbkllnkgaaDoor

/- The contract of the document's Same of any two lists of pairs. -/
namespace Go.Proofs.YtioifkbkllnkgaaDoor
open Go.RowKit
set_option linter.unusedVariables false

/-- What Same tells. -/
def SameIs (w : World) (kvs kvs' : List KV) (e : Ending) (w' : World) : Prop := ∃ b, e = .returned (.bool b) ∧ (b = true ↔ kvs = kvs') ∧ Below w.heap.size w w'

set_option maxRecDepth 100000 in
set_option maxHeartbeats 4000000 in
theorem sameP_all (kvs kvs' : List KV) (D D' : Nat → PH) (a a' : Option Addr) (n n' c c' : Nat) (w : World) (hn : n = kvs.length) (hn' : n' = kvs'.length) (h1 : InRec recP w a n c D) (h2 : InRec recP w a' n' c' D') (p1 : PairsD w D kvs) (p2 : PairsD w D' kvs') :
    Calls Tryd.prog 19 #[.slice a n c, .slice a' n' c'] w (SameIs w kvs kvs') := by
  have HA := Lib.hid (And.intro h1 (And.intro h2 (And.intro p1 p2)))
  have hn63 : n ≤ 9223372036854775807 := by have q1 := h1.le; have q2 := h1.max; simp only [maxLen] at q2; omega
  clear h1 h2 p1 p2
  have HN := Lib.hid (And.intro hn hn')
  clear hn hn'
  by_cases hnn' : n = n'
  case neg =>
    have hnn : ((n : Int) != (n' : Int)) = true := by simp; omega
    have HNE := Lib.hid hnn'
    clear hnn'
    go_enter Tryd.func19, Tryd.ntmps19
    go_wp2_with fail
    go_ret
    exact ⟨false, rfl, ⟨fun q => (by cases q), fun q => (by
      have q2 := congrArg List.length q
      exact absurd (by rw [HN.out.1, HN.out.2]; exact q2) HNE.out)⟩, Below.refl _ _⟩
  subst hnn'
  have hnn : ((n : Int) != (n : Int)) = false := by simp
  go_enter Tryd.func19, Tryd.ntmps19
  go_wp2_with fail
  go_loopw [5] (fun s5 wx => ∃ i : Nat, i ≤ n ∧ s5 = .int .i64 i ∧ Below w.heap.size w wx ∧ ∀ j (h1 : j < kvs.length) (h2 : j < kvs'.length), j < i → kvs[j] = kvs'[j]) (fun s5 _ => n - (intOf s5).toNat)
  case atStart => exact ⟨0, by omega, rfl, Below.refl _ _, fun j _ _ hj => by omega⟩
  case round =>
    obtain ⟨i, hi, rfl, hb, hall⟩ := hrel
    have HALL := Lib.hid hall
    clear hall
    by_cases hlt : i < n
    · have q1 : (i : Int) < (n : Int) := by omega
      have hik : i < kvs.length := by rw [← HN.out.1]; exact hlt
      have hik' : i < kvs'.length := by rw [← HN.out.2]; exact hlt
      obtain ⟨g, off, ea, -, -⟩ := HA.out.1.at (by omega)
      obtain ⟨g', off', ea', -, -⟩ := HA.out.2.1.at (by omega)
      have hbd : Below w.heap.size w wr.drew := hb.drew
      have HS6 : Hid ((fun W => W.cell? ⟨g, off + i * 2, none⟩ = some (.slice (D i).ka (D i).kn (D i).kc) ∧ W.cell? ⟨g, off + i * 2 + 1, none⟩ = some (.slice (D i).va (D i).vn (D i).vc) ∧ W.cell? ⟨g', off' + i * 2, none⟩ = some (.slice (D' i).ka (D' i).kn (D' i).kc) ∧ W.cell? ⟨g', off' + i * 2 + 1, none⟩ = some (.slice (D' i).va (D' i).vn (D' i).vc) ∧ (convert 22 9 (.slice (D i).ka (D i).kn (D i).kc)).run Tryd.prog W = .ok (.string (strOfNums (kvs[i]).1)) W ∧ (convert 22 9 (.slice (D' i).ka (D' i).kn (D' i).kc)).run Tryd.prog W = .ok (.string (strOfNums (kvs'[i]).1)) W ∧ (convert 22 9 (.slice (D i).va (D i).vn (D i).vc)).run Tryd.prog W = .ok (.string (strOfNums (kvs[i]).2)) W ∧ (convert 22 9 (.slice (D' i).va (D' i).vn (D' i).vc)).run Tryd.prog W = .ok (.string (strOfNums (kvs'[i]).2)) W) wr.drew) := Lib.hid ⟨((HA.out.1.below hbd).pair ea i hlt).1, ((HA.out.1.below hbd).pair ea i hlt).2, ((HA.out.2.1.below hbd).pair ea' i hlt).1, ((HA.out.2.1.below hbd).pair ea' i hlt).2, conv_key ((HA.out.2.2.1.below hbd) i hik).1, conv_key ((HA.out.2.2.2.below hbd) i hik').1, conv_key ((HA.out.2.2.1.below hbd) i hik).2, conv_key ((HA.out.2.2.2.below hbd) i hik').2⟩
      have HBD := Lib.hid hbd
      have hse1 : ((strOfNums (kvs[i]).1).toList == (strOfNums (kvs'[i]).1).toList) = ((kvs[i]).1 == (kvs'[i]).1) := str_eq (HA.out.2.2.1 i hik).1.bytes (HA.out.2.2.2 i hik').1.bytes
      have hse2 : ((strOfNums (kvs[i]).2).toList == (strOfNums (kvs'[i]).2).toList) = ((kvs[i]).2 == (kvs'[i]).2) := str_eq (HA.out.2.2.1 i hik).2.bytes (HA.out.2.2.2 i hik').2.bytes
      clear hb hbd
      subst ea ea'
      cases hk : ((kvs[i]).1 == (kvs'[i]).1) with
      | false =>
        have HK := Lib.hid hk
        rw [hk] at hse1
        clear hk hse2
        go_upto_region 6 with fail
        refine wp_region_held_drew (S := (fun W => W.cell? ⟨g, off + i * 2, none⟩ = some (.slice (D i).ka (D i).kn (D i).kc) ∧ W.cell? ⟨g, off + i * 2 + 1, none⟩ = some (.slice (D i).va (D i).vn (D i).vc) ∧ W.cell? ⟨g', off' + i * 2, none⟩ = some (.slice (D' i).ka (D' i).kn (D' i).kc) ∧ W.cell? ⟨g', off' + i * 2 + 1, none⟩ = some (.slice (D' i).va (D' i).vn (D' i).vc) ∧ (convert 22 9 (.slice (D i).ka (D i).kn (D i).kc)).run Tryd.prog W = .ok (.string (strOfNums (kvs[i]).1)) W ∧ (convert 22 9 (.slice (D' i).ka (D' i).kn (D' i).kc)).run Tryd.prog W = .ok (.string (strOfNums (kvs'[i]).1)) W ∧ (convert 22 9 (.slice (D i).va (D i).vn (D i).vc)).run Tryd.prog W = .ok (.string (strOfNums (kvs[i]).2)) W ∧ (convert 22 9 (.slice (D' i).va (D' i).vn (D' i).vc)).run Tryd.prog W = .ok (.string (strOfNums (kvs'[i]).2)) W)) (by kernel_rfl) HS6.out (fun hHeld => ?_)
        refine take_w (i := 0) (oi := ?oZ1) (v := ?vZ1) ?hiZ1 (by kernel_rfl) (by kernel_rfl) (by kernel_rfl) ?hQZ1 ?hwZ1 ?hyZ1 (by assumption) ?restZ1
        case hiZ1 => (simp only [List.getElem?_toArray, List.getElem?_cons_zero] <;> rfl)
        case hQZ1 => exact (fun _ _ _ h => h)
        case hwZ1 => rfl
        case hyZ1 => (intro w hSw; (try dsimp only at hSw); go_simp; try with_reducible rfl)
        (try simp only [Act.put, List.setIfInBounds_toArray, List.set_cons_zero, List.set_cons_succ])
        refine take_w (i := 1) (oi := ?oZ2) (v := ?vZ2) ?hiZ2 (by kernel_rfl) (by kernel_rfl) (by kernel_rfl) ?hQZ2 ?hwZ2 ?hyZ2 (by assumption) ?restZ2
        case hiZ2 => (simp only [List.getElem?_toArray, List.getElem?_cons_succ, List.getElem?_cons_zero] <;> rfl)
        case hQZ2 => exact (fun _ _ _ h => h)
        case hwZ2 => rfl
        case hyZ2 => (intro w hSw; (try dsimp only at hSw); go_simp; try with_reducible rfl)
        (try simp only [Act.put, List.setIfInBounds_toArray, List.set_cons_zero, List.set_cons_succ])
        refine take_w (i := 2) (oi := ?oZ3) (v := ?vZ3) ?hiZ3 (by kernel_rfl) (by kernel_rfl) (by kernel_rfl) ?hQZ3 ?hwZ3 ?hyZ3 (by assumption) ?restZ3
        case hiZ3 => (simp only [List.getElem?_toArray, List.getElem?_cons_succ, List.getElem?_cons_zero] <;> rfl)
        case hQZ3 => exact (fun _ _ _ h => h)
        case hwZ3 => rfl
        case hyZ3 => (intro w hSw; (try dsimp only at hSw); go_simp; try with_reducible rfl)
        (try simp only [Act.put, List.setIfInBounds_toArray, List.set_cons_zero, List.set_cons_succ])
        refine take_w (i := 3) (oi := ?oZ4) (v := ?vZ4) ?hiZ4 (by kernel_rfl) (by kernel_rfl) (by kernel_rfl) ?hQZ4 ?hwZ4 ?hyZ4 (by assumption) ?restZ4
        case hiZ4 => (simp only [List.getElem?_toArray, List.getElem?_cons_succ, List.getElem?_cons_zero] <;> rfl)
        case hQZ4 => exact (fun _ _ _ h => h)
        case hwZ4 => rfl
        case hyZ4 => (intro w hSw; (try dsimp only at hSw); go_simp; try with_reducible rfl)
        (try simp only [Act.put, List.setIfInBounds_toArray, List.set_cons_zero, List.set_cons_succ])
        refine take_w (i := 4) (oi := ?oZ5) (v := ?vZ5) ?hiZ5 (by kernel_rfl) (by kernel_rfl) (by kernel_rfl) ?hQZ5 ?hwZ5 ?hyZ5 (by assumption) ?restZ5
        case hiZ5 => (simp only [List.getElem?_toArray, List.getElem?_cons_succ, List.getElem?_cons_zero] <;> rfl)
        case hQZ5 => exact (fun _ _ _ h => h)
        case hwZ5 => rfl
        case hyZ5 => (intro w hSw; (try dsimp only at hSw); go_simp; try with_reducible rfl)
        (try simp only [Act.put, List.setIfInBounds_toArray, List.set_cons_zero, List.set_cons_succ])
        refine take_w (i := 5) (oi := ?oZ6) (v := ?vZ6) ?hiZ6 (by kernel_rfl) (by kernel_rfl) (by kernel_rfl) ?hQZ6 ?hwZ6 ?hyZ6 (by assumption) ?restZ6
        case hiZ6 => (simp only [List.getElem?_toArray, List.getElem?_cons_succ, List.getElem?_cons_zero] <;> rfl)
        case hQZ6 => exact (fun _ _ _ h => h)
        case hwZ6 => rfl
        case hyZ6 => (intro w hSw; (try dsimp only at hSw); go_simp; try with_reducible rfl)
        (try simp only [Act.put, List.setIfInBounds_toArray, List.set_cons_zero, List.set_cons_succ])
        refine take_w (i := 6) (oi := ?oZ7) (v := ?vZ7) ?hiZ7 (by kernel_rfl) (by kernel_rfl) (by kernel_rfl) ?hQZ7 ?hwZ7 ?hyZ7 (by assumption) ?restZ7
        case hiZ7 => (simp only [List.getElem?_toArray, List.getElem?_cons_succ, List.getElem?_cons_zero] <;> rfl)
        case hQZ7 => exact (fun _ _ _ h => h)
        case hwZ7 => rfl
        case hyZ7 => (intro w hSw; (try dsimp only at hSw); go_simp; try with_reducible rfl)
        (try simp only [Act.put, List.setIfInBounds_toArray, List.set_cons_zero, List.set_cons_succ])
        refine take_w (i := 7) (oi := ?oZ8) (v := ?vZ8) ?hiZ8 (by kernel_rfl) (by kernel_rfl) (by kernel_rfl) ?hQZ8 ?hwZ8 ?hyZ8 (by assumption) ?restZ8
        case hiZ8 => (simp only [List.getElem?_toArray, List.getElem?_cons_succ, List.getElem?_cons_zero] <;> rfl)
        case hQZ8 => exact (fun _ _ _ h => h)
        case hwZ8 => rfl
        case hyZ8 => (intro w hSw; (try dsimp only at hSw); go_simp; try with_reducible rfl)
        (try simp only [Act.put, List.setIfInBounds_toArray, List.set_cons_zero, List.set_cons_succ])
        refine take_w (i := 8) (oi := ?oZ9) (v := ?vZ9) ?hiZ9 (by kernel_rfl) (by kernel_rfl) (by kernel_rfl) ?hQZ9 ?hwZ9 ?hyZ9 (by assumption) ?restZ9
        case hiZ9 => (simp only [List.getElem?_toArray, List.getElem?_cons_succ, List.getElem?_cons_zero] <;> rfl)
        case hQZ9 => exact (fun _ _ _ h => h)
        case hwZ9 => rfl
        case hyZ9 => (intro w hSw; (try dsimp only at hSw); go_simp; try with_reducible rfl)
        (try simp only [Act.put, List.setIfInBounds_toArray, List.set_cons_zero, List.set_cons_succ])
        refine take_w (i := 9) (oi := ?oZ10) (v := ?vZ10) ?hiZ10 (by kernel_rfl) (by kernel_rfl) (by kernel_rfl) ?hQZ10 ?hwZ10 ?hyZ10 (by assumption) ?restZ10
        case hiZ10 => (simp only [List.getElem?_toArray, List.getElem?_cons_succ, List.getElem?_cons_zero] <;> rfl)
        case hQZ10 => exact (fun _ _ _ h => h)
        case hwZ10 => rfl
        case hyZ10 => (intro w hSw; (try dsimp only at hSw); go_simp; try with_reducible rfl)
        (try simp only [Act.put, List.setIfInBounds_toArray, List.set_cons_zero, List.set_cons_succ])
        refine take_w (i := 10) (oi := ?oZ11) (v := ?vZ11) ?hiZ11 (by kernel_rfl) (by kernel_rfl) (by kernel_rfl) ?hQZ11 ?hwZ11 ?hyZ11 (by assumption) ?restZ11
        case hiZ11 => (simp only [List.getElem?_toArray, List.getElem?_cons_succ, List.getElem?_cons_zero] <;> rfl)
        case hQZ11 => exact (fun _ _ _ h => h)
        case hwZ11 => rfl
        case hyZ11 => (intro w hSw; (try dsimp only at hSw); go_simp; try with_reducible rfl)
        (try simp only [Act.put, List.setIfInBounds_toArray, List.set_cons_zero, List.set_cons_succ])
        refine take_w (i := 11) (oi := ?oZ12) (v := ?vZ12) ?hiZ12 (by kernel_rfl) (by kernel_rfl) (by kernel_rfl) ?hQZ12 ?hwZ12 ?hyZ12 (by assumption) ?restZ12
        case hiZ12 => (simp only [List.getElem?_toArray, List.getElem?_cons_succ, List.getElem?_cons_zero] <;> rfl)
        case hQZ12 => exact (fun _ _ _ h => h)
        case hwZ12 => rfl
        case hyZ12 => (intro w hSw; (try dsimp only at hSw); go_simp; try with_reducible rfl)
        (try simp only [Act.put, List.setIfInBounds_toArray, List.set_cons_zero, List.set_cons_succ])
        refine take_w (i := 12) (oi := ?oZ13) (v := ?vZ13) ?hiZ13 (by kernel_rfl) (by kernel_rfl) (by kernel_rfl) ?hQZ13 ?hwZ13 ?hyZ13 (by assumption) ?restZ13
        case hiZ13 => (simp only [List.getElem?_toArray, List.getElem?_cons_succ, List.getElem?_cons_zero] <;> rfl)
        case hQZ13 => exact (fun _ _ _ h => h)
        case hwZ13 => rfl
        case hyZ13 => (intro w hSw; (try dsimp only at hSw); go_simp; try with_reducible rfl)
        (try simp only [Act.put, List.setIfInBounds_toArray, List.set_cons_zero, List.set_cons_succ])
        refine take_w (i := 13) (oi := ?oZ14) (v := ?vZ14) ?hiZ14 (by kernel_rfl) (by kernel_rfl) (by kernel_rfl) ?hQZ14 ?hwZ14 ?hyZ14 (by assumption) ?restZ14
        case hiZ14 => (simp only [List.getElem?_toArray, List.getElem?_cons_succ, List.getElem?_cons_zero] <;> rfl)
        case hQZ14 => exact (fun _ _ _ h => h)
        case hwZ14 => rfl
        case hyZ14 => (intro w hSw; (try dsimp only at hSw); go_simp; try with_reducible rfl)
        (try simp only [Act.put, List.setIfInBounds_toArray, List.set_cons_zero, List.set_cons_succ])
        refine take_u (i := 14) (oi := ?oZ15) ?hiZ15 (by kernel_rfl) (by kernel_rfl) (by kernel_rfl) ?hQZ15 ?hwZ15 (by assumption) ?restZ15
        case hiZ15 => (simp only [List.getElem?_toArray, List.getElem?_cons_succ, List.getElem?_cons_zero] <;> rfl)
        case hQZ15 => exact (fun _ _ _ h => h)
        case hwZ15 => rfl
        (try simp only [Act.put, List.setIfInBounds_toArray, List.set_cons_zero, List.set_cons_succ])
        refine take_u (i := 15) (oi := ?oZ16) ?hiZ16 (by kernel_rfl) (by kernel_rfl) (by kernel_rfl) ?hQZ16 ?hwZ16 (by assumption) ?restZ16
        case hiZ16 => (simp only [List.getElem?_toArray, List.getElem?_cons_succ, List.getElem?_cons_zero] <;> rfl)
        case hQZ16 => exact (fun _ _ _ h => h)
        case hwZ16 => rfl
        (try simp only [Act.put, List.setIfInBounds_toArray, List.set_cons_zero, List.set_cons_succ])
        refine take_u (i := 16) (oi := ?oZ17) ?hiZ17 (by kernel_rfl) (by kernel_rfl) (by kernel_rfl) ?hQZ17 ?hwZ17 (by assumption) ?restZ17
        case hiZ17 => (simp only [List.getElem?_toArray, List.getElem?_cons_succ, List.getElem?_cons_zero] <;> rfl)
        case hQZ17 => exact (fun _ _ _ h => h)
        case hwZ17 => rfl
        (try simp only [Act.put, List.setIfInBounds_toArray, List.set_cons_zero, List.set_cons_succ])
        refine take_u (i := 17) (oi := ?oZ18) ?hiZ18 (by kernel_rfl) (by kernel_rfl) (by kernel_rfl) ?hQZ18 ?hwZ18 (by assumption) ?restZ18
        case hiZ18 => (simp only [List.getElem?_toArray, List.getElem?_cons_succ, List.getElem?_cons_zero] <;> rfl)
        case hQZ18 => exact (fun _ _ _ h => h)
        case hwZ18 => rfl
        (try simp only [Act.put, List.setIfInBounds_toArray, List.set_cons_zero, List.set_cons_succ])
        refine take_u (i := 18) (oi := ?oZ19) ?hiZ19 (by kernel_rfl) (by kernel_rfl) (by kernel_rfl) ?hQZ19 ?hwZ19 (by assumption) ?restZ19
        case hiZ19 => (simp only [List.getElem?_toArray, List.getElem?_cons_succ, List.getElem?_cons_zero] <;> rfl)
        case hQZ19 => exact (fun _ _ _ h => h)
        case hwZ19 => rfl
        (try simp only [Act.put, List.setIfInBounds_toArray, List.set_cons_zero, List.set_cons_succ])
        refine take_u (i := 19) (oi := ?oZ20) ?hiZ20 (by kernel_rfl) (by kernel_rfl) (by kernel_rfl) ?hQZ20 ?hwZ20 (by assumption) ?restZ20
        case hiZ20 => (simp only [List.getElem?_toArray, List.getElem?_cons_succ, List.getElem?_cons_zero] <;> rfl)
        case hQZ20 => exact (fun _ _ _ h => h)
        case hwZ20 => rfl
        (try simp only [Act.put, List.setIfInBounds_toArray, List.set_cons_zero, List.set_cons_succ])
        refine take_u (i := 20) (oi := ?oZ21) ?hiZ21 (by kernel_rfl) (by kernel_rfl) (by kernel_rfl) ?hQZ21 ?hwZ21 (by assumption) ?restZ21
        case hiZ21 => (simp only [List.getElem?_toArray, List.getElem?_cons_succ, List.getElem?_cons_zero] <;> rfl)
        case hQZ21 => exact (fun _ _ _ h => h)
        case hwZ21 => rfl
        (try simp only [Act.put, List.setIfInBounds_toArray, List.set_cons_zero, List.set_cons_succ])
        refine take_u (i := 21) (oi := ?oZ22) ?hiZ22 (by kernel_rfl) (by kernel_rfl) (by kernel_rfl) ?hQZ22 ?hwZ22 (by assumption) ?restZ22
        case hiZ22 => (simp only [List.getElem?_toArray, List.getElem?_cons_succ, List.getElem?_cons_zero] <;> rfl)
        case hQZ22 => exact (fun _ _ _ h => h)
        case hwZ22 => rfl
        (try simp only [Act.put, List.setIfInBounds_toArray, List.set_cons_zero, List.set_cons_succ])
        refine take_u (i := 22) (oi := ?oZ23) ?hiZ23 (by kernel_rfl) (by kernel_rfl) (by kernel_rfl) ?hQZ23 ?hwZ23 (by assumption) ?restZ23
        case hiZ23 => (simp only [List.getElem?_toArray, List.getElem?_cons_succ, List.getElem?_cons_zero] <;> rfl)
        case hQZ23 => exact (fun _ _ _ h => h)
        case hwZ23 => rfl
        (try simp only [Act.put, List.setIfInBounds_toArray, List.set_cons_zero, List.set_cons_succ])
        refine take_u (i := 23) (oi := ?oZ24) ?hiZ24 (by kernel_rfl) (by kernel_rfl) (by kernel_rfl) ?hQZ24 ?hwZ24 (by assumption) ?restZ24
        case hiZ24 => (simp only [List.getElem?_toArray, List.getElem?_cons_succ, List.getElem?_cons_zero] <;> rfl)
        case hQZ24 => exact (fun _ _ _ h => h)
        case hwZ24 => rfl
        (try simp only [Act.put, List.setIfInBounds_toArray, List.set_cons_zero, List.set_cons_succ])
        refine take_u (i := 24) (oi := ?oZ25) ?hiZ25 (by kernel_rfl) (by kernel_rfl) (by kernel_rfl) ?hQZ25 ?hwZ25 (by assumption) ?restZ25
        case hiZ25 => (simp only [List.getElem?_toArray, List.getElem?_cons_succ, List.getElem?_cons_zero] <;> rfl)
        case hQZ25 => exact (fun _ _ _ h => h)
        case hwZ25 => rfl
        (try simp only [Act.put, List.setIfInBounds_toArray, List.set_cons_zero, List.set_cons_succ])
        refine take_u (i := 25) (oi := ?oZ26) ?hiZ26 (by kernel_rfl) (by kernel_rfl) (by kernel_rfl) ?hQZ26 ?hwZ26 (by assumption) ?restZ26
        case hiZ26 => (simp only [List.getElem?_toArray, List.getElem?_cons_succ, List.getElem?_cons_zero] <;> rfl)
        case hQZ26 => exact (fun _ _ _ h => h)
        case hwZ26 => rfl
        (try simp only [Act.put, List.setIfInBounds_toArray, List.set_cons_zero, List.set_cons_succ])
        refine take_u (i := 26) (oi := ?oZ27) ?hiZ27 (by kernel_rfl) (by kernel_rfl) (by kernel_rfl) ?hQZ27 ?hwZ27 (by assumption) ?restZ27
        case hiZ27 => (simp only [List.getElem?_toArray, List.getElem?_cons_succ, List.getElem?_cons_zero] <;> rfl)
        case hQZ27 => exact (fun _ _ _ h => h)
        case hwZ27 => rfl
        (try simp only [Act.put, List.setIfInBounds_toArray, List.set_cons_zero, List.set_cons_succ])
        refine take_w (i := 27) (oi := ?oZ28) (v := ?vZ28) ?hiZ28 (by kernel_rfl) (by kernel_rfl) (by kernel_rfl) ?hQZ28 ?hwZ28 ?hyZ28 (by assumption) ?restZ28
        case hiZ28 => (simp only [List.getElem?_toArray, List.getElem?_cons_succ, List.getElem?_cons_zero] <;> rfl)
        case hQZ28 => exact (fun _ _ _ h => h)
        case hwZ28 => rfl
        case hyZ28 => (intro w hSw; (try dsimp only at hSw); go_simp; try with_reducible rfl)
        (try simp only [Act.put, List.setIfInBounds_toArray, List.set_cons_zero, List.set_cons_succ])
        refine wpAnyH_done (by kernel_rfl) ?_ _
        clear hHeld
        clear HS6
        go_wp2_with fail
        go_ret
        exact ⟨false, rfl, ⟨fun q => (by cases q), fun q => (by
          subst q
          have q2 := HK.out
          simp at q2)⟩, HBD.out⟩
      | true =>
        have HK := Lib.hid hk
        rw [hk] at hse1
        clear hk
        cases hv : ((kvs[i]).2 == (kvs'[i]).2) with
        | false =>
          have HV := Lib.hid hv
          rw [hv] at hse2
          clear hv
          go_upto_region 6 with fail
          refine wp_region_held_drew (S := (fun W => W.cell? ⟨g, off + i * 2, none⟩ = some (.slice (D i).ka (D i).kn (D i).kc) ∧ W.cell? ⟨g, off + i * 2 + 1, none⟩ = some (.slice (D i).va (D i).vn (D i).vc) ∧ W.cell? ⟨g', off' + i * 2, none⟩ = some (.slice (D' i).ka (D' i).kn (D' i).kc) ∧ W.cell? ⟨g', off' + i * 2 + 1, none⟩ = some (.slice (D' i).va (D' i).vn (D' i).vc) ∧ (convert 22 9 (.slice (D i).ka (D i).kn (D i).kc)).run Tryd.prog W = .ok (.string (strOfNums (kvs[i]).1)) W ∧ (convert 22 9 (.slice (D' i).ka (D' i).kn (D' i).kc)).run Tryd.prog W = .ok (.string (strOfNums (kvs'[i]).1)) W ∧ (convert 22 9 (.slice (D i).va (D i).vn (D i).vc)).run Tryd.prog W = .ok (.string (strOfNums (kvs[i]).2)) W ∧ (convert 22 9 (.slice (D' i).va (D' i).vn (D' i).vc)).run Tryd.prog W = .ok (.string (strOfNums (kvs'[i]).2)) W)) (by kernel_rfl) HS6.out (fun hHeld => ?_)
          refine take_w (i := 0) (oi := ?oZ29) (v := ?vZ29) ?hiZ29 (by kernel_rfl) (by kernel_rfl) (by kernel_rfl) ?hQZ29 ?hwZ29 ?hyZ29 (by assumption) ?restZ29
          case hiZ29 => (simp only [List.getElem?_toArray, List.getElem?_cons_zero] <;> rfl)
          case hQZ29 => exact (fun _ _ _ h => h)
          case hwZ29 => rfl
          case hyZ29 => (intro w hSw; (try dsimp only at hSw); go_simp; try with_reducible rfl)
          (try simp only [Act.put, List.setIfInBounds_toArray, List.set_cons_zero, List.set_cons_succ])
          refine take_w (i := 1) (oi := ?oZ30) (v := ?vZ30) ?hiZ30 (by kernel_rfl) (by kernel_rfl) (by kernel_rfl) ?hQZ30 ?hwZ30 ?hyZ30 (by assumption) ?restZ30
          case hiZ30 => (simp only [List.getElem?_toArray, List.getElem?_cons_succ, List.getElem?_cons_zero] <;> rfl)
          case hQZ30 => exact (fun _ _ _ h => h)
          case hwZ30 => rfl
          case hyZ30 => (intro w hSw; (try dsimp only at hSw); go_simp; try with_reducible rfl)
          (try simp only [Act.put, List.setIfInBounds_toArray, List.set_cons_zero, List.set_cons_succ])
          refine take_w (i := 2) (oi := ?oZ31) (v := ?vZ31) ?hiZ31 (by kernel_rfl) (by kernel_rfl) (by kernel_rfl) ?hQZ31 ?hwZ31 ?hyZ31 (by assumption) ?restZ31
          case hiZ31 => (simp only [List.getElem?_toArray, List.getElem?_cons_succ, List.getElem?_cons_zero] <;> rfl)
          case hQZ31 => exact (fun _ _ _ h => h)
          case hwZ31 => rfl
          case hyZ31 => (intro w hSw; (try dsimp only at hSw); go_simp; try with_reducible rfl)
          (try simp only [Act.put, List.setIfInBounds_toArray, List.set_cons_zero, List.set_cons_succ])
          refine take_w (i := 3) (oi := ?oZ32) (v := ?vZ32) ?hiZ32 (by kernel_rfl) (by kernel_rfl) (by kernel_rfl) ?hQZ32 ?hwZ32 ?hyZ32 (by assumption) ?restZ32
          case hiZ32 => (simp only [List.getElem?_toArray, List.getElem?_cons_succ, List.getElem?_cons_zero] <;> rfl)
          case hQZ32 => exact (fun _ _ _ h => h)
          case hwZ32 => rfl
          case hyZ32 => (intro w hSw; (try dsimp only at hSw); go_simp; try with_reducible rfl)
          (try simp only [Act.put, List.setIfInBounds_toArray, List.set_cons_zero, List.set_cons_succ])
          refine take_w (i := 4) (oi := ?oZ33) (v := ?vZ33) ?hiZ33 (by kernel_rfl) (by kernel_rfl) (by kernel_rfl) ?hQZ33 ?hwZ33 ?hyZ33 (by assumption) ?restZ33
          case hiZ33 => (simp only [List.getElem?_toArray, List.getElem?_cons_succ, List.getElem?_cons_zero] <;> rfl)
          case hQZ33 => exact (fun _ _ _ h => h)
          case hwZ33 => rfl
          case hyZ33 => (intro w hSw; (try dsimp only at hSw); go_simp; try with_reducible rfl)
          (try simp only [Act.put, List.setIfInBounds_toArray, List.set_cons_zero, List.set_cons_succ])
          refine take_w (i := 5) (oi := ?oZ34) (v := ?vZ34) ?hiZ34 (by kernel_rfl) (by kernel_rfl) (by kernel_rfl) ?hQZ34 ?hwZ34 ?hyZ34 (by assumption) ?restZ34
          case hiZ34 => (simp only [List.getElem?_toArray, List.getElem?_cons_succ, List.getElem?_cons_zero] <;> rfl)
          case hQZ34 => exact (fun _ _ _ h => h)
          case hwZ34 => rfl
          case hyZ34 => (intro w hSw; (try dsimp only at hSw); go_simp; try with_reducible rfl)
          (try simp only [Act.put, List.setIfInBounds_toArray, List.set_cons_zero, List.set_cons_succ])
          refine take_w (i := 6) (oi := ?oZ35) (v := ?vZ35) ?hiZ35 (by kernel_rfl) (by kernel_rfl) (by kernel_rfl) ?hQZ35 ?hwZ35 ?hyZ35 (by assumption) ?restZ35
          case hiZ35 => (simp only [List.getElem?_toArray, List.getElem?_cons_succ, List.getElem?_cons_zero] <;> rfl)
          case hQZ35 => exact (fun _ _ _ h => h)
          case hwZ35 => rfl
          case hyZ35 => (intro w hSw; (try dsimp only at hSw); go_simp; try with_reducible rfl)
          (try simp only [Act.put, List.setIfInBounds_toArray, List.set_cons_zero, List.set_cons_succ])
          refine take_w (i := 7) (oi := ?oZ36) (v := ?vZ36) ?hiZ36 (by kernel_rfl) (by kernel_rfl) (by kernel_rfl) ?hQZ36 ?hwZ36 ?hyZ36 (by assumption) ?restZ36
          case hiZ36 => (simp only [List.getElem?_toArray, List.getElem?_cons_succ, List.getElem?_cons_zero] <;> rfl)
          case hQZ36 => exact (fun _ _ _ h => h)
          case hwZ36 => rfl
          case hyZ36 => (intro w hSw; (try dsimp only at hSw); go_simp; try with_reducible rfl)
          (try simp only [Act.put, List.setIfInBounds_toArray, List.set_cons_zero, List.set_cons_succ])
          refine take_w (i := 8) (oi := ?oZ37) (v := ?vZ37) ?hiZ37 (by kernel_rfl) (by kernel_rfl) (by kernel_rfl) ?hQZ37 ?hwZ37 ?hyZ37 (by assumption) ?restZ37
          case hiZ37 => (simp only [List.getElem?_toArray, List.getElem?_cons_succ, List.getElem?_cons_zero] <;> rfl)
          case hQZ37 => exact (fun _ _ _ h => h)
          case hwZ37 => rfl
          case hyZ37 => (intro w hSw; (try dsimp only at hSw); go_simp; try with_reducible rfl)
          (try simp only [Act.put, List.setIfInBounds_toArray, List.set_cons_zero, List.set_cons_succ])
          refine take_w (i := 9) (oi := ?oZ38) (v := ?vZ38) ?hiZ38 (by kernel_rfl) (by kernel_rfl) (by kernel_rfl) ?hQZ38 ?hwZ38 ?hyZ38 (by assumption) ?restZ38
          case hiZ38 => (simp only [List.getElem?_toArray, List.getElem?_cons_succ, List.getElem?_cons_zero] <;> rfl)
          case hQZ38 => exact (fun _ _ _ h => h)
          case hwZ38 => rfl
          case hyZ38 => (intro w hSw; (try dsimp only at hSw); go_simp; try with_reducible rfl)
          (try simp only [Act.put, List.setIfInBounds_toArray, List.set_cons_zero, List.set_cons_succ])
          refine take_w (i := 10) (oi := ?oZ39) (v := ?vZ39) ?hiZ39 (by kernel_rfl) (by kernel_rfl) (by kernel_rfl) ?hQZ39 ?hwZ39 ?hyZ39 (by assumption) ?restZ39
          case hiZ39 => (simp only [List.getElem?_toArray, List.getElem?_cons_succ, List.getElem?_cons_zero] <;> rfl)
          case hQZ39 => exact (fun _ _ _ h => h)
          case hwZ39 => rfl
          case hyZ39 => (intro w hSw; (try dsimp only at hSw); go_simp; try with_reducible rfl)
          (try simp only [Act.put, List.setIfInBounds_toArray, List.set_cons_zero, List.set_cons_succ])
          refine take_w (i := 11) (oi := ?oZ40) (v := ?vZ40) ?hiZ40 (by kernel_rfl) (by kernel_rfl) (by kernel_rfl) ?hQZ40 ?hwZ40 ?hyZ40 (by assumption) ?restZ40
          case hiZ40 => (simp only [List.getElem?_toArray, List.getElem?_cons_succ, List.getElem?_cons_zero] <;> rfl)
          case hQZ40 => exact (fun _ _ _ h => h)
          case hwZ40 => rfl
          case hyZ40 => (intro w hSw; (try dsimp only at hSw); go_simp; try with_reducible rfl)
          (try simp only [Act.put, List.setIfInBounds_toArray, List.set_cons_zero, List.set_cons_succ])
          refine take_w (i := 12) (oi := ?oZ41) (v := ?vZ41) ?hiZ41 (by kernel_rfl) (by kernel_rfl) (by kernel_rfl) ?hQZ41 ?hwZ41 ?hyZ41 (by assumption) ?restZ41
          case hiZ41 => (simp only [List.getElem?_toArray, List.getElem?_cons_succ, List.getElem?_cons_zero] <;> rfl)
          case hQZ41 => exact (fun _ _ _ h => h)
          case hwZ41 => rfl
          case hyZ41 => (intro w hSw; (try dsimp only at hSw); go_simp; try with_reducible rfl)
          (try simp only [Act.put, List.setIfInBounds_toArray, List.set_cons_zero, List.set_cons_succ])
          refine take_w (i := 13) (oi := ?oZ42) (v := ?vZ42) ?hiZ42 (by kernel_rfl) (by kernel_rfl) (by kernel_rfl) ?hQZ42 ?hwZ42 ?hyZ42 (by assumption) ?restZ42
          case hiZ42 => (simp only [List.getElem?_toArray, List.getElem?_cons_succ, List.getElem?_cons_zero] <;> rfl)
          case hQZ42 => exact (fun _ _ _ h => h)
          case hwZ42 => rfl
          case hyZ42 => (intro w hSw; (try dsimp only at hSw); go_simp; try with_reducible rfl)
          (try simp only [Act.put, List.setIfInBounds_toArray, List.set_cons_zero, List.set_cons_succ])
          refine take_w (i := 14) (oi := ?oZ43) (v := ?vZ43) ?hiZ43 (by kernel_rfl) (by kernel_rfl) (by kernel_rfl) ?hQZ43 ?hwZ43 ?hyZ43 (by assumption) ?restZ43
          case hiZ43 => (simp only [List.getElem?_toArray, List.getElem?_cons_succ, List.getElem?_cons_zero] <;> rfl)
          case hQZ43 => exact (fun _ _ _ h => h)
          case hwZ43 => rfl
          case hyZ43 => (intro w hSw; (try dsimp only at hSw); go_simp; try with_reducible rfl)
          (try simp only [Act.put, List.setIfInBounds_toArray, List.set_cons_zero, List.set_cons_succ])
          refine take_w (i := 15) (oi := ?oZ44) (v := ?vZ44) ?hiZ44 (by kernel_rfl) (by kernel_rfl) (by kernel_rfl) ?hQZ44 ?hwZ44 ?hyZ44 (by assumption) ?restZ44
          case hiZ44 => (simp only [List.getElem?_toArray, List.getElem?_cons_succ, List.getElem?_cons_zero] <;> rfl)
          case hQZ44 => exact (fun _ _ _ h => h)
          case hwZ44 => rfl
          case hyZ44 => (intro w hSw; (try dsimp only at hSw); go_simp; try with_reducible rfl)
          (try simp only [Act.put, List.setIfInBounds_toArray, List.set_cons_zero, List.set_cons_succ])
          refine take_w (i := 16) (oi := ?oZ45) (v := ?vZ45) ?hiZ45 (by kernel_rfl) (by kernel_rfl) (by kernel_rfl) ?hQZ45 ?hwZ45 ?hyZ45 (by assumption) ?restZ45
          case hiZ45 => (simp only [List.getElem?_toArray, List.getElem?_cons_succ, List.getElem?_cons_zero] <;> rfl)
          case hQZ45 => exact (fun _ _ _ h => h)
          case hwZ45 => rfl
          case hyZ45 => (intro w hSw; (try dsimp only at hSw); go_simp; try with_reducible rfl)
          (try simp only [Act.put, List.setIfInBounds_toArray, List.set_cons_zero, List.set_cons_succ])
          refine take_w (i := 17) (oi := ?oZ46) (v := ?vZ46) ?hiZ46 (by kernel_rfl) (by kernel_rfl) (by kernel_rfl) ?hQZ46 ?hwZ46 ?hyZ46 (by assumption) ?restZ46
          case hiZ46 => (simp only [List.getElem?_toArray, List.getElem?_cons_succ, List.getElem?_cons_zero] <;> rfl)
          case hQZ46 => exact (fun _ _ _ h => h)
          case hwZ46 => rfl
          case hyZ46 => (intro w hSw; (try dsimp only at hSw); go_simp; try with_reducible rfl)
          (try simp only [Act.put, List.setIfInBounds_toArray, List.set_cons_zero, List.set_cons_succ])
          refine take_w (i := 18) (oi := ?oZ47) (v := ?vZ47) ?hiZ47 (by kernel_rfl) (by kernel_rfl) (by kernel_rfl) ?hQZ47 ?hwZ47 ?hyZ47 (by assumption) ?restZ47
          case hiZ47 => (simp only [List.getElem?_toArray, List.getElem?_cons_succ, List.getElem?_cons_zero] <;> rfl)
          case hQZ47 => exact (fun _ _ _ h => h)
          case hwZ47 => rfl
          case hyZ47 => (intro w hSw; (try dsimp only at hSw); go_simp; try with_reducible rfl)
          (try simp only [Act.put, List.setIfInBounds_toArray, List.set_cons_zero, List.set_cons_succ])
          refine take_w (i := 19) (oi := ?oZ48) (v := ?vZ48) ?hiZ48 (by kernel_rfl) (by kernel_rfl) (by kernel_rfl) ?hQZ48 ?hwZ48 ?hyZ48 (by assumption) ?restZ48
          case hiZ48 => (simp only [List.getElem?_toArray, List.getElem?_cons_succ, List.getElem?_cons_zero] <;> rfl)
          case hQZ48 => exact (fun _ _ _ h => h)
          case hwZ48 => rfl
          case hyZ48 => (intro w hSw; (try dsimp only at hSw); go_simp; try with_reducible rfl)
          (try simp only [Act.put, List.setIfInBounds_toArray, List.set_cons_zero, List.set_cons_succ])
          refine take_w (i := 20) (oi := ?oZ49) (v := ?vZ49) ?hiZ49 (by kernel_rfl) (by kernel_rfl) (by kernel_rfl) ?hQZ49 ?hwZ49 ?hyZ49 (by assumption) ?restZ49
          case hiZ49 => (simp only [List.getElem?_toArray, List.getElem?_cons_succ, List.getElem?_cons_zero] <;> rfl)
          case hQZ49 => exact (fun _ _ _ h => h)
          case hwZ49 => rfl
          case hyZ49 => (intro w hSw; (try dsimp only at hSw); go_simp; try with_reducible rfl)
          (try simp only [Act.put, List.setIfInBounds_toArray, List.set_cons_zero, List.set_cons_succ])
          refine take_w (i := 21) (oi := ?oZ50) (v := ?vZ50) ?hiZ50 (by kernel_rfl) (by kernel_rfl) (by kernel_rfl) ?hQZ50 ?hwZ50 ?hyZ50 (by assumption) ?restZ50
          case hiZ50 => (simp only [List.getElem?_toArray, List.getElem?_cons_succ, List.getElem?_cons_zero] <;> rfl)
          case hQZ50 => exact (fun _ _ _ h => h)
          case hwZ50 => rfl
          case hyZ50 => (intro w hSw; (try dsimp only at hSw); go_simp; try with_reducible rfl)
          (try simp only [Act.put, List.setIfInBounds_toArray, List.set_cons_zero, List.set_cons_succ])
          refine take_w (i := 22) (oi := ?oZ51) (v := ?vZ51) ?hiZ51 (by kernel_rfl) (by kernel_rfl) (by kernel_rfl) ?hQZ51 ?hwZ51 ?hyZ51 (by assumption) ?restZ51
          case hiZ51 => (simp only [List.getElem?_toArray, List.getElem?_cons_succ, List.getElem?_cons_zero] <;> rfl)
          case hQZ51 => exact (fun _ _ _ h => h)
          case hwZ51 => rfl
          case hyZ51 => (intro w hSw; (try dsimp only at hSw); go_simp; try with_reducible rfl)
          (try simp only [Act.put, List.setIfInBounds_toArray, List.set_cons_zero, List.set_cons_succ])
          refine take_w (i := 23) (oi := ?oZ52) (v := ?vZ52) ?hiZ52 (by kernel_rfl) (by kernel_rfl) (by kernel_rfl) ?hQZ52 ?hwZ52 ?hyZ52 (by assumption) ?restZ52
          case hiZ52 => (simp only [List.getElem?_toArray, List.getElem?_cons_succ, List.getElem?_cons_zero] <;> rfl)
          case hQZ52 => exact (fun _ _ _ h => h)
          case hwZ52 => rfl
          case hyZ52 => (intro w hSw; (try dsimp only at hSw); go_simp; try with_reducible rfl)
          (try simp only [Act.put, List.setIfInBounds_toArray, List.set_cons_zero, List.set_cons_succ])
          refine take_w (i := 24) (oi := ?oZ53) (v := ?vZ53) ?hiZ53 (by kernel_rfl) (by kernel_rfl) (by kernel_rfl) ?hQZ53 ?hwZ53 ?hyZ53 (by assumption) ?restZ53
          case hiZ53 => (simp only [List.getElem?_toArray, List.getElem?_cons_succ, List.getElem?_cons_zero] <;> rfl)
          case hQZ53 => exact (fun _ _ _ h => h)
          case hwZ53 => rfl
          case hyZ53 => (intro w hSw; (try dsimp only at hSw); go_simp; try with_reducible rfl)
          (try simp only [Act.put, List.setIfInBounds_toArray, List.set_cons_zero, List.set_cons_succ])
          refine take_w (i := 25) (oi := ?oZ54) (v := ?vZ54) ?hiZ54 (by kernel_rfl) (by kernel_rfl) (by kernel_rfl) ?hQZ54 ?hwZ54 ?hyZ54 (by assumption) ?restZ54
          case hiZ54 => (simp only [List.getElem?_toArray, List.getElem?_cons_succ, List.getElem?_cons_zero] <;> rfl)
          case hQZ54 => exact (fun _ _ _ h => h)
          case hwZ54 => rfl
          case hyZ54 => (intro w hSw; (try dsimp only at hSw); go_simp; try with_reducible rfl)
          (try simp only [Act.put, List.setIfInBounds_toArray, List.set_cons_zero, List.set_cons_succ])
          refine take_w (i := 26) (oi := ?oZ55) (v := ?vZ55) ?hiZ55 (by kernel_rfl) (by kernel_rfl) (by kernel_rfl) ?hQZ55 ?hwZ55 ?hyZ55 (by assumption) ?restZ55
          case hiZ55 => (simp only [List.getElem?_toArray, List.getElem?_cons_succ, List.getElem?_cons_zero] <;> rfl)
          case hQZ55 => exact (fun _ _ _ h => h)
          case hwZ55 => rfl
          case hyZ55 => (intro w hSw; (try dsimp only at hSw); go_simp; try with_reducible rfl)
          (try simp only [Act.put, List.setIfInBounds_toArray, List.set_cons_zero, List.set_cons_succ])
          refine take_w (i := 27) (oi := ?oZ56) (v := ?vZ56) ?hiZ56 (by kernel_rfl) (by kernel_rfl) (by kernel_rfl) ?hQZ56 ?hwZ56 ?hyZ56 (by assumption) ?restZ56
          case hiZ56 => (simp only [List.getElem?_toArray, List.getElem?_cons_succ, List.getElem?_cons_zero] <;> rfl)
          case hQZ56 => exact (fun _ _ _ h => h)
          case hwZ56 => rfl
          case hyZ56 => (intro w hSw; (try dsimp only at hSw); go_simp; try with_reducible rfl)
          (try simp only [Act.put, List.setIfInBounds_toArray, List.set_cons_zero, List.set_cons_succ])
          refine wpAnyH_done (by kernel_rfl) ?_ _
          clear hHeld
          clear HS6
          go_wp2_with fail
          go_ret
          exact ⟨false, rfl, ⟨fun q => (by cases q), fun q => (by
            subst q
            have q2 := HV.out
            simp at q2)⟩, HBD.out⟩
        | true =>
          have HV := Lib.hid hv
          rw [hv] at hse2
          clear hv
          go_upto_region 6 with fail
          refine wp_region_held_drew (S := (fun W => W.cell? ⟨g, off + i * 2, none⟩ = some (.slice (D i).ka (D i).kn (D i).kc) ∧ W.cell? ⟨g, off + i * 2 + 1, none⟩ = some (.slice (D i).va (D i).vn (D i).vc) ∧ W.cell? ⟨g', off' + i * 2, none⟩ = some (.slice (D' i).ka (D' i).kn (D' i).kc) ∧ W.cell? ⟨g', off' + i * 2 + 1, none⟩ = some (.slice (D' i).va (D' i).vn (D' i).vc) ∧ (convert 22 9 (.slice (D i).ka (D i).kn (D i).kc)).run Tryd.prog W = .ok (.string (strOfNums (kvs[i]).1)) W ∧ (convert 22 9 (.slice (D' i).ka (D' i).kn (D' i).kc)).run Tryd.prog W = .ok (.string (strOfNums (kvs'[i]).1)) W ∧ (convert 22 9 (.slice (D i).va (D i).vn (D i).vc)).run Tryd.prog W = .ok (.string (strOfNums (kvs[i]).2)) W ∧ (convert 22 9 (.slice (D' i).va (D' i).vn (D' i).vc)).run Tryd.prog W = .ok (.string (strOfNums (kvs'[i]).2)) W)) (by kernel_rfl) HS6.out (fun hHeld => ?_)
          refine take_w (i := 0) (oi := ?oZ57) (v := ?vZ57) ?hiZ57 (by kernel_rfl) (by kernel_rfl) (by kernel_rfl) ?hQZ57 ?hwZ57 ?hyZ57 (by assumption) ?restZ57
          case hiZ57 => (simp only [List.getElem?_toArray, List.getElem?_cons_zero] <;> rfl)
          case hQZ57 => exact (fun _ _ _ h => h)
          case hwZ57 => rfl
          case hyZ57 => (intro w hSw; (try dsimp only at hSw); go_simp; try with_reducible rfl)
          (try simp only [Act.put, List.setIfInBounds_toArray, List.set_cons_zero, List.set_cons_succ])
          refine take_w (i := 1) (oi := ?oZ58) (v := ?vZ58) ?hiZ58 (by kernel_rfl) (by kernel_rfl) (by kernel_rfl) ?hQZ58 ?hwZ58 ?hyZ58 (by assumption) ?restZ58
          case hiZ58 => (simp only [List.getElem?_toArray, List.getElem?_cons_succ, List.getElem?_cons_zero] <;> rfl)
          case hQZ58 => exact (fun _ _ _ h => h)
          case hwZ58 => rfl
          case hyZ58 => (intro w hSw; (try dsimp only at hSw); go_simp; try with_reducible rfl)
          (try simp only [Act.put, List.setIfInBounds_toArray, List.set_cons_zero, List.set_cons_succ])
          refine take_w (i := 2) (oi := ?oZ59) (v := ?vZ59) ?hiZ59 (by kernel_rfl) (by kernel_rfl) (by kernel_rfl) ?hQZ59 ?hwZ59 ?hyZ59 (by assumption) ?restZ59
          case hiZ59 => (simp only [List.getElem?_toArray, List.getElem?_cons_succ, List.getElem?_cons_zero] <;> rfl)
          case hQZ59 => exact (fun _ _ _ h => h)
          case hwZ59 => rfl
          case hyZ59 => (intro w hSw; (try dsimp only at hSw); go_simp; try with_reducible rfl)
          (try simp only [Act.put, List.setIfInBounds_toArray, List.set_cons_zero, List.set_cons_succ])
          refine take_w (i := 3) (oi := ?oZ60) (v := ?vZ60) ?hiZ60 (by kernel_rfl) (by kernel_rfl) (by kernel_rfl) ?hQZ60 ?hwZ60 ?hyZ60 (by assumption) ?restZ60
          case hiZ60 => (simp only [List.getElem?_toArray, List.getElem?_cons_succ, List.getElem?_cons_zero] <;> rfl)
          case hQZ60 => exact (fun _ _ _ h => h)
          case hwZ60 => rfl
          case hyZ60 => (intro w hSw; (try dsimp only at hSw); go_simp; try with_reducible rfl)
          (try simp only [Act.put, List.setIfInBounds_toArray, List.set_cons_zero, List.set_cons_succ])
          refine take_w (i := 4) (oi := ?oZ61) (v := ?vZ61) ?hiZ61 (by kernel_rfl) (by kernel_rfl) (by kernel_rfl) ?hQZ61 ?hwZ61 ?hyZ61 (by assumption) ?restZ61
          case hiZ61 => (simp only [List.getElem?_toArray, List.getElem?_cons_succ, List.getElem?_cons_zero] <;> rfl)
          case hQZ61 => exact (fun _ _ _ h => h)
          case hwZ61 => rfl
          case hyZ61 => (intro w hSw; (try dsimp only at hSw); go_simp; try with_reducible rfl)
          (try simp only [Act.put, List.setIfInBounds_toArray, List.set_cons_zero, List.set_cons_succ])
          refine take_w (i := 5) (oi := ?oZ62) (v := ?vZ62) ?hiZ62 (by kernel_rfl) (by kernel_rfl) (by kernel_rfl) ?hQZ62 ?hwZ62 ?hyZ62 (by assumption) ?restZ62
          case hiZ62 => (simp only [List.getElem?_toArray, List.getElem?_cons_succ, List.getElem?_cons_zero] <;> rfl)
          case hQZ62 => exact (fun _ _ _ h => h)
          case hwZ62 => rfl
          case hyZ62 => (intro w hSw; (try dsimp only at hSw); go_simp; try with_reducible rfl)
          (try simp only [Act.put, List.setIfInBounds_toArray, List.set_cons_zero, List.set_cons_succ])
          refine take_w (i := 6) (oi := ?oZ63) (v := ?vZ63) ?hiZ63 (by kernel_rfl) (by kernel_rfl) (by kernel_rfl) ?hQZ63 ?hwZ63 ?hyZ63 (by assumption) ?restZ63
          case hiZ63 => (simp only [List.getElem?_toArray, List.getElem?_cons_succ, List.getElem?_cons_zero] <;> rfl)
          case hQZ63 => exact (fun _ _ _ h => h)
          case hwZ63 => rfl
          case hyZ63 => (intro w hSw; (try dsimp only at hSw); go_simp; try with_reducible rfl)
          (try simp only [Act.put, List.setIfInBounds_toArray, List.set_cons_zero, List.set_cons_succ])
          refine take_w (i := 7) (oi := ?oZ64) (v := ?vZ64) ?hiZ64 (by kernel_rfl) (by kernel_rfl) (by kernel_rfl) ?hQZ64 ?hwZ64 ?hyZ64 (by assumption) ?restZ64
          case hiZ64 => (simp only [List.getElem?_toArray, List.getElem?_cons_succ, List.getElem?_cons_zero] <;> rfl)
          case hQZ64 => exact (fun _ _ _ h => h)
          case hwZ64 => rfl
          case hyZ64 => (intro w hSw; (try dsimp only at hSw); go_simp; try with_reducible rfl)
          (try simp only [Act.put, List.setIfInBounds_toArray, List.set_cons_zero, List.set_cons_succ])
          refine take_w (i := 8) (oi := ?oZ65) (v := ?vZ65) ?hiZ65 (by kernel_rfl) (by kernel_rfl) (by kernel_rfl) ?hQZ65 ?hwZ65 ?hyZ65 (by assumption) ?restZ65
          case hiZ65 => (simp only [List.getElem?_toArray, List.getElem?_cons_succ, List.getElem?_cons_zero] <;> rfl)
          case hQZ65 => exact (fun _ _ _ h => h)
          case hwZ65 => rfl
          case hyZ65 => (intro w hSw; (try dsimp only at hSw); go_simp; try with_reducible rfl)
          (try simp only [Act.put, List.setIfInBounds_toArray, List.set_cons_zero, List.set_cons_succ])
          refine take_w (i := 9) (oi := ?oZ66) (v := ?vZ66) ?hiZ66 (by kernel_rfl) (by kernel_rfl) (by kernel_rfl) ?hQZ66 ?hwZ66 ?hyZ66 (by assumption) ?restZ66
          case hiZ66 => (simp only [List.getElem?_toArray, List.getElem?_cons_succ, List.getElem?_cons_zero] <;> rfl)
          case hQZ66 => exact (fun _ _ _ h => h)
          case hwZ66 => rfl
          case hyZ66 => (intro w hSw; (try dsimp only at hSw); go_simp; try with_reducible rfl)
          (try simp only [Act.put, List.setIfInBounds_toArray, List.set_cons_zero, List.set_cons_succ])
          refine take_w (i := 10) (oi := ?oZ67) (v := ?vZ67) ?hiZ67 (by kernel_rfl) (by kernel_rfl) (by kernel_rfl) ?hQZ67 ?hwZ67 ?hyZ67 (by assumption) ?restZ67
          case hiZ67 => (simp only [List.getElem?_toArray, List.getElem?_cons_succ, List.getElem?_cons_zero] <;> rfl)
          case hQZ67 => exact (fun _ _ _ h => h)
          case hwZ67 => rfl
          case hyZ67 => (intro w hSw; (try dsimp only at hSw); go_simp; try with_reducible rfl)
          (try simp only [Act.put, List.setIfInBounds_toArray, List.set_cons_zero, List.set_cons_succ])
          refine take_w (i := 11) (oi := ?oZ68) (v := ?vZ68) ?hiZ68 (by kernel_rfl) (by kernel_rfl) (by kernel_rfl) ?hQZ68 ?hwZ68 ?hyZ68 (by assumption) ?restZ68
          case hiZ68 => (simp only [List.getElem?_toArray, List.getElem?_cons_succ, List.getElem?_cons_zero] <;> rfl)
          case hQZ68 => exact (fun _ _ _ h => h)
          case hwZ68 => rfl
          case hyZ68 => (intro w hSw; (try dsimp only at hSw); go_simp; try with_reducible rfl)
          (try simp only [Act.put, List.setIfInBounds_toArray, List.set_cons_zero, List.set_cons_succ])
          refine take_w (i := 12) (oi := ?oZ69) (v := ?vZ69) ?hiZ69 (by kernel_rfl) (by kernel_rfl) (by kernel_rfl) ?hQZ69 ?hwZ69 ?hyZ69 (by assumption) ?restZ69
          case hiZ69 => (simp only [List.getElem?_toArray, List.getElem?_cons_succ, List.getElem?_cons_zero] <;> rfl)
          case hQZ69 => exact (fun _ _ _ h => h)
          case hwZ69 => rfl
          case hyZ69 => (intro w hSw; (try dsimp only at hSw); go_simp; try with_reducible rfl)
          (try simp only [Act.put, List.setIfInBounds_toArray, List.set_cons_zero, List.set_cons_succ])
          refine take_w (i := 13) (oi := ?oZ70) (v := ?vZ70) ?hiZ70 (by kernel_rfl) (by kernel_rfl) (by kernel_rfl) ?hQZ70 ?hwZ70 ?hyZ70 (by assumption) ?restZ70
          case hiZ70 => (simp only [List.getElem?_toArray, List.getElem?_cons_succ, List.getElem?_cons_zero] <;> rfl)
          case hQZ70 => exact (fun _ _ _ h => h)
          case hwZ70 => rfl
          case hyZ70 => (intro w hSw; (try dsimp only at hSw); go_simp; try with_reducible rfl)
          (try simp only [Act.put, List.setIfInBounds_toArray, List.set_cons_zero, List.set_cons_succ])
          refine take_w (i := 14) (oi := ?oZ71) (v := ?vZ71) ?hiZ71 (by kernel_rfl) (by kernel_rfl) (by kernel_rfl) ?hQZ71 ?hwZ71 ?hyZ71 (by assumption) ?restZ71
          case hiZ71 => (simp only [List.getElem?_toArray, List.getElem?_cons_succ, List.getElem?_cons_zero] <;> rfl)
          case hQZ71 => exact (fun _ _ _ h => h)
          case hwZ71 => rfl
          case hyZ71 => (intro w hSw; (try dsimp only at hSw); go_simp; try with_reducible rfl)
          (try simp only [Act.put, List.setIfInBounds_toArray, List.set_cons_zero, List.set_cons_succ])
          refine take_w (i := 15) (oi := ?oZ72) (v := ?vZ72) ?hiZ72 (by kernel_rfl) (by kernel_rfl) (by kernel_rfl) ?hQZ72 ?hwZ72 ?hyZ72 (by assumption) ?restZ72
          case hiZ72 => (simp only [List.getElem?_toArray, List.getElem?_cons_succ, List.getElem?_cons_zero] <;> rfl)
          case hQZ72 => exact (fun _ _ _ h => h)
          case hwZ72 => rfl
          case hyZ72 => (intro w hSw; (try dsimp only at hSw); go_simp; try with_reducible rfl)
          (try simp only [Act.put, List.setIfInBounds_toArray, List.set_cons_zero, List.set_cons_succ])
          refine take_w (i := 16) (oi := ?oZ73) (v := ?vZ73) ?hiZ73 (by kernel_rfl) (by kernel_rfl) (by kernel_rfl) ?hQZ73 ?hwZ73 ?hyZ73 (by assumption) ?restZ73
          case hiZ73 => (simp only [List.getElem?_toArray, List.getElem?_cons_succ, List.getElem?_cons_zero] <;> rfl)
          case hQZ73 => exact (fun _ _ _ h => h)
          case hwZ73 => rfl
          case hyZ73 => (intro w hSw; (try dsimp only at hSw); go_simp; try with_reducible rfl)
          (try simp only [Act.put, List.setIfInBounds_toArray, List.set_cons_zero, List.set_cons_succ])
          refine take_w (i := 17) (oi := ?oZ74) (v := ?vZ74) ?hiZ74 (by kernel_rfl) (by kernel_rfl) (by kernel_rfl) ?hQZ74 ?hwZ74 ?hyZ74 (by assumption) ?restZ74
          case hiZ74 => (simp only [List.getElem?_toArray, List.getElem?_cons_succ, List.getElem?_cons_zero] <;> rfl)
          case hQZ74 => exact (fun _ _ _ h => h)
          case hwZ74 => rfl
          case hyZ74 => (intro w hSw; (try dsimp only at hSw); go_simp; try with_reducible rfl)
          (try simp only [Act.put, List.setIfInBounds_toArray, List.set_cons_zero, List.set_cons_succ])
          refine take_w (i := 18) (oi := ?oZ75) (v := ?vZ75) ?hiZ75 (by kernel_rfl) (by kernel_rfl) (by kernel_rfl) ?hQZ75 ?hwZ75 ?hyZ75 (by assumption) ?restZ75
          case hiZ75 => (simp only [List.getElem?_toArray, List.getElem?_cons_succ, List.getElem?_cons_zero] <;> rfl)
          case hQZ75 => exact (fun _ _ _ h => h)
          case hwZ75 => rfl
          case hyZ75 => (intro w hSw; (try dsimp only at hSw); go_simp; try with_reducible rfl)
          (try simp only [Act.put, List.setIfInBounds_toArray, List.set_cons_zero, List.set_cons_succ])
          refine take_w (i := 19) (oi := ?oZ76) (v := ?vZ76) ?hiZ76 (by kernel_rfl) (by kernel_rfl) (by kernel_rfl) ?hQZ76 ?hwZ76 ?hyZ76 (by assumption) ?restZ76
          case hiZ76 => (simp only [List.getElem?_toArray, List.getElem?_cons_succ, List.getElem?_cons_zero] <;> rfl)
          case hQZ76 => exact (fun _ _ _ h => h)
          case hwZ76 => rfl
          case hyZ76 => (intro w hSw; (try dsimp only at hSw); go_simp; try with_reducible rfl)
          (try simp only [Act.put, List.setIfInBounds_toArray, List.set_cons_zero, List.set_cons_succ])
          refine take_w (i := 20) (oi := ?oZ77) (v := ?vZ77) ?hiZ77 (by kernel_rfl) (by kernel_rfl) (by kernel_rfl) ?hQZ77 ?hwZ77 ?hyZ77 (by assumption) ?restZ77
          case hiZ77 => (simp only [List.getElem?_toArray, List.getElem?_cons_succ, List.getElem?_cons_zero] <;> rfl)
          case hQZ77 => exact (fun _ _ _ h => h)
          case hwZ77 => rfl
          case hyZ77 => (intro w hSw; (try dsimp only at hSw); go_simp; try with_reducible rfl)
          (try simp only [Act.put, List.setIfInBounds_toArray, List.set_cons_zero, List.set_cons_succ])
          refine take_w (i := 21) (oi := ?oZ78) (v := ?vZ78) ?hiZ78 (by kernel_rfl) (by kernel_rfl) (by kernel_rfl) ?hQZ78 ?hwZ78 ?hyZ78 (by assumption) ?restZ78
          case hiZ78 => (simp only [List.getElem?_toArray, List.getElem?_cons_succ, List.getElem?_cons_zero] <;> rfl)
          case hQZ78 => exact (fun _ _ _ h => h)
          case hwZ78 => rfl
          case hyZ78 => (intro w hSw; (try dsimp only at hSw); go_simp; try with_reducible rfl)
          (try simp only [Act.put, List.setIfInBounds_toArray, List.set_cons_zero, List.set_cons_succ])
          refine take_w (i := 22) (oi := ?oZ79) (v := ?vZ79) ?hiZ79 (by kernel_rfl) (by kernel_rfl) (by kernel_rfl) ?hQZ79 ?hwZ79 ?hyZ79 (by assumption) ?restZ79
          case hiZ79 => (simp only [List.getElem?_toArray, List.getElem?_cons_succ, List.getElem?_cons_zero] <;> rfl)
          case hQZ79 => exact (fun _ _ _ h => h)
          case hwZ79 => rfl
          case hyZ79 => (intro w hSw; (try dsimp only at hSw); go_simp; try with_reducible rfl)
          (try simp only [Act.put, List.setIfInBounds_toArray, List.set_cons_zero, List.set_cons_succ])
          refine take_w (i := 23) (oi := ?oZ80) (v := ?vZ80) ?hiZ80 (by kernel_rfl) (by kernel_rfl) (by kernel_rfl) ?hQZ80 ?hwZ80 ?hyZ80 (by assumption) ?restZ80
          case hiZ80 => (simp only [List.getElem?_toArray, List.getElem?_cons_succ, List.getElem?_cons_zero] <;> rfl)
          case hQZ80 => exact (fun _ _ _ h => h)
          case hwZ80 => rfl
          case hyZ80 => (intro w hSw; (try dsimp only at hSw); go_simp; try with_reducible rfl)
          (try simp only [Act.put, List.setIfInBounds_toArray, List.set_cons_zero, List.set_cons_succ])
          refine take_w (i := 24) (oi := ?oZ81) (v := ?vZ81) ?hiZ81 (by kernel_rfl) (by kernel_rfl) (by kernel_rfl) ?hQZ81 ?hwZ81 ?hyZ81 (by assumption) ?restZ81
          case hiZ81 => (simp only [List.getElem?_toArray, List.getElem?_cons_succ, List.getElem?_cons_zero] <;> rfl)
          case hQZ81 => exact (fun _ _ _ h => h)
          case hwZ81 => rfl
          case hyZ81 => (intro w hSw; (try dsimp only at hSw); go_simp; try with_reducible rfl)
          (try simp only [Act.put, List.setIfInBounds_toArray, List.set_cons_zero, List.set_cons_succ])
          refine take_w (i := 25) (oi := ?oZ82) (v := ?vZ82) ?hiZ82 (by kernel_rfl) (by kernel_rfl) (by kernel_rfl) ?hQZ82 ?hwZ82 ?hyZ82 (by assumption) ?restZ82
          case hiZ82 => (simp only [List.getElem?_toArray, List.getElem?_cons_succ, List.getElem?_cons_zero] <;> rfl)
          case hQZ82 => exact (fun _ _ _ h => h)
          case hwZ82 => rfl
          case hyZ82 => (intro w hSw; (try dsimp only at hSw); go_simp; try with_reducible rfl)
          (try simp only [Act.put, List.setIfInBounds_toArray, List.set_cons_zero, List.set_cons_succ])
          refine take_w (i := 26) (oi := ?oZ83) (v := ?vZ83) ?hiZ83 (by kernel_rfl) (by kernel_rfl) (by kernel_rfl) ?hQZ83 ?hwZ83 ?hyZ83 (by assumption) ?restZ83
          case hiZ83 => (simp only [List.getElem?_toArray, List.getElem?_cons_succ, List.getElem?_cons_zero] <;> rfl)
          case hQZ83 => exact (fun _ _ _ h => h)
          case hwZ83 => rfl
          case hyZ83 => (intro w hSw; (try dsimp only at hSw); go_simp; try with_reducible rfl)
          (try simp only [Act.put, List.setIfInBounds_toArray, List.set_cons_zero, List.set_cons_succ])
          refine take_w (i := 27) (oi := ?oZ84) (v := ?vZ84) ?hiZ84 (by kernel_rfl) (by kernel_rfl) (by kernel_rfl) ?hQZ84 ?hwZ84 ?hyZ84 (by assumption) ?restZ84
          case hiZ84 => (simp only [List.getElem?_toArray, List.getElem?_cons_succ, List.getElem?_cons_zero] <;> rfl)
          case hQZ84 => exact (fun _ _ _ h => h)
          case hwZ84 => rfl
          case hyZ84 => (intro w hSw; (try dsimp only at hSw); go_simp; try with_reducible rfl)
          (try simp only [Act.put, List.setIfInBounds_toArray, List.set_cons_zero, List.set_cons_succ])
          refine wpAnyH_done (by kernel_rfl) ?_ _
          clear hHeld
          clear HS6
          go_wp2_with fail
          exact ⟨⟨i + 1, by omega, by go_num, HBD.out, fun j h1 h2 hj => by
            by_cases e : j = i
            · subst e
              exact Prod.ext (by simpa using HK.out) (by simpa using HV.out)
            · exact HALL.out j h1 h2 (by omega)⟩, by simp [intOf]; omega⟩
    · obtain rfl : i = n := by omega
      have q1 : ¬ (i : Int) < (i : Int) := by omega
      go_wp2_with fail
      go_ret
      exact ⟨true, rfl, ⟨fun _ => List.ext_getElem (by rw [← HN.out.1, ← HN.out.2]) (fun j h1 h2 => HALL.out j h1 h2 (by rw [HN.out.1]; exact h1)), fun _ => rfl⟩, hb⟩
end Go.Proofs.YtioifkbkllnkgaaDoor

/- The walk of the law ClashProves. -/
namespace Go.Proofs.YtioifkbkllnkgaaDoor
open Go.RowKit
set_option linter.unusedVariables false

/-- A span's box and two trees' boxes. -/
structure TP9 (w W : World) (sp : DH) (f tt : List Int) (h h2 : TH) (p q : Tr) : Prop where
  sb : RBox recD W 49 w.heap.size sp
  b1 : Box W 25 (w.heap.size + 1) h
  b2 : Box W 25 (w.heap.size + 2) h2
  t1 : InTree W h p
  t2 : InTree W h2 q
  s : SpanIn w sp f tt
  b : Below w.heap.size w W
section
variable {w W W' : World} {sp : DH} {f tt : List Int} {h h2 : TH} {p q : Tr}
theorem TP9.below (x : TP9 w W sp f tt h h2 p q) (hb : Below W.heap.size W W') : TP9 w W' sp f tt h h2 p q := ⟨x.sb.below hb x.sb.lt, x.b1.below hb x.b1.lt, x.b2.below hb x.b2.lt, x.t1.lower hb, x.t2.lower hb, x.s, x.b.trans (hb.mono x.b.size)⟩
theorem TP9.spn (x : TP9 w W sp f tt h h2 p q) : SpanIn W sp f tt := x.s.below x.b
end
theorem TP9.enter (w : World) (sp : DH) (f tt : List Int) (h h2 : TH) (p q : Tr) (hs : SpanIn w sp f tt) (ht : InTree w h p) (ht2 : InTree w h2 q) : TP9 w (((w.alloc (.cells #[.slice sp.ka sp.kn sp.kc, .slice sp.va sp.vn sp.vc, .bool sp.out] 49)).alloc (.cells #[.int .i64 h.k, .slice h.ka h.kn h.kc, .slice h.va h.vn h.vc, .slice h.da h.dn h.dc, .slice h.ta h.tn h.tc] 25)).alloc (.cells #[.int .i64 h2.k, .slice h2.ka h2.kn h2.kc, .slice h2.va h2.vn h2.vc, .slice h2.da h2.dn h2.dc, .slice h2.ta h2.tn h2.tc] 25)) sp f tt h h2 p q := by
  have q1 : Below w.heap.size w (w.alloc (.cells #[.slice sp.ka sp.kn sp.kc, .slice sp.va sp.vn sp.vc, .bool sp.out] 49)) := (Below.refl _ _).alloc (Nat.le_refl _) _
  have s1 : (w.alloc (.cells #[.slice sp.ka sp.kn sp.kc, .slice sp.va sp.vn sp.vc, .bool sp.out] 49)).heap.size = w.heap.size + 1 := by simp
  have x0 := DH.box w 49 sp
  have k := TK9.enter (w.alloc (.cells #[.slice sp.ka sp.kn sp.kc, .slice sp.va sp.vn sp.vc, .bool sp.out] 49)) h h2 p q (ht.lower q1) (ht2.lower q1)
  have e1 := k.b1
  have e2 := k.b2
  rw [s1] at e1 e2
  have q2 : Below w.heap.size w (((w.alloc (.cells #[.slice sp.ka sp.kn sp.kc, .slice sp.va sp.vn sp.vc, .bool sp.out] 49)).alloc (.cells #[.int .i64 h.k, .slice h.ka h.kn h.kc, .slice h.va h.vn h.vc, .slice h.da h.dn h.dc, .slice h.ta h.tn h.tc] 25)).alloc (.cells #[.int .i64 h2.k, .slice h2.ka h2.kn h2.kc, .slice h2.va h2.vn h2.vc, .slice h2.da h2.dn h2.dc, .slice h2.ta h2.tn h2.tc] 25)) := q1.trans (k.b.mono (by rw [s1]; omega))
  exact ⟨x0.below k.b (by rw [s1]; omega), e1, e2, k.t1, k.t2, hs, q2⟩
/-- Where unlike pairs were told, two texts are found. -/
theorem clash_found {k : Nat} (h1 : 1 ≤ k) (h2 : k ≤ 32) {root f t : List Int} {o : Bool} {p q : Tr} {hh hh2 : TH} {W : World} (tp : InTree W hh p) (tq : InTree W hh2 q) {kv kv' : List KV} (c : checkR k root f t o p = (0, kv)) (c' : checkR k root f t o q = (0, kv')) (hne : kv ≠ kv') : ∃ s, Found k p q k s := by
  obtain ⟨c1, d1, -, -⟩ := check_taken c
  obtain ⟨c2, d2, -, -⟩ := check_taken c'
  have fp := (check_zeroR c1).1
  have fq := (check_zeroR c2).1
  have keys : ∀ (P : PT) (hh : TH), InTree W hh P.tr → formedT P.tr = true → ∀ x ∈ P.keysP, Bytes8 x := fun P hh tp fp x hx => by
    rw [← PT.keys_items, List.mem_map] at hx
    obtain ⟨y, hy, rfl⟩ := hx
    refine items_b8 P.tr hh W tp fp y ?_
    rw [PT.items_tr]
    exact (List.mem_filter.1 hy).1
  obtain ⟨P, rfl⟩ := PT.of p fp
  obtain ⟨Q, rfl⟩ := PT.of q fq
  cases hs : searchP k P Q with
  | none => exact absurd (clash_proves h2 fp fq (keys P hh tp fp) (keys Q hh2 tq fq) c c' hs) hne
  | some s => exact ⟨s, found_of h1 h2 fp fq (toldD_some h1 h2 c1 d1) (toldD_some h1 h2 c2 d2) (by rw [d1, d2]) hs⟩
set_option maxRecDepth 100000 in
set_option maxHeartbeats 8000000 in
theorem clashProves_law (x : Int) (sp : DH) (f tt : List Int) (p q : Tr) (h h2 : TH) (w : World) (hs : SpanIn w sp f tt) (ht : InTree w h p) (ht2 : InTree w h2 q) (hT : TabLies w) (hx1 : -9223372036854775808 ≤ x) (hx2 : x ≤ 9223372036854775807) :
    Calls Tryd.prog 5 #[.int .i64 x, sp.v, h.v, h2.v] w (Says w (.bool true)) := by
  unfold TH.v DH.v
  have HD := Lib.hid (TP9.enter w sp f tt h h2 p q hs ht ht2)
  have HT := Lib.hid hT
  clear hT ht ht2 hs
  go_enter Tryd.func5, Tryd.ntmps5
  go_upto_region 1 with fail
  generalize (((w.alloc (.cells #[.slice sp.ka sp.kn sp.kc, .slice sp.va sp.vn sp.vc, .bool sp.out] 49)).alloc (.cells #[.int .i64 h.k, .slice h.ka h.kn h.kc, .slice h.va h.vn h.vc, .slice h.da h.dn h.dc, .slice h.ta h.tn h.tc] 25)).alloc (.cells #[.int .i64 h2.k, .slice h2.ka h2.kn h2.kc, .slice h2.va h2.vn h2.vc, .slice h2.da h2.dn h2.dc, .slice h2.ta h2.tn h2.tc] 25)) = w0 at *
  go_upto_region 2 with (first
    | (go_at_call 8
       refine (up9_any _ (HT.out.below HD.out.b (Nat.le_refl _))).mono ?_
       rintro _ w1 ⟨rfl, hb1⟩
       have HD1 := Lib.hid (HD.out.below hb1)
       clear hb1))
  go_cut [31] (fun s31 wx => ∃ b : Bool, s31 = .bool b ∧ TP9 w wx sp f tt h h2 p q ∧ (b = false → countT p ≤ 200 ∧ countT q ≤ 200))
  case first =>
    obtain ⟨x0, x1, x2, x3, x4⟩ := HD1.out.b1.cells
    obtain ⟨y0, y1, y2, y3, y4⟩ := HD1.out.b2.cells
    go_wp2_with (first
      | (go_at_call 9
         have hck : ∀ W, InTree W h p → Calls Tryd.prog 9 #[.agg #[.int .i64 h.k, .slice h.ka h.kn h.kc, .slice h.va h.vn h.vc, .slice h.da h.dn h.dc, .slice h.ta h.tn h.tc]] W (fun e w' => ∃ b, e = .returned (.bool b) ∧ (b = true → LightOK p ∧ countT p ≤ 200) ∧ Below W.heap.size W w') := fun W a => small9_any p h W a
         (with_reducible refine (hck _ ?_).mono ?_)
         · exact HD1.out.t1
         rintro _ w2 ⟨s2, rfl, hok2, hb2⟩
         have HD2 := Lib.hid (HD1.out.below hb2)
         have HK2 := Lib.hid hok2
         clear hck hok2 hb2 x0 x1 x2 x3 x4 y0 y1 y2 y3 y4
         obtain ⟨y0, y1, y2, y3, y4⟩ := HD2.out.b2.cells)
      | (go_at_call 9
         have hck : ∀ W, InTree W h2 q → Calls Tryd.prog 9 #[.agg #[.int .i64 h2.k, .slice h2.ka h2.kn h2.kc, .slice h2.va h2.vn h2.vc, .slice h2.da h2.dn h2.dc, .slice h2.ta h2.tn h2.tc]] W (fun e w' => ∃ b, e = .returned (.bool b) ∧ (b = true → LightOK q ∧ countT q ≤ 200) ∧ Below W.heap.size W w') := fun W a => small9_any q h2 W a
         (with_reducible refine (hck _ ?_).mono ?_)
         · exact HD2.out.t2
         rintro _ w3 ⟨s3, rfl, hok3, hb3⟩
         have HD3 := Lib.hid (HD2.out.below hb3)
         have HK3 := Lib.hid hok3
         clear hck hok3 hb3 y0 y1 y2 y3 y4
         skip))
    · go_meet
      cases s3 with
      | true => exact ⟨false, rfl, HD3.out, fun _ => ⟨(HK2.out (by assumption)).2, (HK3.out rfl).2⟩⟩
      | false => exact ⟨true, rfl, HD3.out, fun q => (by cases q)⟩
    · go_meet
      exact ⟨true, rfl, HD2.out, fun q => (by cases q)⟩
  case rest =>
    obtain ⟨b, rfl, hd, hcc⟩ := hcut
    have HD4 := Lib.hid hd
    have HCC := Lib.hid hcc
    clear hd hcc HD1 HD
    cases b with
    | true =>
      go_wp2_with fail
      go_ret
      exact ⟨rfl, HD4.out.b⟩
    | false =>
    obtain ⟨hc1, hc2⟩ := HCC.out rfl
    clear HCC
    obtain ⟨x0, x1, x2, x3, x4⟩ := HD4.out.b1.cells
    obtain ⟨y0, y1, y2, y3, y4⟩ := HD4.out.b2.cells
    obtain ⟨z0, z1, z2⟩ := HD4.out.sb.three
    by_cases hno : ∃ k zs, DigIs x p k zs
    case neg =>
      have HNO := Lib.hid hno
      clear hno
      go_wp2_with (first
        | (go_at_call 17
           have hck : ∀ W, InTree W h p → TabLies W → Calls Tryd.prog 17 #[.int .i64 x, .agg #[.int .i64 h.k, .slice h.ka h.kn h.kc, .slice h.va h.vn h.vc, .slice h.da h.dn h.dc, .slice h.ta h.tn h.tc]] W (fun e w' => ∃ m a c, m ≠ 0 ∧ e = .returned (.tuple #[.slice a 0 c, .iface 42 (.int .i64 (m : Nat))]) ∧ Below W.heap.size W w') := fun W a b => digest_bad x p h W a b hx1 hx2 HNO.out
           (with_reducible refine (hck _ ?_ ?_).mono ?_)
           · exact HD4.out.t1
           · exact HT.out.below HD4.out.b (Nat.le_refl _)
           rintro _ w5 ⟨m5, a5, c5, hm5, rfl, hb5⟩
           have HD5 := Lib.hid (HD4.out.below hb5)
           clear hck hb5))
      go_ret
      exact ⟨rfl, HD5.out.b⟩
    obtain ⟨k, zs, his⟩ := hno
    have HIS := Lib.hid his
    obtain ⟨hxk, hk1, hk2, -, hz⟩ := his
    have HZL : Hid (zs.length = k) := Lib.hid (digT_len hk2 hz)
    subst hxk
    clear hz
    go_upto_region 7 with (first
      | (go_at_call 17
         have hck : ∀ W, InTree W h p → TabLies W → Calls Tryd.prog 17 #[.int .i64 (k : Int), .agg #[.int .i64 h.k, .slice h.ka h.kn h.kc, .slice h.va h.vn h.vc, .slice h.da h.dn h.dc, .slice h.ta h.tn h.tc]] W (fun e w' => ∃ a c, e = .returned (.tuple #[.slice a k c, .nilIface]) ∧ InBytes w' a k c zs ∧ Below W.heap.size W w') := fun W a b => digest_is (k : Int) p h W a b HIS.out
         (with_reducible refine (hck _ ?_ ?_).mono ?_)
         · exact HD4.out.t1
         · exact HT.out.below HD4.out.b (Nat.le_refl _)
         rintro _ w5 ⟨a5, c5, rfl, hi5, hb5⟩
         have HD5 := Lib.hid (HD4.out.below hb5)
         have HI5 := Lib.hid hi5
         clear hck hi5 hb5))
    clear x0 x1 x2 x3 x4 y0 y1 y2 y3 y4 z0 z1 z2
    obtain ⟨x0, x1, x2, x3, x4⟩ := HD5.out.b1.cells
    obtain ⟨y0, y1, y2, y3, y4⟩ := HD5.out.b2.cells
    obtain ⟨z0, z1, z2⟩ := HD5.out.sb.three
    obtain ⟨r1, hr1⟩ : ∃ r, checkR k zs f tt sp.out p = r := ⟨_, rfl⟩
    obtain ⟨r2, hr2⟩ : ∃ r, checkR k zs f tt sp.out q = r := ⟨_, rfl⟩
    have HR1 := Lib.hid hr1
    have HR2 := Lib.hid hr2
    clear hr1 hr2
    go_upto_region 8 with (first
      | (go_at_call 18
         have hck : ∀ W, InBytes W a5 k c5 zs → SpanIn W sp f tt → InTree W h p → TabLies W → Calls Tryd.prog 18 #[.int .i64 (k : Int), .slice a5 k c5, .agg #[.slice sp.ka sp.kn sp.kc, .slice sp.va sp.vn sp.vc, .bool sp.out], .agg #[.int .i64 h.k, .slice h.ka h.kn h.kc, .slice h.va h.vn h.vc, .slice h.da h.dn h.dc, .slice h.ta h.tn h.tc]] W (ChkTold W (checkX (k : Int) zs f tt sp.out p)) := fun W a b c d => chk_any (k : Int) hx1 hx2 a5 k c5 zs sp f tt p h W a b c (by omega) d
         (with_reducible refine (hck _ ?_ ?_ ?_ ?_).mono ?_)
         · exact HI5.out
         · exact HD5.out.spn
         · exact HD5.out.t1
         · exact HT.out.below HD5.out.b (Nat.le_refl _)
         rw [checkX_ok hk1 hk2 HZL.out, HR1.out]
         rintro _ w6 ⟨a6, n6, c6, rs6, rfl, ho6, hrl6, hpv6, hb6⟩
         have HD6 := Lib.hid (HD5.out.below hb6)
         have HO6 := Lib.hid (And.intro ho6 (And.intro hrl6 hpv6.pairs))
         have HI6 := Lib.hid (HI5.out.below hb6)
         clear hck ho6 hrl6 hpv6 hb6))
    clear x0 x1 x2 x3 x4 y0 y1 y2 y3 y4 z0 z1 z2
    obtain ⟨x0, x1, x2, x3, x4⟩ := HD6.out.b1.cells
    obtain ⟨y0, y1, y2, y3, y4⟩ := HD6.out.b2.cells
    obtain ⟨z0, z1, z2⟩ := HD6.out.sb.three
    go_upto_region 9 with (first
      | (go_at_call 18
         have hck : ∀ W, InBytes W a5 k c5 zs → SpanIn W sp f tt → InTree W h2 q → TabLies W → Calls Tryd.prog 18 #[.int .i64 (k : Int), .slice a5 k c5, .agg #[.slice sp.ka sp.kn sp.kc, .slice sp.va sp.vn sp.vc, .bool sp.out], .agg #[.int .i64 h2.k, .slice h2.ka h2.kn h2.kc, .slice h2.va h2.vn h2.vc, .slice h2.da h2.dn h2.dc, .slice h2.ta h2.tn h2.tc]] W (ChkTold W (checkX (k : Int) zs f tt sp.out q)) := fun W a b c d => chk_any (k : Int) hx1 hx2 a5 k c5 zs sp f tt q h2 W a b c (by omega) d
         (with_reducible refine (hck _ ?_ ?_ ?_ ?_).mono ?_)
         · exact HI6.out
         · exact HD6.out.spn
         · exact HD6.out.t2
         · exact HT.out.below HD6.out.b (Nat.le_refl _)
         rw [checkX_ok hk1 hk2 HZL.out, HR2.out]
         rintro _ w7 ⟨a7, n7, c7, rs7, rfl, ho7, hrl7, hpv7, hb7⟩
         have HD7 := Lib.hid (HD6.out.below hb7)
         have HO7 := Lib.hid (And.intro ho7 (And.intro hrl7 hpv7.pairs))
         have HP6 := Lib.hid (And.intro (HO6.out.1.keep hb7) (And.intro HO6.out.2.1 (HO6.out.2.2.below hb7)))
         clear hck ho7 hrl7 hpv7 hb7))
    clear x0 x1 x2 x3 x4 y0 y1 y2 y3 y4 z0 z1 z2
    by_cases e1 : r1.1 = 0
    case neg =>
      rw [codeV_pos e1]
      clear e1
      go_wp2_with fail
      go_ret
      exact ⟨rfl, HD7.out.b⟩
    by_cases e2 : r2.1 = 0
    case neg =>
      have hn1 : codeV r1.1 = .nilIface := by rw [e1]; rfl
      rw [codeV_pos e2, hn1]
      clear e1 e2 hn1
      go_wp2_with fail
      go_ret
      exact ⟨rfl, HD7.out.b⟩
    have hn1 : codeV r1.1 = .nilIface := by rw [e1]; rfl
    have hn2 : codeV r2.1 = .nilIface := by rw [e2]; rfl
    rw [hn1, hn2]
    have HC1 : Hid (checkR k zs f tt sp.out p = (0, r1.2)) := Lib.hid (by rw [HR1.out, ← e1])
    have HC2 : Hid (checkR k zs f tt sp.out q = (0, r2.2)) := Lib.hid (by rw [HR2.out, ← e2])
    clear hn1 hn2 e1 e2
    go_cut [68] (fun s68 wx => ∃ b : Bool, s68 = .bool b ∧ TP9 w wx sp f tt h h2 p q ∧ (b = true ↔ r1.2 = r2.2))
    case first =>
      go_wp2_with (first
        | (go_at_call 19
           (with_reducible refine (sameP_all r1.2 r2.2 (fun i => rs6.getD i pZ) (fun i => rs7.getD i pZ) a6 a7 n6 n7 c6 c7 _ ?_ ?_ ?_ ?_ ?_ ?_).mono ?_)
           · have q1 := HP6.out.2.2.1; have q2 := HP6.out.2.1; omega
           · have q1 := HO7.out.2.2.1; have q2 := HO7.out.2.1; omega
           · exact (HP6.out.1.inRec pZ).2
           · exact (HO7.out.1.inRec pZ).2
           · exact HP6.out.2.2.byD
           · exact HO7.out.2.2.byD
           rintro _ w8 ⟨b8, rfl, hiff, hb8⟩
           have HD8 := Lib.hid (HD7.out.below hb8)
           have HI8 := Lib.hid hiff
           clear hiff hb8))
      go_meet
      exact ⟨b8, rfl, HD8.out, HI8.out⟩
    case rest =>
      obtain ⟨b8, rfl, hd, hiff⟩ := hcut
      have HD8 := Lib.hid hd
      have HI8 := Lib.hid hiff
      clear hd hiff
      cases b8 with
      | true =>
        go_wp2_with fail
        go_ret
        exact ⟨rfl, HD8.out.b⟩
      | false =>
      obtain ⟨s, hf⟩ := clash_found hk1 hk2 HD8.out.t1 HD8.out.t2 HC1.out HC2.out (fun e => by have q1 := HI8.out.2 e; cases q1)
      have HFD := Lib.hid hf
      have HR : Hid (findX (k : Int) p q = (0, s)) := Lib.hid hf.is
      clear hf
      obtain ⟨x0, x1, x2, x3, x4⟩ := HD8.out.b1.cells
      obtain ⟨y0, y1, y2, y3, y4⟩ := HD8.out.b2.cells
      go_upto_region 12 with (first
        | (go_at_call 10
           have hck : ∀ W, InTree W h p → InTree W h2 q → TabLies W → Calls Tryd.prog 10 #[.int .i64 (k : Int), .agg #[.int .i64 h.k, .slice h.ka h.kn h.kc, .slice h.va h.vn h.vc, .slice h.da h.dn h.dc, .slice h.ta h.tn h.tc], .agg #[.int .i64 h2.k, .slice h2.ka h2.kn h2.kc, .slice h2.va h2.vn h2.vc, .slice h2.da h2.dn h2.dc, .slice h2.ta h2.tn h2.tc]] W (FindTold W (findX (k : Int) p q)) := fun W a b c => find_any (k : Int) hx1 hx2 p q h h2 W a b (by omega) (by omega) c
           (with_reducible refine (hck _ ?_ ?_ ?_).mono ?_)
           · exact HD8.out.t1
           · exact HD8.out.t2
           · exact HT.out.below HD8.out.b (Nat.le_refl _)
           rw [HR.out]
           rintro _ w9 ⟨a9, n9, c9, b9, m9, d9, rfl, f9, g9, hb9⟩
           have HD9 := Lib.hid (HD8.out.below hb9)
           have HF9 := Lib.hid (And.intro (f9 w9 (Nat.le_refl _) (fun _ _ _ => rfl)) (g9 w9 (Nat.le_refl _) (fun _ _ _ => rfl)))
           skip
           clear hck f9 g9 hb9))
      clear x0 x1 x2 x3 x4 y0 y1 y2 y3 y4
      have hcd : codeV ((0, s) : Nat × (List Int × List Int)).1 = .nilIface := rfl
      rw [hcd]
      clear hcd
      have HA5 : Hid (InBytes w9 a9 n9 c9 s.1) := Lib.hid HF9.out.1
      have HB5 : Hid (InBytes w9 b9 m9 d9 s.2) := Lib.hid HF9.out.2
      have HLA : Hid ((n9 : Int) ≤ 1125899906842624) := Lib.hid (by have q1 := HA5.out.len; have q2 := HFD.out.l1; omega)
      have HLB : Hid ((m9 : Int) ≤ 1125899906842624) := Lib.hid (by have q1 := HB5.out.len; have q2 := HFD.out.l2; omega)
      go_upto_region 13 with (first
        | (go_at_call 16
           (with_reducible refine (of_ok k a9 n9 c9 s.1 _ ?_ ?_ ?_ hk1 hk2).mono ?_)
           · exact HA5.out
           · exact HLA.out
           · exact HT.out.below HD9.out.b (Nat.le_refl _)
           rintro _ w6 ⟨g6, hg6, rfl, hr6, hb6⟩
           have HD6 := Lib.hid (HD9.out.below hb6)
           have HI6 := Lib.hid (of_in hr6 hk2)
           have HA6 := Lib.hid (HA5.out.below hb6)
           have HB6 := Lib.hid (HB5.out.below hb6)
           clear hg6 hr6 hb6))
      go_upto_region 14 with (first
        | (go_at_call 16
           (with_reducible refine (of_ok k b9 m9 d9 s.2 _ ?_ ?_ ?_ hk1 hk2).mono ?_)
           · exact HB6.out
           · exact HLB.out
           · exact HT.out.below HD6.out.b (Nat.le_refl _)
           rintro _ w7 ⟨g7, hg7, rfl, hr7, hb7⟩
           have HD7 := Lib.hid (HD6.out.below hb7)
           have HI7 := Lib.hid (of_in hr7 hk2)
           have HA7 := Lib.hid (HA6.out.below hb7)
           have HB7 := Lib.hid (HB6.out.below hb7)
           have HI67 := Lib.hid (HI6.out.below hb7)
           clear hg7 hr7 hb7))
      have cv1 := conv_key HA7.out
      have cv2 := conv_key HB7.out
      have cv3 := conv_key HI67.out
      have cv4 := conv_key HI7.out
      have hse : ((strOfNums s.1).toList == (strOfNums s.2).toList) = false := by rw [str_eq HA7.out.bytes HB7.out.bytes]; simpa using HFD.out.ne
      have hsd : ((strOfNums ((sumL s.1).take k)).toList == (strOfNums ((sumL s.2).take k)).toList) = true := by rw [HFD.out.eq]; simp
      go_wp2_with fail
      go_ret
      exact ⟨rfl, HD7.out.b⟩
end Go.Proofs.YtioifkbkllnkgaaDoor

/- A tree that is an argument of the program. -/
namespace Go.Proofs.YtioifkbkllnkgaaDoor
open Go.ChangeShapes Go.WideShapes Go.RowKit Go.Deep
set_option linter.unusedVariables false

set_option maxRecDepth 100000 in
theorem open_tree {H : Type} {enc : TypeId × Value → H} {w : World} {base : Nat} {spare : Nat → Bool} {held : Bool} {r : Reach} {b0 : Nat} {v : Value} {d : DataW H} {p : List MemPlace}
    (hv : Value.okWide Tryd.prog w r b0 25 v) (h : DataW.Trod enc Tryd.prog w base spare held 25 v d p) : ∃ hd t, v = TH.v hd ∧ InTree w hd t := by
  obtain ⟨cs, rfl, hs⟩ := okWide_struct Tryd.underlying25 hv
  obtain ⟨fuel, hf⟩ := h
  obtain ⟨hd, t, e, ht⟩ := trod_tree Tryd.underlying25 (by kernel_rfl) rfl rfl rfl rfl rfl (by kernel_rfl) (by kernel_rfl) (by kernel_rfl) (by kernel_rfl) (by kernel_rfl)
    Tryd.underlying3 Tryd.underlying22 Tryd.underlying22 Tryd.underlying22 Tryd.underlying23 Tryd.underlying5 (by kernel_rfl) fuel _ _ hf
  refine ⟨hd, t, ?_, ht⟩
  have e2 : cs = hd.cells.toArray := by
    simp only [Value.cells] at e
    rw [← e]
  rw [e2]
  rfl
end Go.Proofs.YtioifkbkllnkgaaDoor

/- Spans, and lists of pairs, that are arguments. -/
namespace Go.Proofs.YtioifkbkllnkgaaDoor
open Go.ChangeShapes Go.WideShapes Go.RowKit Go.Deep
set_option linter.unusedVariables false

set_option maxRecDepth 100000 in
theorem open_span {H : Type} {enc : TypeId × Value → H} {w : World} {base : Nat} {spare : Nat → Bool} {held : Bool} {r : Reach} {b0 : Nat} {v : Value} {d : DataW H} {p : List MemPlace}
    (hv : Value.okWide Tryd.prog w r b0 49 v) (h : DataW.Trod enc Tryd.prog w base spare held 49 v d p) : ∃ hd f t, v = DH.v hd ∧ SpanIn w hd f t := by
  obtain ⟨cs, rfl, hs⟩ := okWide_struct Tryd.underlying49 hv
  obtain ⟨fuel, hf⟩ := h
  obtain ⟨hd, e, key, val, h1, h2⟩ := trod_deed Tryd.underlying49 (by kernel_rfl) rfl rfl rfl (by kernel_rfl) (by kernel_rfl) (by kernel_rfl) Tryd.underlying22 Tryd.underlying22 Tryd.underlying4 Tryd.underlying5 (by kernel_rfl) fuel _ _ hf
  refine ⟨hd, key, val, ?_, h1, h2⟩
  have e2 : cs = (recD.cells hd).toArray := by
    simp only [Value.cells] at e
    rw [← e]
  rw [e2]
  rfl
section
variable {H : Type} {enc : TypeId × Value → H} {P : Program} {w : World} {base : Nat} {spare : Nat → Bool} {held : Bool}
end
end Go.Proofs.YtioifkbkllnkgaaDoor
