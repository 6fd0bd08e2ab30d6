/- The contract of the pairs that a proof shows. What stands in memory inside a closure over a tree. The contracts of the program's look at the widths of a tree's digests. The contracts of the program's digests of a tree's parts. The contracts of the program's trees: Digest. The program's digest of any tree by any width: bytes in new memory, or an error. The contracts of the program's Check and Bytes of proofs. The document's measure of a tree: has it few enough parts? The empty tree. No program is named here. Trees that lie in new blocks alone; what the program's proofs tell, as their contracts say it. A partial tree does not lie in a box; leaves. No program is named here. Bytes, leaves and nodes that lie in new blocks alone. No program is named here. The heads of the statements of layer 8: the document's examples; whether a tree is small. The document's Check, whatever the width and the root. What the statements ask of errors: which Code one is. Two rows of pairs that hold the same ones. The walk of the law CheckTakes. What lies there while the law CheckLess gathers the pairs of the smaller span. The walk of the law CheckLess. A tree that is an argument of the program. Spans, and lists of pairs, that are arguments. -/
import Derived.Test.YtlbiefddcimdgaaDoorMAC
import Derived.Test.YtlbiefddcimdgaaDoorMAA
import Derived.Test.YtlbiefddcimdgaaDoorMAE
import Derived.Lib.SliceRun
import Derived.Test.YtlbiefddcimdgaaDoorMAD
import Derived.Test.YtlbiefddcimdgaaDoorMAB
import Derived.Lib.SlBytesConst
import Derived.Test.YtlbiefddcimdgaaDoorProg
/- The contract of the pairs that a proof shows. -/
namespace Go.Proofs.YtlbiefddcimdgaaDoor
open Go.RowKit
set_option linter.unusedVariables false

theorem LS.bytes {w W : World} {a : Option Addr} {n c : Nat} {hs : List TH} {ts : List Tr} (x : LS w W a n c hs ts) (i : Nat) (h1 : i < hs.length) (h2 : i < ts.length) : InBytes W (hs[i]).ka (hs[i]).kn (hs[i]).kc (ts[i]).key ∧ InBytes W (hs[i]).va (hs[i]).vn (hs[i]).vc (ts[i]).val := by
  obtain ⟨H, hp⟩ := (x.hh.2 i h1 h2).parts
  exact ⟨hp.key, hp.val⟩
theorem takeT_in {ts : List Tr} {q : Tr → Bool} {i : Nat} (hi : i < ts.length) (h : q ts[i] = true) : ((ts.take (i + 1)).filter q).map kvT = ((ts.take i).filter q).map kvT ++ [kvT ts[i]] := by
  rw [List.take_add_one, List.getElem?_eq_getElem hi, List.filter_append, List.map_append]
  simp [h]
theorem takeT_out {ts : List Tr} {q : Tr → Bool} {i : Nat} (hi : i < ts.length) (h : q ts[i] = false) : ((ts.take (i + 1)).filter q).map kvT = ((ts.take i).filter q).map kvT := by
  rw [List.take_add_one, List.getElem?_eq_getElem hi, List.filter_append, List.map_append]
  simp [h]
/-- What is shown: pairs of one's own, behind the world wb. -/
def Shows8 (wb w : World) (kvs : List KV) (e : Ending) (w' : World) : Prop := ∃ ra r rc rs, e = .returned (.slice ra r rc) ∧ OwnR recP w' wb.heap.size 53 (.slice ra r rc) rs ∧ rs.length = r ∧ PV w' wb.heap.size rs kvs ∧ Below wb.heap.size wb w'
/-- Both ends, at another world. -/
theorem SpanIn.lower {wb w : World} {sp : DH} {f t : List Int} (x : SpanIn wb sp f t) (hb : Below wb.heap.size wb w) : SpanIn w sp f t := x.below hb

set_option maxRecDepth 100000 in
set_option maxHeartbeats 4000000 in
theorem shown8_any (wb : World) (ts : List Tr) (hs : List TH) (a : Option Addr) (n c : Nat) (sp : DH) (f t : List Int) (w : World) (hb : Below wb.heap.size wb w) (ho : OwnT w wb.heap.size 27 (.slice a n c) hs) (hh : Heads wb hs ts) (htl : ts.length = n) (hn : n ≤ 500) (hsp : SpanIn wb sp f t) (hkl : ∀ x ∈ ts, x.key.length ≤ 80 ∧ x.val.length ≤ 1024) :
    Calls Tryd.prog 31 #[.slice a n c, sp.v] w (Shows8 wb w ((ts.filter (takeB f t sp.out)).map kvT)) := by
  unfold DH.v
  obtain ⟨ti, hti, htz⟩ := Option.map_eq_some_iff.1 infoPair
  simp only [Prod.mk.injEq] at htz
  obtain ⟨hz0, hz1, hz2⟩ := htz
  have HTI := Lib.hid (And.intro hti (And.intro hz0 (And.intro hz1 hz2)))
  clear hti hz0 hz1 hz2
  have q1 : Below w.heap.size w (w.alloc (.cells #[.slice sp.ka sp.kn sp.kc, .slice sp.va sp.vn sp.vc, .bool sp.out] 24)) := (Below.refl _ _).alloc (Nat.le_refl _) _
  have HG3 : Hid (RS wb (w.alloc (.cells #[.slice sp.ka sp.kn sp.kc, .slice sp.va sp.vn sp.vc, .bool sp.out] 24)) w.heap.size sp a n c hs ts (.slice none 0 0) [] (((ts.take 0).filter (takeB f t sp.out)).map kvT)) := Lib.hid ⟨hb.trans (q1.mono hb.size), ho.keep q1, hh, DH.box w _ sp, OwnR.nil _ _ _ _, by simpa using PV.nil _ _⟩
  have HSP := Lib.hid hsp
  have HTL := Lib.hid htl
  have HHL : Hid (hs.length = n) := Lib.hid (hh.1.trans htl)
  have HKA := Lib.hid hkl
  clear q1 hsp hb ho hh htl hkl
  go_enter Tryd.func31, Tryd.ntmps31
  go_upto_region 1 with fail
  generalize (w.alloc (.cells #[.slice sp.ka sp.kn sp.kc, .slice sp.va sp.vn sp.vc, .bool sp.out] 24)) = w1 at *
  go_wp2_with fail
  go_loopw [5, 10] (fun s5 s10 wx => ∃ (i : Nat) (ra : Option Addr) (r rc : Nat) (rs : List PH), i ≤ n ∧ s5 = .slice ra r rc ∧ rs.length = r ∧ s10 = .int .i64 i ∧ RS wb wx w.heap.size sp a n c hs ts (.slice ra r rc) rs (((ts.take i).filter (takeB f t sp.out)).map kvT)) (fun _ s10 _ => n - (intOf s10).toNat)
  case atStart => exact ⟨0, none, 0, 0, [], by omega, rfl, rfl, rfl, HG3.out⟩
  case round =>
    clear HG3
    obtain ⟨i, ra, r, rc, rs, hi, rfl, hrl, rfl, hrg⟩ := hrel
    have hr5 : r ≤ 500 := by
      have h1 := hrg.pv.1
      have h2 := List.length_filter_le (takeB f t sp.out) (ts.take i)
      rw [List.length_map] at h1
      rw [List.length_take] at h2
      omega
    by_cases hlt : i < n
    · have q1 : (i : Int) < (n : Int) := by omega
      have him : i < hs.length := by rw [HHL.out]; exact hlt
      have hix : i < ts.length := by rw [HTL.out]; exact hlt
      obtain ⟨g, hga, -⟩ := hrg.o.at HHL.out i him
      subst hga
      obtain ⟨x0, x1, x2, x3, x4⟩ := hrg.ls.cells HHL.out i him
      have HL := Lib.hid hrg
      have HKL := Lib.hid (HKA.out _ (List.getElem_mem hix))
      have HKV8 : Hid (Bytes8 (ts[i]).key ∧ Bytes8 (ts[i]).val) := Lib.hid ⟨(hrg.ls.bytes i him hix).1.bytes, (hrg.ls.bytes i him hix).2.bytes⟩
      have HKD : Hid ((hs[i]).k = (ts[i]).k) := Lib.hid (by
        obtain ⟨H, hp⟩ := (hrg.ls.hh.2 i him hix).parts
        exact hp.hk)
      clear hrg
      have hx5 := Box.new wr 27 (hs[i])
      have q5 : Below wr.heap.size wr (wr.alloc (.cells #[.int .i64 (hs[i]).k, .slice (hs[i]).ka (hs[i]).kn (hs[i]).kc, .slice (hs[i]).va (hs[i]).vn (hs[i]).vc, .slice (hs[i]).da (hs[i]).dn (hs[i]).dc, .slice (hs[i]).ta (hs[i]).tn (hs[i]).tc] 27)) := (Below.refl _ _).alloc (Nat.le_refl _) _
      go_upto_region 5 with fail
      generalize (wr.alloc (.cells #[.int .i64 (hs[i]).k, .slice (hs[i]).ka (hs[i]).kn (hs[i]).kc, .slice (hs[i]).va (hs[i]).vn (hs[i]).vc, .slice (hs[i]).da (hs[i]).dn (hs[i]).dc, .slice (hs[i]).ta (hs[i]).tn (hs[i]).tc] 27)) = w5 at *
      have HN5 : Hid (RN wb w5 w.heap.size sp (some ⟨g, 0, none⟩) n c hs ts (.slice ra r rc) rs (((ts.take i).filter (takeB f t sp.out)).map kvT) wr.heap.size (hs[i])) := Lib.hid ⟨HL.out.below q5, hx5⟩
      obtain ⟨y0, y1, y2⟩ := HN5.out.r.box.three
      obtain ⟨z0, z1, z2, z3, z4⟩ := HN5.out.x.cells
      clear hx5 q5 x0 x1 x2 x3 x4 HL
      generalize wr.heap.size = g8 at *
      cases hk1 : ((hs[i]).k == 1) with
      | false =>
        have HO : Hid (takeB f t sp.out ts[i] = false) := Lib.hid (by unfold takeB; rw [← HKD.out, hk1, Bool.false_and])
        go_wp2_with fail
        exact ⟨⟨i + 1, ra, r, rc, rs, by omega, rfl, hrl, by go_num, by rw [takeT_out hix HO.out]; exact HN5.out.r⟩, by simp [intOf]; omega⟩
      | true =>
        cases hin : inS f t sp.out (ts[i]).key with
        | false =>
          have HIN := Lib.hid hin
          have HO : Hid (takeB f t sp.out ts[i] = false) := Lib.hid (by unfold takeB; rw [hin, Bool.and_false])
          clear hin
          go_wp2_with (first
            | (go_at_call 22
               refine (scanIn_any sp f t (ts[i]).key (hs[i]).ka (hs[i]).kn (hs[i]).kc _ (HSP.out.lower HN5.out.r.b) (HN5.out.r.ls.bytes i him hix).1).mono ?_
               rintro _ w6 ⟨rfl, hb6⟩
               have HN6 := Lib.hid (HN5.out.below hb6)
               rw [HIN.out]
               clear hb6 y0 y1 y2 z0 z1 z2 z3 z4))
          exact ⟨⟨i + 1, ra, r, rc, rs, by omega, rfl, hrl, by go_num, by rw [takeT_out hix HO.out]; exact HN6.out.r⟩, by simp [intOf]; omega⟩
        | true =>
          have HIN := Lib.hid hin
          have HO : Hid (takeB f t sp.out ts[i] = true) := Lib.hid (by unfold takeB; rw [hin, ← HKD.out, hk1]; rfl)
          clear hin
          go_upto_region 6 with (first
            | (go_at_call 22
               refine (scanIn_any sp f t (ts[i]).key (hs[i]).ka (hs[i]).kn (hs[i]).kc _ (HSP.out.lower HN5.out.r.b) (HN5.out.r.ls.bytes i him hix).1).mono ?_
               rintro _ w6 ⟨rfl, hb6⟩
               have HN6 := Lib.hid (HN5.out.below hb6)
               rw [HIN.out]
               clear hb6 y0 y1 y2 z0 z1 z2 z3 z4))
          clear hk1
          have HN6D := Lib.hid HN6.out.drew
          refine wp_region_held_drew (S := (fun W => W.cell? ⟨g8, 1, none⟩ = some (.slice (hs[i]).ka (hs[i]).kn (hs[i]).kc) ∧ W.cell? ⟨g8, 2, none⟩ = some (.slice (hs[i]).va (hs[i]).vn (hs[i]).vc))) (by kernel_rfl) HN6D.out.two (fun hHeld => ?_)
          refine take_w (i := 0) (oi := ?oZ59) (v := ?vZ59) ?hiZ59 (by kernel_rfl) (by kernel_rfl) (by kernel_rfl) ?hQZ59 ?hwZ59 ?hyZ59 (by assumption) ?restZ59
          case hiZ59 => (simp only [List.getElem?_toArray, List.getElem?_cons_zero] <;> rfl)
          case hQZ59 => exact (fun _ _ _ h => h)
          case hwZ59 => rfl
          case hyZ59 => (intro w hSw; (try dsimp only at hSw); go_simp; try with_reducible rfl)
          (try simp only [Act.put, List.setIfInBounds_toArray, List.set_cons_zero, List.set_cons_succ])
          refine take_w (i := 1) (oi := ?oZ60) (v := ?vZ60) ?hiZ60 (by kernel_rfl) (by kernel_rfl) (by kernel_rfl) ?hQZ60 ?hwZ60 ?hyZ60 (by assumption) ?restZ60
          case hiZ60 => (simp only [List.getElem?_toArray, List.getElem?_cons_succ, List.getElem?_cons_zero] <;> rfl)
          case hQZ60 => exact (fun _ _ _ h => h)
          case hwZ60 => rfl
          case hyZ60 => (intro w hSw; (try dsimp only at hSw); go_simp; try with_reducible rfl)
          (try simp only [Act.put, List.setIfInBounds_toArray, List.set_cons_zero, List.set_cons_succ])
          refine take_w (i := 2) (oi := ?oZ61) (v := ?vZ61) ?hiZ61 (by kernel_rfl) (by kernel_rfl) (by kernel_rfl) ?hQZ61 ?hwZ61 ?hyZ61 (by assumption) ?restZ61
          case hiZ61 => (simp only [List.getElem?_toArray, List.getElem?_cons_succ, List.getElem?_cons_zero] <;> rfl)
          case hQZ61 => exact (fun _ _ _ h => h)
          case hwZ61 => rfl
          case hyZ61 => (intro w hSw; (try dsimp only at hSw); go_simp; try with_reducible rfl)
          (try simp only [Act.put, List.setIfInBounds_toArray, List.set_cons_zero, List.set_cons_succ])
          refine take_w (i := 4) (oi := ?oZ62) (v := ?vZ62) ?hiZ62 (by kernel_rfl) (by kernel_rfl) (by kernel_rfl) ?hQZ62 ?hwZ62 ?hyZ62 (by assumption) ?restZ62
          case hiZ62 => (simp only [List.getElem?_toArray, List.getElem?_cons_succ, List.getElem?_cons_zero] <;> rfl)
          case hQZ62 => exact (fun _ _ _ h => h)
          case hwZ62 => rfl
          case hyZ62 => (intro w hSw; (try dsimp only at hSw); go_simp; try with_reducible rfl)
          (try simp only [Act.put, List.setIfInBounds_toArray, List.set_cons_zero, List.set_cons_succ])
          refine take_w (i := 5) (oi := ?oZ63) (v := ?vZ63) ?hiZ63 (by kernel_rfl) (by kernel_rfl) (by kernel_rfl) ?hQZ63 ?hwZ63 ?hyZ63 (by assumption) ?restZ63
          case hiZ63 => (simp only [List.getElem?_toArray, List.getElem?_cons_succ, List.getElem?_cons_zero] <;> rfl)
          case hQZ63 => exact (fun _ _ _ h => h)
          case hwZ63 => rfl
          case hyZ63 => (intro w hSw; (try dsimp only at hSw); go_simp; try with_reducible rfl)
          (try simp only [Act.put, List.setIfInBounds_toArray, List.set_cons_zero, List.set_cons_succ])
          refine wpAnyH_ready (rs := [3]) (by kernel_rfl) (by simp) ?_
          refine AllReadyH.cons (o := ?oZ64) ?hiZ64 (fun K hK => ?stZ64) AllReadyH.nil
          case hiZ64 => (simp only [List.getElem?_toArray, List.getElem?_cons_succ, List.getElem?_cons_zero] <;> rfl)
          go_simp
          go_at_call 45
          refine (clone_own (hs[i]).ka (hs[i]).kn (hs[i]).kc (ts[i]).key _ (HN6D.out.r.ls.bytes i him hix).1 (by have q := (HN6D.out.r.ls.bytes i him hix).1.len; have q2 := HKL.out; omega)).mono ?_
          rintro _ w7 ⟨v7, rfl, ho7, hb7⟩
          obtain ⟨a7, c7, rfl, -⟩ := own_any ho7 (HN6D.out.r.ls.bytes i him hix).1.bytes
          have HN7 := Lib.hid (HN6D.out.below hb7)
          have HO7 := Lib.hid (own_weak ho7 HN6D.out.r.b.size)
          clear ho7 hb7
          go_simp
          refine hK.out _ _ ?_ (fun hHeld => ?_)
          · (first | exact HN9.out.two | exact HN8.out.two | exact HN7.out.two | exact HN6D.out.two | exact (HN8.out.below ((Below.refl _ _).alloc (Nat.le_refl _) _)).two)
          clear hK K
          (try simp only [Act.put, List.setIfInBounds_toArray, List.set_cons_zero, List.set_cons_succ])
          refine wpAnyH_ready (rs := [6]) (by kernel_rfl) (by simp) ?_
          refine AllReadyH.cons (o := ?oZ65) ?hiZ65 (fun K hK => ?stZ65) AllReadyH.nil
          case hiZ65 => (simp only [List.getElem?_toArray, List.getElem?_cons_succ, List.getElem?_cons_zero] <;> rfl)
          go_simp
          go_at_call 45
          refine (clone_own (hs[i]).va (hs[i]).vn (hs[i]).vc (ts[i]).val _ (HN7.out.r.ls.bytes i him hix).2 (by have q := (HN7.out.r.ls.bytes i him hix).2.len; have q2 := HKL.out; omega)).mono ?_
          rintro _ w8 ⟨v8, rfl, ho8, hb8⟩
          obtain ⟨a8, c8, rfl, -⟩ := own_any ho8 (HN7.out.r.ls.bytes i him hix).2.bytes
          have HN8 := Lib.hid (HN7.out.below hb8)
          have HO8 := Lib.hid (own_weak ho8 HN7.out.r.b.size)
          have HOK8 := Lib.hid (own_keep HO7.out hb8)
          clear ho8 hb8
          go_simp
          refine hK.out _ _ ?_ (fun hHeld => ?_)
          · (first | exact HN9.out.two | exact HN8.out.two | exact HN7.out.two | exact HN6D.out.two | exact (HN8.out.below ((Below.refl _ _).alloc (Nat.le_refl _) _)).two)
          clear hK K
          (try simp only [Act.put, List.setIfInBounds_toArray, List.set_cons_zero, List.set_cons_succ])
          refine take_w (i := 7) (oi := ?oZ66) (v := ?vZ66) ?hiZ66 (by kernel_rfl) (by kernel_rfl) (by kernel_rfl) ?hQZ66 ?hwZ66 ?hyZ66 (by assumption) ?restZ66
          case hiZ66 => (simp only [List.getElem?_toArray, List.getElem?_cons_succ, List.getElem?_cons_zero] <;> rfl)
          case hQZ66 => exact (fun _ _ _ h => h)
          case hwZ66 => rfl
          case hyZ66 => (intro w hSw; (try dsimp only at hSw); go_simp; try with_reducible rfl)
          (try simp only [Act.put, List.setIfInBounds_toArray, List.set_cons_zero, List.set_cons_succ])
          refine wpAnyH_ready (rs := [8]) (by kernel_rfl) (by simp) ?_
          refine AllReadyH.cons (o := ?oZ67) ?hiZ67 (fun K hK => ?stZ67) AllReadyH.nil
          case hiZ67 => (simp only [List.getElem?_toArray, List.getElem?_cons_succ, List.getElem?_cons_zero] <;> rfl)
          go_simp
          refine hK.out _ _ ?_ (fun hHeld => ?_)
          · (first | exact HN9.out.two | exact HN8.out.two | exact HN7.out.two | exact HN6D.out.two | exact (HN8.out.below ((Below.refl _ _).alloc (Nat.le_refl _) _)).two)
          clear hK K
          (try simp only [Act.put, List.setIfInBounds_toArray, List.set_cons_zero, List.set_cons_succ])
          refine wpAnyH_ready (rs := [9]) (by kernel_rfl) (by simp) ?_
          refine AllReadyH.cons (o := ?oZ68) ?hiZ68 (fun K hK => ?stZ68) AllReadyH.nil
          case hiZ68 => (simp only [List.getElem?_toArray, List.getElem?_cons_succ, List.getElem?_cons_zero] <;> rfl)
          have qa : Below w8.heap.size w8 (w8.alloc (.cells #[.slice a7 ((ts[i]).key).length c7, .slice a8 ((ts[i]).val).length c8] 53)) := (Below.refl _ _).alloc (Nat.le_refl _) _
          have HNA := Lib.hid (HN8.out.below qa)
          have HPA : Hid (POK (w8.alloc (.cells #[.slice a7 ((ts[i]).key).length c7, .slice a8 ((ts[i]).val).length c8] 53)) wb.heap.size (⟨a7, ((ts[i]).key).length, c7, a8, ((ts[i]).val).length, c8⟩ : PH) (kvT ts[i])) := Lib.hid ((⟨HOK8.out, HO8.out, HKV8.out.1, HKV8.out.2⟩ : POK w8 wb.heap.size (⟨a7, ((ts[i]).key).length, c7, a8, ((ts[i]).val).length, c8⟩ : PH) (kvT ts[i])).keep qa)
          refine step_append_rec _ rfl (.tmp 23) (.tmp 31) 30 rfl recP wb.heap.size 53 ti _ 48 Tryd.underlying30 HTI.out.1 HTI.out.2.1 HTI.out.2.2.1 HTI.out.2.2.2 rfl (.slice ra r rc) rs rfl HNA.out.r.row w8.heap.size 1 (⟨a7, ((ts[i]).key).length, c7, a8, ((ts[i]).val).length, c8⟩ : PH) rfl (RBox.cell (c := recP) (r := (⟨a7, ((ts[i]).key).length, c7, a8, ((ts[i]).val).length, c8⟩ : PH)) (heap_alloc_new w8 _)) ?_ (by omega) HNA.out.r.b.size ?_
          · rw [hrl]
            omega
          intro v9 w9 ho9 hg9 hw9 _
          obtain ⟨ra9, rc9, hv9⟩ := ho9.sl
          have hlen9 : (rs ++ [(⟨a7, ((ts[i]).key).length, c7, a8, ((ts[i]).val).length, c8⟩ : PH)]).length = r + 1 := by simp [hrl]
          rw [hlen9] at hv9
          subst hv9
          have HN9 := Lib.hid (HNA.out.app hg9 ho9 HPA.out)
          have HLE9 := Lib.hid hlen9
          clear ho9 hg9 hlen9 qa
          refine hK.out _ _ ?_ (fun hHeld => ?_)
          · (first | exact HN9.out.two | exact HN8.out.two | exact HN7.out.two | exact HN6D.out.two | exact (HN8.out.below ((Below.refl _ _).alloc (Nat.le_refl _) _)).two)
          clear hK K
          (try simp only [Act.put, List.setIfInBounds_toArray, List.set_cons_zero, List.set_cons_succ])
          refine take_w (i := 10) (oi := ?oZ69) (v := ?vZ69) ?hiZ69 (by kernel_rfl) (by kernel_rfl) (by kernel_rfl) ?hQZ69 ?hwZ69 ?hyZ69 (by assumption) ?restZ69
          case hiZ69 => (simp only [List.getElem?_toArray, List.getElem?_cons_succ, List.getElem?_cons_zero] <;> rfl)
          case hQZ69 => exact (fun _ _ _ h => h)
          case hwZ69 => rfl
          case hyZ69 => (intro w hSw; (try dsimp only at hSw); go_simp; try with_reducible rfl)
          (try simp only [Act.put, List.setIfInBounds_toArray, List.set_cons_zero, List.set_cons_succ])
          refine wpAnyH_done (by kernel_rfl) ?_ _
          clear hHeld
          go_wp2_with fail
          exact ⟨⟨i + 1, ra9, r + 1, rc9, _, by omega, rfl, HLE9.out, by go_num, by rw [takeT_in hix HO.out]; exact HN9.out.r⟩, by simp [intOf]; omega⟩
    · obtain rfl : i = n := by omega
      have q1 : ¬ (i : Int) < (i : Int) := by omega
      have hk : ts.take i = ts := List.take_of_length_le (by rw [HTL.out]; exact Nat.le_refl _)
      rw [hk] at hrg
      have HRG := Lib.hid hrg
      clear hrg hk
      go_wp2_with fail
      go_ret
      exact ⟨ra, r, rc, rs, rfl, HRG.out.row, hrl, HRG.out.pv, HRG.out.b⟩
end Go.Proofs.YtlbiefddcimdgaaDoor

/- What stands in memory inside a closure over a tree. -/
namespace Go.Proofs.YtlbiefddcimdgaaDoor
open Go.RowKit
set_option linter.unusedVariables false
/-- What the world is like inside a closure: its own box of a tree, the closure's variable. -/
structure KW (ty : TypeId) (v : Value) (gc : Nat) (w W : World) (h : TH) : Prop where
  box : Box W 27 w.heap.size h
  clo : Var1 W ty gc v
  b : Below w.heap.size w W
end Go.Proofs.YtlbiefddcimdgaaDoor

/- The contracts of the program's look at the widths of a tree's digests. -/
namespace Go.Proofs.YtlbiefddcimdgaaDoor
open Go.RowKit
set_option linter.unusedVariables false

set_option maxRecDepth 100000 in
set_option maxHeartbeats 4000000 in
theorem fits_any (k : Nat) (t : Tr) (h : TH) (w : World) (gw : Nat) (ht : InTree w h t) (hv : Var1 w 3 gw (.int .i64 k)) : Calls Tryd.prog 39 #[h.v, .pointer (some ⟨gw, 0, none⟩)] w (Says w (.bool (fitsK k t))) := by
  unfold TH.v
  obtain ⟨H, hp⟩ := ht.parts
  have HDL := Lib.hid hp.dig.len
  have HTT := Lib.hid ht
  clear hp ht
  have hbox := Box.new w 27 h
  have HX := Lib.hid hbox
  obtain ⟨x0, x1, x2, x3, x4⟩ := hbox.cells
  clear hbox
  have hw1 : Below w.heap.size w (w.alloc (.cells #[.int .i64 h.k, .slice h.ka h.kn h.kc, .slice h.va h.vn h.vc, .slice h.da h.dn h.dc, .slice h.ta h.tn h.tc] 27)) := (Below.refl _ _).alloc (Nat.le_refl _) _
  have HV1 := Lib.hid (hv.below hw1 hv.lt)
  have HB := Lib.hid hw1
  clear hw1 hv
  go_enter Tryd.func39, Tryd.ntmps39
  cases hr : toldK t
  all_goals
    have HR := Lib.hid hr
    clear hr
    go_wp2_with (first
      | (go_at_call 40
         refine (isTold_any t h _ (HTT.out.lower HB.out)).mono ?_
         rintro _ w1 ⟨rfl, hb1⟩
         rw [HR.out]
         have HB1 : Hid (Below w.heap.size w w1) := Lib.hid (HB.out.trans (hb1.mono HB.out.size))
         have hx1 := HX.out.below hb1 HX.out.lt
         obtain ⟨y0, y1, y2, y3, y4⟩ := hx1.cells
         have yv := (HV1.out.below hb1 HV1.out.lt).cell
         clear hb1 hx1 x0 x1 x2 x3 x4))
    go_ret
    refine ⟨?_, HB1.out⟩
    unfold fitsK
    rw [HR.out]
  · have e : decide (t.dig.length = k) = ((h.dn : Int) == (k : Int)) := by rw [HDL.out, Bool.eq_iff_iff]; simp; omega
    rw [e]
    rfl
  · rfl

set_option maxRecDepth 100000 in
set_option maxHeartbeats 4000000 in
theorem everyFitsC (k : Nat) (gw : Nat) : ∀ (t : Tr) (h : TH) (w : World) (gp ga : Nat), InTree w h t → Var1 w 3 gw (.int .i64 k) → Var1 w 29 gp (.func (.func 39) #[] #[.pointer (some ⟨gw, 0, none⟩)]) → Var1 w 29 ga (.func (.func 67) #[] #[.pointer (some ⟨gp, 0, none⟩), .pointer (some ⟨ga, 0, none⟩)]) →
    Calls Tryd.prog 67 #[h.v, .pointer (some ⟨gp, 0, none⟩), .pointer (some ⟨ga, 0, none⟩)] w (Says w (.bool (allT (fitsK k) t))) := by
  intro t
  induction t using Tr.ind with
  | h t ih =>
  intro h w gp ga ht hR hpv hcl
  unfold TH.v
  obtain ⟨H, hp⟩ := ht.parts
  have htl := hp.len
  have htc := hp.sl.le
  have htm := Nat.le_trans hp.sl.le hp.sl.max
  simp only [maxLen] at htm
  have HP := Lib.hid hp
  have HTT := Lib.hid ht
  have IH := Lib.hid ih
  have hbox := Box.new w 27 h
  have HX := Lib.hid hbox
  obtain ⟨x0, x1, x2, x3, x4⟩ := hbox.cells
  have hw1 : Below w.heap.size w (w.alloc (.cells #[.int .i64 h.k, .slice h.ka h.kn h.kc, .slice h.va h.vn h.vc, .slice h.da h.dn h.dc, .slice h.ta h.tn h.tc] 27)) := (Below.refl _ _).alloc (Nat.le_refl _) _
  have HB := Lib.hid hw1
  have hpv1 := hpv.below hw1 hpv.lt
  have HCL1 := Lib.hid (hcl.below hw1 hcl.lt)
  have HPV1 := Lib.hid hpv1
  have xp := hpv1.cell
  have HR1 := Lib.hid (hR.below hw1 hR.lt)
  clear hp ht ih hcl hpv hpv1 hw1 hbox hR
  go_enter Tryd.func67, Tryd.ntmps67
  go_upto_if 10 with (first
    | (go_at_call 39
       refine (fits_any k t h _ gw (HTT.out.lower HB.out) HR1.out).mono ?_
       rintro _ w1 ⟨rfl, hb1⟩
       have HB1 : Hid (Below w.heap.size w w1) := Lib.hid (HB.out.trans (hb1.mono HB.out.size))
       have HX1 := Lib.hid (HX.out.below hb1 HX.out.lt)
       have HCL2 := Lib.hid (HCL1.out.below hb1 HCL1.out.lt)
       have HPV2 := Lib.hid (HPV1.out.below hb1 HPV1.out.lt)
       have HR2 := Lib.hid (HR1.out.below hb1 HR1.out.lt)
       generalize hr : (fitsK k) t = r
       have HR := Lib.hid hr
       clear hb1 hr))
  clear x0 x1 x2 x3 x4 xp HX HB HCL1 HPV1 HR1
  cases r
  · go_wp2_with fail
    go_ret
    have e : allT (fitsK k) t = false := by rw [allT_eq, HR.out]; rfl
    exact ⟨by rw [e]; rfl, HB1.out⟩
  simp only [Bool.not_true]
  have x4 := HX1.out.cells.2.2.2.2
  go_wp2_with fail
  clear x4 HX1
  go_loopw [14] (fun s14 wx => ∃ i : Nat, i ≤ h.tn ∧ s14 = .int .i64 i ∧ Var1 wx 3 gw (.int .i64 k) ∧ Var1 wx 29 gp (.func (.func 39) #[] #[.pointer (some ⟨gw, 0, none⟩)]) ∧ Var1 wx 29 ga (.func (.func 67) #[] #[.pointer (some ⟨gp, 0, none⟩), .pointer (some ⟨ga, 0, none⟩)]) ∧ Below w.heap.size w wx ∧ (t.kids.take i).all (allT (fitsK k)) = true) (fun s14 _ => h.tn - (intOf s14).toNat)
  case atStart => exact ⟨0, by omega, rfl, HR2.out, HPV2.out, HCL2.out, HB1.out, by simp⟩
  case round =>
    clear HCL2 HB1 HPV2 HR2
    obtain ⟨i, hi, rfl, hR, hpv, hcl, hbw, hall⟩ := hrel
    have hcc := hcl.cell
    have HC := Lib.hid hcl
    have HV := Lib.hid hpv
    have HBW := Lib.hid hbw
    have HA := Lib.hid hall
    have HRR := Lib.hid hR
    clear hcl hbw hall hpv hR
    by_cases hlt : i < h.tn
    · have q1 : (i : Int) < (h.tn : Int) := by omega
      obtain ⟨g, off, hta, hg, hcs⟩ := (HP.out.below HBW.out).place (by omega)
      obtain ⟨k0, k1, k2, k3, k4⟩ := hcs i hlt
      have him : i < t.kids.length := by omega
      clear hcs
      rw [hta]
      go_upto_region 6 with fail
      have b2 : Below wr.heap.size wr (wr.alloc (.cells #[.int .i64 (H i).k, .slice (H i).ka (H i).kn (H i).kc, .slice (H i).va (H i).vn (H i).vc, .slice (H i).da (H i).dn (H i).dc, .slice (H i).ta (H i).tn (H i).tc] 27)) := (Below.refl _ _).alloc (Nat.le_refl _) _
      have bx := Box.new wr 27 (H i)
      generalize (wr.alloc (.cells #[.int .i64 (H i).k, .slice (H i).ka (H i).kn (H i).kc, .slice (H i).va (H i).vn (H i).vc, .slice (H i).da (H i).dn (H i).dc, .slice (H i).ta (H i).tn (H i).tc] 27)) = w2 at *
      have HB2 : Hid (Below w.heap.size w w2) := Lib.hid (HBW.out.trans (b2.mono HBW.out.size))
      have HC2 := Lib.hid (HC.out.below b2 HC.out.lt)
      have HV2 := Lib.hid (HV.out.below b2 HV.out.lt)
      have HRR2 := Lib.hid (HRR.out.below b2 HRR.out.lt)
      have hc2 := HC2.out.cell
      obtain ⟨y0, y1, y2, y3, y4⟩ := bx.cells
      clear b2 bx k0 k1 k2 k3 k4 hcc
      go_upto_if 21 with (first
        | (go_at_call 67
           refine (IH.out _ (List.getElem_mem him) (H i) _ gp ga ((HP.out.below HB2.out).kids i him) HRR2.out HV2.out HC2.out).mono ?_
           rintro _ w3 ⟨rfl, hb3⟩
           have HB3 : Hid (Below w.heap.size w w3) := Lib.hid (HB2.out.trans (hb3.mono HB2.out.size))
           have HC3 := Lib.hid (HC2.out.below hb3 HC2.out.lt)
           have HV3 := Lib.hid (HV2.out.below hb3 HV2.out.lt)
           have HRR3 := Lib.hid (HRR2.out.below hb3 HRR2.out.lt)
           generalize hr : allT (fitsK k) t.kids[i] = q
           have HQ := Lib.hid hr
           clear hb3 hr))
      clear y0 y1 y2 y3 y4 hc2
      cases q
      · go_wp2_with fail
        go_ret
        have e : allT (fitsK k) t = false := by rw [allT_eq, all_not i him HQ.out, Bool.and_false]
        exact ⟨by rw [e]; rfl, HB3.out⟩
      · clear hta
        go_wp2_with fail
        exact ⟨⟨i + 1, by omega, by go_num, HRR3.out, HV3.out, HC3.out, HB3.out, by rw [all_take _ _ i him, HA.out, HQ.out]; rfl⟩, by simp [intOf]; omega⟩
    · obtain rfl : i = h.tn := by omega
      have q1 : ¬ (h.tn : Int) < (h.tn : Int) := by omega
      go_wp2_with fail
      go_ret
      have hA := HA.out
      rw [List.take_of_length_le (by omega)] at hA
      have e : allT (fitsK k) t = true := by rw [allT_eq, HR.out, hA]; rfl
      exact ⟨by rw [e]; rfl, HBW.out⟩
set_option maxRecDepth 100000 in
set_option maxHeartbeats 4000000 in
theorem everyFits (k : Nat) (gw : Nat) (t : Tr) (h : TH) (w : World) (ht : InTree w h t) (hR : Var1 w 3 gw (.int .i64 k)) : Calls Tryd.prog 41 #[h.v, .func (.func 39) #[] #[.pointer (some ⟨gw, 0, none⟩)]] w (Says w (.bool (allT (fitsK k) t))) := by
  have hmf : ∀ (fn : Fn) (first cap : Array Value) (w : World), (Instr.makeFunc fn first cap).run Tryd.prog w = .ok (.func fn first cap) w := fun _ _ _ _ => rfl
  unfold TH.v
  have HTT := Lib.hid ht
  clear ht
  go_enter Tryd.func41, Tryd.ntmps41
  have hbw1 : Below w.heap.size w (w.alloc (.cells #[.int .i64 h.k, .slice h.ka h.kn h.kc, .slice h.va h.vn h.vc, .slice h.da h.dn h.dc, .slice h.ta h.tn h.tc] 27)) := (Below.refl _ _).alloc (Nat.le_refl _) _
  have hbx1 := Box.new w 27 h
  have e1 : (w.alloc (.cells #[.int .i64 h.k, .slice h.ka h.kn h.kc, .slice h.va h.vn h.vc, .slice h.da h.dn h.dc, .slice h.ta h.tn h.tc] 27)).heap.size = w.heap.size + 1 := by simp
  have hbw2 : Below w.heap.size w ((w.alloc (.cells #[.int .i64 h.k, .slice h.ka h.kn h.kc, .slice h.va h.vn h.vc, .slice h.da h.dn h.dc, .slice h.ta h.tn h.tc] 27)).alloc (.cells #[.func (.func 39) #[] #[.pointer (some ⟨gw, 0, none⟩)]] 29)) := hbw1.alloc (by rw [e1]; omega) _
  have hbx2 := hbx1.below ((Below.refl _ _).alloc (Nat.le_refl _) (.cells #[.func (.func 39) #[] #[.pointer (some ⟨gw, 0, none⟩)]] 29)) hbx1.lt
  have hpv2 := Var1.new (w.alloc (.cells #[.int .i64 h.k, .slice h.ka h.kn h.kc, .slice h.va h.vn h.vc, .slice h.da h.dn h.dc, .slice h.ta h.tn h.tc] 27)) 29 (.func (.func 39) #[] #[.pointer (some ⟨gw, 0, none⟩)])
  have e2 : ((w.alloc (.cells #[.int .i64 h.k, .slice h.ka h.kn h.kc, .slice h.va h.vn h.vc, .slice h.da h.dn h.dc, .slice h.ta h.tn h.tc] 27)).alloc (.cells #[.func (.func 39) #[] #[.pointer (some ⟨gw, 0, none⟩)]] 29)).heap.size = w.heap.size + 2 := by simp
  have hbw3 : Below w.heap.size w (((w.alloc (.cells #[.int .i64 h.k, .slice h.ka h.kn h.kc, .slice h.va h.vn h.vc, .slice h.da h.dn h.dc, .slice h.ta h.tn h.tc] 27)).alloc (.cells #[.func (.func 39) #[] #[.pointer (some ⟨gw, 0, none⟩)]] 29)).alloc (.cells #[.nilFunc] 29)) := hbw2.alloc (by rw [e2]; omega) _
  have hbx3 := hbx2.below ((Below.refl _ _).alloc (Nat.le_refl _) (.cells #[.nilFunc] 29)) hbx2.lt
  have hpv3 := hpv2.below ((Below.refl _ _).alloc (Nat.le_refl _) (.cells #[.nilFunc] 29)) hpv2.lt
  have hnf := Var1.new ((w.alloc (.cells #[.int .i64 h.k, .slice h.ka h.kn h.kc, .slice h.va h.vn h.vc, .slice h.da h.dn h.dc, .slice h.ta h.tn h.tc] 27)).alloc (.cells #[.func (.func 39) #[] #[.pointer (some ⟨gw, 0, none⟩)]] 29)) 29 .nilFunc
  rw [e2] at hnf
  rw [e1] at hpv3
  clear hbw1 hbx1 e1 hbw2 hbx2 hpv2 e2
  go_upto_region 2 with fail
  generalize (((w.alloc (.cells #[.int .i64 h.k, .slice h.ka h.kn h.kc, .slice h.va h.vn h.vc, .slice h.da h.dn h.dc, .slice h.ta h.tn h.tc] 27)).alloc (.cells #[.func (.func 39) #[] #[.pointer (some ⟨gw, 0, none⟩)]] 29)).alloc (.cells #[.nilFunc] 29)) = w2 at *
  have c0 := hnf.cell
  have c1 := hnf.frozen 0
  have hn4 := hnf.set (.func (.func 67) #[] #[.pointer (some ⟨w.heap.size + 1, 0, none⟩), .pointer (some ⟨w.heap.size + 2, 0, none⟩)])
  have hbx4 : Box (w2.setCell ⟨w.heap.size + 2, 0, none⟩ (.func (.func 67) #[] #[.pointer (some ⟨w.heap.size + 1, 0, none⟩), .pointer (some ⟨w.heap.size + 2, 0, none⟩)])) 27 w.heap.size h := (Below.heap_setCell w2 ⟨w.heap.size + 2, 0, none⟩ _ w.heap.size (by simp)).trans hbx3
  have hpv4 := hpv3.far (p := ⟨w.heap.size + 2, 0, none⟩) (by simp) (.func (.func 67) #[] #[.pointer (some ⟨w.heap.size + 1, 0, none⟩), .pointer (some ⟨w.heap.size + 2, 0, none⟩)])
  have hb4 : Below w.heap.size w (w2.setCell ⟨w.heap.size + 2, 0, none⟩ (.func (.func 67) #[] #[.pointer (some ⟨w.heap.size + 1, 0, none⟩), .pointer (some ⟨w.heap.size + 2, 0, none⟩)])) := hbw3.setCell (by simp) _
  clear hnf hbx3 hpv3 hbw3
  go_upto_region 3 with fail
  generalize (w2.setCell ⟨w.heap.size + 2, 0, none⟩ (.func (.func 67) #[] #[.pointer (some ⟨w.heap.size + 1, 0, none⟩), .pointer (some ⟨w.heap.size + 2, 0, none⟩)])) = w3 at *
  obtain ⟨x0, x1, x2, x3, x4⟩ := hbx4.cells
  have c2 := hn4.cell
  have HN := Lib.hid hn4
  have HPV := Lib.hid hpv4
  have HB3 := Lib.hid hb4
  have HR := Lib.hid (hR.below hb4 hR.lt)
  clear c0 c1 hbx4 hb4 hpv4 hn4 hR
  go_wp2_with (first
    | (go_at_call 67
       refine (everyFitsC k gw t h _ (w.heap.size + 1) (w.heap.size + 2) (HTT.out.lower HB3.out) HR.out HPV.out HN.out).mono ?_
       rintro _ w4 ⟨rfl, hb4⟩
       have HB4 : Hid (Below w.heap.size w w4) := Lib.hid (HB3.out.trans (hb4.mono HB3.out.size))
       clear hb4))
  go_ret
  exact ⟨rfl, HB4.out⟩
end Go.Proofs.YtlbiefddcimdgaaDoor

/- The contracts of the program's digests of a tree's parts. -/
namespace Go.Proofs.YtlbiefddcimdgaaDoor
open Go.RowKit
set_option linter.unusedVariables false

/-- Bytes in new memory. -/
structure NewB (w w' : World) (a : Option Addr) (n c : Nat) (zs : List Int) : Prop where
  inb : InBytes w' a n c zs
  new : ∀ ad, a = some ad → w.heap.size ≤ ad.block
  free : ∀ ad o, a = some ad → w'.frozen? ⟨ad.block, o, none⟩ = false
/-- No bytes, and an error. -/
def ErrPost (w : World) (k : Nat) (e : Ending) (w' : World) : Prop := ∃ a c, e = .returned (.tuple #[.slice a 0 c, codeV k]) ∧ Below w.heap.size w w'
/-- New bytes, and no error. -/
def BytesPost (w : World) (zs : List Int) (e : Ending) (w' : World) : Prop := ∃ a c, e = .returned (.tuple #[.slice a zs.length c, .nilIface]) ∧ NewB w w' a zs.length c zs ∧ Below w.heap.size w w'
theorem own_free {w : World} {base g n c : Nat} {e : TypeId} {xs : List Value} (h : w.ownsRow base e 1 (.slice (some ⟨g, 0, none⟩) n c) n xs) (o : Nat) : base ≤ g ∧ w.frozen? ⟨g, o, none⟩ = false := by
  rcases h.2 with ⟨h1, _⟩ | ⟨g', cap, cur, h1, h2, h3, _⟩
  · cases h1
  · injection h1 with h1
    injection h1 with h1
    injection h1 with h1
    subst h1
    exact ⟨h2, by simp [World.frozen?, h3]⟩
/-- What digest.Of answers is bytes in new memory. -/
theorem OfPost2.bytes {w w' : World} {k : Nat} {bs : List Int} {e : Ending} (hk : k ≤ 32) (h : OfPost2 w k bs e w') : BytesPost w ((sumL bs).take k) e w' := by
  obtain ⟨g, hg, rfl, hr, hb⟩ := h
  have hl := take_sum_len hk bs
  refine ⟨some ⟨g, 0, none⟩, k, by rw [hl], ⟨by rw [hl]; exact of_in hr hk, fun ad h => ?_, fun ad o h => ?_⟩, hb⟩
  · injection h with h
    rw [← h]
    exact hg
  · injection h with h
    rw [← h]
    exact hr.frozen o

set_option maxRecDepth 100000 in
set_option maxHeartbeats 4000000 in
theorem cloneN_any (ad : Addr) (n cap : Nat) (bs : List Int) (w : World) (hin : InBytes w (some ad) n cap bs) (hn : n ≤ 140737488355328) :
    Calls Tryd.prog 45 #[.slice (some ad) n cap] w (fun e w' => ∃ g c, e = .returned (.slice (some ⟨g, 0, none⟩) n c) ∧ w'.ownsRow w.heap.size 5 1 (.slice (some ⟨g, 0, none⟩) n c) n (bs.map (Value.int .u8)) ∧ Below w.heap.size w w') := by
  obtain ⟨i0, hi0, hz0, hz1, hz2⟩ := info_parts infoU8
  have hq : ∀ (w : World) (a : Option Addr) (n c n' c' : Nat), (binOp .eql 22 (.slice a n c) (.slice none n' c')).run Tryd.prog w = .ok (.bool a.isNone) w := fun w a n c n' c' => Lib.run_eql_slice_nil w _ _ a n c n' c' Tryd.underlying22
  have HIN := Lib.hid hin
  clear hin
  have e : (some ad : Option Addr).isNone = false := rfl
  go_enter Tryd.func45, Tryd.ntmps45
  go_wp2_with (first
    | (at_builtin
       refine wpList_append_bytes' _ rfl (.tmp 5) (.tmp 6) 22 rfl w.heap.size 5 i0 _ 1 Tryd.underlying22 hi0 hz0 hz1 hz2 rfl w.heap.size 0 0 [] rfl (own_new w 5 .u8 [] w.heap.size (Nat.le_refl _) (by simp [maxLen])) (some ad) n cap bs rfl (HIN.out.below ((Below.refl _ _).alloc (Nat.le_refl _) _)) (by simp only [maxLen]; omega) (by omega) (by simp) ?_
       intro g1 c1 w1 hown1 hg1
       have HO1 := Lib.hid hown1
       have HB1 : Hid (Below w.heap.size w w1) := Lib.hid (below_only ((Below.refl _ _).alloc (Nat.le_refl _) _) hg1 (by simp) (Nat.le_refl _))
       clear hown1 hg1))
  go_ret
  have ho := HO1.out
  rw [List.nil_append, Nat.zero_add] at ho
  exact ⟨g1, c1, rfl, ho, HB1.out⟩

theorem cloneP_any (a : Option Addr) (n cap : Nat) (bs : List Int) (w : World) (hin : InBytes w a n cap bs) (hn : n ≤ 140737488355328) (h0 : 0 < n) :
    Calls Tryd.prog 45 #[.slice a n cap] w (fun e w' => ∃ g c, e = .returned (.slice (some ⟨g, 0, none⟩) n c) ∧ w'.ownsRow w.heap.size 5 1 (.slice (some ⟨g, 0, none⟩) n c) n (bs.map (Value.int .u8)) ∧ Below w.heap.size w w') := by
  obtain ⟨g, off, rfl, _, _⟩ := hin.place h0
  exact cloneN_any _ n cap bs w hin hn

theorem part_lens {t : Tr} (hp : partB t = true) : t.key.length ≤ 80 ∧ t.val.length ≤ 1024 := by
  unfold partB at hp
  split at hp
  · simp only [Bool.and_eq_true, decide_eq_true_eq] at hp; omega
  · split at hp
    · simp only [Bool.and_eq_true, decide_eq_true_eq] at hp; omega
    · split at hp
      · simp only [Bool.and_eq_true, decide_eq_true_eq] at hp; omega
      · split at hp
        · simp only [Bool.and_eq_true, decide_eq_true_eq] at hp; omega
        · cases hp

set_option maxRecDepth 100000 in
set_option maxHeartbeats 4000000 in
theorem pairDigest_any (k : Nat) (hk1 : 1 ≤ k) (hk2 : k ≤ 32) (t : Tr) (h : TH) (w : World) (ht : InTree w h t) (hT : TabLies w) (hpb : partB t = true) (hv : (valT k t).length = k) :
    Calls Tryd.prog 46 #[.int .i64 k, h.v] w (OfPost2 w k (pairL t.key (valT k t))) := by
  unfold TH.v
  obtain ⟨hl1, hl2⟩ := part_lens hpb
  obtain ⟨H, hp⟩ := ht.parts
  have hkl := hp.key.len
  have hvl := hp.val.len
  have hdl := hp.dig.len
  have HK := Lib.hid hp.hk
  have HP := Lib.hid hp
  have HT := Lib.hid hT
  have hbox := Box.new w 27 h
  have HX := Lib.hid hbox
  obtain ⟨x0, x1, x2, x3, x4⟩ := hbox.cells
  have hw1 : Below w.heap.size w (w.alloc (.cells #[.int .i64 h.k, .slice h.ka h.kn h.kc, .slice h.va h.vn h.vc, .slice h.da h.dn h.dc, .slice h.ta h.tn h.tc] 27)) := (Below.refl _ _).alloc (Nat.le_refl _) _
  have HB := Lib.hid hw1
  clear hp ht hT hbox hw1
  go_enter Tryd.func46, Tryd.ntmps46
  cases f1 : (h.k == 1)
  · have hne : ¬ t.k = 1 := by rw [← HK.out]; simpa using f1
    have hval : valT k t = t.dig := by unfold valT; rw [if_neg hne]
    rw [hval] at hv ⊢
    have hdn : (h.dn : Int) = k := by omega
    have HDB := Lib.hid HP.out.dig.bytes
    clear hval hne
    go_wp2_with (first
      | (go_at_call 71
         (with_reducible refine (pair_ok (k : Int) h.ka h.kn h.kc t.key h.da h.dn h.dc t.dig _ (HP.out.key.below HB.out) (by omega) (HP.out.dig.below HB.out) (by omega) (by omega) (by omega)).mono ?_)
         rintro _ w5 ⟨g5, c5, rfl, ho5, hb5⟩
         have HB5 : Hid (Below w.heap.size w w5) := Lib.hid (HB.out.trans (hb5.mono HB.out.size))
         have HI5 := Lib.hid (InBytes.of_own ho5 (pairL_bytes HP.out.key.bytes (by omega) HDB.out))
         clear ho5 hb5)
      | (go_at_call 43
         (with_reducible refine (of_ok k _ _ _ _ _ HI5.out ?_ (HT.out.below HB5.out (Nat.le_refl _)) hk1 hk2).mono ?_)
         · have hq := pairL_len (a := t.key) (b := t.dig) (by omega)
           omega
         rintro _ w6 hof
         obtain ⟨g6, hg6, rfl, hr6, hb6⟩ := hof
         have HB6 : Hid (Below w.heap.size w w6) := Lib.hid (HB5.out.trans (hb6.mono HB5.out.size))
         have HR6 := Lib.hid (And.intro (Nat.le_trans HB5.out.size hg6) hr6)
         clear hg6 hr6 hb6))
    go_ret2
    exact ⟨g6, HR6.out.1, rfl, HR6.out.2, HB6.out⟩
  · have he : t.k = 1 := by rw [← HK.out]; simpa using f1
    have hval : valT k t = (sumL (valL t.val)).take k := by unfold valT; rw [if_pos he]
    rw [hval] at hv ⊢
    have HDB : Hid (Bytes8 ((sumL (valL t.val)).take k)) := Lib.hid (fun z hz => sumL_bytes _ z (List.mem_of_mem_take hz))
    clear hval he
    go_wp2_with (first
      | (go_at_call 70
         (with_reducible refine (value_any h.va h.vn h.vc t.val _ (HP.out.val.below HB.out) (by omega)).mono ?_)
         rintro _ w2 ⟨g2, c2, rfl, ho2, hb2⟩
         have HB2 : Hid (Below w.heap.size w w2) := Lib.hid (HB.out.trans (hb2.mono HB.out.size))
         have HI2 := Lib.hid (InBytes.of_own ho2 (valL_bytes HP.out.val.bytes))
         have HX2 := Lib.hid (HX.out.below hb2 HX.out.lt)
         clear ho2 hb2)
      | (go_at_call 43
         (with_reducible refine (of_ok k (some ⟨g2, 0, none⟩) (valL t.val).length c2 (valL t.val) w2 HI2.out ?_ (HT.out.below HB2.out (Nat.le_refl _)) hk1 hk2).mono ?_)
         · rw [valL_len]; omega
         rintro _ w3 ⟨g3, hg3, rfl, hr3, hb3⟩
         have HB3 : Hid (Below w.heap.size w w3) := Lib.hid (HB2.out.trans (hb3.mono HB2.out.size))
         have HI3 := Lib.hid (of_in hr3 hk2)
         have hx3 := HX2.out.below hb3 HX2.out.lt
         clear x0 x1 x2 x3 x4
         obtain ⟨x0, x1, x2, x3, x4⟩ := hx3.cells
         clear hg3 hr3 hb3 hx3)
      | (go_at_call 71
         (with_reducible refine (pair_ok (k : Int) h.ka h.kn h.kc t.key (some ⟨g3, 0, none⟩) k k ((sumL (valL t.val)).take k) _ (HP.out.key.below HB3.out) (by omega) HI3.out (by omega) (by omega) (by omega)).mono ?_)
         rintro _ w5 ⟨g5, c5, rfl, ho5, hb5⟩
         have HB5 : Hid (Below w.heap.size w w5) := Lib.hid (HB3.out.trans (hb5.mono HB3.out.size))
         have HI5 := Lib.hid (InBytes.of_own ho5 (pairL_bytes HP.out.key.bytes (by omega) HDB.out))
         clear ho5 hb5)
      | (go_at_call 43
         (with_reducible refine (of_ok k _ _ _ _ _ HI5.out ?_ (HT.out.below HB5.out (Nat.le_refl _)) hk1 hk2).mono ?_)
         · have hq := pairL_len (a := t.key) (b := ((sumL (valL t.val)).take k)) (by omega)
           omega
         rintro _ w6 hof
         obtain ⟨g6, hg6, rfl, hr6, hb6⟩ := hof
         have HB6 : Hid (Below w.heap.size w w6) := Lib.hid (HB5.out.trans (hb6.mono HB5.out.size))
         have HR6 := Lib.hid (And.intro (Nat.le_trans HB5.out.size hg6) hr6)
         clear hg6 hr6 hb6))
    go_ret2
    exact ⟨g6, HR6.out.1, rfl, HR6.out.2, HB6.out⟩

/-- What the world is like inside the closure of Digest. -/
structure QW (k gw gc : Nat) (w W : World) (h : TH) (t : Tr) : Prop where
  box : Box W 27 w.heap.size h
  clo : Var1 W 86 gc (.func (.func 42) #[] #[.pointer (some ⟨gw, 0, none⟩), .pointer (some ⟨gc, 0, none⟩)])
  wid : Var1 W 3 gw (.int .i64 k)
  tab : TabLies W
  t : InTree W h t
  b : Below w.heap.size w W
theorem QW.below {k gw gc : Nat} {w W W' : World} {h : TH} {t : Tr} (d : QW k gw gc w W h t) (hb : Below W.heap.size W W') : QW k gw gc w W' h t :=
  ⟨d.box.below hb d.box.lt, d.clo.below hb d.clo.lt, d.wid.below hb d.wid.lt, d.tab.below hb (Nat.le_refl _), d.t.lower hb, d.b.trans (hb.mono d.b.size)⟩
theorem QW.drew {k gw gc : Nat} {w W : World} {h : TH} {t : Tr} (d : QW k gw gc w W h t) : QW k gw gc w W.drew h t := d.below (Below.refl _ _).drew
theorem QW.new {k gw gc : Nat} (w : World) {h : TH} {t : Tr} (hc : Var1 w 86 gc (.func (.func 42) #[] #[.pointer (some ⟨gw, 0, none⟩), .pointer (some ⟨gc, 0, none⟩)])) (hw : Var1 w 3 gw (.int .i64 k)) (hT : TabLies w) (ht : InTree w h t) : QW k gw gc w (w.alloc (.cells #[.int .i64 h.k, .slice h.ka h.kn h.kc, .slice h.va h.vn h.vc, .slice h.da h.dn h.dc, .slice h.ta h.tn h.tc] 27)) h t :=
  ⟨Box.new w _ h, hc.below ((Below.refl _ _).alloc (Nat.le_refl _) _) hc.lt, hw.below ((Below.refl _ _).alloc (Nat.le_refl _) _) hw.lt, hT.below ((Below.refl w.heap.size w).alloc (Nat.le_refl _) _) (Nat.le_refl _), ht.lower ((Below.refl _ _).alloc (Nat.le_refl _) _), (Below.refl _ _).alloc (Nat.le_refl _) _⟩
theorem digT_split {k : Nat} {t : Tr} {zs : List Int} (h0 : t.k ≠ 0) (h3 : t.k ≠ 3) (h2 : t.kids.length = 2) (hd : digT k t = some zs) :
    (valT k t).length = k ∧ ∃ l r, digT k (t.kids[0]'(by omega)) = some l ∧ digT k (t.kids[1]'(by omega)) = some r ∧ zs = (sumL (nodeL l ((sumL (pairL t.key (valT k t))).take k) r)).take k := by
  by_cases hv : (valT k t).length = k
  · refine ⟨hv, ?_⟩
    rw [digT_node h0 h3 hv h2] at hd
    split at hd
    · rename_i l r e1 e2
      injection hd with hd
      exact ⟨l, r, e1, e2, hd.symm⟩
    · cases hd
  · rw [digT_bad h0 h3 hv] at hd
    cases hd

set_option maxRecDepth 100000 in
set_option maxHeartbeats 4000000 in
theorem digC_any (k : Nat) (hk1 : 1 ≤ k) (hk2 : k ≤ 32) : ∀ (t : Tr) (h : TH) (w : World) (gw gc : Nat), InTree w h t → TabLies w → formedT t = true → Var1 w 3 gw (.int .i64 k) → Var1 w 86 gc (.func (.func 42) #[] #[.pointer (some ⟨gw, 0, none⟩), .pointer (some ⟨gc, 0, none⟩)]) → ∀ zs, digT k t = some zs →
    Calls Tryd.prog 42 #[h.v, .pointer (some ⟨gw, 0, none⟩), .pointer (some ⟨gc, 0, none⟩)] w (BytesPost w zs) := by
  intro t
  induction t using Tr.ind with
  | h t ih =>
  intro h w gw gc ht hT hf hw hc zs hdg
  obtain ⟨hpb, hfk⟩ := formed_kids hf
  obtain ⟨hlk, hlv⟩ := part_lens hpb
  unfold TH.v
  obtain ⟨H, hp⟩ := ht.parts
  have htl := hp.len
  have htc := hp.sl.le
  have htm := Nat.le_trans hp.sl.le hp.sl.max
  have hdl := hp.dig.len
  simp only [maxLen] at htm
  have HK := Lib.hid hp.hk
  have HP := Lib.hid hp
  have IH := Lib.hid ih
  have hd0 := QW.new w hc hw hT ht
  have HD0 := Lib.hid hd0
  obtain ⟨x0, x1, x2, x3, x4⟩ := hd0.box.cells
  have HF := Lib.hid hfk
  clear hp ht ih hT hc hw hd0 hf hfk
  go_enter Tryd.func42, Tryd.ntmps42
  by_cases k0 : t.k = 0
  · have e1 : zs = (sumL [3]).take k := by rw [digT_0 k0] at hdg; injection hdg with hdg; exact hdg.symm
    have hk0 : h.k = 0 := by rw [HK.out, k0]
    have hkb : (h.k == 0) = true := by rw [hk0]; rfl
    have b3 : Bytes8 [3] := fun z hz => by simp at hz; omega
    clear hdg k0 hk0
    go_upto_region 3 with fail
    generalize (w.alloc (.cells #[.int .i64 h.k, .slice h.ka h.kn h.kc, .slice h.va h.vn h.vc, .slice h.da h.dn h.dc, .slice h.ta h.tn h.tc] 27)) = w0 at *
    refine wp_region_held_drew (S := (fun W => W.cell? ⟨gw, 0, none⟩ = some (.int .i64 k))) (by kernel_rfl) HD0.out.drew.wid.cell (fun hHeld => ?_)
    refine take_w (i := 0) (oi := ?oZ1) (v := ?vZ1) ?hiZ1 (by kernel_rfl) (by kernel_rfl) (by kernel_rfl) ?hQZ1 ?hwZ1 ?hyZ1 (by assumption) ?restZ1
    case hiZ1 => (simp only [List.getElem?_toArray, List.getElem?_cons_zero] <;> rfl)
    case hQZ1 => exact (fun _ _ _ h => h)
    case hwZ1 => rfl
    case hyZ1 => (intro w hSw; (try dsimp only at hSw); go_simp; try with_reducible rfl)
    (try simp only [Act.put, List.setIfInBounds_toArray, List.set_cons_zero, List.set_cons_succ])
    refine wpAnyH_ready (rs := [1]) (by kernel_rfl) (by simp) ?_
    refine AllReadyH.cons (o := ?oZ2) ?hiZ2 (fun K hK => ?stZ2) AllReadyH.nil
    case hiZ2 => (simp only [List.getElem?_toArray, List.getElem?_cons_succ, List.getElem?_cons_zero] <;> rfl)
    go_simp
    go_at_call 44
    (with_reducible refine (none_any _).mono ?_)
    rintro _ w1 ⟨g1, c1, rfl, ho1, hb1⟩
    have HD1 := Lib.hid (HD0.out.drew.below hb1)
    have HI1 : Hid (InBytes w1 (some ⟨g1, 0, none⟩) 1 c1 [3]) := Lib.hid (InBytes.of_own ho1 b3)
    clear ho1 hb1
    go_simp
    refine hK.out _ _ ?_ (fun hHeld => ?_)
    · (first | exact HD2.out.wid.cell | exact HD1.out.wid.cell | exact HD0.out.drew.wid.cell)
    clear hK K
    (try simp only [Act.put, List.setIfInBounds_toArray, List.set_cons_zero, List.set_cons_succ])
    refine wpAnyH_ready (rs := [2]) (by kernel_rfl) (by simp) ?_
    refine AllReadyH.cons (o := ?oZ3) ?hiZ3 (fun K hK => ?stZ3) AllReadyH.nil
    case hiZ3 => (simp only [List.getElem?_toArray, List.getElem?_cons_succ, List.getElem?_cons_zero] <;> rfl)
    go_simp
    go_at_call 43
    (with_reducible refine (of_ok k (some ⟨g1, 0, none⟩) 1 c1 [3] _ HI1.out (by omega) HD1.out.tab hk1 hk2).mono ?_)
    rintro _ w2 ⟨g2, hg2, rfl, hr2, hb2⟩
    have HD2 := Lib.hid (HD1.out.below hb2)
    have HR2 := Lib.hid (And.intro (Nat.le_trans HD1.out.b.size hg2) hr2)
    clear hg2 hr2 hb2
    go_simp
    refine hK.out _ _ ?_ (fun hHeld => ?_)
    · (first | exact HD2.out.wid.cell | exact HD1.out.wid.cell | exact HD0.out.drew.wid.cell)
    clear hK K
    (try simp only [Act.put, List.setIfInBounds_toArray, List.set_cons_zero, List.set_cons_succ])
    refine take_w (i := 3) (oi := ?oZ4) (v := ?vZ4) ?hiZ4 (by kernel_rfl) (by kernel_rfl) (by kernel_rfl) ?hQZ4 ?hwZ4 ?hyZ4 (by assumption) ?restZ4
    case hiZ4 => (simp only [List.getElem?_toArray, List.getElem?_cons_succ, List.getElem?_cons_zero] <;> rfl)
    case hQZ4 => exact (fun _ _ _ h => h)
    case hwZ4 => rfl
    case hyZ4 => (intro w hSw; (try dsimp only at hSw); go_simp; try with_reducible rfl)
    (try simp only [Act.put, List.setIfInBounds_toArray, List.set_cons_zero, List.set_cons_succ])
    refine take_w (i := 4) (oi := ?oZ5) (v := ?vZ5) ?hiZ5 (by kernel_rfl) (by kernel_rfl) (by kernel_rfl) ?hQZ5 ?hwZ5 ?hyZ5 (by assumption) ?restZ5
    case hiZ5 => (simp only [List.getElem?_toArray, List.getElem?_cons_succ, List.getElem?_cons_zero] <;> rfl)
    case hQZ5 => exact (fun _ _ _ h => h)
    case hwZ5 => rfl
    case hyZ5 => (intro w hSw; (try dsimp only at hSw); go_simp; try with_reducible rfl)
    (try simp only [Act.put, List.setIfInBounds_toArray, List.set_cons_zero, List.set_cons_succ])
    refine take_w (i := 5) (oi := ?oZ6) (v := ?vZ6) ?hiZ6 (by kernel_rfl) (by kernel_rfl) (by kernel_rfl) ?hQZ6 ?hwZ6 ?hyZ6 (by assumption) ?restZ6
    case hiZ6 => (simp only [List.getElem?_toArray, List.getElem?_cons_succ, List.getElem?_cons_zero] <;> rfl)
    case hQZ6 => exact (fun _ _ _ h => h)
    case hwZ6 => rfl
    case hyZ6 => (intro w hSw; (try dsimp only at hSw); go_simp; try with_reducible rfl)
    (try simp only [Act.put, List.setIfInBounds_toArray, List.set_cons_zero, List.set_cons_succ])
    refine take_w (i := 6) (oi := ?oZ7) (v := ?vZ7) ?hiZ7 (by kernel_rfl) (by kernel_rfl) (by kernel_rfl) ?hQZ7 ?hwZ7 ?hyZ7 (by assumption) ?restZ7
    case hiZ7 => (simp only [List.getElem?_toArray, List.getElem?_cons_succ, List.getElem?_cons_zero] <;> rfl)
    case hQZ7 => exact (fun _ _ _ h => h)
    case hwZ7 => rfl
    case hyZ7 => (intro w hSw; (try dsimp only at hSw); go_simp; try with_reducible rfl)
    (try simp only [Act.put, List.setIfInBounds_toArray, List.set_cons_zero, List.set_cons_succ])
    refine wpAnyH_done (by kernel_rfl) ?_ _
    
    go_wp2_with fail
    go_ret2
    subst e1
    exact OfPost2.bytes hk2 ⟨g2, HR2.out.1, rfl, HR2.out.2, HD2.out.b⟩
  have hkb0 : (h.k == 0) = false := by rw [HK.out]; simpa using k0
  by_cases k3 : t.k = 3
  · have hkb3 : (h.k == 3) = true := by rw [HK.out]; simpa using k3
    rw [digT_3 k3] at hdg
    split at hdg
    · rename_i hdw
      injection hdg with hdg
      subst hdg
      have hd0 : 0 < h.dn := by omega
      have hd1 : h.dn ≤ 32 := by omega
      have HDW := Lib.hid (And.intro hdl hdw)
      clear k3 k0 hdl hdw
      go_upto_region 5 with fail
      generalize (w.alloc (.cells #[.int .i64 h.k, .slice h.ka h.kn h.kc, .slice h.va h.vn h.vc, .slice h.da h.dn h.dc, .slice h.ta h.tn h.tc] 27)) = w0 at *
      go_wp2_with (first
        | (go_at_call 45
           (with_reducible refine (cloneP_any h.da h.dn h.dc t.dig _ (HP.out.dig.below HD0.out.b) (by omega) hd0).mono ?_)
           rintro _ w1 ⟨g1, c1, rfl, ho1, hb1⟩
           have HD1 := Lib.hid (HD0.out.below hb1)
           have HO1 := Lib.hid ho1
           clear ho1 hb1))
      go_ret2
      refine ⟨some ⟨g1, 0, none⟩, c1, by rw [HDW.out.1]; rfl, ⟨by rw [HDW.out.1]; exact InBytes.of_own HO1.out HP.out.dig.bytes, fun ad hh => ?_, fun ad o hh => ?_⟩, HD1.out.b⟩
      · injection hh with hh
        rw [← hh]
        exact Nat.le_trans HD0.out.b.size (own_free HO1.out 0).1
      · injection hh with hh
        rw [← hh]
        exact (own_free HO1.out o).2
    · cases hdg
  have hkb3 : (h.k == 3) = false := by rw [HK.out]; simpa using k3
  rcases part_kids hpb with ⟨_, hk | hk⟩ | ⟨h2, hk⟩
  · exact absurd hk k0
  · exact absurd hk k3
  obtain ⟨hvl, ls, rs, hdL, hdR, hzs⟩ := digT_split k0 k3 h2 hdg
  have l0 : 0 < t.kids.length := by omega
  have l1 : 1 < t.kids.length := by omega
  have hll := digT_len hk2 hdL
  have hlr := digT_len hk2 hdR
  have HDL := Lib.hid hdL
  have HDR := Lib.hid hdR
  clear hdL hdR hdg hk k0 k3
  go_upto_region 6 with fail
  obtain ⟨g, off, hta, hg, -⟩ := (HP.out.below HD0.out.b).place (by omega)
  have HTA := Lib.hid hta
  rw [hta]
  generalize hW0 : (w.alloc (.cells #[.int .i64 h.k, .slice h.ka h.kn h.kc, .slice h.va h.vn h.vc, .slice h.da h.dn h.dc, .slice (some ⟨g, off, none⟩) h.tn h.tc] 27)) = w0
  have hW1 : (w.alloc (.cells #[.int .i64 h.k, .slice h.ka h.kn h.kc, .slice h.va h.vn h.vc, .slice h.da h.dn h.dc, .slice h.ta h.tn h.tc] 27)) = w0 := by rw [hta]; exact hW0
  rw [hW1] at HD0
  clear hta hW0 hW1 hg x0 x1 x2 x3 x4
  have ht1 : (1 : Int) < (h.tn : Int) := by omega
  have ht0 : 0 < h.tn := by omega
  refine wp_region_held_drew (S := (fun W => W.cell? ⟨gc, 0, none⟩ = some (.func (.func 42) #[] #[.pointer (some ⟨gw, 0, none⟩), .pointer (some ⟨gc, 0, none⟩)]) ∧ W.cell? ⟨w.heap.size, 4, none⟩ = some (.slice (some ⟨g, off, none⟩) h.tn h.tc) ∧ W.cell? ⟨g, off, none⟩ = some (.int .i64 (H 0).k) ∧ W.cell? ⟨g, off + 1, none⟩ = some (.slice (H 0).ka (H 0).kn (H 0).kc) ∧ W.cell? ⟨g, off + 2, none⟩ = some (.slice (H 0).va (H 0).vn (H 0).vc) ∧ W.cell? ⟨g, off + 3, none⟩ = some (.slice (H 0).da (H 0).dn (H 0).dc) ∧ W.cell? ⟨g, off + 4, none⟩ = some (.slice (H 0).ta (H 0).tn (H 0).tc))) (by kernel_rfl) ⟨HD0.out.drew.clo.cell, (HD0.out.drew.box.cells.2.2.2.2).trans (by rw [HTA.out]), (HP.out.below HD0.out.drew.b).kid0 HTA.out (by omega)⟩ (fun hHeld => ?_)
  refine take_w (i := 0) (oi := ?oZ8) (v := ?vZ8) ?hiZ8 (by kernel_rfl) (by kernel_rfl) (by kernel_rfl) ?hQZ8 ?hwZ8 ?hyZ8 (by assumption) ?restZ8
  case hiZ8 => (simp only [List.getElem?_toArray, List.getElem?_cons_zero] <;> rfl)
  case hQZ8 => exact (fun _ _ _ h => h)
  case hwZ8 => rfl
  case hyZ8 => (intro w hSw; (try dsimp only at hSw); go_simp; try with_reducible rfl)
  (try simp only [Act.put, List.setIfInBounds_toArray, List.set_cons_zero, List.set_cons_succ])
  refine take_w (i := 1) (oi := ?oZ9) (v := ?vZ9) ?hiZ9 (by kernel_rfl) (by kernel_rfl) (by kernel_rfl) ?hQZ9 ?hwZ9 ?hyZ9 (by assumption) ?restZ9
  case hiZ9 => (simp only [List.getElem?_toArray, List.getElem?_cons_succ, List.getElem?_cons_zero] <;> rfl)
  case hQZ9 => exact (fun _ _ _ h => h)
  case hwZ9 => rfl
  case hyZ9 => (intro w hSw; (try dsimp only at hSw); go_simp; try with_reducible rfl)
  (try simp only [Act.put, List.setIfInBounds_toArray, List.set_cons_zero, List.set_cons_succ])
  refine take_w (i := 2) (oi := ?oZ10) (v := ?vZ10) ?hiZ10 (by kernel_rfl) (by kernel_rfl) (by kernel_rfl) ?hQZ10 ?hwZ10 ?hyZ10 (by assumption) ?restZ10
  case hiZ10 => (simp only [List.getElem?_toArray, List.getElem?_cons_succ, List.getElem?_cons_zero] <;> rfl)
  case hQZ10 => exact (fun _ _ _ h => h)
  case hwZ10 => rfl
  case hyZ10 => (intro w hSw; (try dsimp only at hSw); go_simp; try with_reducible rfl)
  (try simp only [Act.put, List.setIfInBounds_toArray, List.set_cons_zero, List.set_cons_succ])
  refine take_w (i := 3) (oi := ?oZ11) (v := ?vZ11) ?hiZ11 (by kernel_rfl) (by kernel_rfl) (by kernel_rfl) ?hQZ11 ?hwZ11 ?hyZ11 (by assumption) ?restZ11
  case hiZ11 => (simp only [List.getElem?_toArray, List.getElem?_cons_succ, List.getElem?_cons_zero] <;> rfl)
  case hQZ11 => exact (fun _ _ _ h => h)
  case hwZ11 => rfl
  case hyZ11 => (intro w hSw; (try dsimp only at hSw); go_simp; try with_reducible rfl)
  (try simp only [Act.put, List.setIfInBounds_toArray, List.set_cons_zero, List.set_cons_succ])
  refine take_w (i := 4) (oi := ?oZ12) (v := ?vZ12) ?hiZ12 (by kernel_rfl) (by kernel_rfl) (by kernel_rfl) ?hQZ12 ?hwZ12 ?hyZ12 (by assumption) ?restZ12
  case hiZ12 => (simp only [List.getElem?_toArray, List.getElem?_cons_succ, List.getElem?_cons_zero] <;> rfl)
  case hQZ12 => exact (fun _ _ _ h => h)
  case hwZ12 => rfl
  case hyZ12 => (intro w hSw; (try dsimp only at hSw); go_simp; try with_reducible rfl)
  (try simp only [Act.put, List.setIfInBounds_toArray, List.set_cons_zero, List.set_cons_succ])
  refine wpAnyH_ready (rs := [5]) (by kernel_rfl) (by simp) ?_
  refine AllReadyH.cons (o := ?oZ13) ?hiZ13 (fun K hK => ?stZ13) AllReadyH.nil
  case hiZ13 => (simp only [List.getElem?_toArray, List.getElem?_cons_succ, List.getElem?_cons_zero] <;> rfl)
  go_simp
  go_at_call 42
  refine (IH.out _ (List.getElem_mem l0) (H 0) _ gw gc ((HP.out.below HD0.out.drew.b).kids 0 l0) HD0.out.drew.tab (HF.out 0 l0) HD0.out.drew.wid HD0.out.drew.clo ls HDL.out).mono ?_
  rintro _ w1 ⟨a1, c1, rfl, hn1, hb1⟩
  have HD1 := Lib.hid (HD0.out.drew.below hb1)
  have HI1 := Lib.hid hn1.inb
  skip
  clear hn1 hb1
  go_simp
  refine hK.out _ _ ?_ (fun hHeld => ?_)
  · (first | exact ⟨HD1.out.clo.cell, (HD1.out.box.cells.2.2.2.2).trans (by rw [HTA.out]), (HP.out.below HD1.out.b).kid0 HTA.out (by omega)⟩ | exact ⟨HD0.out.drew.clo.cell, (HD0.out.drew.box.cells.2.2.2.2).trans (by rw [HTA.out]), (HP.out.below HD0.out.drew.b).kid0 HTA.out (by omega)⟩)
  clear hK K
  (try simp only [Act.put, List.setIfInBounds_toArray, List.set_cons_zero, List.set_cons_succ])
  refine take_w (i := 6) (oi := ?oZ14) (v := ?vZ14) ?hiZ14 (by kernel_rfl) (by kernel_rfl) (by kernel_rfl) ?hQZ14 ?hwZ14 ?hyZ14 (by assumption) ?restZ14
  case hiZ14 => (simp only [List.getElem?_toArray, List.getElem?_cons_succ, List.getElem?_cons_zero] <;> rfl)
  case hQZ14 => exact (fun _ _ _ h => h)
  case hwZ14 => rfl
  case hyZ14 => (intro w hSw; (try dsimp only at hSw); go_simp; try with_reducible rfl)
  (try simp only [Act.put, List.setIfInBounds_toArray, List.set_cons_zero, List.set_cons_succ])
  refine take_w (i := 7) (oi := ?oZ15) (v := ?vZ15) ?hiZ15 (by kernel_rfl) (by kernel_rfl) (by kernel_rfl) ?hQZ15 ?hwZ15 ?hyZ15 (by assumption) ?restZ15
  case hiZ15 => (simp only [List.getElem?_toArray, List.getElem?_cons_succ, List.getElem?_cons_zero] <;> rfl)
  case hQZ15 => exact (fun _ _ _ h => h)
  case hwZ15 => rfl
  case hyZ15 => (intro w hSw; (try dsimp only at hSw); go_simp; try with_reducible rfl)
  (try simp only [Act.put, List.setIfInBounds_toArray, List.set_cons_zero, List.set_cons_succ])
  refine take_w (i := 8) (oi := ?oZ16) (v := ?vZ16) ?hiZ16 (by kernel_rfl) (by kernel_rfl) (by kernel_rfl) ?hQZ16 ?hwZ16 ?hyZ16 (by assumption) ?restZ16
  case hiZ16 => (simp only [List.getElem?_toArray, List.getElem?_cons_succ, List.getElem?_cons_zero] <;> rfl)
  case hQZ16 => exact (fun _ _ _ h => h)
  case hwZ16 => rfl
  case hyZ16 => (intro w hSw; (try dsimp only at hSw); go_simp; try with_reducible rfl)
  (try simp only [Act.put, List.setIfInBounds_toArray, List.set_cons_zero, List.set_cons_succ])
  refine take_w (i := 9) (oi := ?oZ17) (v := ?vZ17) ?hiZ17 (by kernel_rfl) (by kernel_rfl) (by kernel_rfl) ?hQZ17 ?hwZ17 ?hyZ17 (by assumption) ?restZ17
  case hiZ17 => (simp only [List.getElem?_toArray, List.getElem?_cons_succ, List.getElem?_cons_zero] <;> rfl)
  case hQZ17 => exact (fun _ _ _ h => h)
  case hwZ17 => rfl
  case hyZ17 => (intro w hSw; (try dsimp only at hSw); go_simp; try with_reducible rfl)
  (try simp only [Act.put, List.setIfInBounds_toArray, List.set_cons_zero, List.set_cons_succ])
  refine take_w (i := 10) (oi := ?oZ18) (v := ?vZ18) ?hiZ18 (by kernel_rfl) (by kernel_rfl) (by kernel_rfl) ?hQZ18 ?hwZ18 ?hyZ18 (by assumption) ?restZ18
  case hiZ18 => (simp only [List.getElem?_toArray, List.getElem?_cons_succ, List.getElem?_cons_zero] <;> rfl)
  case hQZ18 => exact (fun _ _ _ h => h)
  case hwZ18 => rfl
  case hyZ18 => (intro w hSw; (try dsimp only at hSw); go_simp; try with_reducible rfl)
  (try simp only [Act.put, List.setIfInBounds_toArray, List.set_cons_zero, List.set_cons_succ])
  refine wpAnyH_done (by kernel_rfl) ?_ _
  
  clear hHeld
  obtain ⟨x0, x1, x2, x3, x4⟩ := HD1.out.box.cells
  have xw := HD1.out.wid.cell
  go_upto_region 12 with (first
    | (go_at_call 46
       refine (pairDigest_any k hk1 hk2 t h _ HD1.out.t HD1.out.tab hpb hvl).mono ?_
       rintro _ w2 ⟨g2, hg2, rfl, hr2, hb2⟩
       have HD2 := Lib.hid (HD1.out.below hb2)
       have HI2 := Lib.hid (of_in hr2 hk2)
       have HI12 := Lib.hid (HI1.out.below hb2)
       clear hg2 hr2 hb2))
  clear x0 x1 x2 x3 x4 xw
  refine wp_region_held_drew (S := (fun W => W.cell? ⟨gc, 0, none⟩ = some (.func (.func 42) #[] #[.pointer (some ⟨gw, 0, none⟩), .pointer (some ⟨gc, 0, none⟩)]) ∧ W.cell? ⟨w.heap.size, 4, none⟩ = some (.slice (some ⟨g, off, none⟩) h.tn h.tc) ∧ W.cell? ⟨g, off + 5, none⟩ = some (.int .i64 (H 1).k) ∧ W.cell? ⟨g, off + 5 + 1, none⟩ = some (.slice (H 1).ka (H 1).kn (H 1).kc) ∧ W.cell? ⟨g, off + 5 + 2, none⟩ = some (.slice (H 1).va (H 1).vn (H 1).vc) ∧ W.cell? ⟨g, off + 5 + 3, none⟩ = some (.slice (H 1).da (H 1).dn (H 1).dc) ∧ W.cell? ⟨g, off + 5 + 4, none⟩ = some (.slice (H 1).ta (H 1).tn (H 1).tc))) (by kernel_rfl) ⟨HD2.out.drew.clo.cell, (HD2.out.drew.box.cells.2.2.2.2).trans (by rw [HTA.out]), (HP.out.below HD2.out.drew.b).kid1 HTA.out (by omega)⟩ (fun hHeld => ?_)
  refine take_w (i := 0) (oi := ?oZ19) (v := ?vZ19) ?hiZ19 (by kernel_rfl) (by kernel_rfl) (by kernel_rfl) ?hQZ19 ?hwZ19 ?hyZ19 (by assumption) ?restZ19
  case hiZ19 => (simp only [List.getElem?_toArray, List.getElem?_cons_zero] <;> rfl)
  case hQZ19 => exact (fun _ _ _ h => h)
  case hwZ19 => rfl
  case hyZ19 => (intro w hSw; (try dsimp only at hSw); go_simp; try with_reducible rfl)
  (try simp only [Act.put, List.setIfInBounds_toArray, List.set_cons_zero, List.set_cons_succ])
  refine take_w (i := 1) (oi := ?oZ20) (v := ?vZ20) ?hiZ20 (by kernel_rfl) (by kernel_rfl) (by kernel_rfl) ?hQZ20 ?hwZ20 ?hyZ20 (by assumption) ?restZ20
  case hiZ20 => (simp only [List.getElem?_toArray, List.getElem?_cons_succ, List.getElem?_cons_zero] <;> rfl)
  case hQZ20 => exact (fun _ _ _ h => h)
  case hwZ20 => rfl
  case hyZ20 => (intro w hSw; (try dsimp only at hSw); go_simp; try with_reducible rfl)
  (try simp only [Act.put, List.setIfInBounds_toArray, List.set_cons_zero, List.set_cons_succ])
  refine take_w (i := 2) (oi := ?oZ21) (v := ?vZ21) ?hiZ21 (by kernel_rfl) (by kernel_rfl) (by kernel_rfl) ?hQZ21 ?hwZ21 ?hyZ21 (by assumption) ?restZ21
  case hiZ21 => (simp only [List.getElem?_toArray, List.getElem?_cons_succ, List.getElem?_cons_zero] <;> rfl)
  case hQZ21 => exact (fun _ _ _ h => h)
  case hwZ21 => rfl
  case hyZ21 => (intro w hSw; (try dsimp only at hSw); go_simp; try with_reducible rfl)
  (try simp only [Act.put, List.setIfInBounds_toArray, List.set_cons_zero, List.set_cons_succ])
  refine take_w (i := 3) (oi := ?oZ22) (v := ?vZ22) ?hiZ22 (by kernel_rfl) (by kernel_rfl) (by kernel_rfl) ?hQZ22 ?hwZ22 ?hyZ22 (by assumption) ?restZ22
  case hiZ22 => (simp only [List.getElem?_toArray, List.getElem?_cons_succ, List.getElem?_cons_zero] <;> rfl)
  case hQZ22 => exact (fun _ _ _ h => h)
  case hwZ22 => rfl
  case hyZ22 => (intro w hSw; (try dsimp only at hSw); go_simp; try with_reducible rfl)
  (try simp only [Act.put, List.setIfInBounds_toArray, List.set_cons_zero, List.set_cons_succ])
  refine take_w (i := 4) (oi := ?oZ23) (v := ?vZ23) ?hiZ23 (by kernel_rfl) (by kernel_rfl) (by kernel_rfl) ?hQZ23 ?hwZ23 ?hyZ23 (by assumption) ?restZ23
  case hiZ23 => (simp only [List.getElem?_toArray, List.getElem?_cons_succ, List.getElem?_cons_zero] <;> rfl)
  case hQZ23 => exact (fun _ _ _ h => h)
  case hwZ23 => rfl
  case hyZ23 => (intro w hSw; (try dsimp only at hSw); go_simp; try with_reducible rfl)
  (try simp only [Act.put, List.setIfInBounds_toArray, List.set_cons_zero, List.set_cons_succ])
  refine wpAnyH_ready (rs := [5]) (by kernel_rfl) (by simp) ?_
  refine AllReadyH.cons (o := ?oZ24) ?hiZ24 (fun K hK => ?stZ24) AllReadyH.nil
  case hiZ24 => (simp only [List.getElem?_toArray, List.getElem?_cons_succ, List.getElem?_cons_zero] <;> rfl)
  go_simp
  go_at_call 42
  refine (IH.out _ (List.getElem_mem l1) (H 1) _ gw gc ((HP.out.below HD2.out.drew.b).kids 1 l1) HD2.out.drew.tab (HF.out 1 l1) HD2.out.drew.wid HD2.out.drew.clo rs HDR.out).mono ?_
  rintro _ w3 ⟨a3, c3, rfl, hn3, hb3⟩
  have HD3 := Lib.hid (HD2.out.drew.below hb3)
  have HI3 := Lib.hid hn3.inb
  have HI13 := Lib.hid ((HI12.out.below (Below.refl _ _).drew).below hb3)
  have HI23 := Lib.hid ((HI2.out.below (Below.refl _ _).drew).below hb3)
  clear hn3 hb3
  go_simp
  refine hK.out _ _ ?_ (fun hHeld => ?_)
  · (first | exact ⟨HD3.out.clo.cell, (HD3.out.box.cells.2.2.2.2).trans (by rw [HTA.out]), (HP.out.below HD3.out.b).kid1 HTA.out (by omega)⟩ | exact ⟨HD2.out.drew.clo.cell, (HD2.out.drew.box.cells.2.2.2.2).trans (by rw [HTA.out]), (HP.out.below HD2.out.drew.b).kid1 HTA.out (by omega)⟩)
  clear hK K
  (try simp only [Act.put, List.setIfInBounds_toArray, List.set_cons_zero, List.set_cons_succ])
  refine take_w (i := 6) (oi := ?oZ25) (v := ?vZ25) ?hiZ25 (by kernel_rfl) (by kernel_rfl) (by kernel_rfl) ?hQZ25 ?hwZ25 ?hyZ25 (by assumption) ?restZ25
  case hiZ25 => (simp only [List.getElem?_toArray, List.getElem?_cons_succ, List.getElem?_cons_zero] <;> rfl)
  case hQZ25 => exact (fun _ _ _ h => h)
  case hwZ25 => rfl
  case hyZ25 => (intro w hSw; (try dsimp only at hSw); go_simp; try with_reducible rfl)
  (try simp only [Act.put, List.setIfInBounds_toArray, List.set_cons_zero, List.set_cons_succ])
  refine take_w (i := 7) (oi := ?oZ26) (v := ?vZ26) ?hiZ26 (by kernel_rfl) (by kernel_rfl) (by kernel_rfl) ?hQZ26 ?hwZ26 ?hyZ26 (by assumption) ?restZ26
  case hiZ26 => (simp only [List.getElem?_toArray, List.getElem?_cons_succ, List.getElem?_cons_zero] <;> rfl)
  case hQZ26 => exact (fun _ _ _ h => h)
  case hwZ26 => rfl
  case hyZ26 => (intro w hSw; (try dsimp only at hSw); go_simp; try with_reducible rfl)
  (try simp only [Act.put, List.setIfInBounds_toArray, List.set_cons_zero, List.set_cons_succ])
  refine take_w (i := 8) (oi := ?oZ27) (v := ?vZ27) ?hiZ27 (by kernel_rfl) (by kernel_rfl) (by kernel_rfl) ?hQZ27 ?hwZ27 ?hyZ27 (by assumption) ?restZ27
  case hiZ27 => (simp only [List.getElem?_toArray, List.getElem?_cons_succ, List.getElem?_cons_zero] <;> rfl)
  case hQZ27 => exact (fun _ _ _ h => h)
  case hwZ27 => rfl
  case hyZ27 => (intro w hSw; (try dsimp only at hSw); go_simp; try with_reducible rfl)
  (try simp only [Act.put, List.setIfInBounds_toArray, List.set_cons_zero, List.set_cons_succ])
  refine take_w (i := 9) (oi := ?oZ28) (v := ?vZ28) ?hiZ28 (by kernel_rfl) (by kernel_rfl) (by kernel_rfl) ?hQZ28 ?hwZ28 ?hyZ28 (by assumption) ?restZ28
  case hiZ28 => (simp only [List.getElem?_toArray, List.getElem?_cons_succ, List.getElem?_cons_zero] <;> rfl)
  case hQZ28 => exact (fun _ _ _ h => h)
  case hwZ28 => rfl
  case hyZ28 => (intro w hSw; (try dsimp only at hSw); go_simp; try with_reducible rfl)
  (try simp only [Act.put, List.setIfInBounds_toArray, List.set_cons_zero, List.set_cons_succ])
  refine take_w (i := 10) (oi := ?oZ29) (v := ?vZ29) ?hiZ29 (by kernel_rfl) (by kernel_rfl) (by kernel_rfl) ?hQZ29 ?hwZ29 ?hyZ29 (by assumption) ?restZ29
  case hiZ29 => (simp only [List.getElem?_toArray, List.getElem?_cons_succ, List.getElem?_cons_zero] <;> rfl)
  case hQZ29 => exact (fun _ _ _ h => h)
  case hwZ29 => rfl
  case hyZ29 => (intro w hSw; (try dsimp only at hSw); go_simp; try with_reducible rfl)
  (try simp only [Act.put, List.setIfInBounds_toArray, List.set_cons_zero, List.set_cons_succ])
  refine wpAnyH_done (by kernel_rfl) ?_ _
  
  clear hHeld
  have hi1 := HI13.out
  have hi3 := HI3.out
  rw [hll] at hi1
  rw [hlr] at hi3
  have HIA := Lib.hid hi1
  have HIB := Lib.hid hi3
  have xw := HD3.out.wid.cell
  have HZS := Lib.hid hzs
  clear hi1 hi3 hzs hvl hll hlr
  go_wp2_with (first
    | (go_at_call 47
       (with_reducible refine (node_ok (k : Int) a1 k c1 ls (some ⟨g2, 0, none⟩) k k ((sumL (pairL t.key (valT k t))).take k) a3 k c3 rs _ HIA.out HI23.out HIB.out (by omega) (by omega) rfl rfl rfl).mono ?_)
       rintro _ w4 ⟨g4, c4, rfl, ho4, hb4⟩
       have HD4 := Lib.hid (HD3.out.below hb4)
       have HI4 := Lib.hid (InBytes.of_own ho4 (nodeL_bytes HIA.out.bytes HI23.out.bytes HIB.out.bytes))
       clear xw
       have xw := HD4.out.wid.cell
       clear ho4 hb4)
    | (go_at_call 43
       (with_reducible refine (of_ok k _ _ _ _ _ HI4.out ?_ HD4.out.tab hk1 hk2).mono ?_)
       · rw [nodeL_len, HIA.out.len, HI23.out.len, HIB.out.len]; omega
       rintro _ w5 ⟨g5, hg5, rfl, hr5, hb5⟩
       have HD5 := Lib.hid (HD4.out.below hb5)
       have HR5 := Lib.hid (And.intro (Nat.le_trans HD4.out.b.size hg5) hr5)
       clear hg5 hr5 hb5))
  go_ret2
  rw [HZS.out]
  exact OfPost2.bytes hk2 ⟨g5, HR5.out.1, rfl, HR5.out.2, HD5.out.b⟩
end Go.Proofs.YtlbiefddcimdgaaDoor

/- The contracts of the program's trees: Digest. -/
namespace Go.Proofs.YtlbiefddcimdgaaDoor
open Go.RowKit
set_option linter.unusedVariables false

theorem fits_dig {k : Nat} (hk : k ≤ 32) : ∀ t : Tr, formedT t = true → (allT (fitsK k) t = true ↔ ∃ zs, digT k t = some zs) := by
  intro t
  induction t using Tr.ind with
  | h t ih =>
  intro hf
  obtain ⟨hp, hkf⟩ := formed_kids hf
  rw [allT_eq, Bool.and_eq_true]
  rcases part_kids hp with ⟨h0, h | h⟩ | ⟨h2, h⟩
  · have e : t.kids = [] := List.length_eq_zero_iff.1 h0
    rw [digT_0 h, e]
    simp [fitsK, toldK, h]
  · have e : t.kids = [] := List.length_eq_zero_iff.1 h0
    rw [digT_3 h, e]
    simp [fitsK, toldK, h]
  · have n0 : t.k ≠ 0 := by omega
    have n3 : t.k ≠ 3 := by omega
    have i0 := ih _ (List.getElem_mem (by omega : 0 < t.kids.length)) (hkf 0 (by omega))
    have i1 := ih _ (List.getElem_mem (by omega : 1 < t.kids.length)) (hkf 1 (by omega))
    have ev : fitsK k t = true ↔ (valT k t).length = k := by
      unfold fitsK toldK valT
      rcases h with h | h
      · rw [if_pos h]
        simp [h, take_sum_len hk]
      · rw [if_neg (by omega)]
        simp [h]
    have ek : t.kids.all (allT (fitsK k)) = true ↔ allT (fitsK k) (t.kids[0]'(by omega)) = true ∧ allT (fitsK k) (t.kids[1]'(by omega)) = true := by
      rw [List.all_eq_true]
      constructor
      · exact fun hh => ⟨hh _ (List.getElem_mem _), hh _ (List.getElem_mem _)⟩
      · intro hh x hx
        obtain ⟨i, hi, rfl⟩ := List.getElem_of_mem hx
        rcases (by omega : i = 0 ∨ i = 1) with rfl | rfl
        · exact hh.1
        · exact hh.2
    rw [ev, ek, i0, i1]
    constructor
    · rintro ⟨hv, ⟨l, hl⟩, ⟨r, hr⟩⟩
      rw [digT_node n0 n3 hv h2, hl, hr]
      exact ⟨_, rfl⟩
    · rintro ⟨zs, hz⟩
      obtain ⟨hv, l, r, hl, hr, -⟩ := digT_split n0 n3 h2 hz
      exact ⟨hv, ⟨l, hl⟩, ⟨r, hr⟩⟩
theorem fits_none {k : Nat} (hk : k ≤ 32) {t : Tr} (hf : formedT t = true) (hd : digT k t = none) : allT (fitsK k) t = false := by
  rw [Bool.eq_false_iff]
  intro h
  obtain ⟨zs, hz⟩ := (fits_dig hk t hf).1 h
  rw [hd] at hz
  cases hz

set_option maxRecDepth 100000 in
set_option maxHeartbeats 4000000 in
theorem digest_arg (x : Int) (t : Tr) (h : TH) (w : World) (ht : InTree w h t) (hx1 : -9223372036854775808 ≤ x) (hxx : x ≤ 9223372036854775807) (hx : ¬ (1 ≤ x ∧ x ≤ 32)) :
    Calls Tryd.prog 16 #[.int .i64 x, h.v] w (ErrPost w 1) := by
  unfold TH.v
  have hb1 : Below w.heap.size w (w.alloc (.cells #[.int .i64 x] 3)) := (Below.refl _ _).alloc (Nat.le_refl _) _
  have hv1 := Var1.new w 3 (.int .i64 x)
  have hs1 : (w.alloc (.cells #[.int .i64 x] 3)).heap.size = w.heap.size + 1 := by simp
  have hb2 : Below w.heap.size w ((w.alloc (.cells #[.int .i64 x] 3)).alloc (.cells #[.int .i64 h.k, .slice h.ka h.kn h.kc, .slice h.va h.vn h.vc, .slice h.da h.dn h.dc, .slice h.ta h.tn h.tc] 27)) := hb1.alloc (by rw [hs1]; omega) _
  have hv2 := hv1.below ((Below.refl _ _).alloc (Nat.le_refl _) (.cells #[.int .i64 h.k, .slice h.ka h.kn h.kc, .slice h.va h.vn h.vc, .slice h.da h.dn h.dc, .slice h.ta h.tn h.tc] 27)) hv1.lt
  have hx2 := Box.new (w.alloc (.cells #[.int .i64 x] 3)) 27 h
  rw [hs1] at hx2
  clear hb1 hv1 hs1
  go_enter Tryd.func16, Tryd.ntmps16
  go_upto_region 1 with fail
  generalize ((w.alloc (.cells #[.int .i64 x] 3)).alloc (.cells #[.int .i64 h.k, .slice h.ka h.kn h.kc, .slice h.va h.vn h.vc, .slice h.da h.dn h.dc, .slice h.ta h.tn h.tc] 27)) = w2 at *
  have xv := hv2.cell
  obtain ⟨x0, x1, x2, x3, x4⟩ := hx2.cells
  have HB2 := Lib.hid hb2
  have HV2 := Lib.hid hv2
  have HX2 := Lib.hid hx2
  clear hb2 hv2 hx2
  by_cases hq : x < 1
  · go_wp2_with fail
    go_ret2
    exact ⟨none, 0, rfl, HB2.out⟩
  · have hq2 : 32 < x := by omega
    go_wp2_with fail
    go_ret2
    exact ⟨none, 0, rfl, HB2.out⟩

set_option maxRecDepth 100000 in
set_option maxHeartbeats 4000000 in
theorem digest_err (k : Nat) (hk1 : 1 ≤ k) (hk2 : k ≤ 32) (t : Tr) (h : TH) (w : World) (ht : InTree w h t) (hc : checkT t ≠ 0) :
    Calls Tryd.prog 16 #[.int .i64 k, h.v] w (ErrPost w (checkT t)) := by
  have HTT := Lib.hid ht
  have HCZ := Lib.hid hc
  clear ht hc
  unfold TH.v
  have hb1 : Below w.heap.size w (w.alloc (.cells #[.int .i64 k] 3)) := (Below.refl _ _).alloc (Nat.le_refl _) _
  have hv1 := Var1.new w 3 (.int .i64 k)
  have hs1 : (w.alloc (.cells #[.int .i64 k] 3)).heap.size = w.heap.size + 1 := by simp
  have hb2 : Below w.heap.size w ((w.alloc (.cells #[.int .i64 k] 3)).alloc (.cells #[.int .i64 h.k, .slice h.ka h.kn h.kc, .slice h.va h.vn h.vc, .slice h.da h.dn h.dc, .slice h.ta h.tn h.tc] 27)) := hb1.alloc (by rw [hs1]; omega) _
  have hv2 := hv1.below ((Below.refl _ _).alloc (Nat.le_refl _) (.cells #[.int .i64 h.k, .slice h.ka h.kn h.kc, .slice h.va h.vn h.vc, .slice h.da h.dn h.dc, .slice h.ta h.tn h.tc] 27)) hv1.lt
  have hx2 := Box.new (w.alloc (.cells #[.int .i64 k] 3)) 27 h
  rw [hs1] at hx2
  clear hb1 hv1 hs1
  go_enter Tryd.func16, Tryd.ntmps16
  go_upto_region 1 with fail
  generalize ((w.alloc (.cells #[.int .i64 k] 3)).alloc (.cells #[.int .i64 h.k, .slice h.ka h.kn h.kc, .slice h.va h.vn h.vc, .slice h.da h.dn h.dc, .slice h.ta h.tn h.tc] 27)) = w2 at *
  have xv := hv2.cell
  obtain ⟨x0, x1, x2, x3, x4⟩ := hx2.cells
  have HB2 := Lib.hid hb2
  have HV2 := Lib.hid hv2
  have HX2 := Lib.hid hx2
  clear hb2 hv2 hx2
  have q1 : ¬ (k : Int) < 1 := by omega
  have q2 : ¬ (32 : Int) < k := by omega
  go_wp2_with (first
    | (go_at_call 38
       refine (check_any t h _ (HTT.out.lower HB2.out)).mono ?_
       rintro _ w3 ⟨rfl, hb3⟩
       have HB3 : Hid (Below w.heap.size w w3) := Lib.hid (HB2.out.trans (hb3.mono HB2.out.size))
       have HV3 := Lib.hid (HV2.out.below hb3 HV2.out.lt)
       have HX3 := Lib.hid (HX2.out.below hb3 HX2.out.lt)
       rw [codeV_pos HCZ.out]
       clear xv x0 x1 x2 x3 x4 hb3))
  go_ret2
  exact ⟨none, 0, by rw [codeV_pos HCZ.out]; rfl, HB3.out⟩

set_option maxRecDepth 100000 in
set_option maxHeartbeats 4000000 in
theorem digest_none (k : Nat) (hk1 : 1 ≤ k) (hk2 : k ≤ 32) (t : Tr) (h : TH) (w : World) (ht : InTree w h t) (hT : TabLies w) (hc : checkT t = 0) (hd : digT k t = none) :
    Calls Tryd.prog 16 #[.int .i64 k, h.v] w (ErrPost w 3) := by
  have HTT := Lib.hid ht
  have HFI := Lib.hid (fits_none hk2 (check_zero hc).1 hd)
  have HCZ := Lib.hid hc
  clear ht hc hd hT
  unfold TH.v
  have hb1 : Below w.heap.size w (w.alloc (.cells #[.int .i64 k] 3)) := (Below.refl _ _).alloc (Nat.le_refl _) _
  have hv1 := Var1.new w 3 (.int .i64 k)
  have hs1 : (w.alloc (.cells #[.int .i64 k] 3)).heap.size = w.heap.size + 1 := by simp
  have hb2 : Below w.heap.size w ((w.alloc (.cells #[.int .i64 k] 3)).alloc (.cells #[.int .i64 h.k, .slice h.ka h.kn h.kc, .slice h.va h.vn h.vc, .slice h.da h.dn h.dc, .slice h.ta h.tn h.tc] 27)) := hb1.alloc (by rw [hs1]; omega) _
  have hv2 := hv1.below ((Below.refl _ _).alloc (Nat.le_refl _) (.cells #[.int .i64 h.k, .slice h.ka h.kn h.kc, .slice h.va h.vn h.vc, .slice h.da h.dn h.dc, .slice h.ta h.tn h.tc] 27)) hv1.lt
  have hx2 := Box.new (w.alloc (.cells #[.int .i64 k] 3)) 27 h
  rw [hs1] at hx2
  clear hb1 hv1 hs1
  go_enter Tryd.func16, Tryd.ntmps16
  go_upto_region 1 with fail
  generalize ((w.alloc (.cells #[.int .i64 k] 3)).alloc (.cells #[.int .i64 h.k, .slice h.ka h.kn h.kc, .slice h.va h.vn h.vc, .slice h.da h.dn h.dc, .slice h.ta h.tn h.tc] 27)) = w2 at *
  have xv := hv2.cell
  obtain ⟨x0, x1, x2, x3, x4⟩ := hx2.cells
  have HB2 := Lib.hid hb2
  have HV2 := Lib.hid hv2
  have HX2 := Lib.hid hx2
  clear hb2 hv2 hx2
  have q1 : ¬ (k : Int) < 1 := by omega
  have q2 : ¬ (32 : Int) < k := by omega
  have hmf : ∀ (fn : Fn) (first cap : Array Value) (w : World), (Instr.makeFunc fn first cap).run Tryd.prog w = .ok (.func fn first cap) w := fun _ _ _ _ => rfl
  go_upto_region 6 with (first
    | (go_at_call 38
       refine (check_any t h _ (HTT.out.lower HB2.out)).mono ?_
       rintro _ w3 ⟨rfl, hb3⟩
       have HB3 : Hid (Below w.heap.size w w3) := Lib.hid (HB2.out.trans (hb3.mono HB2.out.size))
       have HV3 := Lib.hid (HV2.out.below hb3 HV2.out.lt)
       have HX3 := Lib.hid (HX2.out.below hb3 HX2.out.lt)
       have hcv : codeV (checkT t) = .nilIface := by rw [HCZ.out]; rfl
       rw [hcv]
       clear hcv
       clear xv x0 x1 x2 x3 x4 hb3))
  obtain ⟨x0, x1, x2, x3, x4⟩ := HX3.out.cells
  go_upto_if 25 with (first
    | (go_at_call 41
       refine (everyFits k w.heap.size t h _ (HTT.out.lower HB3.out) HV3.out).mono ?_
       rintro _ w4 ⟨rfl, hb4⟩
       have HB4 : Hid (Below w.heap.size w w4) := Lib.hid (HB3.out.trans (hb4.mono HB3.out.size))
       have HV4 := Lib.hid (HV3.out.below hb4 HV3.out.lt)
       have HX4 := Lib.hid (HX3.out.below hb4 HX3.out.lt)
       rw [HFI.out]
       clear hb4))
  clear x0 x1 x2 x3 x4
  go_wp2_with fail
  go_ret2
  exact ⟨none, 0, rfl, HB4.out⟩

set_option maxRecDepth 100000 in
set_option maxHeartbeats 4000000 in
theorem digest_ok (k : Nat) (hk1 : 1 ≤ k) (hk2 : k ≤ 32) (t : Tr) (h : TH) (w : World) (ht : InTree w h t) (hT : TabLies w) (hc : checkT t = 0) {zs : List Int} (hd : digT k t = some zs) :
    Calls Tryd.prog 16 #[.int .i64 k, h.v] w (BytesPost w zs) := by
  have HTT := Lib.hid ht
  have HT := Lib.hid hT
  have HFI := Lib.hid ((fits_dig hk2 t (check_zero hc).1).2 ⟨zs, hd⟩)
  have HCZ := Lib.hid hc
  have HDG := Lib.hid hd
  clear ht hc hd hT
  unfold TH.v
  have hb1 : Below w.heap.size w (w.alloc (.cells #[.int .i64 k] 3)) := (Below.refl _ _).alloc (Nat.le_refl _) _
  have hv1 := Var1.new w 3 (.int .i64 k)
  have hs1 : (w.alloc (.cells #[.int .i64 k] 3)).heap.size = w.heap.size + 1 := by simp
  have hb2 : Below w.heap.size w ((w.alloc (.cells #[.int .i64 k] 3)).alloc (.cells #[.int .i64 h.k, .slice h.ka h.kn h.kc, .slice h.va h.vn h.vc, .slice h.da h.dn h.dc, .slice h.ta h.tn h.tc] 27)) := hb1.alloc (by rw [hs1]; omega) _
  have hv2 := hv1.below ((Below.refl _ _).alloc (Nat.le_refl _) (.cells #[.int .i64 h.k, .slice h.ka h.kn h.kc, .slice h.va h.vn h.vc, .slice h.da h.dn h.dc, .slice h.ta h.tn h.tc] 27)) hv1.lt
  have hx2 := Box.new (w.alloc (.cells #[.int .i64 k] 3)) 27 h
  rw [hs1] at hx2
  clear hb1 hv1 hs1
  go_enter Tryd.func16, Tryd.ntmps16
  go_upto_region 1 with fail
  generalize ((w.alloc (.cells #[.int .i64 k] 3)).alloc (.cells #[.int .i64 h.k, .slice h.ka h.kn h.kc, .slice h.va h.vn h.vc, .slice h.da h.dn h.dc, .slice h.ta h.tn h.tc] 27)) = w2 at *
  have xv := hv2.cell
  obtain ⟨x0, x1, x2, x3, x4⟩ := hx2.cells
  have HB2 := Lib.hid hb2
  have HV2 := Lib.hid hv2
  have HX2 := Lib.hid hx2
  clear hb2 hv2 hx2
  have q1 : ¬ (k : Int) < 1 := by omega
  have q2 : ¬ (32 : Int) < k := by omega
  have hmf : ∀ (fn : Fn) (first cap : Array Value) (w : World), (Instr.makeFunc fn first cap).run Tryd.prog w = .ok (.func fn first cap) w := fun _ _ _ _ => rfl
  go_upto_region 6 with (first
    | (go_at_call 38
       refine (check_any t h _ (HTT.out.lower HB2.out)).mono ?_
       rintro _ w3 ⟨rfl, hb3⟩
       have HB3 : Hid (Below w.heap.size w w3) := Lib.hid (HB2.out.trans (hb3.mono HB2.out.size))
       have HV3 := Lib.hid (HV2.out.below hb3 HV2.out.lt)
       have HX3 := Lib.hid (HX2.out.below hb3 HX2.out.lt)
       have hcv : codeV (checkT t) = .nilIface := by rw [HCZ.out]; rfl
       rw [hcv]
       clear hcv
       clear xv x0 x1 x2 x3 x4 hb3))
  obtain ⟨x0, x1, x2, x3, x4⟩ := HX3.out.cells
  go_upto_if 25 with (first
    | (go_at_call 41
       refine (everyFits k w.heap.size t h _ (HTT.out.lower HB3.out) HV3.out).mono ?_
       rintro _ w4 ⟨rfl, hb4⟩
       have HB4 : Hid (Below w.heap.size w w4) := Lib.hid (HB3.out.trans (hb4.mono HB3.out.size))
       have HV4 := Lib.hid (HV3.out.below hb4 HV3.out.lt)
       have HX4 := Lib.hid (HX3.out.below hb4 HX3.out.lt)
       rw [HFI.out]
       clear hb4))
  clear x0 x1 x2 x3 x4
  go_upto_region 10 with fail
  have hb5 : Below w4.heap.size w4 (w4.alloc (.cells #[.nilFunc] 86)) := (Below.refl _ _).alloc (Nat.le_refl _) _
  have hnf := Var1.new w4 86 .nilFunc
  have hbx := HX4.out.below hb5 HX4.out.lt
  have hvw := HV4.out.below hb5 HV4.out.lt
  have hsz := HB4.out.size
  generalize w4.alloc (.cells #[.nilFunc] 86) = w5 at *
  have c0 := hnf.cell
  have c1 := hnf.frozen 0
  have hne : w.heap.size + 1 ≠ w4.heap.size := Nat.ne_of_lt HX4.out.lt
  have hne2 : w.heap.size ≠ w4.heap.size := Nat.ne_of_lt HV4.out.lt
  have hn6 := hnf.set (.func (.func 42) #[] #[.pointer (some ⟨w.heap.size, 0, none⟩), .pointer (some ⟨w4.heap.size, 0, none⟩)])
  have hbx6 : Box (w5.setCell ⟨w4.heap.size, 0, none⟩ (.func (.func 42) #[] #[.pointer (some ⟨w.heap.size, 0, none⟩), .pointer (some ⟨w4.heap.size, 0, none⟩)])) 27 (w.heap.size + 1) h := (Below.heap_setCell w5 ⟨w4.heap.size, 0, none⟩ _ (w.heap.size + 1) hne).trans hbx
  have hvw6 := hvw.far (p := ⟨w4.heap.size, 0, none⟩) hne2 (.func (.func 42) #[] #[.pointer (some ⟨w.heap.size, 0, none⟩), .pointer (some ⟨w4.heap.size, 0, none⟩)])
  have hb6 : Below w4.heap.size w4 (w5.setCell ⟨w4.heap.size, 0, none⟩ (.func (.func 42) #[] #[.pointer (some ⟨w.heap.size, 0, none⟩), .pointer (some ⟨w4.heap.size, 0, none⟩)])) := hb5.setCell (Nat.le_refl _) _
  clear hnf hbx hb5 hne hne2 hvw
  generalize w4.heap.size = gc at *
  go_upto_region 11 with fail
  generalize (w5.setCell ⟨gc, 0, none⟩ (.func (.func 42) #[] #[.pointer (some ⟨w.heap.size, 0, none⟩), .pointer (some ⟨gc, 0, none⟩)])) = w6 at *
  obtain ⟨x0, x1, x2, x3, x4⟩ := hbx6.cells
  have c2 := hn6.cell
  have HN := Lib.hid hn6
  have HW6 := Lib.hid hvw6
  have HB6 : Hid (Below w.heap.size w w6) := Lib.hid (HB4.out.trans (hb6.mono hsz))
  clear c0 c1 hbx6 hb6 hn6 hsz hvw6
  go_wp2_with (first
    | (go_at_call 42
       refine (digC_any k hk1 hk2 t h _ w.heap.size gc (HTT.out.lower HB6.out) (HT.out.below HB6.out (Nat.le_refl _)) (check_zero HCZ.out).1 HW6.out HN.out zs HDG.out).mono ?_
       rintro _ w7 ⟨a7, c7, rfl, hn7, hb7⟩
       have HB7 : Hid (Below w.heap.size w w7) := Lib.hid (HB6.out.trans (hb7.mono HB6.out.size))
       have HN7 : Hid (NewB w w7 a7 zs.length c7 zs) := Lib.hid ⟨hn7.inb, fun ad hh => Nat.le_trans HB6.out.size (hn7.new ad hh), hn7.free⟩
       clear hb7 hn7))
  go_ret2
  exact ⟨a7, c7, rfl, HN7.out, HB7.out⟩
end Go.Proofs.YtlbiefddcimdgaaDoor

/- The program's digest of any tree by any width: bytes in new memory, or an error. -/
namespace Go.Proofs.YtlbiefddcimdgaaDoor
open Go.RowKit
set_option linter.unusedVariables false

/-- There is a digest. -/
def DigIs (x : Int) (p : Tr) (k : Nat) (zs : List Int) : Prop := x = k ∧ 1 ≤ k ∧ k ≤ 32 ∧ checkT p = 0 ∧ digT k p = some zs
theorem digest_bad (x : Int) (p : Tr) (h : TH) (w : World) (ht : InTree w h p) (hT : TabLies w) (hx1 : -9223372036854775808 ≤ x) (hx2 : x ≤ 9223372036854775807) (hno : ¬ ∃ k zs, DigIs x p k zs) :
    Calls Tryd.prog 16 #[.int .i64 x, h.v] w (fun e w' => ∃ m a c, m ≠ 0 ∧ e = .returned (.tuple #[.slice a 0 c, .iface 56 (.int .i64 (m : Nat))]) ∧ Below w.heap.size w w') := by
  have post : ∀ (m : Nat), m ≠ 0 → ∀ e w', ErrPost w m e w' → ∃ m a c, m ≠ 0 ∧ e = .returned (.tuple #[.slice a 0 c, .iface 56 (.int .i64 (m : Nat))]) ∧ Below w.heap.size w w' := fun m hm e w' ⟨a, c, q1, q2⟩ => ⟨m, a, c, hm, by rw [q1]; unfold codeV; rw [if_neg hm], q2⟩
  by_cases hx : 1 ≤ x ∧ x ≤ 32
  · obtain ⟨k, rfl⟩ : ∃ k : Nat, x = (k : Int) := ⟨x.toNat, by omega⟩
    by_cases hc : checkT p = 0
    · cases hd : digT k p with
      | none => exact (digest_none k (by omega) (by omega) p h w ht hT hc hd).mono fun e w' q => post 3 (by omega) e w' q
      | some zs => exact absurd ⟨k, zs, rfl, by omega, by omega, hc, hd⟩ hno
    · exact (digest_err k (by omega) (by omega) p h w ht hc).mono fun e w' q => post _ hc e w' q
  · exact (digest_arg x p h w ht hx1 hx2 hx).mono fun e w' q => post 1 (by omega) e w' q
theorem digest_is (x : Int) (p : Tr) (h : TH) (w : World) (ht : InTree w h p) (hT : TabLies w) {k : Nat} {zs : List Int} (hi : DigIs x p k zs) : Calls Tryd.prog 16 #[.int .i64 x, h.v] w (fun e w' => ∃ a c, e = .returned (.tuple #[.slice a k c, .nilIface]) ∧ InBytes w' a k c zs ∧ Below w.heap.size w w') := by
  obtain ⟨rfl, h1, h2, h3, h4⟩ := hi
  have hl := digT_len h2 h4
  refine (digest_ok k h1 h2 p h w ht hT h3 h4).mono ?_
  rintro _ w' ⟨a, c, rfl, hn, hb⟩
  rw [hl] at hn
  exact ⟨a, c, by rw [hl], hn.inb, hb⟩
end Go.Proofs.YtlbiefddcimdgaaDoor

/- The contracts of the program's Check and Bytes of proofs. -/
namespace Go.Proofs.YtlbiefddcimdgaaDoor
open Go.RowKit
set_option linter.unusedVariables false

/-- Check's boxes. -/
structure KX (w W : World) (h : TH) (sp : DH) : Prop where
  sb : RBox recD W 24 w.heap.size sp
  box : Box W 27 (w.heap.size + 1) h
  b : Below w.heap.size w W
section
variable {w W W' : World} {h : TH} {sp : DH}
theorem KX.below (x : KX w W h sp) (hb : Below W.heap.size W W') : KX w W' h sp := ⟨x.sb.below hb x.sb.lt, x.box.below hb x.box.lt, x.b.trans (hb.mono x.b.size)⟩
theorem KX.enter (w : World) (h : TH) (sp : DH) : KX w ((w.alloc (.cells #[.slice sp.ka sp.kn sp.kc, .slice sp.va sp.vn sp.vc, .bool sp.out] 24)).alloc (.cells #[.int .i64 h.k, .slice h.ka h.kn h.kc, .slice h.va h.vn h.vc, .slice h.da h.dn h.dc, .slice h.ta h.tn h.tc] 27)) h sp := by
  have s1 : (w.alloc (.cells #[.slice sp.ka sp.kn sp.kc, .slice sp.va sp.vn sp.vc, .bool sp.out] 24)).heap.size = w.heap.size + 1 := by simp
  have q1 : Below w.heap.size w (w.alloc (.cells #[.slice sp.ka sp.kn sp.kc, .slice sp.va sp.vn sp.vc, .bool sp.out] 24)) := (Below.refl _ _).alloc (Nat.le_refl _) _
  have x1 := DH.box w 24 sp
  have x2 := Box.new (w.alloc (.cells #[.slice sp.ka sp.kn sp.kc, .slice sp.va sp.vn sp.vc, .bool sp.out] 24)) 27 h
  rw [s1] at x2
  exact ⟨x1.below ((Below.refl _ _).alloc (Nat.le_refl _) _) x1.lt, x2, q1.alloc (by rw [s1]; omega) _⟩
end
theorem digest_no (k : Nat) (hk1 : 1 ≤ k) (hk2 : k ≤ 32) (p : Tr) (h : TH) (w : World) (ht : InTree w h p) (hT : TabLies w) (m : Nat) (hm : (checkT p = m ∧ m ≠ 0) ∨ (checkT p = 0 ∧ digT k p = none ∧ m = 3)) :
    Calls Tryd.prog 16 #[.int .i64 k, h.v] w (fun e w' => ∃ a c, e = .returned (.tuple #[.slice a 0 c, .iface 56 (.int .i64 (m : Nat))]) ∧ Below w.heap.size w w') := by
  rcases hm with ⟨rfl, h0⟩ | ⟨h0, h1, rfl⟩
  · exact (digest_err k hk1 hk2 p h w ht h0).mono fun e w' ⟨a, c, q1, q2⟩ => ⟨a, c, by rw [q1, codeV_pos h0], q2⟩
  · exact (digest_none k hk1 hk2 p h w ht hT h0 h1).mono fun e w' ⟨a, c, q1, q2⟩ => ⟨a, c, by rw [q1, codeV_pos (by omega)], q2⟩
theorem chk_six {k : Nat} {root f t zs : List Int} {o : Bool} {p : Tr} (hck : checkT p = 0) (hzs : digT k p = some zs) (h : (zs == root) = false) : checkR k root f t o p = (6, []) := by
  unfold checkR
  rw [if_neg (by rw [hck]; simp), hzs]
  simp only [ne_eq]
  rw [if_pos (by simpa using h)]
theorem chk_rest {k : Nat} {root f t zs : List Int} {o : Bool} {p : Tr} (hck : checkT p = 0) (hzs : digT k p = some zs) (h : (zs == root) = true) : checkR k root f t o p = if riseI (itemsT p) = false then (7, []) else tellR (scanI f t o [] false (itemsT p)) := by
  unfold checkR
  rw [if_neg (by rw [hck]; simp), hzs]
  simp only [ne_eq]
  rw [if_neg (by simpa using h)]
  unfold tellR
  rfl
theorem ChkTold.err (w w' : World) (m : Nat) (hm : m ≠ 0) (hb : Below w.heap.size w w') : ChkTold w (m, []) (.returned (.tuple #[.slice none 0 0, .iface 56 (.int .i64 (m : Nat))])) w' :=
  ⟨none, 0, 0, [], by rw [codeV_pos hm], OwnR.nil _ _ _ _, rfl, PV.nil _ _, hb⟩

set_option maxRecDepth 100000 in
set_option maxHeartbeats 4000000 in
theorem chk_any (x : Int) (hx1 : -9223372036854775808 ≤ x) (hx2 : x ≤ 9223372036854775807) (ra : Option Addr) (rn rc : Nat) (root : List Int) (sp : DH) (f t : List Int) (p : Tr) (h : TH) (w : World) (hro : InBytes w ra rn rc root) (hs : SpanIn w sp f t) (ht : InTree w h p) (hcn : countT p ≤ 500) (hT : TabLies w) : Calls Tryd.prog 11 #[.int .i64 x, .slice ra rn rc, sp.v, h.v] w (ChkTold w (checkX x root f t sp.out p)) := by
  unfold TH.v DH.v
  have HX := Lib.hid (KX.enter w h sp)
  have HT := Lib.hid ht
  have HTAB := Lib.hid hT
  have HSP := Lib.hid hs
  have HRO := Lib.hid hro
  have hrl := hro.len
  have hrm := Nat.le_trans hro.le hro.max
  simp only [maxLen] at hrm
  generalize hres : checkX x root f t sp.out p = res
  have HRES := Lib.hid hres
  clear ht hT hs hro hres
  by_cases hx : 1 ≤ x ∧ x ≤ 32 ∧ (root.length : Int) = x
  case neg =>
    have HE : Hid (res = (1, [])) := Lib.hid (by rw [← HRES.out, checkX_no hx])
    go_enter Tryd.func11, Tryd.ntmps11
    go_upto_region 1 with fail
    generalize ((w.alloc (.cells #[.slice sp.ka sp.kn sp.kc, .slice sp.va sp.vn sp.vc, .bool sp.out] 24)).alloc (.cells #[.int .i64 h.k, .slice h.ka h.kn h.kc, .slice h.va h.vn h.vc, .slice h.da h.dn h.dc, .slice h.ta h.tn h.tc] 27)) = w0 at *
    by_cases c1 : x < 1
    · clear hx hrl
      go_wp2_with fail
      go_ret2
      rw [HE.out]
      exact ChkTold.err _ _ 1 (by omega) HX.out.b
    · by_cases c2 : (32 : Int) < x
      · clear hx hrl
        go_wp2_with fail
        go_ret2
        rw [HE.out]
        exact ChkTold.err _ _ 1 (by omega) HX.out.b
      · have c3 : ((rn : Int) != x) = true := by simp; omega
        clear hx hrl
        go_wp2_with fail
        go_ret2
        rw [HE.out]
        exact ChkTold.err _ _ 1 (by omega) HX.out.b
  obtain ⟨k, hk⟩ : ∃ k : Nat, x = (k : Int) := ⟨x.toNat, by omega⟩
  have hk1 : 1 ≤ k := by omega
  have hk2 : k ≤ 32 := by omega
  have HRL : Hid (root.length = k) := Lib.hid (by omega)
  have c1 : ¬ (k : Int) < 1 := by omega
  have c2 : ¬ (32 : Int) < (k : Int) := by omega
  have c3 : ((rn : Int) != (k : Int)) = false := by simp; omega
  subst hk
  have HCR : Hid (checkR k root f t sp.out p = res) := Lib.hid (by rw [← HRES.out, checkX_ok hk1 hk2 HRL.out])
  clear hx hrl hx1 hx2 HRES
  go_enter Tryd.func11, Tryd.ntmps11
  go_upto_region 3 with fail
  generalize ((w.alloc (.cells #[.slice sp.ka sp.kn sp.kc, .slice sp.va sp.vn sp.vc, .bool sp.out] 24)).alloc (.cells #[.int .i64 h.k, .slice h.ka h.kn h.kc, .slice h.va h.vn h.vc, .slice h.da h.dn h.dc, .slice h.ta h.tn h.tc] 27)) = w0 at *
  obtain ⟨x0, x1, x2, x3, x4⟩ := HX.out.box.cells
  clear c1 c2 c3
  by_cases hno : checkT p = 0 ∧ ∃ zs, digT k p = some zs
  case neg =>
    obtain ⟨m, hm, hm0, hme⟩ : ∃ m, ((checkT p = m ∧ m ≠ 0) ∨ (checkT p = 0 ∧ digT k p = none ∧ m = 3)) ∧ m ≠ 0 ∧ checkR k root f t sp.out p = (m, []) := by
      by_cases hc : checkT p = 0
      · cases hd : digT k p with
        | none => exact ⟨3, .inr ⟨hc, rfl, rfl⟩, by omega, by unfold checkR; rw [if_neg (by rw [hc]; simp), hd]⟩
        | some zs => exact absurd ⟨hc, zs, hd⟩ hno
      · exact ⟨checkT p, .inl ⟨rfl, hc⟩, hc, by unfold checkR; rw [if_pos hc]⟩
    have HM := Lib.hid hm
    have HM0 := Lib.hid hm0
    have HME : Hid (res = (m, [])) := Lib.hid (by rw [← HCR.out, hme])
    clear hm hme hno hm0
    go_wp2_with (first
      | (go_at_call 16
         refine (digest_no k hk1 hk2 p h _ (HT.out.lower HX.out.b) (HTAB.out.below HX.out.b (Nat.le_refl _)) m HM.out).mono ?_
         rintro _ w1 ⟨a1, c1, rfl, hb1⟩
         have HX1 := Lib.hid (HX.out.below hb1)
         clear hb1 x0 x1 x2 x3 x4))
    go_ret2
    rw [HME.out]
    exact ChkTold.err _ _ m HM0.out HX1.out.b
  obtain ⟨hck, zs, hzs⟩ := hno
  have HCK := Lib.hid hck
  have HF := Lib.hid (check_zeroR hck).1
  have HDG : Hid (DigIs (k : Int) p k zs) := Lib.hid ⟨rfl, hk1, hk2, hck, hzs⟩
  have HC2 : Hid (checkT p = 0 ∧ digT k p = some zs) := Lib.hid ⟨hck, hzs⟩
  clear hck hzs
  cases heq : (zs == root) with
  | false =>
    have HEQ := Lib.hid heq
    have HE : Hid (res = (6, [])) := Lib.hid (by rw [← HCR.out, chk_six HC2.out.1 HC2.out.2 heq])
    clear heq
    go_wp2_with (first
      | (go_at_call 16
         refine (digest_is (k : Nat) p h _ (HT.out.lower HX.out.b) (HTAB.out.below HX.out.b (Nat.le_refl _)) HDG.out).mono ?_
         rintro _ w1 ⟨a1, c1, rfl, hi1, hb1⟩
         have HX1 := Lib.hid (HX.out.below hb1)
         have HI1 := Lib.hid hi1
         clear hb1 hi1 x0 x1 x2 x3 x4)
      | (go_at_call 27
         refine (equal_any zs root _ _ _ _ _ _ _ HI1.out (HRO.out.below HX1.out.b)).mono ?_
         rintro _ w9 ⟨rfl, hw9⟩
         rw [hw9]
         clear hw9
         rw [HEQ.out]))
    go_ret2
    rw [HE.out]
    exact ChkTold.err _ _ 6 (by omega) HX1.out.b
  | true =>
  have HEQ := Lib.hid heq
  have HC3 : Hid ((if riseI (itemsT p) = false then (7, []) else tellR (scanI f t sp.out [] false (itemsT p))) = res) := Lib.hid (by rw [← HCR.out, chk_rest HC2.out.1 HC2.out.2 heq])
  clear heq
  go_upto_region 8 with (first
    | (go_at_call 16
       refine (digest_is (k : Nat) p h _ (HT.out.lower HX.out.b) (HTAB.out.below HX.out.b (Nat.le_refl _)) HDG.out).mono ?_
       rintro _ w1 ⟨a1, c1, rfl, hi1, hb1⟩
       have HX1 := Lib.hid (HX.out.below hb1)
       have HI1 := Lib.hid hi1
       clear hb1 hi1 x0 x1 x2 x3 x4)
    | (go_at_call 27
       refine (equal_any zs root _ _ _ _ _ _ _ HI1.out (HRO.out.below HX1.out.b)).mono ?_
       rintro _ w9 ⟨rfl, hw9⟩
       rw [hw9]
       clear hw9
       rw [HEQ.out]))
  obtain ⟨y0, y1, y2, y3, y4⟩ := HX1.out.box.cells
  have HN5 : Hid ((listT p).length ≤ 500) := Lib.hid (Nat.le_trans (list_len p HF.out) hcn)
  have HKL := Lib.hid (list_keys HF.out)
  have hrw := rise_weave HF.out
  generalize (List.range (listT p).length).all (condN (listT p)) = ri at hrw
  cases ri with
  | false =>
    have HRI : Hid ((List.range (listT p).length).all (condN (listT p)) = false) := Lib.hid (by rw [← rise_weave HF.out, hrw])
    have HE : Hid (res = (7, [])) := Lib.hid (by rw [← HC3.out, if_pos hrw])
    clear hrw
    go_wp2_with (first
      | (go_at_call 28
         refine (list_any p h _ (HT.out.lower HX1.out.b) (by omega)).mono ?_
         rintro _ w2 ⟨v2, hs, rfl, ho2, hh2, -, hb2⟩
         obtain ⟨la, lc, hv2⟩ := ho2.sl
         have hh3 := hh2 HCK.out
         rw [hh3.1] at hv2
         subst hv2
         have HX2 := Lib.hid (HX1.out.below hb2)
         have HR2 : Hid (RT w2 w1.heap.size la (listT p).length lc hs (listT p)) := Lib.hid ⟨ho2, hh3.lower hb2, rfl⟩
         have HB2 := Lib.hid hb2
         have HH2 := Lib.hid hh3
         clear ho2 hh2 hh3 hb2 y0 y1 y2 y3 y4)
      | (go_at_call 29
         refine (asc8_any (listT p) hs w1.heap.size la _ lc _ HR2.out HN5.out).mono ?_
         rintro _ w3 ⟨rfl, hb3⟩
         have HX3 := Lib.hid (HX2.out.below hb3)
         have HR3 := Lib.hid (HR2.out.below hb3)
         have HB3 : Hid (Below w1.heap.size w1 w3) := Lib.hid (HB2.out.trans (hb3.mono HB2.out.size))
         rw [HRI.out]
         clear hb3))
    go_ret2
    rw [HE.out]
    exact ChkTold.err _ _ 7 (by omega) HX3.out.b
  | true =>
  have HRI : Hid ((List.range (listT p).length).all (condN (listT p)) = true) := Lib.hid (by rw [← rise_weave HF.out, hrw])
  have HC4 : Hid (tellR (scanI f t sp.out [] false (itemsT p)) = res) := Lib.hid (by rw [← HC3.out, if_neg (by rw [hrw]; simp)])
  clear hrw HC3
  go_upto_region 11 with (first
    | (go_at_call 28
       refine (list_any p h _ (HT.out.lower HX1.out.b) (by omega)).mono ?_
       rintro _ w2 ⟨v2, hs, rfl, ho2, hh2, -, hb2⟩
       obtain ⟨la, lc, hv2⟩ := ho2.sl
       have hh3 := hh2 HCK.out
       rw [hh3.1] at hv2
       subst hv2
       have HX2 := Lib.hid (HX1.out.below hb2)
       have HR2 : Hid (RT w2 w1.heap.size la (listT p).length lc hs (listT p)) := Lib.hid ⟨ho2, hh3.lower hb2, rfl⟩
       have HB2 := Lib.hid hb2
       have HH2 := Lib.hid hh3
       clear ho2 hh2 hh3 hb2 y0 y1 y2 y3 y4)
    | (go_at_call 29
       refine (asc8_any (listT p) hs w1.heap.size la _ lc _ HR2.out HN5.out).mono ?_
       rintro _ w3 ⟨rfl, hb3⟩
       have HX3 := Lib.hid (HX2.out.below hb3)
       have HR3 := Lib.hid (HR2.out.below hb3)
       have HB3 : Hid (Below w1.heap.size w1 w3) := Lib.hid (HB2.out.trans (hb3.mono HB2.out.size))
       rw [HRI.out]
       clear hb3))
  obtain ⟨z0, z1, z2, z3, z4⟩ := HX3.out.box.cells
  obtain ⟨u0, u1, u2⟩ := HX3.out.sb.three
  by_cases hcov : CovT f t sp.out p
  · have HE : Hid (res = (0, ((listT p).filter (takeB f t sp.out)).map kvT)) := Lib.hid (by rw [← HC4.out, scan_cov HF.out hcov]; rfl)
    obtain ⟨BB, hbb, hbt⟩ : ∃ BB : Bool, (∀ b : Bool, (b = true ↔ CovT f t sp.out p) → b = BB) ∧ BB = true := ⟨true, fun b hb => hb.2 hcov, rfl⟩
    have HBB := Lib.hid hbb
    clear hbb hcov
    go_upto_region 13 with (first
      | (go_at_call 30
         refine (covers_any p h hs w1.heap.size la _ lc sp f t _ (HT.out.lower HX3.out.b) HF.out hcn HR3.out (HSP.out.below HX3.out.b)).mono ?_
         rintro _ w4 ⟨b4, rfl, hiff, hb4⟩
         obtain rfl : b4 = BB := HBB.out b4 hiff
         have HX4 := Lib.hid (HX3.out.below hb4)
         have HR4 := Lib.hid (HR3.out.below hb4)
         have HB4 : Hid (Below w1.heap.size w1 w4) := Lib.hid (HB3.out.trans (hb4.mono HB3.out.size))
         clear hb4 hiff z0 z1 z2 z3 z4 u0 u1 u2))
    obtain ⟨z0, z1, z2⟩ := HX4.out.sb.three
    go_wp2_with (first
      | (go_at_call 31
         refine (shown8_any w1 (listT p) hs la _ lc sp f t _ HB4.out HR4.out.o HH2.out rfl HN5.out (HSP.out.below HX1.out.b) HKL.out).mono ?_
         rintro _ w5 ⟨ra5, r5, rc5, rs5, rfl, ho5, hr5, hp5, hb5⟩
         have HO5 := Lib.hid (And.intro ho5 (And.intro hr5 (And.intro hp5 hb5)))
         clear ho5 hr5 hp5 hb5 z0 z1 z2))
    go_ret2
    rw [HE.out]
    obtain ⟨q1, q2, q3, q4⟩ := HO5.out
    have hle := HX1.out.b.size
    exact ⟨ra5, r5, rc5, rs5, rfl, q1.weak hle, q2, q3.weak hle, HX1.out.b.trans (q4.mono hle)⟩
  · have HE : Hid (res = (8, [])) := Lib.hid (by rw [← HC4.out, scan_not HF.out hcov]; rfl)
    obtain ⟨BB, hbb, hbt⟩ : ∃ BB : Bool, (∀ b : Bool, (b = true ↔ CovT f t sp.out p) → b = BB) ∧ BB = false := ⟨false, fun b hb => (by cases b with | false => rfl | true => exact absurd (hb.1 rfl) hcov), rfl⟩
    have HBB := Lib.hid hbb
    clear hbb hcov
    go_wp2_with (first
      | (go_at_call 30
         refine (covers_any p h hs w1.heap.size la _ lc sp f t _ (HT.out.lower HX3.out.b) HF.out hcn HR3.out (HSP.out.below HX3.out.b)).mono ?_
         rintro _ w4 ⟨b4, rfl, hiff, hb4⟩
         obtain rfl : b4 = BB := HBB.out b4 hiff
         have HX4 := Lib.hid (HX3.out.below hb4)
         have HR4 := Lib.hid (HR3.out.below hb4)
         have HB4 : Hid (Below w1.heap.size w1 w4) := Lib.hid (HB3.out.trans (hb4.mono HB3.out.size))
         clear hb4 hiff z0 z1 z2 z3 z4 u0 u1 u2))
    go_ret2
    rw [HE.out]
    exact ChkTold.err _ _ 8 (by omega) HX4.out.b

end Go.Proofs.YtlbiefddcimdgaaDoor

/- The document's measure of a tree: has it few enough parts? -/
namespace Go.Proofs.YtlbiefddcimdgaaDoor
open Go.RowKit
set_option linter.unusedVariables false

/-- A number from -1 to 500; where it is not below 0, the tree is small. -/
def LightPost (w : World) (t : Tr) (left : Int) (e : Ending) (w' : World) : Prop :=
  ∃ r : Int, e = .returned (.int .i64 r) ∧ -1 ≤ r ∧ r ≤ 500 ∧ (0 ≤ r → LightOK t ∧ (countT t : Int) = left - r) ∧ Below w.heap.size w w'

set_option maxRecDepth 100000 in
set_option maxHeartbeats 4000000 in
theorem light_any : ∀ (t : Tr) (h : TH) (left : Int) (dep : Int) (w : World), InTree w h t → -1 ≤ left → left ≤ 500 → 0 ≤ dep → dep ≤ 200 → 
    Calls Tryd.prog 26 #[h.v, .int .i64 left, .int .i64 dep] w (LightPost w t left) := by
  intro t
  induction t using Tr.ind with
  | h t ih =>
  intro h left dep w ht hl1 hl2 hd1 hd2
  unfold TH.v
  obtain ⟨H, hp⟩ := ht.parts
  have hkl := hp.key.len
  have hvl := hp.val.len
  have hdl := hp.dig.len
  have htl := hp.len
  have hkm := Nat.le_trans hp.key.le hp.key.max
  have hvm := Nat.le_trans hp.val.le hp.val.max
  have hdm := Nat.le_trans hp.dig.le hp.dig.max
  have htm := Nat.le_trans hp.sl.le hp.sl.max
  have htc := hp.sl.le
  simp only [maxLen] at hkm hvm hdm htm
  have HP := Lib.hid hp
  have IH := Lib.hid ih
  clear hp ht ih
  have hbox := Box.new w 27 h
  have HX := Lib.hid hbox
  obtain ⟨x0, x1, x2, x3, x4⟩ := hbox.cells
  clear hbox
  go_enter Tryd.func26, Tryd.ntmps26
  by_cases c0 : dep = 0
  · subst c0
    go_wp2_with fail
    go_ret
    exact ⟨_, rfl, by omega, by omega, fun h => by omega, (Below.refl _ _).alloc (Nat.le_refl _) _⟩
  by_cases c1 : left - 1 < 0
  · go_wp2_with fail
    go_ret
    exact ⟨_, rfl, by omega, by omega, fun h => by omega, (Below.refl _ _).alloc (Nat.le_refl _) _⟩
  by_cases c2 : left - 1 < (h.tn : Int)
  · go_wp2_with fail
    go_ret
    exact ⟨_, rfl, by omega, by omega, fun h => by omega, (Below.refl _ _).alloc (Nat.le_refl _) _⟩
  by_cases c3 : (3000 : Int) < (h.kn : Int)
  · go_wp2_with fail
    go_ret
    exact ⟨_, rfl, by omega, by omega, fun h => by omega, (Below.refl _ _).alloc (Nat.le_refl _) _⟩
  by_cases c4 : (3000 : Int) < (h.vn : Int)
  · go_wp2_with fail
    go_ret
    exact ⟨_, rfl, by omega, by omega, fun h => by omega, (Below.refl _ _).alloc (Nat.le_refl _) _⟩
  by_cases c5 : (3000 : Int) < (h.dn : Int)
  · go_wp2_with fail
    go_ret
    exact ⟨_, rfl, by omega, by omega, fun h => by omega, (Below.refl _ _).alloc (Nat.le_refl _) _⟩
  go_wp2_with fail
  clear x0 x1 x2 x3 x4
  go_loopw [1, 7] (fun s1 s7 wx => ∃ (i : Nat) (l : Int), i ≤ h.tn ∧ 0 ≤ l ∧ l ≤ 500 ∧ s1 = .int .i64 l ∧ s7 = .int .i64 i ∧ Box wx 27 w.heap.size h ∧ Below w.heap.size w wx ∧ (∀ j (hj : j < t.kids.length), j < i → LightOK t.kids[j]) ∧ l = left - 1 - (((t.kids.take i).map countT).sum : Nat)) (fun _ s7 _ => h.tn - (intOf s7).toNat)
  case atStart => exact ⟨0, left - 1, by omega, by omega, by omega, by go_num, rfl, HX.out, (Below.refl _ _).alloc (Nat.le_refl _) _, (fun j hj h => by omega), by simp⟩
  case round =>
    obtain ⟨i, l, hi, hl0, hl5, rfl, rfl, hbx, hbw, hok, hsum⟩ := hrel
    have hx4 := hbx.cells.2.2.2.2
    have HBX := Lib.hid hbx
    have HBW := Lib.hid hbw
    have HOK := Lib.hid (And.intro hok hsum)
    clear hbx hbw hok hsum HX
    by_cases hlt : i < h.tn
    · have q1 : (i : Int) < (h.tn : Int) := by omega
      obtain ⟨g, off, hta, hg, hcs⟩ := (HP.out.below HBW.out).place (by omega)
      rw [hta] at hx4
      obtain ⟨k0, k1, k2, k3, k4⟩ := hcs i hlt
      clear hcs hta
      have him : i < t.kids.length := by omega
      go_upto_region 8 with (first
        | (go_at_call 26
           refine (IH.out _ (List.getElem_mem him) (H i) l (dep - 1) _ ((HP.out.below HBW.out).kids i him) (by omega) (by omega) (by omega) (by omega)).mono ?_
           rintro _ w1 ⟨r, rfl, hr1, hr2, hrok, hb1⟩
           have HB1 : Hid (Below w.heap.size w w1) := Lib.hid (HBW.out.trans (hb1.mono HBW.out.size))
           have HX1 := Lib.hid (HBX.out.below hb1 HBX.out.lt)
           have HR := Lib.hid hrok
           clear hb1 hrok))
      clear hx4 k0 k1 k2 k3 k4
      by_cases hr : r < 0
      · go_wp2_with fail
        go_ret
        exact ⟨_, rfl, by omega, by omega, fun h => by omega, HB1.out⟩
      · go_wp2_with fail
        exact ⟨⟨i + 1, r, by omega, by omega, by omega, rfl, by go_num, HX1.out, HB1.out, (fun j hj hji => by
          by_cases hij : j = i
          · subst hij; exact (HR.out (by omega)).1
          · exact HOK.out.1 j hj (by omega)), by
          have h1 := (HR.out (by omega)).2
          have h2 := HOK.out.2
          rw [List.take_succ_eq_append_getElem him, List.map_append, List.sum_append]
          simp only [List.map_cons, List.map_nil, List.sum_cons, List.sum_nil]
          omega⟩, by simp [intOf]; omega⟩
    · obtain rfl : i = h.tn := by omega
      have q1 : ¬ (h.tn : Int) < (h.tn : Int) := by omega
      go_wp2_with fail
      go_ret
      exact ⟨_, rfl, by omega, by omega, fun _ => ⟨.mk t (by omega) (by omega) (by omega) (by omega) fun j hj => HOK.out.1 j hj (by omega), by
        have h2 := HOK.out.2
        rw [List.take_of_length_le (by omega)] at h2
        rw [countT_eq]
        omega⟩, HBW.out⟩
end Go.Proofs.YtlbiefddcimdgaaDoor

/- The empty tree. No program is named here. -/
namespace Go.Proofs.YtlbiefddcimdgaaDoor
open Go.RowKit
set_option linter.unusedVariables false

/-- The empty tree, and its head. -/
def tNil : Tr := .mk 0 [] [] [] []
def hNil : TH := ⟨0, none, 0, 0, none, 0, 0, none, 0, 0, none, 0, 0⟩
theorem in_nil (w : World) : InBytes w none 0 0 [] := ⟨rfl, (fun z hz => by cases hz), Nat.le_refl _, by simp [maxLen], fun _ => rfl, fun h => by omega⟩
theorem inTree_nil (w : World) : InTree w hNil tNil :=
  .mk hNil tNil (fun _ => hNil) rfl (by decide) (by decide) (in_nil w) (in_nil w) (in_nil w) ⟨Nat.le_refl _, by simp [maxLen, hNil], fun _ => rfl, fun h => absurd h (by decide)⟩ rfl (fun i hi => absurd hi (by simp [tNil, Tr.kids]))
end Go.Proofs.YtlbiefddcimdgaaDoor

/- Trees that lie in new blocks alone; what the program's proofs tell, as their contracts say it. -/
namespace Go.Proofs.YtlbiefddcimdgaaDoor
open Go.RowKit
set_option linter.unusedVariables false

/-- A tree in the blocks from lo up to hi, and nowhere else. -/
def FreshT (lo hi : Nat) (w : World) (h : TH) (c : Tr) : Prop := ∀ W : World, hi ≤ W.heap.size → (∀ j, lo ≤ j → j < hi → W.heap[j]? = w.heap[j]?) → InTree W h c
section
variable {lo hi : Nat} {w w' : World} {h : TH} {c : Tr}
end
/-- Prove's proof. -/
def ProveOk (w : World) (c : Tr) (e : Ending) (w' : World) : Prop := ∃ h', e = .returned (.tuple #[h'.v, .nilIface]) ∧ FreshT w.heap.size w'.heap.size w' h' c ∧ Below w.heap.size w w'
/-- Prove's error: no tree, and a code. -/
def ProveErr (w : World) (n : Nat) (e : Ending) (w' : World) : Prop := ∃ h', e = .returned (.tuple #[h'.v, codeV n]) ∧ InTree w' h' tNil ∧ Below w.heap.size w w'
end Go.Proofs.YtlbiefddcimdgaaDoor

/- A partial tree does not lie in a box; leaves. No program is named here. -/
namespace Go.Proofs.YtlbiefddcimdgaaDoor
open Go.RowKit
set_option linter.unusedVariables false

/-- A part that its digest alone tells. -/
theorem inTree_leaf {w : World} {k : Int} (hk1 : -9223372036854775808 ≤ k) (hk2 : k ≤ 9223372036854775807) {da : Option Addr} {dn dc : Nat} {dig : List Int} (h : InBytes w da dn dc dig) : InTree w ⟨k, none, 0, 0, none, 0, 0, da, dn, dc, none, 0, 0⟩ (.mk k [] [] dig []) :=
  .mk _ _ (fun _ => hNil) rfl hk1 hk2 (none_in w) (none_in w) h ⟨Nat.le_refl _, by simp [maxLen], fun _ => rfl, fun h => absurd h (by simp)⟩ rfl (fun i hi => absurd hi (by simp [Tr.kids]))
end Go.Proofs.YtlbiefddcimdgaaDoor

/- Bytes, leaves and nodes that lie in new blocks alone. No program is named here. -/
namespace Go.Proofs.YtlbiefddcimdgaaDoor
open Go.RowKit
set_option linter.unusedVariables false

/-- Bytes in the blocks from lo up to hi, and nowhere else. -/
def FreshB (lo hi : Nat) (w : World) (a : Option Addr) (n c : Nat) (zs : List Int) : Prop := ∀ W : World, hi ≤ W.heap.size → (∀ j, lo ≤ j → j < hi → W.heap[j]? = w.heap[j]?) → InBytes W a n c zs
section
variable {lo hi lo' hi' : Nat} {w w' : World} {a : Option Addr} {n c : Nat} {zs : List Int}
end
end Go.Proofs.YtlbiefddcimdgaaDoor

/- The heads of the statements of layer 8: the document's examples; whether a tree is small. -/
namespace Go.Proofs.YtlbiefddcimdgaaDoor
open Go.RowKit
set_option linter.unusedVariables false

theorem check_nil8 : checkT tNil = 0 := by
  unfold checkT
  rw [deepT_eq, formedT_eq]
  rfl
theorem sum3_8 : (sumL [3]).take 1 = [8] := by decide +kernel
theorem up8_a : checkX 1 [8] [] [] true tNil = (0, []) := by
  have e : checkX ((1 : Nat) : Int) [8] [] [] true tNil = _ := checkX_ok (k := 1) (by omega) (by omega) rfl [] [] true tNil
  rw [show ((1 : Nat) : Int) = 1 from rfl] at e
  rw [e]
  unfold checkR
  rw [if_neg (by rw [check_nil8]; simp), digT_0 rfl, sum3_8]
  have ei : itemsT tNil = [] := itemsT_0 rfl
  simp only [ei, scanI, ne_eq, not_true_eq_false, if_false]
  rfl
def tCut8 : Tr := .mk 3 [] [] [255] []
theorem check_cut8 : checkT tCut8 = 0 := by
  unfold checkT
  rw [deepT_eq, formedT_eq]
  rfl
theorem up8_b : checkX 1 [255] [] [] true tCut8 = (8, []) := by
  have e : checkX ((1 : Nat) : Int) [255] [] [] true tCut8 = _ := checkX_ok (k := 1) (by omega) (by omega) rfl [] [] true tCut8
  rw [show ((1 : Nat) : Int) = 1 from rfl] at e
  rw [e]
  unfold checkR
  have ed : digT 1 tCut8 = some [255] := by
    have q : digT 1 tCut8 = if [(255 : Int)].length = 1 then some [255] else none := digT_3 rfl
    rw [q]
    rfl
  have ei : itemsT tCut8 = [⟨true, false, [], []⟩] := itemsT_3 rfl
  rw [if_neg (by rw [check_cut8]; simp), ed, ei]
  rfl
theorem count_none8 {kd : Int} {key v d : List Int} : countT (.mk kd key v d []) = 1 := by
  rw [countT_eq]
  rfl

set_option maxRecDepth 100000 in
set_option maxHeartbeats 8000000 in
theorem up8_any (w : World) (hT : TabLies w) : Calls Tryd.prog 9 #[] w (Says w (.bool true)) := by
  have heq : ∀ (W : World) (p q : Int), (binOp .eql 32 (.iface 56 (.int .i64 p)) (.iface 56 (.int .i64 q))).run Tryd.prog W = .ok (.bool (p == q)) W := fun W p q => eql_code p q W
  have hcd0 : codeV 0 = .nilIface := rfl
  have hcd8 : codeV 8 = .iface 56 (.int .i64 8) := rfl
  have HT := Lib.hid hT
  clear hT
  have hb1 : Below w.heap.size w (w.alloc (.cells #[.int .u8 8] 5)) := (Below.refl _ _).alloc (Nat.le_refl _) _
  have HB1 := Lib.hid hb1
  have HI1 : Hid (InBytes (w.alloc (.cells #[.int .u8 8] 5)) (some ⟨w.heap.size, 0, none⟩) 1 1 [8]) := Lib.hid (in_one (heap_alloc_new w (.cells #[.int .u8 8] 5)) (by omega) (by omega))
  clear hb1
  go_enter Tryd.func9, Tryd.ntmps9
  go_upto_region 2 with (first
    | (go_at_call 11
       refine (chk_any 1 (by omega) (by omega) (some ⟨w.heap.size, 0, none⟩) 1 1 [8] ⟨none, 0, 0, none, 0, 0, true⟩ [] [] tNil hNil _ HI1.out ⟨none_in _, none_in _⟩ (inTree_nil _) (by unfold tNil; rw [count_none8]; omega) (HT.out.below HB1.out (Nat.le_refl _))).mono ?_
       unfold ChkTold
       rw [up8_a]
       rintro _ w2 ⟨ra2, n2, c2, rs2, rfl, ho2, hrl2, hpv2, hb2⟩
       have e0 : codeV ((0, ([] : List KV)) : Nat × List KV).1 = .nilIface := rfl
       rw [e0]
       obtain rfl : n2 = 0 := by rw [← hrl2]; exact hpv2.1
       have HB2 : Hid (Below w.heap.size w w2) := Lib.hid (HB1.out.trans (hb2.mono HB1.out.size))
       clear ho2 hrl2 hpv2 hb2 e0))
  clear HI1
  have hb3 : Below w2.heap.size w2 ((w2.alloc (.cells #[.int .u8 255] 5)).alloc (.cells #[.int .u8 255] 5)) := ((Below.refl _ _).alloc (Nat.le_refl _) _).alloc (by simp) _
  have x1 : (w2.alloc (.cells #[.int .u8 255] 5)).heap[w2.heap.size]? = some (.cells #[.int .u8 255] 5 (0, 0)) := heap_alloc_new w2 _
  have HI3 : Hid (InBytes ((w2.alloc (.cells #[.int .u8 255] 5)).alloc (.cells #[.int .u8 255] 5)) (some ⟨w2.heap.size, 0, none⟩) 1 1 [255] ∧ InBytes ((w2.alloc (.cells #[.int .u8 255] 5)).alloc (.cells #[.int .u8 255] 5)) (some ⟨w2.heap.size + 1, 0, none⟩) 1 1 [255]) := Lib.hid ⟨(in_one x1 (by omega) (by omega)).below ((Below.refl _ _).alloc (Nat.le_refl _) _), by
    have q := heap_alloc_new (w2.alloc (.cells #[.int .u8 255] 5)) (.cells #[.int .u8 255] 5)
    rw [alloc_size] at q
    exact in_one q (by omega) (by omega)⟩
  have HB3 : Hid (Below w.heap.size w ((w2.alloc (.cells #[.int .u8 255] 5)).alloc (.cells #[.int .u8 255] 5))) := Lib.hid (HB2.out.trans (hb3.mono HB2.out.size))
  clear hb3 x1
  go_wp2_with (first
    | (go_at_call 11
       refine (chk_any 1 (by omega) (by omega) (some ⟨w2.heap.size, 0, none⟩) 1 1 [255] ⟨none, 0, 0, none, 0, 0, true⟩ [] [] tCut8 ⟨3, none, 0, 0, none, 0, 0, some ⟨w2.heap.size + 1, 0, none⟩, 1, 1, none, 0, 0⟩ _ HI3.out.1 ⟨none_in _, none_in _⟩ (inTree_leaf (by omega) (by omega) HI3.out.2) (by unfold tCut8; rw [count_none8]; omega) (HT.out.below HB3.out (Nat.le_refl _))).mono ?_
       unfold ChkTold
       rw [up8_b]
       rintro _ w4 ⟨ra4, n4, c4, rs4, rfl, ho4, hrl4, hpv4, hb4⟩
       have e0 : codeV ((8, ([] : List KV)) : Nat × List KV).1 = .iface 56 (.int .i64 8) := rfl
       rw [e0]
       have HB4 : Hid (Below w.heap.size w w4) := Lib.hid (HB3.out.trans (hb4.mono HB3.out.size))
       clear ho4 hrl4 hpv4 hb4 e0))
  go_ret
  exact ⟨rfl, HB4.out⟩

set_option maxRecDepth 100000 in
set_option maxHeartbeats 8000000 in
theorem small8_any (t : Tr) (h : TH) (w : World) (ht : InTree w h t) : Calls Tryd.prog 10 #[h.v] w (fun e w' => ∃ b, e = .returned (.bool b) ∧ (b = true → LightOK t ∧ countT t ≤ 300) ∧ Below w.heap.size w w') := by
  unfold TH.v
  have hbox := Box.new w 27 h
  obtain ⟨x0, x1, x2, x3, x4⟩ := hbox.cells
  have HT := Lib.hid ht
  clear hbox ht
  go_enter Tryd.func10, Tryd.ntmps10
  go_wp2_with (first
    | (go_at_call 26
       refine (light_any t h 300 100 _ ?_ (by omega) (by omega) (by omega) (by omega)).mono ?_
       · exact HT.out.lower ((Below.refl _ _).alloc (Nat.le_refl _) _)
       rintro _ w1 ⟨r, rfl, hr1, hr2, hok, hb1⟩
       have HB1 : Hid (Below w.heap.size w w1) := Lib.hid (((Below.refl w.heap.size w).alloc (Nat.le_refl _) _).trans (hb1.mono (by simp)))
       have HOK := Lib.hid hok
       clear hb1 hok))
  all_goals
    go_ret
    refine ⟨_, rfl, fun hb => ?_, HB1.out⟩
    have h1 : 0 ≤ r := by simpa using hb
    have h2 := HOK.out h1
    exact ⟨h2.1, by omega⟩
end Go.Proofs.YtlbiefddcimdgaaDoor

/- The document's Check, whatever the width and the root. -/
namespace Go.Proofs.YtlbiefddcimdgaaDoor
open Go.RowKit
set_option linter.unusedVariables false

end Go.Proofs.YtlbiefddcimdgaaDoor

/- What the statements ask of errors: which Code one is. -/
namespace Go.Proofs.YtlbiefddcimdgaaDoor
open Go.RowKit
set_option linter.unusedVariables false

end Go.Proofs.YtlbiefddcimdgaaDoor

/- Two rows of pairs that hold the same ones. -/
namespace Go.Proofs.YtlbiefddcimdgaaDoor
open Go.RowKit
set_option linter.unusedVariables false

/-- The program's pairs and the document's: the same ones. -/
theorem same_told {W : World} {base base' : Nat} {ty : TypeId} {a a' : Option Addr} {n n' c c' : Nat} {rs rs' : List PH} {kvs : List KV} (o : OwnR recP W base ty (.slice a n c) rs) (hl : rs.length = n) (v : PairsIn W rs kvs) (o' : OwnR recP W base' ty (.slice a' n' c') rs') (hl' : rs'.length = n') (v' : PairsIn W rs' kvs) :
    Calls Tryd.prog 15 #[.slice a n c, .slice a' n' c'] W (Says W (.bool true)) := by
  obtain rfl : n' = n := by have := v.1; have := v'.1; omega
  exact refSameP_any kvs (fun i => rs.getD i pZ) (fun i => rs'.getD i pZ) a a' n' c c' W (by have := v.1; omega) (o.inRec pZ).2 (o'.inRec pZ).2 v.byD v'.byD
end Go.Proofs.YtlbiefddcimdgaaDoor

/- The walk of the law CheckTakes. -/
namespace Go.Proofs.YtlbiefddcimdgaaDoor
open Go.RowKit
set_option linter.unusedVariables false

/-- A span's box and a tree's box. -/
structure TK8 (w W : World) (h : TH) (p : Tr) (sp : DH) (f tt : List Int) : Prop where
  sb : RBox recD W 24 w.heap.size sp
  tb : Box W 27 (w.heap.size + 1) h
  ti : InTree W h p
  s : SpanIn w sp f tt
  b : Below w.heap.size w W
section
variable {w W W' : World} {h : TH} {p : Tr} {sp : DH} {f tt : List Int}
theorem TK8.below (x : TK8 w W h p sp f tt) (hb : Below W.heap.size W W') : TK8 w W' h p sp f tt := ⟨x.sb.below hb x.sb.lt, x.tb.below hb x.tb.lt, x.ti.lower hb, x.s, x.b.trans (hb.mono x.b.size)⟩
theorem TK8.spn (x : TK8 w W h p sp f tt) : SpanIn W sp f tt := x.s.below x.b
theorem TK8.enter (w : World) (h : TH) (p : Tr) (sp : DH) (f tt : List Int) (ht : InTree w h p) (hs : SpanIn w sp f tt) : TK8 w ((w.alloc (.cells #[.slice sp.ka sp.kn sp.kc, .slice sp.va sp.vn sp.vc, .bool sp.out] 24)).alloc (.cells #[.int .i64 h.k, .slice h.ka h.kn h.kc, .slice h.va h.vn h.vc, .slice h.da h.dn h.dc, .slice h.ta h.tn h.tc] 27)) h p sp f tt := by
  have q1 : Below w.heap.size w (w.alloc (.cells #[.slice sp.ka sp.kn sp.kc, .slice sp.va sp.vn sp.vc, .bool sp.out] 24)) := (Below.refl _ _).alloc (Nat.le_refl _) _
  have x1 := DH.box w 24 sp
  have s1 : (w.alloc (.cells #[.slice sp.ka sp.kn sp.kc, .slice sp.va sp.vn sp.vc, .bool sp.out] 24)).heap.size = w.heap.size + 1 := by simp
  have x2 := Box.new (w.alloc (.cells #[.slice sp.ka sp.kn sp.kc, .slice sp.va sp.vn sp.vc, .bool sp.out] 24)) 27 h
  have b2 : Below (w.alloc (.cells #[.slice sp.ka sp.kn sp.kc, .slice sp.va sp.vn sp.vc, .bool sp.out] 24)).heap.size (w.alloc (.cells #[.slice sp.ka sp.kn sp.kc, .slice sp.va sp.vn sp.vc, .bool sp.out] 24)) ((w.alloc (.cells #[.slice sp.ka sp.kn sp.kc, .slice sp.va sp.vn sp.vc, .bool sp.out] 24)).alloc (.cells #[.int .i64 h.k, .slice h.ka h.kn h.kc, .slice h.va h.vn h.vc, .slice h.da h.dn h.dc, .slice h.ta h.tn h.tc] 27)) := (Below.refl _ _).alloc (Nat.le_refl _) _
  rw [s1] at x2
  have q2 : Below w.heap.size w ((w.alloc (.cells #[.slice sp.ka sp.kn sp.kc, .slice sp.va sp.vn sp.vc, .bool sp.out] 24)).alloc (.cells #[.int .i64 h.k, .slice h.ka h.kn h.kc, .slice h.va h.vn h.vc, .slice h.da h.dn h.dc, .slice h.ta h.tn h.tc] 27)) := q1.trans (b2.mono (by rw [s1]; omega))
  exact ⟨x1.below b2 x1.lt, x2, ht.lower q2, hs, q2⟩
end
end Go.Proofs.YtlbiefddcimdgaaDoor

/- What lies there while the law CheckLess gathers the pairs of the smaller span. -/
namespace Go.Proofs.YtlbiefddcimdgaaDoor
open Go.RowKit
set_option linter.unusedVariables false

/-- The span's box, the pairs of the one and of the other, and the row that grows. -/
structure LL8 (w W : World) (gl : Nat) (ls : DH) (b3 : Nat) (la : Option Addr) (n lc : Nat) (ra : List PH) (kv : List KV) (ma : Option Addr) (mn mc : Nat) (rm : List PH) (kvm : List KV) (ba bm : Nat) (oa : Option Addr) (r oc : Nat) (rs : List PH) (acc : List KV) : Prop where
  b : Below w.heap.size w W
  box : RBox recD W 24 gl ls
  lo : OwnR recP W ba 53 (.slice la n lc) ra
  lp : PV W ba ra kv
  mo : OwnR recP W bm 53 (.slice ma mn mc) rm
  mp : PV W bm rm kvm
  row : OwnR recP W b3 53 (.slice oa r oc) rs
  rp : PV W ba rs acc
  rl : rs.length = r
  w3 : w.heap.size ≤ b3
  b3w : b3 ≤ W.heap.size
  bl : ∀ g, (Value.slice la n lc).ownBlock = some g → g < b3
  bo : ∀ g, (Value.slice ma mn mc).ownBlock = some g → g < b3
  bg : gl < b3
section
variable {w W W' : World} {gl : Nat} {ls : DH} {b3 : Nat} {la : Option Addr} {n lc : Nat} {ra : List PH} {kv : List KV} {ma : Option Addr} {mn mc : Nat} {rm : List PH} {kvm : List KV} {ba bm : Nat} {oa : Option Addr} {r oc : Nat} {rs : List PH} {acc : List KV}
theorem LL8.below (x : LL8 w W gl ls b3 la n lc ra kv ma mn mc rm kvm ba bm oa r oc rs acc) (hb : Below W.heap.size W W') : LL8 w W' gl ls b3 la n lc ra kv ma mn mc rm kvm ba bm oa r oc rs acc := ⟨x.b.trans (hb.mono x.b.size), x.box.below hb x.box.lt, x.lo.keep hb, x.lp.keep hb, x.mo.keep hb, x.mp.keep hb, x.row.keep hb, x.rp.keep hb, x.rl, x.w3, Nat.le_trans x.b3w hb.size, x.bl, x.bo, x.bg⟩
theorem LL8.drew (x : LL8 w W gl ls b3 la n lc ra kv ma mn mc rm kvm ba bm oa r oc rs acc) : LL8 w W.drew gl ls b3 la n lc ra kv ma mn mc rm kvm ba bm oa r oc rs acc := x.below (Below.refl _ _).drew
theorem LL8.app (x : LL8 w W gl ls b3 la n lc ra kv ma mn mc rm kvm ba bm oa r oc rs acc) {p : PH} {q : KV} {oa' : Option Addr} {oc' : Nat} (hg : W.grownBy W' (Value.slice oa r oc).ownBlock) (ho : OwnR recP W' b3 53 (.slice oa' (r + 1) oc') (rs ++ [p])) (hp : POK W ba p q) : LL8 w W' gl ls b3 la n lc ra kv ma mn mc rm kvm ba bm oa' (r + 1) oc' (rs ++ [p]) (acc ++ [q]) := by
  have far : ∀ {v : Value}, (∀ g, v.ownBlock = some g → g < b3) → v.ownBlock = none ∨ v.ownBlock ≠ (Value.slice oa r oc).ownBlock := fun {v} hv => by
    cases h : v.ownBlock with
    | none => exact .inl rfl
    | some g =>
      right
      intro e
      have q1 := (x.row.base_le e.symm).1
      have q2 := hv g h
      omega
  exact ⟨x.b.grown hg x.b.size (fun j hj => Nat.le_trans x.w3 (x.row.base_le hj).1), x.box.grown hg (fun e => by have q1 := (x.row.base_le e.symm).1; have := x.bg; omega), x.lo.grown hg (far x.bl), x.lp.grown x.row (by decide) hg, x.mo.grown hg (far x.bo), x.mp.grown x.row (by decide) hg, ho, (x.rp.grown x.row (by decide) hg).snoc (hp.grown x.row (by decide) hg), by simp [x.rl], x.w3, Nat.le_trans x.b3w hg.size, x.bl, x.bo, x.bg⟩
/-- The cells of the i-th pair. -/
theorem LL8.pair {g : Nat} (x : LL8 w W gl ls b3 (some ⟨g, 0, none⟩) n lc ra kv ma mn mc rm kvm ba bm oa r oc rs acc) (i : Nat) (hi : i < ra.length) : W.cell? ⟨g, i * 2, none⟩ = some (.slice (ra[i]).ka (ra[i]).kn (ra[i]).kc) ∧ W.cell? ⟨g, i * 2 + 1, none⟩ = some (.slice (ra[i]).va (ra[i]).vn (ra[i]).vc) := by
  obtain ⟨g', e, hc⟩ := x.lo.at i hi
  injection e with e
  injection e with e
  subst e
  exact ⟨hc 0 _ rfl, hc 1 _ rfl⟩
end
theorem items_len8 : ∀ t : Tr, formedT t = true → (itemsT t).length ≤ countT t := by
  intro t
  induction t using Tr.ind with
  | h t ih =>
  intro hf
  obtain ⟨hp, hk⟩ := formed_kids hf
  rcases part_kids hp with ⟨h0, k0 | k3⟩ | ⟨h2, hk12⟩
  · rw [itemsT_0 k0]
    exact Nat.zero_le _
  · rw [itemsT_3 k3, countT_eq]
    simp
  · rw [itemsT_node (by omega) (by omega) h2, count_two h2]
    have i0 := ih _ (List.getElem_mem (by omega : 0 < t.kids.length)) (hk 0 (by omega))
    have i1 := ih _ (List.getElem_mem (by omega : 1 < t.kids.length)) (hk 1 (by omega))
    simp only [List.length_append, List.length_cons]
    omega
theorem pairs_len8 {x : Int} {root f t : List Int} {o : Bool} {p : Tr} (h : (checkX x root f t o p).1 = 0) : (checkX x root f t o p).2.length ≤ countT p := by
  unfold checkX at h ⊢
  split at h
  · rename_i c
    rw [if_pos c]
    unfold checkR at h ⊢
    split at h
    · rename_i c1
      exact absurd h c1
    · rename_i c1
      rw [if_neg c1]
      have hf := (check_zeroR (Decidable.not_not.1 c1)).1
      cases hd : digT x.toNat p with
      | none => exact Nat.zero_le _
      | some d =>
        dsimp only
        split
        · exact Nat.zero_le _
        · split
          · exact Nat.zero_le _
          · cases hs : scanI f t o [] false (itemsT p) with
            | none => exact Nat.zero_le _
            | some l =>
              have q := (scan_sub _ _ _ _ hs).1.length_le
              rw [List.length_map, List.length_map] at q
              have q2 : (keysI (itemsT p)).length ≤ (itemsT p).length := List.length_filter_le _ _
              have q3 := items_len8 p hf
              show l.length ≤ _
              omega
  · injection h
theorem check_less {x : Int} {root f t f' t' : List Int} {o : Bool} {p : Tr} {kv : List KV} (hb : Bytes8 f') (h1 : ltL f' f = false) (h2 : o = true ∨ ltL t t' = false) (h : checkX x root f t o p = (0, kv)) : checkX x root f' t' false p = (0, kv.filter fun q => inS f' t' false q.1) := by
  unfold checkX at h ⊢
  split at h
  · rename_i c
    rw [if_pos c]
    unfold checkR at h ⊢
    split at h
    · rename_i c1
      injection h with h
      exact absurd h c1
    · rename_i c1
      rw [if_neg c1]
      cases hd : digT x.toNat p with
      | none => rw [hd] at h; simp at h
      | some d =>
        rw [hd] at h
        dsimp only at h ⊢
        split at h
        · injection h with h; cases h
        · rename_i c2
          rw [if_neg c2]
          split at h
          · injection h with h; cases h
          · rename_i c3
            rw [if_neg c3]
            cases hs : scanI f t o [] false (itemsT p) with
            | none => rw [hs] at h; simp at h
            | some l =>
              rw [hs] at h
              injection h with _ h
              subst h
              rw [scan_less hb h1 h2 _ _ _ _ hs]
  · injection h with h; cases h
end Go.Proofs.YtlbiefddcimdgaaDoor

/- The walk of the law CheckLess. -/
namespace Go.Proofs.YtlbiefddcimdgaaDoor
open Go.RowKit
set_option linter.unusedVariables false

set_option maxRecDepth 100000 in
set_option maxHeartbeats 8000000 in
theorem checkLess_law (x : Int) (sp : DH) (f tt : List Int) (fa : Option Addr) (fn fc : Nat) (from' : List Int) (ta : Option Addr) (tn tc : Nat) (to' : List Int) (p : Tr) (h : TH) (w : World) (hs : SpanIn w sp f tt) (hf : InBytes w fa fn fc from') (ht' : InBytes w ta tn tc to') (ht : InTree w h p) (hT : TabLies w) (hx1 : -9223372036854775808 ≤ x) (hx2 : x ≤ 9223372036854775807) :
    Calls Tryd.prog 7 #[.int .i64 x, sp.v, .slice fa fn fc, .slice ta tn tc, h.v] w (Says w (.bool true)) := by
  unfold TH.v DH.v
  have HD := Lib.hid (TK8.enter w h p sp f tt ht hs)
  have HT := Lib.hid hT
  have HLS : Hid (SpanIn w (⟨fa, fn, fc, ta, tn, tc, false⟩ : DH) from' to') := Lib.hid ⟨hf, ht'⟩
  have HSS := Lib.hid hs
  clear hT hs ht hf ht'
  go_enter Tryd.func7, Tryd.ntmps7
  go_upto_region 1 with fail
  generalize ((w.alloc (.cells #[.slice sp.ka sp.kn sp.kc, .slice sp.va sp.vn sp.vc, .bool sp.out] 24)).alloc (.cells #[.int .i64 h.k, .slice h.ka h.kn h.kc, .slice h.va h.vn h.vc, .slice h.da h.dn h.dc, .slice h.ta h.tn h.tc] 27)) = w0 at *
  have HD0 := HD
  clear HD
  go_upto_region 3 with (first
    | (go_at_call 9
       refine (up8_any _ (HT.out.below HD0.out.b (Nat.le_refl _))).mono ?_
       rintro _ w1 ⟨rfl, hb1⟩
       have HD1 := Lib.hid (HD0.out.below hb1)
       obtain ⟨x0, x1, x2, x3, x4⟩ := HD1.out.tb.cells
       clear hb1)
    | (go_at_call 10
       refine (small8_any p h _ HD1.out.ti).mono ?_
       rintro _ w2 ⟨b, rfl, hok, hb2⟩
       have HD2 := Lib.hid (HD1.out.below hb2)
       have HOK := Lib.hid hok
       clear hb2 hok x0 x1 x2 x3 x4))
  obtain ⟨x0, x1, x2, x3, x4⟩ := HD2.out.tb.cells
  by_cases hno : ∃ k zs, DigIs x p k zs
  case neg =>
    have HNO := Lib.hid hno
    clear hno
    cases b with
    | false =>
      go_wp2_with (first
        | (go_at_call 16
           refine (digest_bad x p h _ HD2.out.ti (HT.out.below HD2.out.b (Nat.le_refl _)) hx1 hx2 HNO.out).mono ?_
           rintro _ w3 ⟨m3, a3, c3, hm3, rfl, hb3⟩
           have HD3 := Lib.hid (HD2.out.below hb3)
           clear hb3 x0 x1 x2 x3 x4))
      go_ret
      exact ⟨rfl, HD3.out.b⟩
    | true =>
      go_wp2_with (first
        | (go_at_call 16
           refine (digest_bad x p h _ HD2.out.ti (HT.out.below HD2.out.b (Nat.le_refl _)) hx1 hx2 HNO.out).mono ?_
           rintro _ w3 ⟨m3, a3, c3, hm3, rfl, hb3⟩
           have HD3 := Lib.hid (HD2.out.below hb3)
           clear hb3 x0 x1 x2 x3 x4))
      go_ret
      exact ⟨rfl, HD3.out.b⟩
  obtain ⟨kd, zs, his⟩ := hno
  have HIS := Lib.hid his
  clear his
  cases b with
  | false =>
    go_wp2_with (first
      | (go_at_call 16
         refine (digest_is x p h _ HD2.out.ti (HT.out.below HD2.out.b (Nat.le_refl _)) HIS.out).mono ?_
         rintro _ w3 ⟨a3, c3, rfl, hi3, hb3⟩
         have HD3 := Lib.hid (HD2.out.below hb3)
         have HI3 := Lib.hid hi3
         clear hi3 hb3 x0 x1 x2 x3 x4))
    go_ret
    exact ⟨rfl, HD3.out.b⟩
  | true =>
  have hcn : countT p ≤ 300 := (HOK.out rfl).2
  clear HOK
  obtain ⟨r, hr⟩ : ∃ r, checkX x zs f tt sp.out p = r := ⟨_, rfl⟩
  have HR := Lib.hid hr
  clear hr
  go_upto_region 6 with (first
    | (go_at_call 16
       refine (digest_is x p h _ HD2.out.ti (HT.out.below HD2.out.b (Nat.le_refl _)) HIS.out).mono ?_
       rintro _ w3 ⟨a3, c3, rfl, hi3, hb3⟩
       have HD3 := Lib.hid (HD2.out.below hb3)
       have HI3 := Lib.hid hi3
       clear hi3 hb3 x0 x1 x2 x3 x4))
  obtain ⟨y0, y1, y2⟩ := HD3.out.sb.three
  obtain ⟨x0, x1, x2, x3, x4⟩ := HD3.out.tb.cells
  have hle1 : Op.bytesLess (strOfNums from').toList (strOfNums f).toList = ltL from' f := str_lt HLS.out.f.bytes HSS.out.f.bytes
  have hle2 : (Op.bytesLess (strOfNums to').toList (strOfNums tt).toList || (strOfNums to').toList == (strOfNums tt).toList) = !ltL tt to' := by rw [str_lt HLS.out.t.bytes HSS.out.t.bytes, str_eq HLS.out.t.bytes HSS.out.t.bytes]; exact le_not _ _
  have h4 : (ltL from' f = true) ∨ (ltL from' f = false ∧ sp.out = true) ∨ (ltL from' f = false ∧ sp.out = false ∧ ltL tt to' = true) ∨ (ltL from' f = false ∧ sp.out = false ∧ ltL tt to' = false) := by
    cases ltL from' f <;> cases sp.out <;> cases ltL tt to' <;> simp
  by_cases hr0 : r.1 = 0
  case neg =>
    have e0 : codeV r.1 = .iface 56 (.int .i64 (r.1 : Nat)) := by unfold codeV; rw [if_neg hr0]
    have E0 := Lib.hid e0
    clear e0 hr0
    go_upto_region 7 with (first
      | (go_at_call 11
         refine (chk_any x hx1 hx2 a3 kd c3 zs sp f tt p h _ HI3.out HD3.out.spn HD3.out.ti (by omega) (HT.out.below HD3.out.b (Nat.le_refl _))).mono ?_
         rw [HR.out]
         rintro _ w4 ⟨ra4, n4, c4, rs4, rfl, ho4, hrl4, hpv4, hb4⟩
         rw [E0.out]
         have HD4 := Lib.hid (HD3.out.below hb4)
         have HI4 := Lib.hid (HI3.out.below hb4)
         have HR4 := Lib.hid (And.intro ho4 (And.intro hrl4 hpv4))
         clear ho4 hrl4 hpv4 hb4 x0 x1 x2 x3 x4 y0 y1 y2))
    have q5 : Below w4.heap.size w4 (w4.alloc (.cells #[.slice fa fn fc, .slice ta tn tc, .bool false] 24)) := (Below.refl _ _).alloc (Nat.le_refl _) _
    have HD5 := Lib.hid (HD4.out.below q5)
    have HI5 := Lib.hid (HI4.out.below q5)
    have HR5 := Lib.hid (And.intro (HR4.out.1.keep q5) (And.intro HR4.out.2.1 (HR4.out.2.2.keep q5)))
    have HX5 : Hid (RBox recD (w4.alloc (.cells #[.slice fa fn fc, .slice ta tn tc, .bool false] 24)) 24 w4.heap.size (⟨fa, fn, fc, ta, tn, tc, false⟩ : DH)) := Lib.hid (DH.box w4 24 (⟨fa, fn, fc, ta, tn, tc, false⟩ : DH))
    clear q5
    go_upto_region 8 with fail
    generalize w4.heap.size = gl at *
    generalize w4.alloc (.cells #[.slice fa fn fc, .slice ta tn tc, .bool false] 24) = w5 at *
    obtain ⟨y0, y1, y2⟩ := HD5.out.sb.three
    have cv1 := conv_key (HLS.out.below HD5.out.b).f
    have cv2 := conv_key (HLS.out.below HD5.out.b).t
    have cv3 := conv_key (HSS.out.below HD5.out.b).f
    have cv4 := conv_key (HSS.out.below HD5.out.b).t
    rcases h4 with q | ⟨q, qo⟩ | ⟨q, qo, q2⟩ | ⟨q, qo, q2⟩
    · rw [q] at hle1
      go_wp2_with fail
      go_ret
      exact ⟨rfl, HD5.out.b⟩
    · rw [q] at hle1
      rw [qo] at y2
      go_wp2_with fail
      go_ret
      exact ⟨rfl, HD5.out.b⟩
    · rw [q] at hle1
      rw [qo] at y2
      rw [q2] at hle2
      go_wp2_with fail
      go_ret
      exact ⟨rfl, HD5.out.b⟩
    · rw [q] at hle1
      rw [qo] at y2
      rw [q2] at hle2
      go_wp2_with fail
      go_ret
      exact ⟨rfl, HD5.out.b⟩
  have E0 : Hid (codeV r.1 = .nilIface) := Lib.hid (by rw [hr0]; rfl)
  have HR0 := Lib.hid hr0
  clear hr0
  go_upto_region 7 with (first
    | (go_at_call 11
       refine (chk_any x hx1 hx2 a3 kd c3 zs sp f tt p h _ HI3.out HD3.out.spn HD3.out.ti (by omega) (HT.out.below HD3.out.b (Nat.le_refl _))).mono ?_
       rw [HR.out]
       rintro _ w4 ⟨ra4, n4, c4, rs4, rfl, ho4, hrl4, hpv4, hb4⟩
       rw [E0.out]
       have HD4 := Lib.hid (HD3.out.below hb4)
       have HI4 := Lib.hid (HI3.out.below hb4)
       have HR4 := Lib.hid (And.intro ho4 (And.intro hrl4 hpv4))
       clear ho4 hrl4 hpv4 hb4 x0 x1 x2 x3 x4 y0 y1 y2))
  have q5 : Below w4.heap.size w4 (w4.alloc (.cells #[.slice fa fn fc, .slice ta tn tc, .bool false] 24)) := (Below.refl _ _).alloc (Nat.le_refl _) _
  have HD5 := Lib.hid (HD4.out.below q5)
  have HI5 := Lib.hid (HI4.out.below q5)
  have HR5 := Lib.hid (And.intro (HR4.out.1.keep q5) (And.intro HR4.out.2.1 (HR4.out.2.2.keep q5)))
  have HX5 : Hid (RBox recD (w4.alloc (.cells #[.slice fa fn fc, .slice ta tn tc, .bool false] 24)) 24 w4.heap.size (⟨fa, fn, fc, ta, tn, tc, false⟩ : DH)) := Lib.hid (DH.box w4 24 (⟨fa, fn, fc, ta, tn, tc, false⟩ : DH))
  clear q5
  go_upto_region 8 with fail
  generalize w4.heap.size = gl at *
  generalize w4.alloc (.cells #[.slice fa fn fc, .slice ta tn tc, .bool false] 24) = w5 at *
  obtain ⟨y0, y1, y2⟩ := HD5.out.sb.three
  have cv1 := conv_key (HLS.out.below HD5.out.b).f
  have cv2 := conv_key (HLS.out.below HD5.out.b).t
  have cv3 := conv_key (HSS.out.below HD5.out.b).f
  have cv4 := conv_key (HSS.out.below HD5.out.b).t
  rcases h4 with q | ⟨q, qo⟩ | ⟨q, qo, q2⟩ | ⟨q, qo, q2⟩
  · rw [q] at hle1
    go_wp2_with fail
    go_ret
    exact ⟨rfl, HD5.out.b⟩
  · have HWI : Hid (ltL from' f = false ∧ (sp.out = true ∨ ltL tt to' = false)) := Lib.hid ⟨q, .inl qo⟩
    rw [q] at hle1
    rw [qo] at y2
    clear q qo
    go_upto_region 11 with fail
    clear cv1 cv2 cv3 cv4 y0 y1 y2 hle1 hle2
    obtain ⟨y0, y1, y2⟩ := HX5.out.three
    obtain ⟨x0, x1, x2, x3, x4⟩ := HD5.out.tb.cells
    have HR2 : Hid (checkX x zs from' to' false p = (0, r.2.filter fun q => inS from' to' false q.1)) := Lib.hid (check_less HLS.out.f.bytes HWI.out.1 HWI.out.2 (by rw [HR.out, ← HR0.out]))
    go_upto_region 12 with (first
      | (go_at_call 11
         refine (chk_any x hx1 hx2 a3 kd c3 zs (⟨fa, fn, fc, ta, tn, tc, false⟩ : DH) from' to' p h _ HI5.out (HLS.out.below HD5.out.b) HD5.out.ti (by omega) (HT.out.below HD5.out.b (Nat.le_refl _))).mono ?_
         rw [show DH.out (⟨fa, fn, fc, ta, tn, tc, false⟩ : DH) = false from rfl, HR2.out]
         rintro _ w6 ⟨ra6, n6, c6, rs6, rfl, ho6, hrl6, hpv6, hb6⟩
         have e0 : codeV ((0, r.2.filter fun q => inS from' to' false q.1) : Nat × List KV).1 = .nilIface := rfl
         rw [e0]
         have HL6 : Hid (LL8 w w6 gl (⟨fa, fn, fc, ta, tn, tc, false⟩ : DH) w6.heap.size ra4 n4 c4 rs4 r.2 ra6 n6 c6 rs6 (r.2.filter fun q => inS from' to' false q.1) w3.heap.size w5.heap.size none 0 0 [] []) := Lib.hid ⟨HD5.out.b.trans (hb6.mono HD5.out.b.size), HX5.out.below hb6 HX5.out.lt, HR5.out.1.keep hb6, HR5.out.2.2.keep hb6, ho6, hpv6, OwnR.nil _ _ _ _, PV.nil _ _, rfl, Nat.le_trans HD5.out.b.size hb6.size, Nat.le_refl _, fun g hg => Nat.lt_of_lt_of_le (HR5.out.1.base_le hg).2 hb6.size, fun g hg => (ho6.base_le hg).2, Nat.lt_of_lt_of_le HX5.out.lt hb6.size⟩
         have HM6 := Lib.hid hrl6
         have HK6 := Lib.hid hpv6.1
         clear ho6 hrl6 hpv6 hb6 e0 x0 x1 x2 x3 x4 y0 y1 y2))
    have HKL : Hid (r.2.length ≤ 300) := Lib.hid (by
      have q := pairs_len8 (x := x) (root := zs) (f := f) (t := tt) (o := sp.out) (p := p) (by rw [HR.out]; exact HR0.out)
      rw [HR.out] at q
      exact Nat.le_trans q hcn)
    generalize hkv : r.2 = kv at *
    have HN4 : Hid (rs4.length = n4 ∧ n4 = kv.length) := Lib.hid ⟨HR4.out.2.1, by rw [← HR4.out.2.1]; exact HR4.out.2.2.1⟩
    have HB : Hid (∃ ba bm b3, ba = w3.heap.size ∧ bm = w5.heap.size ∧ b3 = w6.heap.size) := Lib.hid ⟨_, _, _, rfl, rfl, rfl⟩
    clear HB
    generalize w6.heap.size = b3 at *
    go_wp2_with fail
    obtain ⟨ti, hti, htz⟩ := Option.map_eq_some_iff.1 infoPair
    simp only [Prod.mk.injEq] at htz
    obtain ⟨hz0, hz1, hz2⟩ := htz
    have HTI := Lib.hid (And.intro hti (And.intro hz0 (And.intro hz1 hz2)))
    clear hti hz0 hz1 hz2
    go_loopw [21, 22] (fun s21 s22 wx => ∃ (i : Nat) (oa : Option Addr) (r oc : Nat) (rs : List PH), i ≤ n4 ∧ s21 = .slice oa r oc ∧ s22 = .int .i64 i ∧ r ≤ i ∧ LL8 w wx gl (⟨fa, fn, fc, ta, tn, tc, false⟩ : DH) b3 ra4 n4 c4 rs4 kv ra6 n6 c6 rs6 (kv.filter fun q => inS from' to' false q.1) w3.heap.size w5.heap.size oa r oc rs ((kv.take i).filter fun q => inS from' to' false q.1)) (fun _ s22 _ => n4 - (intOf s22).toNat)
    case atStart => exact ⟨0, none, 0, 0, [], by omega, rfl, rfl, by omega, by simpa using HL6.out⟩
    case round =>
      clear HL6
      obtain ⟨i, oa, r', oc, rs, hi, rfl, rfl, hri, hll⟩ := hrel
      by_cases hlt : i < n4
      · have q1 : (i : Int) < (n4 : Int) := by omega
        have hil : i < rs4.length := by rw [HN4.out.1]; exact hlt
        have hik : i < kv.length := by rw [← HN4.out.2]; exact hlt
        obtain ⟨g, hga, -⟩ := hll.lo.at i hil
        subst hga
        have HLD := Lib.hid hll.drew
        have HE : Hid (kv[i]? = some kv[i]) := Lib.hid (List.getElem?_eq_getElem hik)
        have hn4 : n4 ≤ 300 := by rw [HN4.out.2]; exact HKL.out
        clear hll
        cases hin : inS from' to' false (kv[i]).1 with
        | false =>
          have HIN := Lib.hid hin
          clear hin
          go_upto_region 16 with fail
          refine wp_region_held_drew (S := (fun W => (W.cell? ⟨gl, 0, none⟩ = some (.slice fa fn fc) ∧ W.cell? ⟨gl, 1, none⟩ = some (.slice ta tn tc) ∧ W.cell? ⟨gl, 2, none⟩ = some (.bool false)) ∧ W.cell? ⟨g, i * 2, none⟩ = some (.slice (rs4[i]).ka (rs4[i]).kn (rs4[i]).kc))) (by kernel_rfl) ⟨HLD.out.box.three, (HLD.out.pair i hil).1⟩ (fun hHeld => ?_)
          refine take_w (i := 0) (oi := ?oZ82) (v := ?vZ82) ?hiZ82 (by kernel_rfl) (by kernel_rfl) (by kernel_rfl) ?hQZ82 ?hwZ82 ?hyZ82 (by assumption) ?restZ82
          case hiZ82 => (simp only [List.getElem?_toArray, List.getElem?_cons_zero] <;> rfl)
          case hQZ82 => exact (fun _ _ _ h => h)
          case hwZ82 => rfl
          case hyZ82 => (intro w hSw; (try dsimp only at hSw); go_simp; try with_reducible rfl)
          (try simp only [Act.put, List.setIfInBounds_toArray, List.set_cons_zero, List.set_cons_succ])
          refine take_w (i := 1) (oi := ?oZ83) (v := ?vZ83) ?hiZ83 (by kernel_rfl) (by kernel_rfl) (by kernel_rfl) ?hQZ83 ?hwZ83 ?hyZ83 (by assumption) ?restZ83
          case hiZ83 => (simp only [List.getElem?_toArray, List.getElem?_cons_succ, List.getElem?_cons_zero] <;> rfl)
          case hQZ83 => exact (fun _ _ _ h => h)
          case hwZ83 => rfl
          case hyZ83 => (intro w hSw; (try dsimp only at hSw); go_simp; try with_reducible rfl)
          (try simp only [Act.put, List.setIfInBounds_toArray, List.set_cons_zero, List.set_cons_succ])
          refine take_w (i := 2) (oi := ?oZ84) (v := ?vZ84) ?hiZ84 (by kernel_rfl) (by kernel_rfl) (by kernel_rfl) ?hQZ84 ?hwZ84 ?hyZ84 (by assumption) ?restZ84
          case hiZ84 => (simp only [List.getElem?_toArray, List.getElem?_cons_succ, List.getElem?_cons_zero] <;> rfl)
          case hQZ84 => exact (fun _ _ _ h => h)
          case hwZ84 => rfl
          case hyZ84 => (intro w hSw; (try dsimp only at hSw); go_simp; try with_reducible rfl)
          (try simp only [Act.put, List.setIfInBounds_toArray, List.set_cons_zero, List.set_cons_succ])
          refine take_w (i := 3) (oi := ?oZ85) (v := ?vZ85) ?hiZ85 (by kernel_rfl) (by kernel_rfl) (by kernel_rfl) ?hQZ85 ?hwZ85 ?hyZ85 (by assumption) ?restZ85
          case hiZ85 => (simp only [List.getElem?_toArray, List.getElem?_cons_succ, List.getElem?_cons_zero] <;> rfl)
          case hQZ85 => exact (fun _ _ _ h => h)
          case hwZ85 => rfl
          case hyZ85 => (intro w hSw; (try dsimp only at hSw); go_simp; try with_reducible rfl)
          (try simp only [Act.put, List.setIfInBounds_toArray, List.set_cons_zero, List.set_cons_succ])
          refine take_w (i := 4) (oi := ?oZ86) (v := ?vZ86) ?hiZ86 (by kernel_rfl) (by kernel_rfl) (by kernel_rfl) ?hQZ86 ?hwZ86 ?hyZ86 (by assumption) ?restZ86
          case hiZ86 => (simp only [List.getElem?_toArray, List.getElem?_cons_succ, List.getElem?_cons_zero] <;> rfl)
          case hQZ86 => exact (fun _ _ _ h => h)
          case hwZ86 => rfl
          case hyZ86 => (intro w hSw; (try dsimp only at hSw); go_simp; try with_reducible rfl)
          (try simp only [Act.put, List.setIfInBounds_toArray, List.set_cons_zero, List.set_cons_succ])
          refine take_w (i := 5) (oi := ?oZ87) (v := ?vZ87) ?hiZ87 (by kernel_rfl) (by kernel_rfl) (by kernel_rfl) ?hQZ87 ?hwZ87 ?hyZ87 (by assumption) ?restZ87
          case hiZ87 => (simp only [List.getElem?_toArray, List.getElem?_cons_succ, List.getElem?_cons_zero] <;> rfl)
          case hQZ87 => exact (fun _ _ _ h => h)
          case hwZ87 => rfl
          case hyZ87 => (intro w hSw; (try dsimp only at hSw); go_simp; try with_reducible rfl)
          (try simp only [Act.put, List.setIfInBounds_toArray, List.set_cons_zero, List.set_cons_succ])
          refine wpAnyH_ready (rs := [6]) (by kernel_rfl) (by simp) ?_
          refine AllReadyH.cons (o := ?oZ88) ?hiZ88 (fun K hK => ?stZ88) AllReadyH.nil
          case hiZ88 => (simp only [List.getElem?_toArray, List.getElem?_cons_succ, List.getElem?_cons_zero] <;> rfl)
          go_simp
          go_at_call 22
          refine (scanIn_any (⟨fa, fn, fc, ta, tn, tc, false⟩ : DH) from' to' (kv[i]).1 (rs4[i]).ka (rs4[i]).kn (rs4[i]).kc _ (HLS.out.below HLD.out.b) (HLD.out.lp.pairs.2 i hil hik).1).mono ?_
          rintro _ w9 ⟨rfl, hb9⟩
          have HL9 := Lib.hid (HLD.out.below hb9)
          rw [HIN.out]
          clear hb9
          go_simp
          refine hK.out _ _ ?_ (fun hHeld => ?_)
          · (first | exact ⟨HL9.out.box.three, (HL9.out.pair i hil).1⟩ | exact ⟨HLD.out.box.three, (HLD.out.pair i hil).1⟩)
          clear hK K
          (try simp only [Act.put, List.setIfInBounds_toArray, List.set_cons_zero, List.set_cons_succ])
          refine take_w (i := 7) (oi := ?oZ89) (v := ?vZ89) ?hiZ89 (by kernel_rfl) (by kernel_rfl) (by kernel_rfl) ?hQZ89 ?hwZ89 ?hyZ89 (by assumption) ?restZ89
          case hiZ89 => (simp only [List.getElem?_toArray, List.getElem?_cons_succ, List.getElem?_cons_zero] <;> rfl)
          case hQZ89 => exact (fun _ _ _ h => h)
          case hwZ89 => rfl
          case hyZ89 => (intro w hSw; (try dsimp only at hSw); go_simp; try with_reducible rfl)
          (try simp only [Act.put, List.setIfInBounds_toArray, List.set_cons_zero, List.set_cons_succ])
          refine wpAnyH_done (by kernel_rfl) ?_ _
          clear hHeld
          go_wp2_with fail
          exact ⟨⟨i + 1, oa, r', oc, rs, by omega, rfl, by go_num, by omega, by rw [filter_out HE.out HIN.out]; exact HL9.out⟩, by simp [intOf]; omega⟩
        | true =>
          have HIN := Lib.hid hin
          clear hin
          go_upto_region 16 with fail
          refine wp_region_held_drew (S := (fun W => (W.cell? ⟨gl, 0, none⟩ = some (.slice fa fn fc) ∧ W.cell? ⟨gl, 1, none⟩ = some (.slice ta tn tc) ∧ W.cell? ⟨gl, 2, none⟩ = some (.bool false)) ∧ W.cell? ⟨g, i * 2, none⟩ = some (.slice (rs4[i]).ka (rs4[i]).kn (rs4[i]).kc))) (by kernel_rfl) ⟨HLD.out.box.three, (HLD.out.pair i hil).1⟩ (fun hHeld => ?_)
          refine take_w (i := 0) (oi := ?oZ90) (v := ?vZ90) ?hiZ90 (by kernel_rfl) (by kernel_rfl) (by kernel_rfl) ?hQZ90 ?hwZ90 ?hyZ90 (by assumption) ?restZ90
          case hiZ90 => (simp only [List.getElem?_toArray, List.getElem?_cons_zero] <;> rfl)
          case hQZ90 => exact (fun _ _ _ h => h)
          case hwZ90 => rfl
          case hyZ90 => (intro w hSw; (try dsimp only at hSw); go_simp; try with_reducible rfl)
          (try simp only [Act.put, List.setIfInBounds_toArray, List.set_cons_zero, List.set_cons_succ])
          refine take_w (i := 1) (oi := ?oZ91) (v := ?vZ91) ?hiZ91 (by kernel_rfl) (by kernel_rfl) (by kernel_rfl) ?hQZ91 ?hwZ91 ?hyZ91 (by assumption) ?restZ91
          case hiZ91 => (simp only [List.getElem?_toArray, List.getElem?_cons_succ, List.getElem?_cons_zero] <;> rfl)
          case hQZ91 => exact (fun _ _ _ h => h)
          case hwZ91 => rfl
          case hyZ91 => (intro w hSw; (try dsimp only at hSw); go_simp; try with_reducible rfl)
          (try simp only [Act.put, List.setIfInBounds_toArray, List.set_cons_zero, List.set_cons_succ])
          refine take_w (i := 2) (oi := ?oZ92) (v := ?vZ92) ?hiZ92 (by kernel_rfl) (by kernel_rfl) (by kernel_rfl) ?hQZ92 ?hwZ92 ?hyZ92 (by assumption) ?restZ92
          case hiZ92 => (simp only [List.getElem?_toArray, List.getElem?_cons_succ, List.getElem?_cons_zero] <;> rfl)
          case hQZ92 => exact (fun _ _ _ h => h)
          case hwZ92 => rfl
          case hyZ92 => (intro w hSw; (try dsimp only at hSw); go_simp; try with_reducible rfl)
          (try simp only [Act.put, List.setIfInBounds_toArray, List.set_cons_zero, List.set_cons_succ])
          refine take_w (i := 3) (oi := ?oZ93) (v := ?vZ93) ?hiZ93 (by kernel_rfl) (by kernel_rfl) (by kernel_rfl) ?hQZ93 ?hwZ93 ?hyZ93 (by assumption) ?restZ93
          case hiZ93 => (simp only [List.getElem?_toArray, List.getElem?_cons_succ, List.getElem?_cons_zero] <;> rfl)
          case hQZ93 => exact (fun _ _ _ h => h)
          case hwZ93 => rfl
          case hyZ93 => (intro w hSw; (try dsimp only at hSw); go_simp; try with_reducible rfl)
          (try simp only [Act.put, List.setIfInBounds_toArray, List.set_cons_zero, List.set_cons_succ])
          refine take_w (i := 4) (oi := ?oZ94) (v := ?vZ94) ?hiZ94 (by kernel_rfl) (by kernel_rfl) (by kernel_rfl) ?hQZ94 ?hwZ94 ?hyZ94 (by assumption) ?restZ94
          case hiZ94 => (simp only [List.getElem?_toArray, List.getElem?_cons_succ, List.getElem?_cons_zero] <;> rfl)
          case hQZ94 => exact (fun _ _ _ h => h)
          case hwZ94 => rfl
          case hyZ94 => (intro w hSw; (try dsimp only at hSw); go_simp; try with_reducible rfl)
          (try simp only [Act.put, List.setIfInBounds_toArray, List.set_cons_zero, List.set_cons_succ])
          refine take_w (i := 5) (oi := ?oZ95) (v := ?vZ95) ?hiZ95 (by kernel_rfl) (by kernel_rfl) (by kernel_rfl) ?hQZ95 ?hwZ95 ?hyZ95 (by assumption) ?restZ95
          case hiZ95 => (simp only [List.getElem?_toArray, List.getElem?_cons_succ, List.getElem?_cons_zero] <;> rfl)
          case hQZ95 => exact (fun _ _ _ h => h)
          case hwZ95 => rfl
          case hyZ95 => (intro w hSw; (try dsimp only at hSw); go_simp; try with_reducible rfl)
          (try simp only [Act.put, List.setIfInBounds_toArray, List.set_cons_zero, List.set_cons_succ])
          refine wpAnyH_ready (rs := [6]) (by kernel_rfl) (by simp) ?_
          refine AllReadyH.cons (o := ?oZ96) ?hiZ96 (fun K hK => ?stZ96) AllReadyH.nil
          case hiZ96 => (simp only [List.getElem?_toArray, List.getElem?_cons_succ, List.getElem?_cons_zero] <;> rfl)
          go_simp
          go_at_call 22
          refine (scanIn_any (⟨fa, fn, fc, ta, tn, tc, false⟩ : DH) from' to' (kv[i]).1 (rs4[i]).ka (rs4[i]).kn (rs4[i]).kc _ (HLS.out.below HLD.out.b) (HLD.out.lp.pairs.2 i hil hik).1).mono ?_
          rintro _ w9 ⟨rfl, hb9⟩
          have HL9 := Lib.hid (HLD.out.below hb9)
          rw [HIN.out]
          clear hb9
          go_simp
          refine hK.out _ _ ?_ (fun hHeld => ?_)
          · (first | exact ⟨HL9.out.box.three, (HL9.out.pair i hil).1⟩ | exact ⟨HLD.out.box.three, (HLD.out.pair i hil).1⟩)
          clear hK K
          (try simp only [Act.put, List.setIfInBounds_toArray, List.set_cons_zero, List.set_cons_succ])
          refine take_w (i := 7) (oi := ?oZ97) (v := ?vZ97) ?hiZ97 (by kernel_rfl) (by kernel_rfl) (by kernel_rfl) ?hQZ97 ?hwZ97 ?hyZ97 (by assumption) ?restZ97
          case hiZ97 => (simp only [List.getElem?_toArray, List.getElem?_cons_succ, List.getElem?_cons_zero] <;> rfl)
          case hQZ97 => exact (fun _ _ _ h => h)
          case hwZ97 => rfl
          case hyZ97 => (intro w hSw; (try dsimp only at hSw); go_simp; try with_reducible rfl)
          (try simp only [Act.put, List.setIfInBounds_toArray, List.set_cons_zero, List.set_cons_succ])
          refine wpAnyH_done (by kernel_rfl) ?_ _
          clear hHeld
          obtain ⟨z0, z1⟩ := HL9.out.pair i hil
          go_wp2_with (first
            | (at_builtin
               refine wpList_append_rec _ rfl (.tmp 98) (.tmp 103) 30 rfl recP b3 53 ti _ 48 Tryd.underlying30 HTI.out.1 HTI.out.2.1 HTI.out.2.2.1 HTI.out.2.2.2 rfl (.slice oa r' oc) rs rfl (HL9.out.row.keep ((Below.refl _ _).alloc (Nat.le_refl _) _)) w9.heap.size 1 (⟨(rs4[i]).ka, (rs4[i]).kn, (rs4[i]).kc, (rs4[i]).va, (rs4[i]).vn, (rs4[i]).vc⟩ : PH) rfl (RBox.cell (c := recP) (r := (⟨(rs4[i]).ka, (rs4[i]).kn, (rs4[i]).kc, (rs4[i]).va, (rs4[i]).vn, (rs4[i]).vc⟩ : PH)) (heap_alloc_new w9 _)) ?_ (by omega) (Nat.le_trans HL9.out.b3w (by simp)) ?_
               · rw [HL9.out.rl]; omega
               intro v9 wf ho9 hg9 _ _
               obtain ⟨oa9, oc9, hv9⟩ := ho9.sl
               have hlen9 : (rs ++ [(⟨(rs4[i]).ka, (rs4[i]).kn, (rs4[i]).kc, (rs4[i]).va, (rs4[i]).vn, (rs4[i]).vc⟩ : PH)]).length = r' + 1 := by simp [HL9.out.rl]
               rw [hlen9] at hv9
               subst hv9
               have qa : Below w9.heap.size w9 (w9.alloc (.cells #[.slice (rs4[i]).ka (rs4[i]).kn (rs4[i]).kc, .slice (rs4[i]).va (rs4[i]).vn (rs4[i]).vc] 53)) := (Below.refl _ _).alloc (Nat.le_refl _) _
               have HLF := Lib.hid ((HL9.out.below qa).app (p := (⟨(rs4[i]).ka, (rs4[i]).kn, (rs4[i]).kc, (rs4[i]).va, (rs4[i]).vn, (rs4[i]).vc⟩ : PH)) (q := kv[i]) hg9 ho9 ((HL9.out.below qa).lp.2 i hil hik))
               clear ho9 hg9 hlen9 qa))
          exact ⟨⟨i + 1, oa9, r' + 1, oc9, rs ++ [(⟨(rs4[i]).ka, (rs4[i]).kn, (rs4[i]).kc, (rs4[i]).va, (rs4[i]).vn, (rs4[i]).vc⟩ : PH)], by omega, rfl, by go_num, by omega, by rw [filter_in HE.out HIN.out]; exact HLF.out⟩, by simp [intOf]; omega⟩
      · obtain rfl : i = n4 := by omega
        have q1 : ¬ (i : Int) < (i : Int) := by omega
        have e : (kv.take i).filter (fun q => inS from' to' false q.1) = kv.filter fun q => inS from' to' false q.1 := by rw [HN4.out.2, List.take_length]
        rw [e] at hll
        have HLL := Lib.hid hll
        clear hll e
        go_wp2_with (first
          | (go_at_call 15
             refine (same_told HLL.out.mo HM6.out HLL.out.mp.pairs HLL.out.row HLL.out.rl HLL.out.rp.pairs).mono ?_
             rintro _ w9 ⟨rfl, hb9⟩
             have HL9 := Lib.hid (HLL.out.below hb9)
             clear hb9))
        go_ret
        exact ⟨rfl, HL9.out.b⟩
  · rw [q] at hle1
    rw [qo] at y2
    rw [q2] at hle2
    go_wp2_with fail
    go_ret
    exact ⟨rfl, HD5.out.b⟩
  · have HWI : Hid (ltL from' f = false ∧ (sp.out = true ∨ ltL tt to' = false)) := Lib.hid ⟨q, .inr q2⟩
    rw [q] at hle1
    rw [qo] at y2
    rw [q2] at hle2
    clear q qo q2
    go_upto_region 11 with fail
    clear cv1 cv2 cv3 cv4 y0 y1 y2 hle1 hle2
    obtain ⟨y0, y1, y2⟩ := HX5.out.three
    obtain ⟨x0, x1, x2, x3, x4⟩ := HD5.out.tb.cells
    have HR2 : Hid (checkX x zs from' to' false p = (0, r.2.filter fun q => inS from' to' false q.1)) := Lib.hid (check_less HLS.out.f.bytes HWI.out.1 HWI.out.2 (by rw [HR.out, ← HR0.out]))
    go_upto_region 12 with (first
      | (go_at_call 11
         refine (chk_any x hx1 hx2 a3 kd c3 zs (⟨fa, fn, fc, ta, tn, tc, false⟩ : DH) from' to' p h _ HI5.out (HLS.out.below HD5.out.b) HD5.out.ti (by omega) (HT.out.below HD5.out.b (Nat.le_refl _))).mono ?_
         rw [show DH.out (⟨fa, fn, fc, ta, tn, tc, false⟩ : DH) = false from rfl, HR2.out]
         rintro _ w6 ⟨ra6, n6, c6, rs6, rfl, ho6, hrl6, hpv6, hb6⟩
         have e0 : codeV ((0, r.2.filter fun q => inS from' to' false q.1) : Nat × List KV).1 = .nilIface := rfl
         rw [e0]
         have HL6 : Hid (LL8 w w6 gl (⟨fa, fn, fc, ta, tn, tc, false⟩ : DH) w6.heap.size ra4 n4 c4 rs4 r.2 ra6 n6 c6 rs6 (r.2.filter fun q => inS from' to' false q.1) w3.heap.size w5.heap.size none 0 0 [] []) := Lib.hid ⟨HD5.out.b.trans (hb6.mono HD5.out.b.size), HX5.out.below hb6 HX5.out.lt, HR5.out.1.keep hb6, HR5.out.2.2.keep hb6, ho6, hpv6, OwnR.nil _ _ _ _, PV.nil _ _, rfl, Nat.le_trans HD5.out.b.size hb6.size, Nat.le_refl _, fun g hg => Nat.lt_of_lt_of_le (HR5.out.1.base_le hg).2 hb6.size, fun g hg => (ho6.base_le hg).2, Nat.lt_of_lt_of_le HX5.out.lt hb6.size⟩
         have HM6 := Lib.hid hrl6
         have HK6 := Lib.hid hpv6.1
         clear ho6 hrl6 hpv6 hb6 e0 x0 x1 x2 x3 x4 y0 y1 y2))
    have HKL : Hid (r.2.length ≤ 300) := Lib.hid (by
      have q := pairs_len8 (x := x) (root := zs) (f := f) (t := tt) (o := sp.out) (p := p) (by rw [HR.out]; exact HR0.out)
      rw [HR.out] at q
      exact Nat.le_trans q hcn)
    generalize hkv : r.2 = kv at *
    have HN4 : Hid (rs4.length = n4 ∧ n4 = kv.length) := Lib.hid ⟨HR4.out.2.1, by rw [← HR4.out.2.1]; exact HR4.out.2.2.1⟩
    have HB : Hid (∃ ba bm b3, ba = w3.heap.size ∧ bm = w5.heap.size ∧ b3 = w6.heap.size) := Lib.hid ⟨_, _, _, rfl, rfl, rfl⟩
    clear HB
    generalize w6.heap.size = b3 at *
    go_wp2_with fail
    obtain ⟨ti, hti, htz⟩ := Option.map_eq_some_iff.1 infoPair
    simp only [Prod.mk.injEq] at htz
    obtain ⟨hz0, hz1, hz2⟩ := htz
    have HTI := Lib.hid (And.intro hti (And.intro hz0 (And.intro hz1 hz2)))
    clear hti hz0 hz1 hz2
    go_loopw [21, 22] (fun s21 s22 wx => ∃ (i : Nat) (oa : Option Addr) (r oc : Nat) (rs : List PH), i ≤ n4 ∧ s21 = .slice oa r oc ∧ s22 = .int .i64 i ∧ r ≤ i ∧ LL8 w wx gl (⟨fa, fn, fc, ta, tn, tc, false⟩ : DH) b3 ra4 n4 c4 rs4 kv ra6 n6 c6 rs6 (kv.filter fun q => inS from' to' false q.1) w3.heap.size w5.heap.size oa r oc rs ((kv.take i).filter fun q => inS from' to' false q.1)) (fun _ s22 _ => n4 - (intOf s22).toNat)
    case atStart => exact ⟨0, none, 0, 0, [], by omega, rfl, rfl, by omega, by simpa using HL6.out⟩
    case round =>
      clear HL6
      obtain ⟨i, oa, r', oc, rs, hi, rfl, rfl, hri, hll⟩ := hrel
      by_cases hlt : i < n4
      · have q1 : (i : Int) < (n4 : Int) := by omega
        have hil : i < rs4.length := by rw [HN4.out.1]; exact hlt
        have hik : i < kv.length := by rw [← HN4.out.2]; exact hlt
        obtain ⟨g, hga, -⟩ := hll.lo.at i hil
        subst hga
        have HLD := Lib.hid hll.drew
        have HE : Hid (kv[i]? = some kv[i]) := Lib.hid (List.getElem?_eq_getElem hik)
        have hn4 : n4 ≤ 300 := by rw [HN4.out.2]; exact HKL.out
        clear hll
        cases hin : inS from' to' false (kv[i]).1 with
        | false =>
          have HIN := Lib.hid hin
          clear hin
          go_upto_region 16 with fail
          refine wp_region_held_drew (S := (fun W => (W.cell? ⟨gl, 0, none⟩ = some (.slice fa fn fc) ∧ W.cell? ⟨gl, 1, none⟩ = some (.slice ta tn tc) ∧ W.cell? ⟨gl, 2, none⟩ = some (.bool false)) ∧ W.cell? ⟨g, i * 2, none⟩ = some (.slice (rs4[i]).ka (rs4[i]).kn (rs4[i]).kc))) (by kernel_rfl) ⟨HLD.out.box.three, (HLD.out.pair i hil).1⟩ (fun hHeld => ?_)
          refine take_w (i := 0) (oi := ?oZ98) (v := ?vZ98) ?hiZ98 (by kernel_rfl) (by kernel_rfl) (by kernel_rfl) ?hQZ98 ?hwZ98 ?hyZ98 (by assumption) ?restZ98
          case hiZ98 => (simp only [List.getElem?_toArray, List.getElem?_cons_zero] <;> rfl)
          case hQZ98 => exact (fun _ _ _ h => h)
          case hwZ98 => rfl
          case hyZ98 => (intro w hSw; (try dsimp only at hSw); go_simp; try with_reducible rfl)
          (try simp only [Act.put, List.setIfInBounds_toArray, List.set_cons_zero, List.set_cons_succ])
          refine take_w (i := 1) (oi := ?oZ99) (v := ?vZ99) ?hiZ99 (by kernel_rfl) (by kernel_rfl) (by kernel_rfl) ?hQZ99 ?hwZ99 ?hyZ99 (by assumption) ?restZ99
          case hiZ99 => (simp only [List.getElem?_toArray, List.getElem?_cons_succ, List.getElem?_cons_zero] <;> rfl)
          case hQZ99 => exact (fun _ _ _ h => h)
          case hwZ99 => rfl
          case hyZ99 => (intro w hSw; (try dsimp only at hSw); go_simp; try with_reducible rfl)
          (try simp only [Act.put, List.setIfInBounds_toArray, List.set_cons_zero, List.set_cons_succ])
          refine take_w (i := 2) (oi := ?oZ100) (v := ?vZ100) ?hiZ100 (by kernel_rfl) (by kernel_rfl) (by kernel_rfl) ?hQZ100 ?hwZ100 ?hyZ100 (by assumption) ?restZ100
          case hiZ100 => (simp only [List.getElem?_toArray, List.getElem?_cons_succ, List.getElem?_cons_zero] <;> rfl)
          case hQZ100 => exact (fun _ _ _ h => h)
          case hwZ100 => rfl
          case hyZ100 => (intro w hSw; (try dsimp only at hSw); go_simp; try with_reducible rfl)
          (try simp only [Act.put, List.setIfInBounds_toArray, List.set_cons_zero, List.set_cons_succ])
          refine take_w (i := 3) (oi := ?oZ101) (v := ?vZ101) ?hiZ101 (by kernel_rfl) (by kernel_rfl) (by kernel_rfl) ?hQZ101 ?hwZ101 ?hyZ101 (by assumption) ?restZ101
          case hiZ101 => (simp only [List.getElem?_toArray, List.getElem?_cons_succ, List.getElem?_cons_zero] <;> rfl)
          case hQZ101 => exact (fun _ _ _ h => h)
          case hwZ101 => rfl
          case hyZ101 => (intro w hSw; (try dsimp only at hSw); go_simp; try with_reducible rfl)
          (try simp only [Act.put, List.setIfInBounds_toArray, List.set_cons_zero, List.set_cons_succ])
          refine take_w (i := 4) (oi := ?oZ102) (v := ?vZ102) ?hiZ102 (by kernel_rfl) (by kernel_rfl) (by kernel_rfl) ?hQZ102 ?hwZ102 ?hyZ102 (by assumption) ?restZ102
          case hiZ102 => (simp only [List.getElem?_toArray, List.getElem?_cons_succ, List.getElem?_cons_zero] <;> rfl)
          case hQZ102 => exact (fun _ _ _ h => h)
          case hwZ102 => rfl
          case hyZ102 => (intro w hSw; (try dsimp only at hSw); go_simp; try with_reducible rfl)
          (try simp only [Act.put, List.setIfInBounds_toArray, List.set_cons_zero, List.set_cons_succ])
          refine take_w (i := 5) (oi := ?oZ103) (v := ?vZ103) ?hiZ103 (by kernel_rfl) (by kernel_rfl) (by kernel_rfl) ?hQZ103 ?hwZ103 ?hyZ103 (by assumption) ?restZ103
          case hiZ103 => (simp only [List.getElem?_toArray, List.getElem?_cons_succ, List.getElem?_cons_zero] <;> rfl)
          case hQZ103 => exact (fun _ _ _ h => h)
          case hwZ103 => rfl
          case hyZ103 => (intro w hSw; (try dsimp only at hSw); go_simp; try with_reducible rfl)
          (try simp only [Act.put, List.setIfInBounds_toArray, List.set_cons_zero, List.set_cons_succ])
          refine wpAnyH_ready (rs := [6]) (by kernel_rfl) (by simp) ?_
          refine AllReadyH.cons (o := ?oZ104) ?hiZ104 (fun K hK => ?stZ104) AllReadyH.nil
          case hiZ104 => (simp only [List.getElem?_toArray, List.getElem?_cons_succ, List.getElem?_cons_zero] <;> rfl)
          go_simp
          go_at_call 22
          refine (scanIn_any (⟨fa, fn, fc, ta, tn, tc, false⟩ : DH) from' to' (kv[i]).1 (rs4[i]).ka (rs4[i]).kn (rs4[i]).kc _ (HLS.out.below HLD.out.b) (HLD.out.lp.pairs.2 i hil hik).1).mono ?_
          rintro _ w9 ⟨rfl, hb9⟩
          have HL9 := Lib.hid (HLD.out.below hb9)
          rw [HIN.out]
          clear hb9
          go_simp
          refine hK.out _ _ ?_ (fun hHeld => ?_)
          · (first | exact ⟨HL9.out.box.three, (HL9.out.pair i hil).1⟩ | exact ⟨HLD.out.box.three, (HLD.out.pair i hil).1⟩)
          clear hK K
          (try simp only [Act.put, List.setIfInBounds_toArray, List.set_cons_zero, List.set_cons_succ])
          refine take_w (i := 7) (oi := ?oZ105) (v := ?vZ105) ?hiZ105 (by kernel_rfl) (by kernel_rfl) (by kernel_rfl) ?hQZ105 ?hwZ105 ?hyZ105 (by assumption) ?restZ105
          case hiZ105 => (simp only [List.getElem?_toArray, List.getElem?_cons_succ, List.getElem?_cons_zero] <;> rfl)
          case hQZ105 => exact (fun _ _ _ h => h)
          case hwZ105 => rfl
          case hyZ105 => (intro w hSw; (try dsimp only at hSw); go_simp; try with_reducible rfl)
          (try simp only [Act.put, List.setIfInBounds_toArray, List.set_cons_zero, List.set_cons_succ])
          refine wpAnyH_done (by kernel_rfl) ?_ _
          clear hHeld
          go_wp2_with fail
          exact ⟨⟨i + 1, oa, r', oc, rs, by omega, rfl, by go_num, by omega, by rw [filter_out HE.out HIN.out]; exact HL9.out⟩, by simp [intOf]; omega⟩
        | true =>
          have HIN := Lib.hid hin
          clear hin
          go_upto_region 16 with fail
          refine wp_region_held_drew (S := (fun W => (W.cell? ⟨gl, 0, none⟩ = some (.slice fa fn fc) ∧ W.cell? ⟨gl, 1, none⟩ = some (.slice ta tn tc) ∧ W.cell? ⟨gl, 2, none⟩ = some (.bool false)) ∧ W.cell? ⟨g, i * 2, none⟩ = some (.slice (rs4[i]).ka (rs4[i]).kn (rs4[i]).kc))) (by kernel_rfl) ⟨HLD.out.box.three, (HLD.out.pair i hil).1⟩ (fun hHeld => ?_)
          refine take_w (i := 0) (oi := ?oZ106) (v := ?vZ106) ?hiZ106 (by kernel_rfl) (by kernel_rfl) (by kernel_rfl) ?hQZ106 ?hwZ106 ?hyZ106 (by assumption) ?restZ106
          case hiZ106 => (simp only [List.getElem?_toArray, List.getElem?_cons_zero] <;> rfl)
          case hQZ106 => exact (fun _ _ _ h => h)
          case hwZ106 => rfl
          case hyZ106 => (intro w hSw; (try dsimp only at hSw); go_simp; try with_reducible rfl)
          (try simp only [Act.put, List.setIfInBounds_toArray, List.set_cons_zero, List.set_cons_succ])
          refine take_w (i := 1) (oi := ?oZ107) (v := ?vZ107) ?hiZ107 (by kernel_rfl) (by kernel_rfl) (by kernel_rfl) ?hQZ107 ?hwZ107 ?hyZ107 (by assumption) ?restZ107
          case hiZ107 => (simp only [List.getElem?_toArray, List.getElem?_cons_succ, List.getElem?_cons_zero] <;> rfl)
          case hQZ107 => exact (fun _ _ _ h => h)
          case hwZ107 => rfl
          case hyZ107 => (intro w hSw; (try dsimp only at hSw); go_simp; try with_reducible rfl)
          (try simp only [Act.put, List.setIfInBounds_toArray, List.set_cons_zero, List.set_cons_succ])
          refine take_w (i := 2) (oi := ?oZ108) (v := ?vZ108) ?hiZ108 (by kernel_rfl) (by kernel_rfl) (by kernel_rfl) ?hQZ108 ?hwZ108 ?hyZ108 (by assumption) ?restZ108
          case hiZ108 => (simp only [List.getElem?_toArray, List.getElem?_cons_succ, List.getElem?_cons_zero] <;> rfl)
          case hQZ108 => exact (fun _ _ _ h => h)
          case hwZ108 => rfl
          case hyZ108 => (intro w hSw; (try dsimp only at hSw); go_simp; try with_reducible rfl)
          (try simp only [Act.put, List.setIfInBounds_toArray, List.set_cons_zero, List.set_cons_succ])
          refine take_w (i := 3) (oi := ?oZ109) (v := ?vZ109) ?hiZ109 (by kernel_rfl) (by kernel_rfl) (by kernel_rfl) ?hQZ109 ?hwZ109 ?hyZ109 (by assumption) ?restZ109
          case hiZ109 => (simp only [List.getElem?_toArray, List.getElem?_cons_succ, List.getElem?_cons_zero] <;> rfl)
          case hQZ109 => exact (fun _ _ _ h => h)
          case hwZ109 => rfl
          case hyZ109 => (intro w hSw; (try dsimp only at hSw); go_simp; try with_reducible rfl)
          (try simp only [Act.put, List.setIfInBounds_toArray, List.set_cons_zero, List.set_cons_succ])
          refine take_w (i := 4) (oi := ?oZ110) (v := ?vZ110) ?hiZ110 (by kernel_rfl) (by kernel_rfl) (by kernel_rfl) ?hQZ110 ?hwZ110 ?hyZ110 (by assumption) ?restZ110
          case hiZ110 => (simp only [List.getElem?_toArray, List.getElem?_cons_succ, List.getElem?_cons_zero] <;> rfl)
          case hQZ110 => exact (fun _ _ _ h => h)
          case hwZ110 => rfl
          case hyZ110 => (intro w hSw; (try dsimp only at hSw); go_simp; try with_reducible rfl)
          (try simp only [Act.put, List.setIfInBounds_toArray, List.set_cons_zero, List.set_cons_succ])
          refine take_w (i := 5) (oi := ?oZ111) (v := ?vZ111) ?hiZ111 (by kernel_rfl) (by kernel_rfl) (by kernel_rfl) ?hQZ111 ?hwZ111 ?hyZ111 (by assumption) ?restZ111
          case hiZ111 => (simp only [List.getElem?_toArray, List.getElem?_cons_succ, List.getElem?_cons_zero] <;> rfl)
          case hQZ111 => exact (fun _ _ _ h => h)
          case hwZ111 => rfl
          case hyZ111 => (intro w hSw; (try dsimp only at hSw); go_simp; try with_reducible rfl)
          (try simp only [Act.put, List.setIfInBounds_toArray, List.set_cons_zero, List.set_cons_succ])
          refine wpAnyH_ready (rs := [6]) (by kernel_rfl) (by simp) ?_
          refine AllReadyH.cons (o := ?oZ112) ?hiZ112 (fun K hK => ?stZ112) AllReadyH.nil
          case hiZ112 => (simp only [List.getElem?_toArray, List.getElem?_cons_succ, List.getElem?_cons_zero] <;> rfl)
          go_simp
          go_at_call 22
          refine (scanIn_any (⟨fa, fn, fc, ta, tn, tc, false⟩ : DH) from' to' (kv[i]).1 (rs4[i]).ka (rs4[i]).kn (rs4[i]).kc _ (HLS.out.below HLD.out.b) (HLD.out.lp.pairs.2 i hil hik).1).mono ?_
          rintro _ w9 ⟨rfl, hb9⟩
          have HL9 := Lib.hid (HLD.out.below hb9)
          rw [HIN.out]
          clear hb9
          go_simp
          refine hK.out _ _ ?_ (fun hHeld => ?_)
          · (first | exact ⟨HL9.out.box.three, (HL9.out.pair i hil).1⟩ | exact ⟨HLD.out.box.three, (HLD.out.pair i hil).1⟩)
          clear hK K
          (try simp only [Act.put, List.setIfInBounds_toArray, List.set_cons_zero, List.set_cons_succ])
          refine take_w (i := 7) (oi := ?oZ113) (v := ?vZ113) ?hiZ113 (by kernel_rfl) (by kernel_rfl) (by kernel_rfl) ?hQZ113 ?hwZ113 ?hyZ113 (by assumption) ?restZ113
          case hiZ113 => (simp only [List.getElem?_toArray, List.getElem?_cons_succ, List.getElem?_cons_zero] <;> rfl)
          case hQZ113 => exact (fun _ _ _ h => h)
          case hwZ113 => rfl
          case hyZ113 => (intro w hSw; (try dsimp only at hSw); go_simp; try with_reducible rfl)
          (try simp only [Act.put, List.setIfInBounds_toArray, List.set_cons_zero, List.set_cons_succ])
          refine wpAnyH_done (by kernel_rfl) ?_ _
          clear hHeld
          obtain ⟨z0, z1⟩ := HL9.out.pair i hil
          go_wp2_with (first
            | (at_builtin
               refine wpList_append_rec _ rfl (.tmp 98) (.tmp 103) 30 rfl recP b3 53 ti _ 48 Tryd.underlying30 HTI.out.1 HTI.out.2.1 HTI.out.2.2.1 HTI.out.2.2.2 rfl (.slice oa r' oc) rs rfl (HL9.out.row.keep ((Below.refl _ _).alloc (Nat.le_refl _) _)) w9.heap.size 1 (⟨(rs4[i]).ka, (rs4[i]).kn, (rs4[i]).kc, (rs4[i]).va, (rs4[i]).vn, (rs4[i]).vc⟩ : PH) rfl (RBox.cell (c := recP) (r := (⟨(rs4[i]).ka, (rs4[i]).kn, (rs4[i]).kc, (rs4[i]).va, (rs4[i]).vn, (rs4[i]).vc⟩ : PH)) (heap_alloc_new w9 _)) ?_ (by omega) (Nat.le_trans HL9.out.b3w (by simp)) ?_
               · rw [HL9.out.rl]; omega
               intro v9 wf ho9 hg9 _ _
               obtain ⟨oa9, oc9, hv9⟩ := ho9.sl
               have hlen9 : (rs ++ [(⟨(rs4[i]).ka, (rs4[i]).kn, (rs4[i]).kc, (rs4[i]).va, (rs4[i]).vn, (rs4[i]).vc⟩ : PH)]).length = r' + 1 := by simp [HL9.out.rl]
               rw [hlen9] at hv9
               subst hv9
               have qa : Below w9.heap.size w9 (w9.alloc (.cells #[.slice (rs4[i]).ka (rs4[i]).kn (rs4[i]).kc, .slice (rs4[i]).va (rs4[i]).vn (rs4[i]).vc] 53)) := (Below.refl _ _).alloc (Nat.le_refl _) _
               have HLF := Lib.hid ((HL9.out.below qa).app (p := (⟨(rs4[i]).ka, (rs4[i]).kn, (rs4[i]).kc, (rs4[i]).va, (rs4[i]).vn, (rs4[i]).vc⟩ : PH)) (q := kv[i]) hg9 ho9 ((HL9.out.below qa).lp.2 i hil hik))
               clear ho9 hg9 hlen9 qa))
          exact ⟨⟨i + 1, oa9, r' + 1, oc9, rs ++ [(⟨(rs4[i]).ka, (rs4[i]).kn, (rs4[i]).kc, (rs4[i]).va, (rs4[i]).vn, (rs4[i]).vc⟩ : PH)], by omega, rfl, by go_num, by omega, by rw [filter_in HE.out HIN.out]; exact HLF.out⟩, by simp [intOf]; omega⟩
      · obtain rfl : i = n4 := by omega
        have q1 : ¬ (i : Int) < (i : Int) := by omega
        have e : (kv.take i).filter (fun q => inS from' to' false q.1) = kv.filter fun q => inS from' to' false q.1 := by rw [HN4.out.2, List.take_length]
        rw [e] at hll
        have HLL := Lib.hid hll
        clear hll e
        go_wp2_with (first
          | (go_at_call 15
             refine (same_told HLL.out.mo HM6.out HLL.out.mp.pairs HLL.out.row HLL.out.rl HLL.out.rp.pairs).mono ?_
             rintro _ w9 ⟨rfl, hb9⟩
             have HL9 := Lib.hid (HLL.out.below hb9)
             clear hb9))
        go_ret
        exact ⟨rfl, HL9.out.b⟩
end Go.Proofs.YtlbiefddcimdgaaDoor

/- A tree that is an argument of the program. -/
namespace Go.Proofs.YtlbiefddcimdgaaDoor
open Go.ChangeShapes Go.WideShapes Go.RowKit Go.Deep
set_option linter.unusedVariables false

set_option maxRecDepth 100000 in
theorem open_tree {H : Type} {enc : TypeId × Value → H} {w : World} {base : Nat} {spare : Nat → Bool} {held : Bool} {r : Reach} {b0 : Nat} {v : Value} {d : DataW H} {p : List MemPlace}
    (hv : Value.okWide Tryd.prog w r b0 27 v) (h : DataW.Trod enc Tryd.prog w base spare held 27 v d p) : ∃ hd t, v = TH.v hd ∧ InTree w hd t := by
  obtain ⟨cs, rfl, hs⟩ := okWide_struct Tryd.underlying27 hv
  obtain ⟨fuel, hf⟩ := h
  obtain ⟨hd, t, e, ht⟩ := trod_tree Tryd.underlying27 (by kernel_rfl) rfl rfl rfl rfl rfl (by kernel_rfl) (by kernel_rfl) (by kernel_rfl) (by kernel_rfl) (by kernel_rfl)
    Tryd.underlying3 Tryd.underlying22 Tryd.underlying22 Tryd.underlying22 Tryd.underlying25 Tryd.underlying5 (by kernel_rfl) fuel _ _ hf
  refine ⟨hd, t, ?_, ht⟩
  have e2 : cs = hd.cells.toArray := by
    simp only [Value.cells] at e
    rw [← e]
  rw [e2]
  rfl
end Go.Proofs.YtlbiefddcimdgaaDoor

/- Spans, and lists of pairs, that are arguments. -/
namespace Go.Proofs.YtlbiefddcimdgaaDoor
open Go.ChangeShapes Go.WideShapes Go.RowKit Go.Deep
set_option linter.unusedVariables false

set_option maxRecDepth 100000 in
theorem open_span {H : Type} {enc : TypeId × Value → H} {w : World} {base : Nat} {spare : Nat → Bool} {held : Bool} {r : Reach} {b0 : Nat} {v : Value} {d : DataW H} {p : List MemPlace}
    (hv : Value.okWide Tryd.prog w r b0 24 v) (h : DataW.Trod enc Tryd.prog w base spare held 24 v d p) : ∃ hd f t, v = DH.v hd ∧ SpanIn w hd f t := by
  obtain ⟨cs, rfl, hs⟩ := okWide_struct Tryd.underlying24 hv
  obtain ⟨fuel, hf⟩ := h
  obtain ⟨hd, e, key, val, h1, h2⟩ := trod_deed Tryd.underlying24 (by kernel_rfl) rfl rfl rfl (by kernel_rfl) (by kernel_rfl) (by kernel_rfl) Tryd.underlying22 Tryd.underlying22 Tryd.underlying4 Tryd.underlying5 (by kernel_rfl) fuel _ _ hf
  refine ⟨hd, key, val, ?_, h1, h2⟩
  have e2 : cs = (recD.cells hd).toArray := by
    simp only [Value.cells] at e
    rw [← e]
  rw [e2]
  rfl
section
variable {H : Type} {enc : TypeId × Value → H} {P : Program} {w : World} {base : Nat} {spare : Nat → Bool} {held : Bool}
end
end Go.Proofs.YtlbiefddcimdgaaDoor
