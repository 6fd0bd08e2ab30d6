/- The contract of the program's proofs of balanced trees. The contract of the program's depth of full trees. The contract of the program's look whether keys rise. The contracts of the program's ascending and Is. The contracts of the program's Prove. The contract of the program's Range of trees. The contracts of the document's nodes and turns of AVL trees. The contract of the document's leveling of AVL trees. -/
import Derived.Test.YtlbiefddcimdgaaDoorMDF
import Derived.Test.YtlbiefddcimdgaaDoorMAB
import Derived.Test.YtlbiefddcimdgaaDoorMAA
import Derived.Laws.EntriesVeiled
import Derived.Test.YtlbiefddcimdgaaDoorMAC
/- The contract of the program's proofs of balanced trees. -/
namespace Go.Proofs.YtlbiefddcimdgaaDoor
open Go.RowKit
set_option linter.unusedVariables false

theorem ZD.pcell7 {g : Nat} {W : World} {k : Nat} {sp : DH} (h : W.heap[g]? = some (.cells #[.int .i64 k, .slice sp.ka sp.kn sp.kc, .slice sp.va sp.vn sp.vc, .bool sp.out] 93 (0, 0))) : W.cell? ⟨g, 0, none⟩ = some (.int .i64 k) ∧ W.cell? ⟨g, 1, none⟩ = some (.slice sp.ka sp.kn sp.kc) ∧ W.cell? ⟨g, 2, none⟩ = some (.slice sp.va sp.vn sp.vc) ∧ W.cell? ⟨g, 3, none⟩ = some (.bool sp.out) := by
  refine ⟨?_, ?_, ?_, ?_⟩
  all_goals
    rw [cell_of_row W g _ _ _ (0, 0) h]
    rfl

set_option maxRecDepth 100000 in
set_option maxHeartbeats 4000000 in
theorem proof_any (k : Nat) (hk1 : 1 ≤ k) (hk2 : k ≤ 32) (sp : DH) (f tt : List Int) : ∀ (a : AT) (h : TH) (w : World), InTree w h a.tr → SpanIn w sp f tt → TabLies w → Lim a.pairs → a.depth ≤ 64 →
    Calls Tryd.prog 51 #[.agg #[.int .i64 k, .slice sp.ka sp.kn sp.kc, .slice sp.va sp.vn sp.vc, .bool sp.out], .agg #[.int .i64 h.k, .slice h.ka h.kn h.kc, .slice h.va h.vn h.vc, .slice h.da h.dn h.dc, .slice h.ta h.tn h.tc]] w (ProveOk w (showA k f tt sp.out a)) := by
  intro a
  induction a with
  | nil =>
    intro h w ht hs hT hl hd
    have HD := Lib.hid (ZD.enter w k sp h)
    obtain ⟨H, hp⟩ := ht.parts
    have e0 : (h.k == 0) = true := by rw [hp.hk]; rfl
    clear hp ht hs hT hl hd
    go_enter Tryd.func51, Tryd.ntmps51
    go_upto_region 1 with fail
    generalize (((w.alloc (.cells #[.int .i64 k, .slice sp.ka sp.kn sp.kc, .slice sp.va sp.vn sp.vc, .bool sp.out] 93)).alloc (.cells #[.int .i64 h.k, .slice h.ka h.kn h.kc, .slice h.va h.vn h.vc, .slice h.da h.dn h.dc, .slice h.ta h.tn h.tc] 27)).alloc (.cells #[.int .i64 0, .slice none 0 0, .slice none 0 0, .slice none 0 0, .slice none 0 0] 27)) = w0 at *
    obtain ⟨x0, x1, x2, x3, x4⟩ := HD.out.box.cells
    go_wp2_with (first
      | (refine wpList_store_box rfl 27 (.tmp 4) (.tmp 11) rfl (w.heap.size + 2) hZ hZ rfl rfl 27 HD.out.res infoTree5 ?_
         intro w9 hbx9 hg9
         have HX9 := Lib.hid hbx9
         have HB9 := Lib.hid (HD.out.wrote hg9).2.2
         clear hbx9 hg9))
    exact bodyPost_ret (Box.result Tryd.results51 _ HX9.out rfl Tryd.underlying27 infoTree5) rfl ⟨hZ, rfl, FreshT.nil _ _ _, HB9.out⟩
  | node l key v r ihl ihr =>
    intro h w ht hs hT hl hd
    have HLM := Lib.hid hl.node
    have HDE : Hid (l.depth ≤ 64 ∧ r.depth ≤ 64) := Lib.hid (by
      have q : (AT.node l key v r).depth = max l.depth r.depth + 1 := rfl
      omega)
    have HIHL : Hid (∀ (hh : TH) (W : World), InTree W hh l.tr → SpanIn W sp f tt → TabLies W → Calls Tryd.prog 51 #[.agg #[.int .i64 k, .slice sp.ka sp.kn sp.kc, .slice sp.va sp.vn sp.vc, .bool sp.out], .agg #[.int .i64 hh.k, .slice hh.ka hh.kn hh.kc, .slice hh.va hh.vn hh.vc, .slice hh.da hh.dn hh.dc, .slice hh.ta hh.tn hh.tc]] W (ProveOk W (showA k f tt sp.out l))) := Lib.hid (fun hh W q1 q2 q3 => ihl hh W q1 q2 q3 hl.node.1 (by
      have q : (AT.node l key v r).depth = max l.depth r.depth + 1 := rfl
      omega))
    have HIHR : Hid (∀ (hh : TH) (W : World), InTree W hh r.tr → SpanIn W sp f tt → TabLies W → Calls Tryd.prog 51 #[.agg #[.int .i64 k, .slice sp.ka sp.kn sp.kc, .slice sp.va sp.vn sp.vc, .bool sp.out], .agg #[.int .i64 hh.k, .slice hh.ka hh.kn hh.kc, .slice hh.va hh.vn hh.vc, .slice hh.da hh.dn hh.dc, .slice hh.ta hh.tn hh.tc]] W (ProveOk W (showA k f tt sp.out r))) := Lib.hid (fun hh W q1 q2 q3 => ihr hh W q1 q2 q3 hl.node.2.2.2 (by
      have q : (AT.node l key v r).depth = max l.depth r.depth + 1 := rfl
      omega))
    have HD := Lib.hid (ZD.enter w k sp h)
    have HSP := Lib.hid hs
    have HTT := Lib.hid hT
    have HTI := Lib.hid ht
    obtain ⟨H, hp⟩ := ht.parts
    have e0 : (h.k == 0) = false := by rw [hp.hk]; rfl
    have HTN : Hid (h.tn = 2) := Lib.hid hp.len.symm
    have hkn : h.kn ≤ 80 := by rw [← hp.key.len]; exact hl.node.2.1
    have hvn : h.vn ≤ 1024 := by rw [← hp.val.len]; exact hl.node.2.2.1
    have HP := Lib.hid hp
    have l0 : 0 < (AT.node l key v r).tr.kids.length := by rw [AT.tr_kids]; exact Nat.zero_lt_two
    have l1 : 1 < (AT.node l key v r).tr.kids.length := by rw [AT.tr_kids]; exact Nat.one_lt_two
    have hmf : ∀ (fn : Fn) (first cap : Array Value) (w : World), (Instr.makeFunc fn first cap).run Tryd.prog w = .ok (.func fn first cap) w := fun _ _ _ _ => rfl
    clear hp ht hl hd hT hs ihl ihr
    go_enter Tryd.func51, Tryd.ntmps51
    go_upto_region 1 with fail
    generalize (((w.alloc (.cells #[.int .i64 k, .slice sp.ka sp.kn sp.kc, .slice sp.va sp.vn sp.vc, .bool sp.out] 93)).alloc (.cells #[.int .i64 h.k, .slice h.ka h.kn h.kc, .slice h.va h.vn h.vc, .slice h.da h.dn h.dc, .slice h.ta h.tn h.tc] 27)).alloc (.cells #[.int .i64 0, .slice none 0 0, .slice none 0 0, .slice none 0 0, .slice none 0 0] 27)) = w0 at *
    obtain ⟨x0, x1, x2, x3, x4⟩ := HD.out.box.cells
    obtain ⟨y0, y1, y2, y3⟩ := HD.out.pcell
    cases hin : inS f tt sp.out key with
    | true =>
      have HIN := Lib.hid hin
      have HSH : Hid (showA k f tt sp.out (.node l key v r) = _) := Lib.hid (show_in hin)
      clear hin
      go_upto_region 4 with (first
        | (go_at_call 22
           refine (scanIn_any sp f tt key h.ka h.kn h.kc _ (HSP.out.below HD.out.b) ((HP.out.below HD.out.b).key)).mono ?_
           rintro _ w3 ⟨rfl, hb3⟩
           have HD3 := Lib.hid (HD.out.below hb3)
           rw [HIN.out]
           clear hb3 x0 x1 x2 x3 x4 y0 y1 y2 y3))
      have HD4 := Lib.hid HD3.out.drew
      refine wp_region_held_drew (S := (fun W => (W.cell? ⟨w.heap.size + 1, 0, none⟩ = some (.int .i64 h.k) ∧ W.cell? ⟨w.heap.size + 1, 1, none⟩ = some (.slice h.ka h.kn h.kc) ∧ W.cell? ⟨w.heap.size + 1, 2, none⟩ = some (.slice h.va h.vn h.vc) ∧ W.cell? ⟨w.heap.size + 1, 3, none⟩ = some (.slice h.da h.dn h.dc) ∧ W.cell? ⟨w.heap.size + 1, 4, none⟩ = some (.slice h.ta h.tn h.tc)) ∧ (W.cell? ⟨w.heap.size, 0, none⟩ = some (.int .i64 k) ∧ W.cell? ⟨w.heap.size, 1, none⟩ = some (.slice sp.ka sp.kn sp.kc) ∧ W.cell? ⟨w.heap.size, 2, none⟩ = some (.slice sp.va sp.vn sp.vc) ∧ W.cell? ⟨w.heap.size, 3, none⟩ = some (.bool sp.out)))) (by kernel_rfl) (by first | exact ⟨HD4.out.box.cells, HD4.out.pcell⟩) (fun hHeld => ?_)
      refine take_w (i := 0) (oi := ?oZ20) (v := ?vZ20) ?hiZ20 (by kernel_rfl) (by kernel_rfl) (by kernel_rfl) ?hQZ20 ?hwZ20 ?hyZ20 (by assumption) ?restZ20
      case hiZ20 => (simp only [List.getElem?_toArray, List.getElem?_cons_zero] <;> rfl)
      case hQZ20 => exact (fun _ _ _ h => h)
      case hwZ20 => rfl
      case hyZ20 => (intro w hSw; (try dsimp only at hSw); go_simp; try with_reducible rfl)
      (try simp only [Act.put, List.setIfInBounds_toArray, List.set_cons_zero, List.set_cons_succ])
      refine take_w (i := 2) (oi := ?oZ21) (v := ?vZ21) ?hiZ21 (by kernel_rfl) (by kernel_rfl) (by kernel_rfl) ?hQZ21 ?hwZ21 ?hyZ21 (by assumption) ?restZ21
      case hiZ21 => (simp only [List.getElem?_toArray, List.getElem?_cons_succ, List.getElem?_cons_zero] <;> rfl)
      case hQZ21 => exact (fun _ _ _ h => h)
      case hwZ21 => rfl
      case hyZ21 => (intro w hSw; (try dsimp only at hSw); go_simp; try with_reducible rfl)
      (try simp only [Act.put, List.setIfInBounds_toArray, List.set_cons_zero, List.set_cons_succ])
      refine take_w (i := 3) (oi := ?oZ22) (v := ?vZ22) ?hiZ22 (by kernel_rfl) (by kernel_rfl) (by kernel_rfl) ?hQZ22 ?hwZ22 ?hyZ22 (by assumption) ?restZ22
      case hiZ22 => (simp only [List.getElem?_toArray, List.getElem?_cons_succ, List.getElem?_cons_zero] <;> rfl)
      case hQZ22 => exact (fun _ _ _ h => h)
      case hwZ22 => rfl
      case hyZ22 => (intro w hSw; (try dsimp only at hSw); go_simp; try with_reducible rfl)
      (try simp only [Act.put, List.setIfInBounds_toArray, List.set_cons_zero, List.set_cons_succ])
      refine take_w (i := 5) (oi := ?oZ23) (v := ?vZ23) ?hiZ23 (by kernel_rfl) (by kernel_rfl) (by kernel_rfl) ?hQZ23 ?hwZ23 ?hyZ23 (by assumption) ?restZ23
      case hiZ23 => (simp only [List.getElem?_toArray, List.getElem?_cons_succ, List.getElem?_cons_zero] <;> rfl)
      case hQZ23 => exact (fun _ _ _ h => h)
      case hwZ23 => rfl
      case hyZ23 => (intro w hSw; (try dsimp only at hSw); go_simp; try with_reducible rfl)
      (try simp only [Act.put, List.setIfInBounds_toArray, List.set_cons_zero, List.set_cons_succ])
      refine take_w (i := 4) (oi := ?oZ24) (v := ?vZ24) ?hiZ24 (by kernel_rfl) (by kernel_rfl) (by kernel_rfl) ?hQZ24 ?hwZ24 ?hyZ24 (by assumption) ?restZ24
      case hiZ24 => (simp only [List.getElem?_toArray, List.getElem?_cons_succ, List.getElem?_cons_zero] <;> rfl)
      case hQZ24 => exact (fun _ _ _ h => h)
      case hwZ24 => rfl
      case hyZ24 => (intro w hSw; (try dsimp only at hSw); go_simp; try with_reducible rfl)
      (try simp only [Act.put, List.setIfInBounds_toArray, List.set_cons_zero, List.set_cons_succ])
      refine take_w (i := 6) (oi := ?oZ25) (v := ?vZ25) ?hiZ25 (by kernel_rfl) (by kernel_rfl) (by kernel_rfl) ?hQZ25 ?hwZ25 ?hyZ25 (by assumption) ?restZ25
      case hiZ25 => (simp only [List.getElem?_toArray, List.getElem?_cons_succ, List.getElem?_cons_zero] <;> rfl)
      case hQZ25 => exact (fun _ _ _ h => h)
      case hwZ25 => rfl
      case hyZ25 => (intro w hSw; (try dsimp only at hSw); go_simp; try with_reducible rfl)
      (try simp only [Act.put, List.setIfInBounds_toArray, List.set_cons_zero, List.set_cons_succ])
      refine wpAnyH_ready (rs := [1]) (by kernel_rfl) (by simp) ?_
      refine AllReadyH.cons (o := ?oZ26) ?hiZ26 (fun K hK => ?stZ26) AllReadyH.nil
      case hiZ26 => (simp only [List.getElem?_toArray, List.getElem?_cons_succ, List.getElem?_cons_zero] <;> rfl)
      go_simp
      go_at_call 78
      (with_reducible refine (shown_lit l key v r h _ ?_ (by omega) (by omega)).mono ?_)
      · exact HTI.out.lower HD4.out.b
      rintro _ w5 ⟨a1, c1, a2, c2, rfl, fk, fv, hb5⟩
      unfold TH.v
      have HD5 := Lib.hid (HD4.out.below hb5)
      have HK5 : Hid (FreshB (w.heap.size + 3) w5.heap.size w5 a1 key.length c1 key) := Lib.hid (fk.wide HD4.out.sz (Nat.le_refl _))
      have HV5 : Hid (FreshB (w.heap.size + 3) w5.heap.size w5 a2 v.length c2 v) := Lib.hid (fv.wide HD4.out.sz (Nat.le_refl _))
      clear fk fv hb5
      go_simp
      refine hK.out _ _ ?_ (fun hHeld => ?_)
      · (first | exact ⟨HW9.out.2.1.cells, ZD.pcell7 HW9.out.1⟩ | exact ⟨HD7.out.box.cells, HD7.out.pcell⟩ | exact ⟨HD5.out.box.cells, HD5.out.pcell⟩ | exact ⟨HD4.out.box.cells, HD4.out.pcell⟩)
      clear hK K
      (try simp only [Act.put, List.setIfInBounds_toArray, List.set_cons_zero, List.set_cons_succ])
      refine wpAnyH_ready (rs := [7]) (by kernel_rfl) (by simp) ?_
      refine AllReadyH.cons (o := ?oZ27) ?hiZ27 (fun K hK => ?stZ27) AllReadyH.nil
      case hiZ27 => (simp only [List.getElem?_toArray, List.getElem?_cons_succ, List.getElem?_cons_zero] <;> rfl)
      go_simp
      go_at_call 77
      (with_reducible refine (withKids_pp k sp 1 (by omega) (by omega) a1 a2 none key.length c1 v.length c2 0 0 key v [] (showA k f tt sp.out l) (showA k f tt sp.out r) h (AT.node l key v r).tr H _ (w.heap.size + 3) HD5.out.sz ?_ ?_ ?_ ?_ HTN.out ?_ ?_).mono ?_)
      · exact HK5.out
      · exact HV5.out
      · exact FreshB.none _ _ _
      · exact HP.out.below HD5.out.b
      · exact (fun W hW => HIHL.out (H 0) W (((HP.out.below HD5.out.b).kids 0 l0).lower hW) ((HSP.out.below HD5.out.b).below hW) ((HTT.out.below HD5.out.b (Nat.le_refl _)).below hW (Nat.le_refl _)))
      · exact (fun W hW => HIHR.out (H 1) W (((HP.out.below HD5.out.b).kids 1 l1).lower hW) ((HSP.out.below HD5.out.b).below hW) ((HTT.out.below HD5.out.b (Nat.le_refl _)).below hW (Nat.le_refl _)))
      rintro _ w7 ⟨h7, rfl, f7, hb7⟩
      unfold TH.v
      have HD7 := Lib.hid (HD5.out.below hb7)
      have HF7 := Lib.hid f7
      clear f7 hb7
      go_simp
      refine hK.out _ _ ?_ (fun hHeld => ?_)
      · (first | exact ⟨HW9.out.2.1.cells, ZD.pcell7 HW9.out.1⟩ | exact ⟨HD7.out.box.cells, HD7.out.pcell⟩ | exact ⟨HD5.out.box.cells, HD5.out.pcell⟩ | exact ⟨HD4.out.box.cells, HD4.out.pcell⟩)
      clear hK K
      (try simp only [Act.put, List.setIfInBounds_toArray, List.set_cons_zero, List.set_cons_succ])
      refine take_w (i := 8) (oi := ?oZ28) (v := ?vZ28) ?hiZ28 (by kernel_rfl) (by kernel_rfl) (by kernel_rfl) ?hQZ28 ?hwZ28 ?hyZ28 (by assumption) ?restZ28
      case hiZ28 => (simp only [List.getElem?_toArray, List.getElem?_cons_succ, List.getElem?_cons_zero] <;> rfl)
      case hQZ28 => exact (fun _ _ _ h => h)
      case hwZ28 => rfl
      case hyZ28 => (intro w hSw; (try dsimp only at hSw); go_simp; try with_reducible rfl)
      (try simp only [Act.put, List.setIfInBounds_toArray, List.set_cons_zero, List.set_cons_succ])
      refine take_w (i := 9) (oi := ?oZ29) (v := ?vZ29) ?hiZ29 (by kernel_rfl) (by kernel_rfl) (by kernel_rfl) ?hQZ29 ?hwZ29 ?hyZ29 (by assumption) ?restZ29
      case hiZ29 => (simp only [List.getElem?_toArray, List.getElem?_cons_succ, List.getElem?_cons_zero] <;> rfl)
      case hQZ29 => exact (fun _ _ _ h => h)
      case hwZ29 => rfl
      case hyZ29 => (intro w hSw; (try dsimp only at hSw); go_simp; try with_reducible rfl)
      (try simp only [Act.put, List.setIfInBounds_toArray, List.set_cons_zero, List.set_cons_succ])
      refine wpAnyH_ready (rs := [10]) (by kernel_rfl) (by simp) ?_
      refine AllReadyH.cons (o := ?oZ30) ?hiZ30 (fun K hK => ?stZ30) AllReadyH.nil
      case hiZ30 => (simp only [List.getElem?_toArray, List.getElem?_cons_succ, List.getElem?_cons_zero] <;> rfl)
      refine step_store_box rfl 27 (.tmp 4) (.tmp 25) rfl (w.heap.size + 2) hZ h7 rfl rfl 27 HD7.out.res infoTree5 ?_
      intro w9 hbx9 hg9
      have HX9 := Lib.hid hbx9
      have HF9 : Hid (FreshT w.heap.size w9.heap.size w9 h7 (showA k f tt sp.out (.node l key v r))) := Lib.hid (by
        rw [HSH.out]
        exact (HF7.out.grown hg9 (Nat.le_refl _) (.inl (Nat.lt_succ_self _))).wide (Nat.le_add_right _ _) hg9.size)
      have HW9 := Lib.hid (HD7.out.wrote hg9)
      clear hbx9 hg9
      refine hK.out _ _ ?_ (fun hHeld => ?_)
      · (first | exact ⟨HW9.out.2.1.cells, ZD.pcell7 HW9.out.1⟩ | exact ⟨HD7.out.box.cells, HD7.out.pcell⟩ | exact ⟨HD5.out.box.cells, HD5.out.pcell⟩ | exact ⟨HD4.out.box.cells, HD4.out.pcell⟩)
      clear hK K
      (try simp only [Act.put])
      refine wpAnyH_ready (rs := [11]) (by kernel_rfl) (by simp) ?_
      refine AllReadyH.cons (o := ?oZ31) ?hiZ31 (fun K hK => ?stZ31) AllReadyH.nil
      case hiZ31 => (simp only [List.getElem?_toArray, List.getElem?_cons_succ, List.getElem?_cons_zero] <;> rfl)
      go_simp
      refine hK.out _ _ ?_ (fun hHeld => ?_)
      · (first | exact ⟨HW9.out.2.1.cells, ZD.pcell7 HW9.out.1⟩ | exact ⟨HD7.out.box.cells, HD7.out.pcell⟩ | exact ⟨HD5.out.box.cells, HD5.out.pcell⟩ | exact ⟨HD4.out.box.cells, HD4.out.pcell⟩)
      clear hK K
      (try simp only [Act.put, List.setIfInBounds_toArray, List.set_cons_zero, List.set_cons_succ])
      refine wpAnyH_done (by kernel_rfl) ?_ _
      clear hHeld
      go_wp2_with fail
      exact bodyPost_ret (Box.result Tryd.results51 _ HX9.out rfl Tryd.underlying27 infoTree5) rfl ⟨_, rfl, HF9.out, HW9.out.2.2⟩
    | false =>
      have HIN := Lib.hid hin
      clear hin
      go_upto_region 5 with (first
        | (go_at_call 22
           refine (scanIn_any sp f tt key h.ka h.kn h.kc _ (HSP.out.below HD.out.b) ((HP.out.below HD.out.b).key)).mono ?_
           rintro _ w3 ⟨rfl, hb3⟩
           have HD3 := Lib.hid (HD.out.below hb3)
           rw [HIN.out]
           clear hb3 x0 x1 x2 x3 x4 y0 y1 y2 y3))
      obtain ⟨x0, x1, x2, x3, x4⟩ := HD3.out.box.cells
      obtain ⟨y0, y1, y2, y3⟩ := HD3.out.pcell
      go_upto_region 8 with (first
        | (go_at_call 79
           (with_reducible refine (dark_lit k hk1 hk2 sp l key v r h _ ?_ ?_ (by omega) (by omega)).mono ?_)
           · exact HTI.out.lower HD3.out.b
           · exact HTT.out.below HD3.out.b (Nat.le_refl _)
           rintro _ w4 ⟨a1, c1, a2, c2, rfl, fk, fv, hb4⟩
           unfold TH.v
           have HD4 := Lib.hid (HD3.out.below hb4)
           have HK4 : Hid (FreshB (w.heap.size + 3) w4.heap.size w4 a1 key.length c1 key) := Lib.hid (fk.wide HD3.out.sz (Nat.le_refl _))
           have HV4 : Hid (FreshB (w.heap.size + 3) w4.heap.size w4 a2 k c2 (dvL k v)) := Lib.hid (fv.wide HD3.out.sz (Nat.le_refl _))
           clear fk fv hb4 x0 x1 x2 x3 x4 y0 y1 y2 y3))
      have q5 : Below w4.heap.size w4 (w4.alloc (.cells #[.int .i64 2, .slice a1 key.length c1, .slice none 0 0, .slice a2 k c2, .slice none 0 0] 27)) := (Below.refl _ _).alloc (Nat.le_refl _) _
      have HD5 := Lib.hid (HD4.out.below q5)
      have HX5 : Hid (Box (w4.alloc (.cells #[.int .i64 2, .slice a1 key.length c1, .slice none 0 0, .slice a2 k c2, .slice none 0 0] 27)) 27 w4.heap.size ⟨2, a1, key.length, c1, none, 0, 0, a2, k, c2, none, 0, 0⟩) := Lib.hid (Box.new w4 27 ⟨2, a1, key.length, c1, none, 0, 0, a2, k, c2, none, 0, 0⟩)
      have HK5 : Hid (FreshB (w.heap.size + 3) (w4.alloc (.cells #[.int .i64 2, .slice a1 key.length c1, .slice none 0 0, .slice a2 k c2, .slice none 0 0] 27)).heap.size (w4.alloc (.cells #[.int .i64 2, .slice a1 key.length c1, .slice none 0 0, .slice a2 k c2, .slice none 0 0] 27)) a1 key.length c1 key) := Lib.hid ((HK4.out.below q5 (Nat.le_refl _)).wide (Nat.le_refl _) q5.size)
      have HV5 : Hid (FreshB (w.heap.size + 3) (w4.alloc (.cells #[.int .i64 2, .slice a1 key.length c1, .slice none 0 0, .slice a2 k c2, .slice none 0 0] 27)).heap.size (w4.alloc (.cells #[.int .i64 2, .slice a1 key.length c1, .slice none 0 0, .slice a2 k c2, .slice none 0 0] 27)) a2 k c2 (dvL k v)) := Lib.hid ((HV4.out.below q5 (Nat.le_refl _)).wide (Nat.le_refl _) q5.size)
      clear q5
      generalize w4.alloc (.cells #[.int .i64 2, .slice a1 key.length c1, .slice none 0 0, .slice a2 k c2, .slice none 0 0] 27) = w5 at *
      obtain ⟨x0, x1, x2, x3, x4⟩ := HD5.out.box.cells
      obtain ⟨y0, y1, y2, y3⟩ := HD5.out.pcell
      obtain ⟨z0, z1, z2, z3, z4⟩ := HX5.out.cells
      cases hlt : ltL key f with
      | true =>
        have HSH : Hid (showA k f tt sp.out (.node l key v r) = _) := Lib.hid (show_lt HIN.out hlt)
        have HO := Lib.hid (ordL_lt hlt)
        clear hlt
        go_wp2_with (first
          | (go_at_call 52
             (with_reducible refine (compare_any key f h.ka sp.ka h.kn sp.kn h.kc sp.kc _ ?_ ?_).mono ?_)
             · exact (HP.out.below HD5.out.b).key
             · exact (HSP.out.below HD5.out.b).f
             rintro _ w6 ⟨rfl, hw6⟩
             rw [hw6]
             clear hw6
             rw [HO.out])
          | (go_at_call 77
             (with_reducible refine (withKids_cp k sp 2 (by omega) (by omega) a1 none a2 key.length c1 0 0 k c2 key [] (dvL k v) (hideA k l) (showA k f tt sp.out r) h (AT.node l key v r).tr H _ (w.heap.size + 3) HD5.out.sz ?_ ?_ ?_ ?_ HTN.out ?_ ?_).mono ?_)
             · exact HK5.out
             · exact FreshB.none _ _ _
             · exact HV5.out
             · exact HP.out.below HD5.out.b
             · exact (fun W hW => cut_lit7 k hk1 hk2 sp l (H 0) W (((HP.out.below HD5.out.b).kids 0 l0).lower hW) ((HTT.out.below HD5.out.b (Nat.le_refl _)).below hW (Nat.le_refl _)) HLM.out.1 HDE.out.1)
             · exact (fun W hW => HIHR.out (H 1) W (((HP.out.below HD5.out.b).kids 1 l1).lower hW) ((HSP.out.below HD5.out.b).below hW) ((HTT.out.below HD5.out.b (Nat.le_refl _)).below hW (Nat.le_refl _)))
             rintro _ w7 ⟨h7, rfl, f7, hb7⟩
             unfold TH.v
             have HD7 := Lib.hid (HD5.out.below hb7)
             have HF7 := Lib.hid f7
             clear f7 hb7
             clear x0 x1 x2 x3 x4 y0 y1 y2 y3 z0 z1 z2 z3 z4)
          | (refine wpList_store_box rfl 27 (.tmp 4) (.tmp 51) rfl (w.heap.size + 2) hZ h7 rfl rfl 27 HD7.out.res infoTree5 ?_
             intro w9 hbx9 hg9
             have HX9 := Lib.hid hbx9
             have HF9 : Hid (FreshT w.heap.size w9.heap.size w9 h7 (showA k f tt sp.out (.node l key v r))) := Lib.hid (by
               rw [HSH.out]
               exact (HF7.out.grown hg9 (Nat.le_refl _) (.inl (Nat.lt_succ_self _))).wide (Nat.le_add_right _ _) hg9.size)
             have HW9 := Lib.hid (HD7.out.wrote hg9)
             clear hbx9 hg9))
        exact bodyPost_ret (Box.result Tryd.results51 _ HX9.out rfl Tryd.underlying27 infoTree5) rfl ⟨_, rfl, HF9.out, HW9.out.2.2⟩
      | false =>
        have HSH : Hid (showA k f tt sp.out (.node l key v r) = _) := Lib.hid (show_ge HIN.out hlt)
        have HO : Hid (ordL key f = 0 ∨ ordL key f = 1) := Lib.hid (by
          rcases ord_is key f with ⟨q, -⟩ | ⟨-, q⟩ | ⟨-, q⟩
          · rw [hlt] at q; cases q
          · exact .inl q
          · exact .inr q)
        clear hlt
        rcases HO.out with q | q
        · have HO := Lib.hid q
          clear q
          go_wp2_with (first
            | (go_at_call 52
               (with_reducible refine (compare_any key f h.ka sp.ka h.kn sp.kn h.kc sp.kc _ ?_ ?_).mono ?_)
               · exact (HP.out.below HD5.out.b).key
               · exact (HSP.out.below HD5.out.b).f
               rintro _ w6 ⟨rfl, hw6⟩
               rw [hw6]
               clear hw6
               rw [HO.out])
            | (go_at_call 77
               (with_reducible refine (withKids_pc k sp 2 (by omega) (by omega) a1 none a2 key.length c1 0 0 k c2 key [] (dvL k v) (showA k f tt sp.out l) (hideA k r) h (AT.node l key v r).tr H _ (w.heap.size + 3) HD5.out.sz ?_ ?_ ?_ ?_ HTN.out ?_ ?_).mono ?_)
               · exact HK5.out
               · exact FreshB.none _ _ _
               · exact HV5.out
               · exact HP.out.below HD5.out.b
               · exact (fun W hW => HIHL.out (H 0) W (((HP.out.below HD5.out.b).kids 0 l0).lower hW) ((HSP.out.below HD5.out.b).below hW) ((HTT.out.below HD5.out.b (Nat.le_refl _)).below hW (Nat.le_refl _)))
               · exact (fun W hW => cut_lit7 k hk1 hk2 sp r (H 1) W (((HP.out.below HD5.out.b).kids 1 l1).lower hW) ((HTT.out.below HD5.out.b (Nat.le_refl _)).below hW (Nat.le_refl _)) HLM.out.2.2.2 HDE.out.2)
               rintro _ w7 ⟨h7, rfl, f7, hb7⟩
               unfold TH.v
               have HD7 := Lib.hid (HD5.out.below hb7)
               have HF7 := Lib.hid f7
               clear f7 hb7
               clear x0 x1 x2 x3 x4 y0 y1 y2 y3 z0 z1 z2 z3 z4)
            | (refine wpList_store_box rfl 27 (.tmp 4) (.tmp 60) rfl (w.heap.size + 2) hZ h7 rfl rfl 27 HD7.out.res infoTree5 ?_
               intro w9 hbx9 hg9
               have HX9 := Lib.hid hbx9
               have HF9 : Hid (FreshT w.heap.size w9.heap.size w9 h7 (showA k f tt sp.out (.node l key v r))) := Lib.hid (by
                 rw [HSH.out]
                 exact (HF7.out.grown hg9 (Nat.le_refl _) (.inl (Nat.lt_succ_self _))).wide (Nat.le_add_right _ _) hg9.size)
               have HW9 := Lib.hid (HD7.out.wrote hg9)
               clear hbx9 hg9))
          exact bodyPost_ret (Box.result Tryd.results51 _ HX9.out rfl Tryd.underlying27 infoTree5) rfl ⟨_, rfl, HF9.out, HW9.out.2.2⟩
        · have HO := Lib.hid q
          clear q
          go_wp2_with (first
            | (go_at_call 52
               (with_reducible refine (compare_any key f h.ka sp.ka h.kn sp.kn h.kc sp.kc _ ?_ ?_).mono ?_)
               · exact (HP.out.below HD5.out.b).key
               · exact (HSP.out.below HD5.out.b).f
               rintro _ w6 ⟨rfl, hw6⟩
               rw [hw6]
               clear hw6
               rw [HO.out])
            | (go_at_call 77
               (with_reducible refine (withKids_pc k sp 2 (by omega) (by omega) a1 none a2 key.length c1 0 0 k c2 key [] (dvL k v) (showA k f tt sp.out l) (hideA k r) h (AT.node l key v r).tr H _ (w.heap.size + 3) HD5.out.sz ?_ ?_ ?_ ?_ HTN.out ?_ ?_).mono ?_)
               · exact HK5.out
               · exact FreshB.none _ _ _
               · exact HV5.out
               · exact HP.out.below HD5.out.b
               · exact (fun W hW => HIHL.out (H 0) W (((HP.out.below HD5.out.b).kids 0 l0).lower hW) ((HSP.out.below HD5.out.b).below hW) ((HTT.out.below HD5.out.b (Nat.le_refl _)).below hW (Nat.le_refl _)))
               · exact (fun W hW => cut_lit7 k hk1 hk2 sp r (H 1) W (((HP.out.below HD5.out.b).kids 1 l1).lower hW) ((HTT.out.below HD5.out.b (Nat.le_refl _)).below hW (Nat.le_refl _)) HLM.out.2.2.2 HDE.out.2)
               rintro _ w7 ⟨h7, rfl, f7, hb7⟩
               unfold TH.v
               have HD7 := Lib.hid (HD5.out.below hb7)
               have HF7 := Lib.hid f7
               clear f7 hb7
               clear x0 x1 x2 x3 x4 y0 y1 y2 y3 z0 z1 z2 z3 z4)
            | (refine wpList_store_box rfl 27 (.tmp 4) (.tmp 60) rfl (w.heap.size + 2) hZ h7 rfl rfl 27 HD7.out.res infoTree5 ?_
               intro w9 hbx9 hg9
               have HX9 := Lib.hid hbx9
               have HF9 : Hid (FreshT w.heap.size w9.heap.size w9 h7 (showA k f tt sp.out (.node l key v r))) := Lib.hid (by
                 rw [HSH.out]
                 exact (HF7.out.grown hg9 (Nat.le_refl _) (.inl (Nat.lt_succ_self _))).wide (Nat.le_add_right _ _) hg9.size)
               have HW9 := Lib.hid (HD7.out.wrote hg9)
               clear hbx9 hg9))
          exact bodyPost_ret (Box.result Tryd.results51 _ HX9.out rfl Tryd.underlying27 infoTree5) rfl ⟨_, rfl, HF9.out, HW9.out.2.2⟩
end Go.Proofs.YtlbiefddcimdgaaDoor

/- The contract of the program's depth of full trees. -/
namespace Go.Proofs.YtlbiefddcimdgaaDoor
open Go.RowKit
set_option linter.unusedVariables false

/-- The depth of a balanced tree; -1 of any other. -/
def AT.dep : AT → Int
  | .nil => 0
  | .node l _ _ r => if l.dep = -1 then -1 else if r.dep = -1 ∨ 1 < l.dep - r.dep ∨ 1 < r.dep - l.dep then -1 else 1 + max l.dep r.dep
theorem AT.dep_node (l : AT) (k v : List Int) (r : AT) : (AT.node l k v r).dep = if l.dep = -1 then -1 else if r.dep = -1 ∨ 1 < l.dep - r.dep ∨ 1 < r.dep - l.dep then -1 else 1 + max l.dep r.dep := rfl
theorem AT.dep_iff : ∀ a : AT, (a.bal ∧ a.dep = a.depth) ∨ (¬ a.bal ∧ a.dep = -1) := by
  intro a
  induction a with
  | nil => exact .inl ⟨trivial, rfl⟩
  | node l k v r ihl ihr =>
    rw [AT.dep_node]
    simp only [AT.bal, AT.depth]
    rcases ihl with ⟨b1, e1⟩ | ⟨b1, e1⟩
    · rcases ihr with ⟨b2, e2⟩ | ⟨b2, e2⟩
      · rw [e1, e2]
        by_cases c : l.depth ≤ r.depth + 1 ∧ r.depth ≤ l.depth + 1
        · left
          refine ⟨⟨b1, b2, c⟩, ?_⟩
          rw [if_neg (by omega), if_neg (by omega)]
          omega
        · right
          refine ⟨fun q => c q.2.2, ?_⟩
          rw [if_neg (by omega), if_pos (by omega)]
      · right
        refine ⟨fun q => b2 q.2.1, ?_⟩
        rw [e1, e2, if_neg (by omega), if_pos (.inl rfl)]
    · right
      exact ⟨fun q => b1 q.1, if_pos e1⟩
theorem AT.dep_bal {a : AT} (h : a.bal) : a.dep = a.depth := by
  rcases AT.dep_iff a with q | q
  · exact q.2
  · exact absurd h q.1
theorem AT.dep_le (a : AT) : -1 ≤ a.dep ∧ a.dep ≤ a.depth := by
  rcases AT.dep_iff a with q | q
  · omega
  · omega
set_option maxRecDepth 100000 in
set_option maxHeartbeats 4000000 in
theorem prDepth_any : ∀ (a : AT) (h : TH) (w : World), InTree w h a.tr → a.depth ≤ 1000 → Calls Tryd.prog 76 #[h.v] w (Says w (.int .i64 a.dep)) := by
  intro a
  induction a with
  | nil =>
    intro h w ht _
    unfold TH.v
    obtain ⟨H, hp⟩ := ht.parts
    have hk0 : (h.k == 0) = true := by have h2 : h.k = 0 := hp.hk; simp [h2]
    have hbox := Box.new w 27 h
    obtain ⟨x0, x1, x2, x3, x4⟩ := hbox.cells
    have HB : Hid (Below w.heap.size w (w.alloc (.cells #[.int .i64 h.k, .slice h.ka h.kn h.kc, .slice h.va h.vn h.vc, .slice h.da h.dn h.dc, .slice h.ta h.tn h.tc] 27))) := Lib.hid ((Below.refl _ _).alloc (Nat.le_refl _) _)
    clear hp ht hbox
    go_enter Tryd.func76, Tryd.ntmps76
    go_wp2_with fail
    go_ret
    exact ⟨rfl, HB.out⟩
  | node l k v r ihl ihr =>
    intro h w ht hd
    unfold TH.v
    obtain ⟨H, hp⟩ := ht.parts
    have l0 : 0 < (AT.node l k v r).tr.kids.length := by rw [AT.tr_kids]; simp
    have l1 : 1 < (AT.node l k v r).tr.kids.length := by rw [AT.tr_kids]; simp
    have ht1 : (1 : Int) < (h.tn : Int) := by have h2 : h.tn = 2 := hp.len.symm; omega
    have ht0 : 0 < h.tn := by omega
    have hk0 : (h.k == 0) = false := by have h2 : h.k = 1 := hp.hk; simp [h2]
    simp only [AT.depth] at hd
    have hdl : l.depth ≤ 1000 := by omega
    have hdr : r.depth ≤ 1000 := by omega
    have bl := l.dep_le
    have br := r.dep_le
    have HE0 := Lib.hid (AT.dep_node l k v r)
    have HP := Lib.hid hp
    have IHL := Lib.hid ihl
    have IHR := Lib.hid ihr
    obtain ⟨g, off, hta, -, -⟩ := hp.place (by omega)
    have HTA := Lib.hid hta
    have HD0 := Lib.hid (BW.new w ht)
    clear hp ht ihl ihr hta
    go_enter Tryd.func76, Tryd.ntmps76
    go_upto_region 1 with fail
    generalize w.alloc (.cells #[.int .i64 h.k, .slice h.ka h.kn h.kc, .slice h.va h.vn h.vc, .slice h.da h.dn h.dc, .slice h.ta h.tn h.tc] 27) = w0 at *
    obtain ⟨x0, x1, x2, x3, x4⟩ := HD0.out.box.cells
    rw [HTA.out] at x4
    obtain ⟨k0, k1, k2, k3, k4⟩ := (HP.out.below HD0.out.b).kid0 HTA.out (by omega)
    go_upto_region 4 with (first
        | (go_at_call 76
           refine (IHL.out (H 0) _ ((HP.out.below HD0.out.b).kids 0 l0) (by omega)).mono ?_
           rintro _ w1 ⟨rfl, hb1⟩
           have HD1 := Lib.hid (HD0.out.below hb1)
           clear hb1))
    clear x0 x1 x2 x3 x4 k0 k1 k2 k3 k4
    generalize l.dep = d0 at *
    by_cases c0 : d0 = -1
    · have HE := Lib.hid (HE0.out.trans (if_pos c0))
      clear HE0
      subst c0
      go_wp2_with fail
      go_ret
      exact ⟨by rw [HE.out]; rfl, HD1.out.b⟩
    have HE1 := Lib.hid (HE0.out.trans (if_neg c0))
    have c0b : (d0 == -1) = false := by simp [c0]
    obtain ⟨x0, x1, x2, x3, x4⟩ := HD1.out.box.cells
    rw [HTA.out] at x4
    obtain ⟨k0, k1, k2, k3, k4⟩ := (HP.out.below HD1.out.b).kid1 HTA.out (by omega)
    go_upto_region 7 with (first
        | (go_at_call 76
           refine (IHR.out (H 1) _ ((HP.out.below HD1.out.b).kids 1 l1) (by omega)).mono ?_
           rintro _ w2 ⟨rfl, hb2⟩
           have HD2 := Lib.hid (HD1.out.below hb2)
           clear hb2))
    clear x0 x1 x2 x3 x4 k0 k1 k2 k3 k4
    generalize r.dep = d1 at *
    by_cases c1 : d1 = -1
    · have HE := Lib.hid (HE1.out.trans (if_pos (.inl c1)))
      clear HE0 HE1
      subst c1
      go_wp2_with fail
      go_ret
      exact ⟨by rw [HE.out]; rfl, HD2.out.b⟩
    have c1b : (d1 == -1) = false := by simp [c1]
    by_cases c2 : 1 < d0 - d1
    · have HE := Lib.hid (HE1.out.trans (if_pos (.inr (.inl c2))))
      clear HE0 HE1
      go_wp2_with fail
      go_ret
      exact ⟨by rw [HE.out]; rfl, HD2.out.b⟩
    by_cases c3 : 1 < d1 - d0
    · have HE := Lib.hid (HE1.out.trans (if_pos (.inr (.inr c3))))
      clear HE0 HE1
      go_wp2_with fail
      go_ret
      exact ⟨by rw [HE.out]; rfl, HD2.out.b⟩
    have HE := Lib.hid (HE1.out.trans (if_neg (by omega)))
    clear HE0 HE1
    by_cases c4 : d0 < d1
    · have HM : Hid (max d0 d1 = d1) := Lib.hid (by omega)
      go_wp2_with fail
      go_ret
      exact ⟨by rw [HE.out, HM.out]; rfl, HD2.out.b⟩
    · have HM : Hid (max d0 d1 = d0) := Lib.hid (by omega)
      go_wp2_with fail
      go_ret
      exact ⟨by rw [HE.out, HM.out]; rfl, HD2.out.b⟩
end Go.Proofs.YtlbiefddcimdgaaDoor

/- The contract of the program's look whether keys rise. -/
namespace Go.Proofs.YtlbiefddcimdgaaDoor
open Go.RowKit
set_option linter.unusedVariables false

/-- Do the keys rise, behind that one? And the last key. -/
def AT.asc : AT → Option (List Int) → Bool × Option (List Int)
  | .nil, o => (true, o)
  | .node l k v r, o => match AT.asc l o with
    | (false, o1) => (false, o1)
    | (true, some q) => if ltL q k then AT.asc r (some k) else (false, some q)
    | (true, none) => AT.asc r (some k)
/-- What rises behind a key. -/
def RiseO (o : Option (List Int)) (l : List KV) : Prop := Rise l ∧ ∀ q, o = some q → ∀ p ∈ l, ltL q p.1 = true
theorem riseO_cons {o : Option (List Int)} {k v : List Int} {b : List KV} : RiseO o ((k, v) :: b) ↔ (∀ q, o = some q → ltL q k = true) ∧ RiseO (some k) b := by
  unfold RiseO Rise
  rw [List.pairwise_cons]
  constructor
  · rintro ⟨⟨h1, h2⟩, h3⟩
    exact ⟨fun q hq => h3 q hq (k, v) (by simp), h2, fun q hq p hp => by injection hq with hq; rw [← hq]; exact h1 p hp⟩
  · rintro ⟨h1, h2, h3⟩
    refine ⟨⟨fun p hp => h3 k rfl p hp, h2⟩, fun q hq p hp => ?_⟩
    rcases List.mem_cons.1 hp with rfl | hp
    · exact h1 q hq
    · exact ltL_trans (h1 q hq) (h3 k rfl p hp)
/-- The last key of a list, or what was last before. -/
def lastK (o : Option (List Int)) : List KV → Option (List Int)
  | [] => o
  | (k, _) :: b => lastK (some k) b
theorem lastK_app : ∀ (a b : List KV) (o : Option (List Int)), lastK o (a ++ b) = lastK (lastK o a) b
  | [], _, _ => rfl
  | (k, v) :: a, b, o => lastK_app a b (some k)
theorem riseO_app : ∀ (a b : List KV) (o : Option (List Int)), RiseO o (a ++ b) ↔ RiseO o a ∧ RiseO (lastK o a) b
  | [], b, o => ⟨fun h => ⟨⟨List.Pairwise.nil, fun _ _ p hp => by cases hp⟩, h⟩, fun h => h.2⟩
  | (k, v) :: a, b, o => by
    rw [List.cons_append, riseO_cons, riseO_cons, riseO_app a b (some k), and_assoc]
    rfl
theorem AT.asc_iff : ∀ (a : AT) (o : Option (List Int)), ((a.asc o).1 = true ↔ RiseO o a.pairs) ∧ ((a.asc o).1 = true → (a.asc o).2 = lastK o a.pairs) := by
  intro a
  induction a with
  | nil => exact fun o => ⟨⟨fun _ => ⟨List.Pairwise.nil, fun _ _ p hp => by cases hp⟩, fun _ => rfl⟩, fun _ => rfl⟩
  | node l k v r ihl ihr =>
    intro o
    have hl := ihl o
    have hr := ihr (some k)
    rw [AT.pairs, riseO_app, riseO_cons, lastK_app, AT.asc]
    cases hq : AT.asc l o with
    | mk b o1 =>
      rw [hq] at hl
      cases b with
      | false =>
        refine ⟨⟨fun h => (by cases h), fun h => ?_⟩, fun h => (by cases h)⟩
        have := hl.1.2 h.1
        cases this
      | true =>
        have e1 := hl.1.1 rfl
        have e2 := hl.2 rfl
        dsimp only at e2
        rw [← e2]
        cases o1 with
        | none =>
          refine ⟨⟨fun h => ⟨e1, fun q hq => (by cases hq), hr.1.1 h⟩, fun h => hr.1.2 h.2.2⟩, fun h => hr.2 h⟩
        | some q =>
          dsimp only
          by_cases c : ltL q k = true
          · rw [if_pos c]
            refine ⟨⟨fun h => ⟨e1, fun q' hq' => (by injection hq' with hq'; rw [← hq']; exact c), hr.1.1 h⟩, fun h => hr.1.2 h.2.2⟩, fun h => hr.2 h⟩
          · rw [if_neg c]
            refine ⟨⟨fun h => (by cases h), fun h => absurd (h.2.1 q rfl) c⟩, fun h => (by cases h)⟩
theorem AT.asc_rise (a : AT) : (a.asc none).1 = true ↔ Rise a.pairs :=
  (AT.asc_iff a none).1.trans ⟨fun h => h.1, fun h => ⟨h, fun _ hq => by cases hq⟩⟩

/-- The node before, in its variable. -/
def LastOK (w : World) (hl : TH) : Option (List Int) → Prop
  | none => hl.k = 0
  | some q => hl.k = 1 ∧ InBytes w hl.ka hl.kn hl.kc q
theorem LastOK.below {w w' : World} {hl : TH} {o : Option (List Int)} (h : LastOK w hl o) (hb : Below w.heap.size w w') : LastOK w' hl o := by
  cases o with
  | none => exact h
  | some q => exact ⟨h.1, h.2.below hb⟩
theorem grownBy.comp {a b c : World} {row : Option Nat} (h : a.grownBy b row) (k : b.grownBy c row) : a.grownBy c row :=
  ⟨k.os.trans h.os, k.tape.trans h.tape, k.output.trans h.output, Nat.le_trans h.size k.size, fun j hj hn => (k.block j (Nat.lt_of_lt_of_le hj h.size) hn).trans (h.block j hj hn)⟩
theorem Below.off {a b : World} (h : Below a.heap.size a b) (row : Option Nat) : a.grownBy b row := ⟨h.os, h.tape, h.output, h.size, fun j hj _ => h.block j hj⟩
/-- The tree's parts stay as they are where another box is written. -/
theorem AT.outAt {W W' : World} {ty : TypeId} {g : Nat} {hh : TH} (hb : Box W ty g hh) (hg : W.grownBy W' (some g)) : ∀ (a : AT) (h : TH) (H : Nat → TH), TreeAt W h a.tr H → TreeAt W' h a.tr H
  | .nil, h, H, hp =>
    have h0 : h.tn = 0 := hp.len.symm
    ⟨hp.hk, hp.hk1, hp.hk2, hp.key.outBox hb hg, hp.val.outBox hb hg, hp.dig.outBox hb hg, ⟨hp.sl.le, hp.sl.max, hp.sl.nil, fun q => by omega⟩, hp.len, fun i hi => absurd hi (Nat.not_lt_zero i)⟩
  | .node l k v r, h, H, hp => by
    have h2 : h.tn = 2 := hp.len.symm
    refine ⟨hp.hk, hp.hk1, hp.hk2, hp.key.outBox hb hg, hp.val.outBox hb hg, hp.dig.outBox hb hg, ⟨hp.sl.le, hp.sl.max, hp.sl.nil, fun q => ?_⟩, hp.len, fun i hi => ?_⟩
    · obtain ⟨g', off, e, hlt, hc⟩ := hp.sl.place q
      have hne : some g' ≠ some g := fun q => by
        injection q with q
        subst q
        have h9 := hc 9 (by omega)
        rw [cell_of_row W g' (off + 9) _ _ (0, 0) hb, Array.getElem?_eq_none (by simp)] at h9
        cases h9
      exact ⟨g', off, e, Nat.lt_of_lt_of_le hlt hg.size, fun i hi => (World.cell?_of_block (a := ⟨g', off + i, none⟩) (hg.block g' hlt hne)).trans (hc i hi)⟩
    · have hi' : i < 2 := hi
      rcases (by omega : i = 0 ∨ i = 1) with rfl | rfl
      · exact AT.outBox hb hg l _ (hp.kids 0 hi)
      · exact AT.outBox hb hg r _ (hp.kids 1 hi)
/-- Inside the closure: its own box of a tree, the tree, the closure's variables. -/
structure AY (w W : World) (h : TH) (a : AT) (H : Nat → TH) (gc gl : Nat) (hl : TH) (o : Option (List Int)) : Prop where
  box : Box W 27 w.heap.size h
  tp : TreeAt W h a.tr H
  clo : Var1 W 29 gc (.func (.func 96) #[] #[.pointer (some ⟨gc, 0, none⟩), .pointer (some ⟨gl, 0, none⟩)])
  last : Box W 27 gl hl
  ok : LastOK W hl o
  ne : gc ≠ gl
  lt : gl < w.heap.size
  b : w.grownBy W (some gl)
theorem AY.below {w W W' : World} {h : TH} {a : AT} {H : Nat → TH} {gc gl : Nat} {hl : TH} {o : Option (List Int)} (d : AY w W h a H gc gl hl o) (hb : Below W.heap.size W W') : AY w W' h a H gc gl hl o :=
  ⟨d.box.below hb d.box.lt, d.tp.below hb, d.clo.below hb d.clo.lt, d.last.below hb d.last.lt, d.ok.below hb, d.ne, d.lt, grownBy.comp d.b (Below.off hb _)⟩
theorem AY.drew {w W : World} {h : TH} {a : AT} {H : Nat → TH} {gc gl : Nat} {hl : TH} {o : Option (List Int)} (d : AY w W h a H gc gl hl o) : AY w W.drew h a H gc gl hl o := d.below (Below.refl _ _).drew
theorem AY.step {w W W' : World} {h : TH} {a : AT} {H : Nat → TH} {gc gl : Nat} {hl hl' : TH} {o o' : Option (List Int)} (d : AY w W h a H gc gl hl o) (hg : W.grownBy W' (some gl)) (hx : Box W' 27 gl hl') (ho : LastOK W' hl' o') : AY w W' h a H gc gl hl' o' :=
  ⟨d.box.grown hg (fun q => by injection q with q; have := d.lt; omega), AT.outAt d.last hg a h H d.tp, d.clo.grown hg (fun q => by injection q with q; exact d.ne q), hx, ho, d.ne, d.lt, grownBy.comp d.b hg⟩
theorem AY.new (w : World) {h : TH} {a : AT} {H : Nat → TH} {gc gl : Nat} {hl : TH} {o : Option (List Int)} (ht : TreeAt w h a.tr H) (hc : Var1 w 29 gc (.func (.func 96) #[] #[.pointer (some ⟨gc, 0, none⟩), .pointer (some ⟨gl, 0, none⟩)])) (hx : Box w 27 gl hl) (ho : LastOK w hl o) (hn : gc ≠ gl) : AY w (w.alloc (.cells #[.int .i64 h.k, .slice h.ka h.kn h.kc, .slice h.va h.vn h.vc, .slice h.da h.dn h.dc, .slice h.ta h.tn h.tc] 27)) h a H gc gl hl o :=
  have q : Below w.heap.size w (w.alloc (.cells #[.int .i64 h.k, .slice h.ka h.kn h.kc, .slice h.va h.vn h.vc, .slice h.da h.dn h.dc, .slice h.ta h.tn h.tc] 27)) := (Below.refl _ _).alloc (Nat.le_refl _) _
  ⟨Box.new w 27 h, ht.below q, hc.below q hc.lt, hx.below q hx.lt, ho.below q, hn, hx.lt, Below.off q _⟩
/-- What the closure tells. -/
def Asc (w : World) (gl : Nat) (p : Bool) (o : Option (List Int)) (e : Ending) (w' : World) : Prop := e = .returned (.bool p) ∧ w.grownBy w' (some gl) ∧ ∃ hl', Box w' 27 gl hl' ∧ LastOK w' hl' o

set_option maxRecDepth 100000 in
set_option maxHeartbeats 4000000 in
theorem ascC_any : ∀ (a : AT) (h : TH) (w : World) (gc gl : Nat) (hl : TH) (o : Option (List Int)), InTree w h a.tr → Var1 w 29 gc (.func (.func 96) #[] #[.pointer (some ⟨gc, 0, none⟩), .pointer (some ⟨gl, 0, none⟩)]) → Box w 27 gl hl → LastOK w hl o → gc ≠ gl →
    Calls Tryd.prog 96 #[h.v, .pointer (some ⟨gc, 0, none⟩), .pointer (some ⟨gl, 0, none⟩)] w (Asc w gl (a.asc o).1 (a.asc o).2) := by
  intro a
  induction a with
  | nil =>
    intro h w gc gl hl o ht hc hx ho hn
    unfold TH.v
    obtain ⟨H, hp⟩ := ht.parts
    have hk0 : (h.k == 0) = true := by have h2 : h.k = 0 := hp.hk; simp [h2]
    have hd0 := AY.new w hp hc hx ho hn
    have HD0 := Lib.hid hd0
    obtain ⟨x0, x1, x2, x3, x4⟩ := hd0.box.cells
    clear hp ht hc hx ho hn hd0
    go_enter Tryd.func96, Tryd.ntmps96
    go_wp2_with fail
    go_ret
    exact ⟨rfl, HD0.out.b, hl, HD0.out.last, HD0.out.ok⟩
  | node l k v r ihl ihr =>
    intro h w gc gl hl o ht hc hx ho hn
    unfold TH.v
    obtain ⟨H, hp⟩ := ht.parts
    have l0 : 0 < (AT.node l k v r).tr.kids.length := by rw [AT.tr_kids]; simp
    have l1 : 1 < (AT.node l k v r).tr.kids.length := by rw [AT.tr_kids]; simp
    have ht1 : (1 : Int) < (h.tn : Int) := by have h2 : h.tn = 2 := hp.len.symm; omega
    have ht0 : 0 < h.tn := by omega
    have hk0 : (h.k == 0) = false := by have h2 : h.k = 1 := hp.hk; simp [h2]
    have hd0 := AY.new w hp hc hx ho hn
    have HD0 := Lib.hid hd0
    obtain ⟨g, off, hta, -, -⟩ := hp.place (by omega)
    have HTA := Lib.hid hta
    cases hq : l.asc o with
    | mk b o1 =>
    have IHL : Hid (∀ (h : TH) (w : World), InTree w h l.tr → Var1 w 29 gc (.func (.func 96) #[] #[.pointer (some ⟨gc, 0, none⟩), .pointer (some ⟨gl, 0, none⟩)]) → Box w 27 gl hl → LastOK w hl o → Calls Tryd.prog 96 #[h.v, .pointer (some ⟨gc, 0, none⟩), .pointer (some ⟨gl, 0, none⟩)] w (Asc w gl b o1)) := Lib.hid (fun h w a1 a2 a3 a4 => by
      have q := ihl h w gc gl hl o a1 a2 a3 a4 hn
      rw [hq] at q
      exact q)
    have IHR : Hid (∀ (h : TH) (w : World) {hl : TH}, InTree w h r.tr → Var1 w 29 gc (.func (.func 96) #[] #[.pointer (some ⟨gc, 0, none⟩), .pointer (some ⟨gl, 0, none⟩)]) → Box w 27 gl hl → LastOK w hl (some k) → Calls Tryd.prog 96 #[h.v, .pointer (some ⟨gc, 0, none⟩), .pointer (some ⟨gl, 0, none⟩)] w (Asc w gl (r.asc (some k)).1 (r.asc (some k)).2)) := Lib.hid (fun h w hl a1 a2 a3 a4 => ihr h w gc gl hl (some k) a1 a2 a3 a4 hn)
    have HPN0 : Hid ((AT.node l k v r).asc o = match (b, o1) with
      | (false, o1) => (false, o1)
      | (true, some q) => if ltL q k then AT.asc r (some k) else (false, some q)
      | (true, none) => AT.asc r (some k)) := Lib.hid (by rw [AT.asc, hq])
    have x0 := hd0.box.cells.1
    clear hp ht hc hx ho hn hd0 ihl ihr hq hta
    go_enter Tryd.func96, Tryd.ntmps96
    go_upto_region 3 with fail
    generalize w.alloc (.cells #[.int .i64 h.k, .slice h.ka h.kn h.kc, .slice h.va h.vn h.vc, .slice h.da h.dn h.dc, .slice h.ta h.tn h.tc] 27) = w0 at *
    clear x0
    refine wp_region_held_drew (S := (fun W => W.cell? ⟨gc, 0, none⟩ = some (.func (.func 96) #[] #[.pointer (some ⟨gc, 0, none⟩), .pointer (some ⟨gl, 0, none⟩)]) ∧ W.cell? ⟨w.heap.size, 4, none⟩ = some (.slice (some ⟨g, off, none⟩) h.tn h.tc) ∧ W.cell? ⟨g, off, none⟩ = some (.int .i64 (H 0).k) ∧ W.cell? ⟨g, off + 1, none⟩ = some (.slice (H 0).ka (H 0).kn (H 0).kc) ∧ W.cell? ⟨g, off + 2, none⟩ = some (.slice (H 0).va (H 0).vn (H 0).vc) ∧ W.cell? ⟨g, off + 3, none⟩ = some (.slice (H 0).da (H 0).dn (H 0).dc) ∧ W.cell? ⟨g, off + 4, none⟩ = some (.slice (H 0).ta (H 0).tn (H 0).tc))) (by kernel_rfl) ⟨HD0.out.drew.clo.cell, (HD0.out.drew.box.cells.2.2.2.2).trans (by rw [HTA.out]), HD0.out.drew.tp.kid0 HTA.out (by omega)⟩ (fun hHeld => ?_)
    refine take_w (i := 0) (oi := ?oZ301) (v := ?vZ301) ?hiZ301 (by kernel_rfl) (by kernel_rfl) (by kernel_rfl) ?hQZ301 ?hwZ301 ?hyZ301 (by assumption) ?restZ301
    case hiZ301 => (simp only [List.getElem?_toArray, List.getElem?_cons_zero] <;> rfl)
    case hQZ301 => exact (fun _ _ _ h => h)
    case hwZ301 => rfl
    case hyZ301 => (intro w hSw; (try dsimp only at hSw); go_simp; try with_reducible rfl)
    (try simp only [Act.put, List.setIfInBounds_toArray, List.set_cons_zero, List.set_cons_succ])
    refine take_w (i := 1) (oi := ?oZ302) (v := ?vZ302) ?hiZ302 (by kernel_rfl) (by kernel_rfl) (by kernel_rfl) ?hQZ302 ?hwZ302 ?hyZ302 (by assumption) ?restZ302
    case hiZ302 => (simp only [List.getElem?_toArray, List.getElem?_cons_succ, List.getElem?_cons_zero] <;> rfl)
    case hQZ302 => exact (fun _ _ _ h => h)
    case hwZ302 => rfl
    case hyZ302 => (intro w hSw; (try dsimp only at hSw); go_simp; try with_reducible rfl)
    (try simp only [Act.put, List.setIfInBounds_toArray, List.set_cons_zero, List.set_cons_succ])
    refine take_w (i := 2) (oi := ?oZ303) (v := ?vZ303) ?hiZ303 (by kernel_rfl) (by kernel_rfl) (by kernel_rfl) ?hQZ303 ?hwZ303 ?hyZ303 (by assumption) ?restZ303
    case hiZ303 => (simp only [List.getElem?_toArray, List.getElem?_cons_succ, List.getElem?_cons_zero] <;> rfl)
    case hQZ303 => exact (fun _ _ _ h => h)
    case hwZ303 => rfl
    case hyZ303 => (intro w hSw; (try dsimp only at hSw); go_simp; try with_reducible rfl)
    (try simp only [Act.put, List.setIfInBounds_toArray, List.set_cons_zero, List.set_cons_succ])
    refine take_w (i := 3) (oi := ?oZ304) (v := ?vZ304) ?hiZ304 (by kernel_rfl) (by kernel_rfl) (by kernel_rfl) ?hQZ304 ?hwZ304 ?hyZ304 (by assumption) ?restZ304
    case hiZ304 => (simp only [List.getElem?_toArray, List.getElem?_cons_succ, List.getElem?_cons_zero] <;> rfl)
    case hQZ304 => exact (fun _ _ _ h => h)
    case hwZ304 => rfl
    case hyZ304 => (intro w hSw; (try dsimp only at hSw); go_simp; try with_reducible rfl)
    (try simp only [Act.put, List.setIfInBounds_toArray, List.set_cons_zero, List.set_cons_succ])
    refine take_w (i := 4) (oi := ?oZ305) (v := ?vZ305) ?hiZ305 (by kernel_rfl) (by kernel_rfl) (by kernel_rfl) ?hQZ305 ?hwZ305 ?hyZ305 (by assumption) ?restZ305
    case hiZ305 => (simp only [List.getElem?_toArray, List.getElem?_cons_succ, List.getElem?_cons_zero] <;> rfl)
    case hQZ305 => exact (fun _ _ _ h => h)
    case hwZ305 => rfl
    case hyZ305 => (intro w hSw; (try dsimp only at hSw); go_simp; try with_reducible rfl)
    (try simp only [Act.put, List.setIfInBounds_toArray, List.set_cons_zero, List.set_cons_succ])
    refine wpAnyH_ready (rs := [5]) (by kernel_rfl) (by simp) ?_
    refine AllReadyH.cons (o := ?oZ306) ?hiZ306 (fun K hK => ?stZ306) AllReadyH.nil
    case hiZ306 => (simp only [List.getElem?_toArray, List.getElem?_cons_succ, List.getElem?_cons_zero] <;> rfl)
    go_simp
    go_at_call 96
    refine (IHL.out (H 0) _ (HD0.out.drew.tp.kids 0 l0) HD0.out.drew.clo HD0.out.drew.last HD0.out.drew.ok).mono ?_
    rintro _ w2 ⟨rfl, hg2, hl2, hx2, ho2⟩
    have HD2 := Lib.hid (HD0.out.drew.step hg2 hx2 ho2)
    clear hg2 hx2 ho2
    go_simp
    refine hK.out _ _ ?_ (fun hHeld => ?_)
    · (first | exact ⟨HD2.out.clo.cell, (HD2.out.box.cells.2.2.2.2).trans (by rw [HTA.out]), HD2.out.tp.kid0 HTA.out (by omega)⟩ | exact ⟨HD0.out.drew.clo.cell, (HD0.out.drew.box.cells.2.2.2.2).trans (by rw [HTA.out]), HD0.out.drew.tp.kid0 HTA.out (by omega)⟩)
    clear hK K
    (try simp only [Act.put, List.setIfInBounds_toArray, List.set_cons_zero, List.set_cons_succ])
    refine take_w (i := 6) (oi := ?oZ307) (v := ?vZ307) ?hiZ307 (by kernel_rfl) (by kernel_rfl) (by kernel_rfl) ?hQZ307 ?hwZ307 ?hyZ307 (by assumption) ?restZ307
    case hiZ307 => (simp only [List.getElem?_toArray, List.getElem?_cons_succ, List.getElem?_cons_zero] <;> rfl)
    case hQZ307 => exact (fun _ _ _ h => h)
    case hwZ307 => rfl
    case hyZ307 => (intro w hSw; (try dsimp only at hSw); go_simp; try with_reducible rfl)
    (try simp only [Act.put, List.setIfInBounds_toArray, List.set_cons_zero, List.set_cons_succ])
    refine wpAnyH_done (by kernel_rfl) ?_ _
    clear hHeld
    cases b with
    | false =>
      have HPN : Hid ((AT.node l k v r).asc o = (false, o1)) := Lib.hid HPN0.out
      clear HPN0
      simp only [Bool.not_false]
      go_wp2_with fail
      go_ret
      refine ⟨?_, HD2.out.b, hl2, HD2.out.last, ?_⟩
      · (rw [HPN.out] <;> rfl)
      · rw [HPN.out]; exact HD2.out.ok
    | true =>
      simp only [Bool.not_true]
      obtain ⟨x0, x1, x2, x3, x4⟩ := HD2.out.box.cells
      obtain ⟨y0, y1, y2, y3, y4⟩ := HD2.out.last.cells
      cases o1 with
      | none =>
        have HPN : Hid ((AT.node l k v r).asc o = AT.asc r (some k)) := Lib.hid HPN0.out
        clear HPN0
        have hk2 : (hl2.k != 0) = false := by have h2 : hl2.k = 0 := HD2.out.ok; simp [h2]
        go_upto_region 8 with (first
             | (refine wpList_store_box rfl 27 (.tmp 2) (.tmp 26) rfl gl hl2 h rfl rfl 27 HD2.out.last infoTree5 ?_
                intro w4 hbx4 hg4
                have HD4 : Hid (AY w w4 h (AT.node l k v r) H gc gl h (some k)) := Lib.hid (HD2.out.step hg4 hbx4 ⟨HD2.out.tp.hk, HD2.out.tp.key.outBox HD2.out.last hg4⟩)
                clear hbx4 hg4))
        clear x0 x1 x2 x3 x4 y0 y1 y2 y3 y4
        try simp only [Act.put]
        refine wp_region_held_drew (S := (fun W => W.cell? ⟨gc, 0, none⟩ = some (.func (.func 96) #[] #[.pointer (some ⟨gc, 0, none⟩), .pointer (some ⟨gl, 0, none⟩)]) ∧ W.cell? ⟨w.heap.size, 4, none⟩ = some (.slice (some ⟨g, off, none⟩) h.tn h.tc) ∧ W.cell? ⟨g, off + 5, none⟩ = some (.int .i64 (H 1).k) ∧ W.cell? ⟨g, off + 5 + 1, none⟩ = some (.slice (H 1).ka (H 1).kn (H 1).kc) ∧ W.cell? ⟨g, off + 5 + 2, none⟩ = some (.slice (H 1).va (H 1).vn (H 1).vc) ∧ W.cell? ⟨g, off + 5 + 3, none⟩ = some (.slice (H 1).da (H 1).dn (H 1).dc) ∧ W.cell? ⟨g, off + 5 + 4, none⟩ = some (.slice (H 1).ta (H 1).tn (H 1).tc))) (by kernel_rfl) ⟨HD4.out.drew.clo.cell, (HD4.out.drew.box.cells.2.2.2.2).trans (by rw [HTA.out]), HD4.out.drew.tp.kid1 HTA.out (by omega)⟩ (fun hHeld => ?_)
        refine take_w (i := 0) (oi := ?oZ308) (v := ?vZ308) ?hiZ308 (by kernel_rfl) (by kernel_rfl) (by kernel_rfl) ?hQZ308 ?hwZ308 ?hyZ308 (by assumption) ?restZ308
        case hiZ308 => (simp only [List.getElem?_toArray, List.getElem?_cons_zero] <;> rfl)
        case hQZ308 => exact (fun _ _ _ h => h)
        case hwZ308 => rfl
        case hyZ308 => (intro w hSw; (try dsimp only at hSw); go_simp; try with_reducible rfl)
        (try simp only [Act.put, List.setIfInBounds_toArray, List.set_cons_zero, List.set_cons_succ])
        refine take_w (i := 1) (oi := ?oZ309) (v := ?vZ309) ?hiZ309 (by kernel_rfl) (by kernel_rfl) (by kernel_rfl) ?hQZ309 ?hwZ309 ?hyZ309 (by assumption) ?restZ309
        case hiZ309 => (simp only [List.getElem?_toArray, List.getElem?_cons_succ, List.getElem?_cons_zero] <;> rfl)
        case hQZ309 => exact (fun _ _ _ h => h)
        case hwZ309 => rfl
        case hyZ309 => (intro w hSw; (try dsimp only at hSw); go_simp; try with_reducible rfl)
        (try simp only [Act.put, List.setIfInBounds_toArray, List.set_cons_zero, List.set_cons_succ])
        refine take_w (i := 2) (oi := ?oZ310) (v := ?vZ310) ?hiZ310 (by kernel_rfl) (by kernel_rfl) (by kernel_rfl) ?hQZ310 ?hwZ310 ?hyZ310 (by assumption) ?restZ310
        case hiZ310 => (simp only [List.getElem?_toArray, List.getElem?_cons_succ, List.getElem?_cons_zero] <;> rfl)
        case hQZ310 => exact (fun _ _ _ h => h)
        case hwZ310 => rfl
        case hyZ310 => (intro w hSw; (try dsimp only at hSw); go_simp; try with_reducible rfl)
        (try simp only [Act.put, List.setIfInBounds_toArray, List.set_cons_zero, List.set_cons_succ])
        refine take_w (i := 3) (oi := ?oZ311) (v := ?vZ311) ?hiZ311 (by kernel_rfl) (by kernel_rfl) (by kernel_rfl) ?hQZ311 ?hwZ311 ?hyZ311 (by assumption) ?restZ311
        case hiZ311 => (simp only [List.getElem?_toArray, List.getElem?_cons_succ, List.getElem?_cons_zero] <;> rfl)
        case hQZ311 => exact (fun _ _ _ h => h)
        case hwZ311 => rfl
        case hyZ311 => (intro w hSw; (try dsimp only at hSw); go_simp; try with_reducible rfl)
        (try simp only [Act.put, List.setIfInBounds_toArray, List.set_cons_zero, List.set_cons_succ])
        refine take_w (i := 4) (oi := ?oZ312) (v := ?vZ312) ?hiZ312 (by kernel_rfl) (by kernel_rfl) (by kernel_rfl) ?hQZ312 ?hwZ312 ?hyZ312 (by assumption) ?restZ312
        case hiZ312 => (simp only [List.getElem?_toArray, List.getElem?_cons_succ, List.getElem?_cons_zero] <;> rfl)
        case hQZ312 => exact (fun _ _ _ h => h)
        case hwZ312 => rfl
        case hyZ312 => (intro w hSw; (try dsimp only at hSw); go_simp; try with_reducible rfl)
        (try simp only [Act.put, List.setIfInBounds_toArray, List.set_cons_zero, List.set_cons_succ])
        refine wpAnyH_ready (rs := [5]) (by kernel_rfl) (by simp) ?_
        refine AllReadyH.cons (o := ?oZ313) ?hiZ313 (fun K hK => ?stZ313) AllReadyH.nil
        case hiZ313 => (simp only [List.getElem?_toArray, List.getElem?_cons_succ, List.getElem?_cons_zero] <;> rfl)
        go_simp
        go_at_call 96
        refine (IHR.out (H 1) _ (HD4.out.drew.tp.kids 1 l1) HD4.out.drew.clo HD4.out.drew.last HD4.out.drew.ok).mono ?_
        rintro _ w6 ⟨rfl, hg6, hl6, hx6, ho6⟩
        have HD6 := Lib.hid (HD4.out.drew.step hg6 hx6 ho6)
        clear hg6 hx6 ho6
        go_simp
        refine hK.out _ _ ?_ (fun hHeld => ?_)
        · (first | exact ⟨HD6.out.clo.cell, (HD6.out.box.cells.2.2.2.2).trans (by rw [HTA.out]), HD6.out.tp.kid1 HTA.out (by omega)⟩ | exact ⟨HD4.out.drew.clo.cell, (HD4.out.drew.box.cells.2.2.2.2).trans (by rw [HTA.out]), HD4.out.drew.tp.kid1 HTA.out (by omega)⟩)
        clear hK K
        (try simp only [Act.put, List.setIfInBounds_toArray, List.set_cons_zero, List.set_cons_succ])
        refine take_w (i := 6) (oi := ?oZ314) (v := ?vZ314) ?hiZ314 (by kernel_rfl) (by kernel_rfl) (by kernel_rfl) ?hQZ314 ?hwZ314 ?hyZ314 (by assumption) ?restZ314
        case hiZ314 => (simp only [List.getElem?_toArray, List.getElem?_cons_succ, List.getElem?_cons_zero] <;> rfl)
        case hQZ314 => exact (fun _ _ _ h => h)
        case hwZ314 => rfl
        case hyZ314 => (intro w hSw; (try dsimp only at hSw); go_simp; try with_reducible rfl)
        (try simp only [Act.put, List.setIfInBounds_toArray, List.set_cons_zero, List.set_cons_succ])
        refine wpAnyH_done (by kernel_rfl) ?_ _
        clear hHeld
        go_wp2_with fail
        go_ret
        refine ⟨?_, HD6.out.b, hl6, HD6.out.last, ?_⟩
        · (rw [HPN.out] <;> rfl)
        · rw [HPN.out]; exact HD6.out.ok
      | some q =>
        have hk2 : (hl2.k != 0) = true := by have h2 : hl2.k = 1 := HD2.out.ok.1; simp [h2]
        rcases ltL_three q k with c | c | c
        · have HPN := Lib.hid (HPN0.out.trans (if_pos c))
          have HC := Lib.hid (ordL_lt c)
          clear HPN0 c
          go_upto_region 8 with (first
               | (go_at_call 52
                  refine (compare_any q k hl2.ka h.ka hl2.kn h.kn hl2.kc h.kc _ HD2.out.ok.2 HD2.out.tp.key).mono ?_
                  rintro _ w8 ⟨rfl, hw8⟩
                  rw [hw8, HC.out]
                  clear hw8)
               | (refine wpList_store_box rfl 27 (.tmp 2) (.tmp 26) rfl gl hl2 h rfl rfl 27 HD2.out.last infoTree5 ?_
                  intro w4 hbx4 hg4
                  have HD4 : Hid (AY w w4 h (AT.node l k v r) H gc gl h (some k)) := Lib.hid (HD2.out.step hg4 hbx4 ⟨HD2.out.tp.hk, HD2.out.tp.key.outBox HD2.out.last hg4⟩)
                  clear hbx4 hg4))
          clear x0 x1 x2 x3 x4 y0 y1 y2 y3 y4
          try simp only [Act.put]
          refine wp_region_held_drew (S := (fun W => W.cell? ⟨gc, 0, none⟩ = some (.func (.func 96) #[] #[.pointer (some ⟨gc, 0, none⟩), .pointer (some ⟨gl, 0, none⟩)]) ∧ W.cell? ⟨w.heap.size, 4, none⟩ = some (.slice (some ⟨g, off, none⟩) h.tn h.tc) ∧ W.cell? ⟨g, off + 5, none⟩ = some (.int .i64 (H 1).k) ∧ W.cell? ⟨g, off + 5 + 1, none⟩ = some (.slice (H 1).ka (H 1).kn (H 1).kc) ∧ W.cell? ⟨g, off + 5 + 2, none⟩ = some (.slice (H 1).va (H 1).vn (H 1).vc) ∧ W.cell? ⟨g, off + 5 + 3, none⟩ = some (.slice (H 1).da (H 1).dn (H 1).dc) ∧ W.cell? ⟨g, off + 5 + 4, none⟩ = some (.slice (H 1).ta (H 1).tn (H 1).tc))) (by kernel_rfl) ⟨HD4.out.drew.clo.cell, (HD4.out.drew.box.cells.2.2.2.2).trans (by rw [HTA.out]), HD4.out.drew.tp.kid1 HTA.out (by omega)⟩ (fun hHeld => ?_)
          refine take_w (i := 0) (oi := ?oZ315) (v := ?vZ315) ?hiZ315 (by kernel_rfl) (by kernel_rfl) (by kernel_rfl) ?hQZ315 ?hwZ315 ?hyZ315 (by assumption) ?restZ315
          case hiZ315 => (simp only [List.getElem?_toArray, List.getElem?_cons_zero] <;> rfl)
          case hQZ315 => exact (fun _ _ _ h => h)
          case hwZ315 => rfl
          case hyZ315 => (intro w hSw; (try dsimp only at hSw); go_simp; try with_reducible rfl)
          (try simp only [Act.put, List.setIfInBounds_toArray, List.set_cons_zero, List.set_cons_succ])
          refine take_w (i := 1) (oi := ?oZ316) (v := ?vZ316) ?hiZ316 (by kernel_rfl) (by kernel_rfl) (by kernel_rfl) ?hQZ316 ?hwZ316 ?hyZ316 (by assumption) ?restZ316
          case hiZ316 => (simp only [List.getElem?_toArray, List.getElem?_cons_succ, List.getElem?_cons_zero] <;> rfl)
          case hQZ316 => exact (fun _ _ _ h => h)
          case hwZ316 => rfl
          case hyZ316 => (intro w hSw; (try dsimp only at hSw); go_simp; try with_reducible rfl)
          (try simp only [Act.put, List.setIfInBounds_toArray, List.set_cons_zero, List.set_cons_succ])
          refine take_w (i := 2) (oi := ?oZ317) (v := ?vZ317) ?hiZ317 (by kernel_rfl) (by kernel_rfl) (by kernel_rfl) ?hQZ317 ?hwZ317 ?hyZ317 (by assumption) ?restZ317
          case hiZ317 => (simp only [List.getElem?_toArray, List.getElem?_cons_succ, List.getElem?_cons_zero] <;> rfl)
          case hQZ317 => exact (fun _ _ _ h => h)
          case hwZ317 => rfl
          case hyZ317 => (intro w hSw; (try dsimp only at hSw); go_simp; try with_reducible rfl)
          (try simp only [Act.put, List.setIfInBounds_toArray, List.set_cons_zero, List.set_cons_succ])
          refine take_w (i := 3) (oi := ?oZ318) (v := ?vZ318) ?hiZ318 (by kernel_rfl) (by kernel_rfl) (by kernel_rfl) ?hQZ318 ?hwZ318 ?hyZ318 (by assumption) ?restZ318
          case hiZ318 => (simp only [List.getElem?_toArray, List.getElem?_cons_succ, List.getElem?_cons_zero] <;> rfl)
          case hQZ318 => exact (fun _ _ _ h => h)
          case hwZ318 => rfl
          case hyZ318 => (intro w hSw; (try dsimp only at hSw); go_simp; try with_reducible rfl)
          (try simp only [Act.put, List.setIfInBounds_toArray, List.set_cons_zero, List.set_cons_succ])
          refine take_w (i := 4) (oi := ?oZ319) (v := ?vZ319) ?hiZ319 (by kernel_rfl) (by kernel_rfl) (by kernel_rfl) ?hQZ319 ?hwZ319 ?hyZ319 (by assumption) ?restZ319
          case hiZ319 => (simp only [List.getElem?_toArray, List.getElem?_cons_succ, List.getElem?_cons_zero] <;> rfl)
          case hQZ319 => exact (fun _ _ _ h => h)
          case hwZ319 => rfl
          case hyZ319 => (intro w hSw; (try dsimp only at hSw); go_simp; try with_reducible rfl)
          (try simp only [Act.put, List.setIfInBounds_toArray, List.set_cons_zero, List.set_cons_succ])
          refine wpAnyH_ready (rs := [5]) (by kernel_rfl) (by simp) ?_
          refine AllReadyH.cons (o := ?oZ320) ?hiZ320 (fun K hK => ?stZ320) AllReadyH.nil
          case hiZ320 => (simp only [List.getElem?_toArray, List.getElem?_cons_succ, List.getElem?_cons_zero] <;> rfl)
          go_simp
          go_at_call 96
          refine (IHR.out (H 1) _ (HD4.out.drew.tp.kids 1 l1) HD4.out.drew.clo HD4.out.drew.last HD4.out.drew.ok).mono ?_
          rintro _ w6 ⟨rfl, hg6, hl6, hx6, ho6⟩
          have HD6 := Lib.hid (HD4.out.drew.step hg6 hx6 ho6)
          clear hg6 hx6 ho6
          go_simp
          refine hK.out _ _ ?_ (fun hHeld => ?_)
          · (first | exact ⟨HD6.out.clo.cell, (HD6.out.box.cells.2.2.2.2).trans (by rw [HTA.out]), HD6.out.tp.kid1 HTA.out (by omega)⟩ | exact ⟨HD4.out.drew.clo.cell, (HD4.out.drew.box.cells.2.2.2.2).trans (by rw [HTA.out]), HD4.out.drew.tp.kid1 HTA.out (by omega)⟩)
          clear hK K
          (try simp only [Act.put, List.setIfInBounds_toArray, List.set_cons_zero, List.set_cons_succ])
          refine take_w (i := 6) (oi := ?oZ321) (v := ?vZ321) ?hiZ321 (by kernel_rfl) (by kernel_rfl) (by kernel_rfl) ?hQZ321 ?hwZ321 ?hyZ321 (by assumption) ?restZ321
          case hiZ321 => (simp only [List.getElem?_toArray, List.getElem?_cons_succ, List.getElem?_cons_zero] <;> rfl)
          case hQZ321 => exact (fun _ _ _ h => h)
          case hwZ321 => rfl
          case hyZ321 => (intro w hSw; (try dsimp only at hSw); go_simp; try with_reducible rfl)
          (try simp only [Act.put, List.setIfInBounds_toArray, List.set_cons_zero, List.set_cons_succ])
          refine wpAnyH_done (by kernel_rfl) ?_ _
          clear hHeld
          go_wp2_with fail
          go_ret
          refine ⟨?_, HD6.out.b, hl6, HD6.out.last, ?_⟩
          · (rw [HPN.out] <;> rfl)
          · rw [HPN.out]; exact HD6.out.ok
        · have HPN := Lib.hid (HPN0.out.trans (if_neg (by rw [c, ltL_irr]; simp)))
          have HC := Lib.hid (show ordL q k = 0 by rw [c]; exact ordL_eq k)
          clear HPN0 c
          go_wp2_with (first
               | (go_at_call 52
                  refine (compare_any q k hl2.ka h.ka hl2.kn h.kn hl2.kc h.kc _ HD2.out.ok.2 HD2.out.tp.key).mono ?_
                  rintro _ w8 ⟨rfl, hw8⟩
                  rw [hw8, HC.out]
                  clear hw8))
          go_ret
          refine ⟨?_, HD2.out.b, hl2, HD2.out.last, ?_⟩
          · (rw [HPN.out] <;> rfl)
          · rw [HPN.out]; exact HD2.out.ok
        · have HPN := Lib.hid (HPN0.out.trans (if_neg (by rw [ltL_asymm c]; simp)))
          have HC := Lib.hid (ordL_gt c)
          clear HPN0 c
          go_wp2_with (first
               | (go_at_call 52
                  refine (compare_any q k hl2.ka h.ka hl2.kn h.kn hl2.kc h.kc _ HD2.out.ok.2 HD2.out.tp.key).mono ?_
                  rintro _ w8 ⟨rfl, hw8⟩
                  rw [hw8, HC.out]
                  clear hw8))
          go_ret
          refine ⟨?_, HD2.out.b, hl2, HD2.out.last, ?_⟩
          · (rw [HPN.out] <;> rfl)
          · rw [HPN.out]; exact HD2.out.ok
end Go.Proofs.YtlbiefddcimdgaaDoor

/- The contracts of the program's ascending and Is. -/
namespace Go.Proofs.YtlbiefddcimdgaaDoor
open Go.RowKit
set_option linter.unusedVariables false

set_option maxRecDepth 100000 in
set_option maxHeartbeats 4000000 in
theorem asc_any (a : AT) (h : TH) (w : World) (ht : InTree w h a.tr) : Calls Tryd.prog 75 #[h.v] w (Says w (.bool (a.asc none).1)) := by
  have hmf : ∀ (fn : Fn) (first cap : Array Value) (w : World), (Instr.makeFunc fn first cap).run Tryd.prog w = .ok (.func fn first cap) w := fun _ _ _ _ => rfl
  unfold TH.v
  have HTT := Lib.hid ht
  clear ht
  obtain ⟨e1, e2, e3, e4⟩ := enter2 w h
  have q1 := (Below.refl ((w.alloc (.cells #[.int .i64 h.k, .slice h.ka h.kn h.kc, .slice h.va h.vn h.vc, .slice h.da h.dn h.dc, .slice h.ta h.tn h.tc] 27)).alloc (.cells #[.int .i64 0, .slice none 0 0, .slice none 0 0, .slice none 0 0, .slice none 0 0] 27)).heap.size ((w.alloc (.cells #[.int .i64 h.k, .slice h.ka h.kn h.kc, .slice h.va h.vn h.vc, .slice h.da h.dn h.dc, .slice h.ta h.tn h.tc] 27)).alloc (.cells #[.int .i64 0, .slice none 0 0, .slice none 0 0, .slice none 0 0, .slice none 0 0] 27))).alloc (Nat.le_refl _) (.cells #[.nilFunc] 29)
  have hnf := Var1.new ((w.alloc (.cells #[.int .i64 h.k, .slice h.ka h.kn h.kc, .slice h.va h.vn h.vc, .slice h.da h.dn h.dc, .slice h.ta h.tn h.tc] 27)).alloc (.cells #[.int .i64 0, .slice none 0 0, .slice none 0 0, .slice none 0 0, .slice none 0 0] 27)) 29 .nilFunc
  have hbx3 := e1.below q1 e1.lt
  have hbl3 := e2.below q1 e2.lt
  have hbw3 := e3.trans (q1.mono e3.size)
  rw [e4] at hnf
  clear e1 e2 e3 e4 q1
  go_enter Tryd.func75, Tryd.ntmps75
  go_upto_region 3 with fail
  generalize (((w.alloc (.cells #[.int .i64 h.k, .slice h.ka h.kn h.kc, .slice h.va h.vn h.vc, .slice h.da h.dn h.dc, .slice h.ta h.tn h.tc] 27)).alloc (.cells #[.int .i64 0, .slice none 0 0, .slice none 0 0, .slice none 0 0, .slice none 0 0] 27)).alloc (.cells #[.nilFunc] 29)) = w2 at *
  have c0 := hnf.cell
  have c1 := hnf.frozen 0
  have hn4 := hnf.set (.func (.func 96) #[] #[.pointer (some ⟨w.heap.size + 2, 0, none⟩), .pointer (some ⟨w.heap.size + 1, 0, none⟩)])
  have hbx4 : Box (w2.setCell ⟨w.heap.size + 2, 0, none⟩ (.func (.func 96) #[] #[.pointer (some ⟨w.heap.size + 2, 0, none⟩), .pointer (some ⟨w.heap.size + 1, 0, none⟩)])) 27 w.heap.size h := (Below.heap_setCell w2 ⟨w.heap.size + 2, 0, none⟩ _ w.heap.size (by simp)).trans hbx3
  have hbl4 : Box (w2.setCell ⟨w.heap.size + 2, 0, none⟩ (.func (.func 96) #[] #[.pointer (some ⟨w.heap.size + 2, 0, none⟩), .pointer (some ⟨w.heap.size + 1, 0, none⟩)])) 27 (w.heap.size + 1) hZ := (Below.heap_setCell w2 ⟨w.heap.size + 2, 0, none⟩ _ (w.heap.size + 1) (by simp)).trans hbl3
  have hb4 : Below w.heap.size w (w2.setCell ⟨w.heap.size + 2, 0, none⟩ (.func (.func 96) #[] #[.pointer (some ⟨w.heap.size + 2, 0, none⟩), .pointer (some ⟨w.heap.size + 1, 0, none⟩)])) := hbw3.setCell (by simp) _
  clear hnf hbx3 hbl3 hbw3
  go_upto_region 4 with fail
  generalize (w2.setCell ⟨w.heap.size + 2, 0, none⟩ (.func (.func 96) #[] #[.pointer (some ⟨w.heap.size + 2, 0, none⟩), .pointer (some ⟨w.heap.size + 1, 0, none⟩)])) = w3 at *
  obtain ⟨x0, x1, x2, x3, x4⟩ := hbx4.cells
  have c2 := hn4.cell
  have HN := Lib.hid hn4
  have HL := Lib.hid hbl4
  have HB3 := Lib.hid hb4
  clear c0 c1 hbx4 hb4 hbl4 hn4
  go_wp2_with (first
    | (go_at_call 96
       refine (ascC_any a h _ (w.heap.size + 2) (w.heap.size + 1) hZ none (HTT.out.lower HB3.out) HN.out HL.out rfl (by omega)).mono ?_
       rintro _ w4 ⟨rfl, hg4, -⟩
       have HB4 : Hid (Below w.heap.size w w4) := Lib.hid (HB3.out.grown hg4 HB3.out.size (fun j hj => by injection hj; omega))
       clear hg4))
  go_ret
  exact ⟨rfl, HB4.out⟩

theorem is_no {t : Tr} (h : (decide (checkT t = 0) && fullT t) = false) : isT t = false := by
  unfold isT
  rw [← Bool.and_assoc, h]
  rfl
theorem is_yes {t : Tr} (h : (decide (checkT t = 0) && fullT t) = true) : ∃ a : AT, t = a.tr ∧ a.depth ≤ 64 ∧ Lim a.pairs ∧ isT t = (decide (a.dep ≠ -1) && (a.asc none).1) := by
  rw [Bool.and_eq_true, decide_eq_true_eq] at h
  obtain ⟨hf, hd⟩ := check_zero h.1
  obtain ⟨a, rfl⟩ := AT.of_full t hf h.2
  rw [AT.tr_deep a 64 (by omega), decide_eq_false_iff_not] at hd
  refine ⟨a, rfl, by omega, (AT.tr_formed a).1 hf, ?_⟩
  rw [Bool.eq_iff_iff, isT_iff, Bool.and_eq_true, decide_eq_true_eq, AT.asc_rise]
  constructor
  · rintro ⟨b, e, h1, h2, -, -⟩
    obtain rfl := AT.tr_inj e
    refine ⟨?_, h2⟩
    rw [AT.dep_bal h1]
    omega
  · rintro ⟨h1, h2⟩
    refine ⟨a, rfl, ?_, h2, (AT.tr_formed a).1 hf, by omega⟩
    rcases AT.dep_iff a with q | q
    · exact q.1
    · exact absurd q.2 h1

set_option maxRecDepth 100000 in
set_option maxHeartbeats 4000000 in
theorem is_any (t : Tr) (h : TH) (w : World) (ht : InTree w h t) : Calls Tryd.prog 50 #[h.v] w (Says w (.bool (isT t))) := by
  unfold TH.v
  have hbox := Box.new w 27 h
  have HX := Lib.hid hbox
  have HT := Lib.hid ht
  obtain ⟨x0, x1, x2, x3, x4⟩ := hbox.cells
  clear hbox ht
  go_enter Tryd.func50, Tryd.ntmps50
  cases hq : (decide (checkT t = 0) && fullT t) with
  | false =>
    have HQ := Lib.hid hq
    have HE := Lib.hid (is_no hq)
    clear hq
    go_wp2_with (first
      | (go_at_call 74
         refine (full_any t h _ ?_).mono ?_
         · exact HT.out.lower ((Below.refl _ _).alloc (Nat.le_refl _) _)
         rintro _ w1 ⟨rfl, hb1⟩
         have HB1 : Hid (Below w.heap.size w w1) := Lib.hid (((Below.refl w.heap.size w).alloc (Nat.le_refl _) _).trans (hb1.mono (by simp)))
         rw [HQ.out]
         clear hb1 x0 x1 x2 x3 x4))
    go_ret
    exact ⟨by rw [HE.out]; rfl, HB1.out⟩
  | true =>
    have HQ := Lib.hid hq
    obtain ⟨a, hta, hde, -, he⟩ := is_yes hq
    have HE := Lib.hid he
    have HTA := Lib.hid hta
    clear hq he hta
    cases hs : (a.asc none).1 with
    | false =>
      have HS := Lib.hid hs
      clear hs
      go_wp2_with (first
        | (go_at_call 74
           refine (full_any t h _ ?_).mono ?_
           · exact HT.out.lower ((Below.refl _ _).alloc (Nat.le_refl _) _)
           rintro _ w1 ⟨rfl, hb1⟩
           have HB1 : Hid (Below w.heap.size w w1) := Lib.hid (((Below.refl w.heap.size w).alloc (Nat.le_refl _) _).trans (hb1.mono (by simp)))
           obtain ⟨y0, y1, y2, y3, y4⟩ := (HX.out.below hb1 HX.out.lt).cells
           rw [HQ.out]
           clear hb1 x0 x1 x2 x3 x4)
        | (go_at_call 75
           refine (asc_any a h _ ?_).mono ?_
           · rw [← HTA.out]
             exact HT.out.lower HB1.out
           rintro _ w2 ⟨rfl, hb2⟩
           have HB2 : Hid (Below w.heap.size w w2) := Lib.hid (HB1.out.trans (hb2.mono HB1.out.size))
           rw [HS.out]
           clear hb2 y0 y1 y2 y3 y4))
      go_ret
      exact ⟨by rw [HE.out, HS.out, Bool.and_false]; rfl, HB2.out⟩
    | true =>
      have HS := Lib.hid hs
      clear hs
      have HDE := Lib.hid hde
      clear hde
      cases hd : decide (a.dep ≠ -1) with
      | false =>
        have hd1 : a.dep = -1 := by
          rw [decide_eq_false_iff_not] at hd
          omega
        have HD := Lib.hid hd
        have HD1 := Lib.hid hd1
        clear hd hd1
        go_wp2_with (first
          | (go_at_call 74
             refine (full_any t h _ ?_).mono ?_
             · exact HT.out.lower ((Below.refl _ _).alloc (Nat.le_refl _) _)
             rintro _ w1 ⟨rfl, hb1⟩
             have HB1 : Hid (Below w.heap.size w w1) := Lib.hid (((Below.refl w.heap.size w).alloc (Nat.le_refl _) _).trans (hb1.mono (by simp)))
             have HX1 := Lib.hid (HX.out.below hb1 HX.out.lt)
             obtain ⟨y0, y1, y2, y3, y4⟩ := HX1.out.cells
             rw [HQ.out]
             clear hb1 x0 x1 x2 x3 x4)
          | (go_at_call 75
             refine (asc_any a h _ ?_).mono ?_
             · rw [← HTA.out]
               exact HT.out.lower HB1.out
             rintro _ w2 ⟨rfl, hb2⟩
             have HB2 : Hid (Below w.heap.size w w2) := Lib.hid (HB1.out.trans (hb2.mono HB1.out.size))
             obtain ⟨z0, z1, z2, z3, z4⟩ := (HX1.out.below hb2 HX1.out.lt).cells
             rw [HS.out]
             clear hb2 y0 y1 y2 y3 y4)
          | (go_at_call 76
             refine (prDepth_any a h _ ?_ ?_).mono ?_
             · rw [← HTA.out]
               exact HT.out.lower HB2.out
             · have := HDE.out
               omega
             rintro _ w3 ⟨rfl, hb3⟩
             have HB3 : Hid (Below w.heap.size w w3) := Lib.hid (HB2.out.trans (hb3.mono HB2.out.size))
             rw [HD1.out]
             clear hb3 z0 z1 z2 z3 z4))
        go_ret
        exact ⟨by rw [HE.out, HD.out]; rfl, HB3.out⟩
      | true =>
        have hd1 : (a.dep != -1) = true := by
          rw [decide_eq_true_eq] at hd
          simpa using hd
        have HD := Lib.hid hd
        clear hd
        generalize hdd : a.dep = dp at *
        have HDD := Lib.hid hdd
        clear hdd
        go_wp2_with (first
          | (go_at_call 74
             refine (full_any t h _ ?_).mono ?_
             · exact HT.out.lower ((Below.refl _ _).alloc (Nat.le_refl _) _)
             rintro _ w1 ⟨rfl, hb1⟩
             have HB1 : Hid (Below w.heap.size w w1) := Lib.hid (((Below.refl w.heap.size w).alloc (Nat.le_refl _) _).trans (hb1.mono (by simp)))
             have HX1 := Lib.hid (HX.out.below hb1 HX.out.lt)
             obtain ⟨y0, y1, y2, y3, y4⟩ := HX1.out.cells
             rw [HQ.out]
             clear hb1 x0 x1 x2 x3 x4)
          | (go_at_call 75
             refine (asc_any a h _ ?_).mono ?_
             · rw [← HTA.out]
               exact HT.out.lower HB1.out
             rintro _ w2 ⟨rfl, hb2⟩
             have HB2 : Hid (Below w.heap.size w w2) := Lib.hid (HB1.out.trans (hb2.mono HB1.out.size))
             obtain ⟨z0, z1, z2, z3, z4⟩ := (HX1.out.below hb2 HX1.out.lt).cells
             rw [HS.out]
             clear hb2 y0 y1 y2 y3 y4)
          | (go_at_call 76
             refine (prDepth_any a h _ ?_ ?_).mono ?_
             · rw [← HTA.out]
               exact HT.out.lower HB2.out
             · have := HDE.out
               omega
             rintro _ w3 ⟨rfl, hb3⟩
             have HB3 : Hid (Below w.heap.size w w3) := Lib.hid (HB2.out.trans (hb3.mono HB2.out.size))
             rw [HDD.out]
             clear hb3 z0 z1 z2 z3 z4))
        go_ret
        exact ⟨by rw [HE.out, HD.out, HS.out]; rfl, HB3.out⟩
end Go.Proofs.YtlbiefddcimdgaaDoor

/- The contracts of the program's Prove. -/
namespace Go.Proofs.YtlbiefddcimdgaaDoor
open Go.RowKit
set_option linter.unusedVariables false

/-- Prove's boxes: the tree, the span, the result. -/
structure ZP (w W : World) (h : TH) (sp : DH) : Prop where
  box : Box W 27 w.heap.size h
  sb : RBox recD W 24 (w.heap.size + 1) sp
  res : Box W 27 (w.heap.size + 2) hZ
  b : Below w.heap.size w W
section
variable {w W W' : World} {h : TH} {sp : DH}
theorem ZP.sz (d : ZP w W h sp) : w.heap.size + 3 ≤ W.heap.size := d.res.lt
theorem ZP.below (d : ZP w W h sp) (hb : Below W.heap.size W W') : ZP w W' h sp := ⟨d.box.below hb d.box.lt, d.sb.below hb d.sb.lt, d.res.below hb d.res.lt, d.b.trans (hb.mono d.b.size)⟩
theorem ZP.enter (w : World) (h : TH) (sp : DH) : ZP w (((w.alloc (.cells #[.int .i64 h.k, .slice h.ka h.kn h.kc, .slice h.va h.vn h.vc, .slice h.da h.dn h.dc, .slice h.ta h.tn h.tc] 27)).alloc (.cells #[.slice sp.ka sp.kn sp.kc, .slice sp.va sp.vn sp.vc, .bool sp.out] 24)).alloc (.cells #[.int .i64 0, .slice none 0 0, .slice none 0 0, .slice none 0 0, .slice none 0 0] 27)) h sp := by
  have q1 : Below w.heap.size w (w.alloc (.cells #[.int .i64 h.k, .slice h.ka h.kn h.kc, .slice h.va h.vn h.vc, .slice h.da h.dn h.dc, .slice h.ta h.tn h.tc] 27)) := (Below.refl _ _).alloc (Nat.le_refl _) _
  have x0 := Box.new w 27 h
  have s1 : (w.alloc (.cells #[.int .i64 h.k, .slice h.ka h.kn h.kc, .slice h.va h.vn h.vc, .slice h.da h.dn h.dc, .slice h.ta h.tn h.tc] 27)).heap.size = w.heap.size + 1 := by simp
  have x1 := DH.box (w.alloc (.cells #[.int .i64 h.k, .slice h.ka h.kn h.kc, .slice h.va h.vn h.vc, .slice h.da h.dn h.dc, .slice h.ta h.tn h.tc] 27)) 24 sp
  have s2 : ((w.alloc (.cells #[.int .i64 h.k, .slice h.ka h.kn h.kc, .slice h.va h.vn h.vc, .slice h.da h.dn h.dc, .slice h.ta h.tn h.tc] 27)).alloc (.cells #[.slice sp.ka sp.kn sp.kc, .slice sp.va sp.vn sp.vc, .bool sp.out] 24)).heap.size = w.heap.size + 2 := by simp
  have x2 := Box.new ((w.alloc (.cells #[.int .i64 h.k, .slice h.ka h.kn h.kc, .slice h.va h.vn h.vc, .slice h.da h.dn h.dc, .slice h.ta h.tn h.tc] 27)).alloc (.cells #[.slice sp.ka sp.kn sp.kc, .slice sp.va sp.vn sp.vc, .bool sp.out] 24)) 27 hZ
  have b1 : Below (w.alloc (.cells #[.int .i64 h.k, .slice h.ka h.kn h.kc, .slice h.va h.vn h.vc, .slice h.da h.dn h.dc, .slice h.ta h.tn h.tc] 27)).heap.size (w.alloc (.cells #[.int .i64 h.k, .slice h.ka h.kn h.kc, .slice h.va h.vn h.vc, .slice h.da h.dn h.dc, .slice h.ta h.tn h.tc] 27)) ((w.alloc (.cells #[.int .i64 h.k, .slice h.ka h.kn h.kc, .slice h.va h.vn h.vc, .slice h.da h.dn h.dc, .slice h.ta h.tn h.tc] 27)).alloc (.cells #[.slice sp.ka sp.kn sp.kc, .slice sp.va sp.vn sp.vc, .bool sp.out] 24)) := (Below.refl _ _).alloc (Nat.le_refl _) _
  have b2 : Below ((w.alloc (.cells #[.int .i64 h.k, .slice h.ka h.kn h.kc, .slice h.va h.vn h.vc, .slice h.da h.dn h.dc, .slice h.ta h.tn h.tc] 27)).alloc (.cells #[.slice sp.ka sp.kn sp.kc, .slice sp.va sp.vn sp.vc, .bool sp.out] 24)).heap.size ((w.alloc (.cells #[.int .i64 h.k, .slice h.ka h.kn h.kc, .slice h.va h.vn h.vc, .slice h.da h.dn h.dc, .slice h.ta h.tn h.tc] 27)).alloc (.cells #[.slice sp.ka sp.kn sp.kc, .slice sp.va sp.vn sp.vc, .bool sp.out] 24)) (((w.alloc (.cells #[.int .i64 h.k, .slice h.ka h.kn h.kc, .slice h.va h.vn h.vc, .slice h.da h.dn h.dc, .slice h.ta h.tn h.tc] 27)).alloc (.cells #[.slice sp.ka sp.kn sp.kc, .slice sp.va sp.vn sp.vc, .bool sp.out] 24)).alloc (.cells #[.int .i64 0, .slice none 0 0, .slice none 0 0, .slice none 0 0, .slice none 0 0] 27)) := (Below.refl _ _).alloc (Nat.le_refl _) _
  have x0' := x0.below b1 x0.lt
  have x1' := x1.below b2 x1.lt
  rw [s1] at x1'
  rw [s2] at x2
  exact ⟨x0'.below b2 x0'.lt, x1', x2, (q1.trans (b1.mono (by rw [s1]; omega))).trans (b2.mono (by rw [s2]; omega))⟩
end

set_option maxRecDepth 100000 in
set_option maxHeartbeats 4000000 in
theorem prove_form (k : Nat) (hk1 : 1 ≤ k) (hk2 : k ≤ 32) (t : Tr) (h : TH) (sp : DH) (f tt : List Int) (w : World) (ht : InTree w h t) (hs : SpanIn w sp f tt) (hb : isT t = false) : Calls Tryd.prog 20 #[.int .i64 k, h.v, sp.v] w (ProveErr w 3) := by
  unfold TH.v DH.v
  have HD := Lib.hid (ZP.enter w h sp)
  have HT := Lib.hid ht
  have HIT := Lib.hid hb
  clear ht hs hb
  go_enter Tryd.func20, Tryd.ntmps20
  go_upto_region 1 with fail
  generalize (((w.alloc (.cells #[.int .i64 h.k, .slice h.ka h.kn h.kc, .slice h.va h.vn h.vc, .slice h.da h.dn h.dc, .slice h.ta h.tn h.tc] 27)).alloc (.cells #[.slice sp.ka sp.kn sp.kc, .slice sp.va sp.vn sp.vc, .bool sp.out] 24)).alloc (.cells #[.int .i64 0, .slice none 0 0, .slice none 0 0, .slice none 0 0, .slice none 0 0] 27)) = w0 at *
  have q1 : ¬ (k : Int) < 1 := by omega
  have q2 : ¬ (32 : Int) < k := by omega
  obtain ⟨x0, x1, x2, x3, x4⟩ := HD.out.box.cells
  go_wp2_with (first
    | (go_at_call 50
       refine (is_any t h _ (HT.out.lower HD.out.b)).mono ?_
       rintro _ w3 ⟨rfl, hb3⟩
       have HD3 := Lib.hid (HD.out.below hb3)
       rw [HIT.out]
       clear hb3 x0 x1 x2 x3 x4)
    | (refine wpList_store_box rfl 27 (.tmp 6) (.tmp 19) rfl (w.heap.size + 2) hZ hZ rfl rfl 27 HD3.out.res infoTree5 ?_
       intro w9 hbx9 hg9
       have HX9 := Lib.hid hbx9
       have HB9 : Hid (Below w.heap.size w w9) := Lib.hid (HD3.out.b.grown hg9 HD3.out.b.size (fun j hj => by injection hj; omega))
       clear hbx9 hg9))
  exact bodyPost_ret (Box.result Tryd.results20 _ HX9.out rfl Tryd.underlying27 infoTree5) rfl ⟨hZ, rfl, inTree_nil _, HB9.out⟩

set_option maxRecDepth 100000 in
set_option maxHeartbeats 4000000 in
theorem prove_ok (k : Nat) (hk1 : 1 ≤ k) (hk2 : k ≤ 32) (a : AT) (h : TH) (sp : DH) (f tt : List Int) (w : World) (ht : InTree w h a.tr) (hs : SpanIn w sp f tt) (hb : isT a.tr = true) (hcn : countT a.tr ≤ 500) (hT : TabLies w) : Calls Tryd.prog 20 #[.int .i64 k, h.v, sp.v] w (ProveOk w (showA k f tt sp.out a)) := by
  unfold TH.v DH.v
  have HD := Lib.hid (ZP.enter w h sp)
  have HT := Lib.hid ht
  have HIT := Lib.hid hb
  have HTT := Lib.hid hT
  have HSP := Lib.hid hs
  have HLD : Hid (Lim a.pairs ∧ a.depth ≤ 64) := Lib.hid (by
    obtain ⟨b, hab, -, -, q1, q2⟩ := (isT_iff _).1 hb
    have e := AT.tr_inj hab
    subst e
    exact ⟨q1, q2⟩)
  clear ht hs hb hT hcn
  go_enter Tryd.func20, Tryd.ntmps20
  go_upto_region 1 with fail
  generalize (((w.alloc (.cells #[.int .i64 h.k, .slice h.ka h.kn h.kc, .slice h.va h.vn h.vc, .slice h.da h.dn h.dc, .slice h.ta h.tn h.tc] 27)).alloc (.cells #[.slice sp.ka sp.kn sp.kc, .slice sp.va sp.vn sp.vc, .bool sp.out] 24)).alloc (.cells #[.int .i64 0, .slice none 0 0, .slice none 0 0, .slice none 0 0, .slice none 0 0] 27)) = w0 at *
  have q1 : ¬ (k : Int) < 1 := by omega
  have q2 : ¬ (32 : Int) < k := by omega
  obtain ⟨x0, x1, x2, x3, x4⟩ := HD.out.box.cells
  go_upto_region 5 with (first
    | (go_at_call 50
       refine (is_any a.tr h _ (HT.out.lower HD.out.b)).mono ?_
       rintro _ w3 ⟨rfl, hb3⟩
       have HD3 := Lib.hid (HD.out.below hb3)
       rw [HIT.out]
       clear hb3 x0 x1 x2 x3 x4))
  obtain ⟨x0, x1, x2, x3, x4⟩ := HD3.out.box.cells
  obtain ⟨y0, y1, y2⟩ := HD3.out.sb.three
  go_wp2_with (first
    | (go_at_call 51
       (with_reducible refine (proof_any k hk1 hk2 sp f tt a h _ ?_ ?_ ?_ HLD.out.1 HLD.out.2).mono ?_)
       · exact HT.out.lower HD3.out.b
       · exact HSP.out.below HD3.out.b
       · exact HTT.out.below HD3.out.b (Nat.le_refl _)
       rintro _ w4 ⟨h4, rfl, f4, hb4⟩
       unfold TH.v
       have HD4 := Lib.hid (HD3.out.below hb4)
       have HF4 : Hid (FreshT (w.heap.size + 3) w4.heap.size w4 h4 (showA k f tt sp.out a)) := Lib.hid (f4.wide HD3.out.sz (Nat.le_refl _))
       clear f4 hb4 x0 x1 x2 x3 x4 y0 y1 y2)
    | (refine wpList_store_box rfl 27 (.tmp 6) (.tmp 26) rfl (w.heap.size + 2) hZ h4 rfl rfl 27 HD4.out.res infoTree5 ?_
       intro w9 hbx9 hg9
       have HX9 := Lib.hid hbx9
       have HF9 : Hid (FreshT w.heap.size w9.heap.size w9 h4 (showA k f tt sp.out a)) := Lib.hid ((HF4.out.grown hg9 (Nat.le_refl _) (.inl (Nat.lt_succ_self _))).wide (Nat.le_add_right _ _) hg9.size)
       have HB9 : Hid (Below w.heap.size w w9) := Lib.hid (HD4.out.b.grown hg9 HD4.out.b.size (fun j hj => by injection hj; omega))
       clear hbx9 hg9))
  exact bodyPost_ret (Box.result Tryd.results20 _ HX9.out rfl Tryd.underlying27 infoTree5) rfl ⟨_, rfl, HF9.out, HB9.out⟩
end Go.Proofs.YtlbiefddcimdgaaDoor

/- The contract of the program's Range of trees. -/
namespace Go.Proofs.YtlbiefddcimdgaaDoor
open Go.RowKit
set_option linter.unusedVariables false

set_option maxRecDepth 100000 in
set_option maxHeartbeats 4000000 in
theorem scanRange_own (a : AT) (h : TH) (sp : DH) (f tt : List Int) (w : World) (ht : InTree w h a.tr) (hs : SpanIn w sp f tt) (hb : isT a.tr = true) (hcn : countT a.tr ≤ 500) : Calls Tryd.prog 21 #[h.v, sp.v] w (RangeOwn w (a.pairs.filter (fun p => inS f tt sp.out p.1))) := by
  unfold TH.v DH.v
  obtain ⟨ti, hti, htz⟩ := Option.map_eq_some_iff.1 infoPair
  simp only [Prod.mk.injEq] at htz
  obtain ⟨hz0, hz1, hz2⟩ := htz
  have HTI := Lib.hid (And.intro hti (And.intro hz0 (And.intro hz1 hz2)))
  clear hti hz0 hz1 hz2
  obtain ⟨e1, e2, e3, e4⟩ := enterS w h sp
  have HSP := Lib.hid hs
  have hlim : Lim a.pairs := by
    obtain ⟨a', q1, _, _, q2, _⟩ := (isT_iff _).1 hb
    rw [AT.tr_inj q1]
    exact q2
  have hck : checkT a.tr = 0 := by
    unfold isT at hb
    rw [Bool.and_eq_true, decide_eq_true_eq] at hb
    exact hb.1
  have hfo := (AT.tr_formed a).2 hlim
  have hln := list_len a.tr hfo
  have hlp : (listT a.tr).length = a.pairs.length := by rw [AT.tr_list, List.length_map, ← AT.nodes_kv, List.length_map]
  generalize hn : (listT a.tr).length = n at hln hlp
  have HN := Lib.hid (And.intro hn hlp)
  have hn5 : n ≤ 500 := by omega
  have HCK := Lib.hid hck
  have HI := Lib.hid hb
  have HLIM := Lib.hid hlim
  clear hs hfo hln hn hlp hck hlim hb
  go_enter Tryd.func21, Tryd.ntmps21
  go_upto_region 1 with fail
  generalize ((w.alloc (.cells #[.int .i64 h.k, .slice h.ka h.kn h.kc, .slice h.va h.vn h.vc, .slice h.da h.dn h.dc, .slice h.ta h.tn h.tc] 27)).alloc (.cells #[.slice sp.ka sp.kn sp.kc, .slice sp.va sp.vn sp.vc, .bool sp.out] 24)) = w0 at *
  obtain ⟨x0, x1, x2, x3, x4⟩ := e1.cells
  have HX := Lib.hid (And.intro e1 (And.intro e2 e3))
  have HT := Lib.hid ht
  clear e1 e2 e3 e4 ht
  go_upto_region 5 with (first
    | (go_at_call 50
       refine (is_any a.tr h _ (HT.out.lower HX.out.2.2)).mono ?_
       rw [HI.out]
       rintro _ w1 ⟨rfl, hb1⟩
       have HX1 : Hid (Box w1 27 w.heap.size h ∧ RBox recD w1 24 (w.heap.size + 1) sp ∧ Below w.heap.size w w1) := Lib.hid ⟨HX.out.1.below hb1 HX.out.1.lt, HX.out.2.1.below hb1 HX.out.2.1.lt, HX.out.2.2.trans (hb1.mono HX.out.2.2.size)⟩
       clear hb1 x0 x1 x2 x3 x4
       obtain ⟨x0, x1, x2, x3, x4⟩ := HX1.out.1.cells)
    | (go_at_call 28
       refine (list_any a.tr h _ (HT.out.lower HX1.out.2.2) (by omega)).mono ?_
       rintro _ w3 ⟨v3, hs, rfl, ho3, hh3, -, hb3⟩
       obtain ⟨la, lc, hv3⟩ := ho3.sl
       have hh4 := hh3 HCK.out
       rw [hh4.1, HN.out.1] at hv3
       subst hv3
       have HG3 : Hid (RS w1 w3 (w.heap.size + 1) sp la n lc hs (listT a.tr) (.slice none 0 0) [] []) := Lib.hid ⟨hb3, ho3, hh4, HX1.out.2.1.below hb3 HX1.out.2.1.lt, OwnR.nil _ _ _ _, PV.nil _ _⟩
       clear ho3 hh3 hh4 hb3 x0 x1 x2 x3 x4))
  go_loopw [6, 16] (fun s6 s16 wx => ∃ (i : Nat) (ra : Option Addr) (r rc : Nat) (rs : List PH), i ≤ n ∧ s6 = .slice ra r rc ∧ rs.length = r ∧ s16 = .int .i64 i ∧ RS w1 wx (w.heap.size + 1) sp la n lc hs (listT a.tr) (.slice ra r rc) rs ((a.pairs.take i).filter (fun p => inS f tt sp.out p.1))) (fun _ s16 _ => n - (intOf s16).toNat)
  case atStart => exact ⟨0, none, 0, 0, [], by omega, rfl, rfl, rfl, HG3.out⟩
  case round =>
    clear HG3
    obtain ⟨i, ra, r, rc, rs, hi, rfl, hrl, rfl, hrg⟩ := hrel
    have hr5 : r ≤ 500 := by
      have h1 := hrg.pv.1
      have h2 := List.length_filter_le (fun p : KV => inS f tt sp.out p.1) (a.pairs.take i)
      rw [List.length_take] at h2
      omega
    by_cases hlt : i < n
    · have q1 : (i : Int) < (n : Int) := by omega
      have hhl : hs.length = n := hrg.hw.1.trans HN.out.1
      have him : i < hs.length := by omega
      have him2 : i < (listT a.tr).length := by rw [HN.out.1]; exact hlt
      obtain ⟨g, hga, -⟩ := hrg.o.at hhl i him
      subst hga
      obtain ⟨l, k, v, rr, e1, -, -, e4⟩ := AT.node_at a i him2
      have HE1 := Lib.hid e1
      have HE4 := Lib.hid e4
      obtain ⟨x0, x1, x2, x3, x4⟩ := hrg.ls.cells hhl i him
      have HL := Lib.hid hrg
      have HKL : Hid (k.length ≤ 80 ∧ v.length ≤ 1024) := Lib.hid (HLIM.out (k, v) (List.mem_of_getElem? e4))
      have HKV8 : Hid (Bytes8 k ∧ Bytes8 v) := Lib.hid ⟨(hrg.ls.key i him him2 e1).1.bytes, (hrg.ls.key i him him2 e1).2.bytes⟩
      clear hrg e1 e4
      have hx5 := Box.new wr 27 (hs[i])
      have q5 : Below wr.heap.size wr (wr.alloc (.cells #[.int .i64 (hs[i]).k, .slice (hs[i]).ka (hs[i]).kn (hs[i]).kc, .slice (hs[i]).va (hs[i]).vn (hs[i]).vc, .slice (hs[i]).da (hs[i]).dn (hs[i]).dc, .slice (hs[i]).ta (hs[i]).tn (hs[i]).tc] 27)) := (Below.refl _ _).alloc (Nat.le_refl _) _
      go_upto_region 7 with fail
      generalize (wr.alloc (.cells #[.int .i64 (hs[i]).k, .slice (hs[i]).ka (hs[i]).kn (hs[i]).kc, .slice (hs[i]).va (hs[i]).vn (hs[i]).vc, .slice (hs[i]).da (hs[i]).dn (hs[i]).dc, .slice (hs[i]).ta (hs[i]).tn (hs[i]).tc] 27)) = w5 at *
      have HN5 : Hid (RN w1 w5 (w.heap.size + 1) sp (some ⟨g, 0, none⟩) n lc hs (listT a.tr) (.slice ra r rc) rs ((a.pairs.take i).filter (fun p => inS f tt sp.out p.1)) wr.heap.size (hs[i])) := Lib.hid ⟨HL.out.below q5, hx5⟩
      obtain ⟨y0, y1, y2⟩ := HN5.out.r.box.three
      obtain ⟨z0, z1, z2, z3, z4⟩ := HN5.out.x.cells
      clear hx5 q5 x0 x1 x2 x3 x4 HL
      generalize wr.heap.size = g8 at *
      cases hin : inS f tt sp.out k with
      | false =>
        have HIN := Lib.hid hin
        clear hin
        go_wp2_with (first
          | (go_at_call 22
             refine (scanIn_any sp f tt k (hs[i]).ka (hs[i]).kn (hs[i]).kc _ (HSP.out.below (HX1.out.2.2.trans (HN5.out.r.b.mono HX1.out.2.2.size))) (HN5.out.r.ls.key i him him2 HE1.out).1).mono ?_
             rintro _ w6 ⟨rfl, hb6⟩
             have HN6 := Lib.hid (HN5.out.below hb6)
             rw [HIN.out]
             clear hb6 y0 y1 y2 z0 z1 z2 z3 z4))
        exact ⟨⟨i + 1, ra, r, rc, rs, by omega, rfl, hrl, by go_num, by rw [filter_out HE4.out HIN.out]; exact HN6.out.r⟩, by simp [intOf]; omega⟩
      | true =>
        have HIN := Lib.hid hin
        clear hin
        go_upto_region 8 with (first
          | (go_at_call 22
             refine (scanIn_any sp f tt k (hs[i]).ka (hs[i]).kn (hs[i]).kc _ (HSP.out.below (HX1.out.2.2.trans (HN5.out.r.b.mono HX1.out.2.2.size))) (HN5.out.r.ls.key i him him2 HE1.out).1).mono ?_
             rintro _ w6 ⟨rfl, hb6⟩
             have HN6 := Lib.hid (HN5.out.below hb6)
             rw [HIN.out]
             clear hb6 y0 y1 y2 z0 z1 z2 z3 z4))
        have HN6D := Lib.hid HN6.out.drew
        refine wp_region_held_drew (S := (fun W => W.cell? ⟨g8, 1, none⟩ = some (.slice (hs[i]).ka (hs[i]).kn (hs[i]).kc) ∧ W.cell? ⟨g8, 2, none⟩ = some (.slice (hs[i]).va (hs[i]).vn (hs[i]).vc))) (by kernel_rfl) HN6D.out.two (fun hHeld => ?_)
        refine take_w (i := 0) (oi := ?oZ1) (v := ?vZ1) ?hiZ1 (by kernel_rfl) (by kernel_rfl) (by kernel_rfl) ?hQZ1 ?hwZ1 ?hyZ1 (by assumption) ?restZ1
        case hiZ1 => (simp only [List.getElem?_toArray, List.getElem?_cons_zero] <;> rfl)
        case hQZ1 => exact (fun _ _ _ h => h)
        case hwZ1 => rfl
        case hyZ1 => (intro w hSw; (try dsimp only at hSw); go_simp; try with_reducible rfl)
        (try simp only [Act.put, List.setIfInBounds_toArray, List.set_cons_zero, List.set_cons_succ])
        refine take_w (i := 1) (oi := ?oZ2) (v := ?vZ2) ?hiZ2 (by kernel_rfl) (by kernel_rfl) (by kernel_rfl) ?hQZ2 ?hwZ2 ?hyZ2 (by assumption) ?restZ2
        case hiZ2 => (simp only [List.getElem?_toArray, List.getElem?_cons_succ, List.getElem?_cons_zero] <;> rfl)
        case hQZ2 => exact (fun _ _ _ h => h)
        case hwZ2 => rfl
        case hyZ2 => (intro w hSw; (try dsimp only at hSw); go_simp; try with_reducible rfl)
        (try simp only [Act.put, List.setIfInBounds_toArray, List.set_cons_zero, List.set_cons_succ])
        refine take_w (i := 2) (oi := ?oZ3) (v := ?vZ3) ?hiZ3 (by kernel_rfl) (by kernel_rfl) (by kernel_rfl) ?hQZ3 ?hwZ3 ?hyZ3 (by assumption) ?restZ3
        case hiZ3 => (simp only [List.getElem?_toArray, List.getElem?_cons_succ, List.getElem?_cons_zero] <;> rfl)
        case hQZ3 => exact (fun _ _ _ h => h)
        case hwZ3 => rfl
        case hyZ3 => (intro w hSw; (try dsimp only at hSw); go_simp; try with_reducible rfl)
        (try simp only [Act.put, List.setIfInBounds_toArray, List.set_cons_zero, List.set_cons_succ])
        refine take_w (i := 4) (oi := ?oZ4) (v := ?vZ4) ?hiZ4 (by kernel_rfl) (by kernel_rfl) (by kernel_rfl) ?hQZ4 ?hwZ4 ?hyZ4 (by assumption) ?restZ4
        case hiZ4 => (simp only [List.getElem?_toArray, List.getElem?_cons_succ, List.getElem?_cons_zero] <;> rfl)
        case hQZ4 => exact (fun _ _ _ h => h)
        case hwZ4 => rfl
        case hyZ4 => (intro w hSw; (try dsimp only at hSw); go_simp; try with_reducible rfl)
        (try simp only [Act.put, List.setIfInBounds_toArray, List.set_cons_zero, List.set_cons_succ])
        refine take_w (i := 5) (oi := ?oZ5) (v := ?vZ5) ?hiZ5 (by kernel_rfl) (by kernel_rfl) (by kernel_rfl) ?hQZ5 ?hwZ5 ?hyZ5 (by assumption) ?restZ5
        case hiZ5 => (simp only [List.getElem?_toArray, List.getElem?_cons_succ, List.getElem?_cons_zero] <;> rfl)
        case hQZ5 => exact (fun _ _ _ h => h)
        case hwZ5 => rfl
        case hyZ5 => (intro w hSw; (try dsimp only at hSw); go_simp; try with_reducible rfl)
        (try simp only [Act.put, List.setIfInBounds_toArray, List.set_cons_zero, List.set_cons_succ])
        refine wpAnyH_ready (rs := [3]) (by kernel_rfl) (by simp) ?_
        refine AllReadyH.cons (o := ?oZ6) ?hiZ6 (fun K hK => ?stZ6) AllReadyH.nil
        case hiZ6 => (simp only [List.getElem?_toArray, List.getElem?_cons_succ, List.getElem?_cons_zero] <;> rfl)
        go_simp
        go_at_call 45
        refine (clone_own (hs[i]).ka (hs[i]).kn (hs[i]).kc k _ (HN6D.out.r.ls.key i him him2 HE1.out).1 (by have q := (HN6D.out.r.ls.key i him him2 HE1.out).1.len; have q2 := HKL.out; omega)).mono ?_
        rintro _ w7 ⟨v7, rfl, ho7, hb7⟩
        obtain ⟨a7, c7, rfl, -⟩ := own_any ho7 (HN6D.out.r.ls.key i him him2 HE1.out).1.bytes
        have HN7 := Lib.hid (HN6D.out.below hb7)
        have HO7 := Lib.hid (own_weak ho7 HN6D.out.r.b.size)
        clear ho7 hb7
        go_simp
        refine hK.out _ _ ?_ (fun hHeld => ?_)
        · (first | exact HN9.out.two | exact HN8.out.two | exact HN7.out.two | exact HN6D.out.two | exact (HN8.out.below ((Below.refl _ _).alloc (Nat.le_refl _) _)).two)
        clear hK K
        (try simp only [Act.put, List.setIfInBounds_toArray, List.set_cons_zero, List.set_cons_succ])
        refine wpAnyH_ready (rs := [6]) (by kernel_rfl) (by simp) ?_
        refine AllReadyH.cons (o := ?oZ7) ?hiZ7 (fun K hK => ?stZ7) AllReadyH.nil
        case hiZ7 => (simp only [List.getElem?_toArray, List.getElem?_cons_succ, List.getElem?_cons_zero] <;> rfl)
        go_simp
        go_at_call 45
        refine (clone_own (hs[i]).va (hs[i]).vn (hs[i]).vc v _ (HN7.out.r.ls.key i him him2 HE1.out).2 (by have q := (HN7.out.r.ls.key i him him2 HE1.out).2.len; have q2 := HKL.out; omega)).mono ?_
        rintro _ w8 ⟨v8, rfl, ho8, hb8⟩
        obtain ⟨a8, c8, rfl, -⟩ := own_any ho8 (HN7.out.r.ls.key i him him2 HE1.out).2.bytes
        have HN8 := Lib.hid (HN7.out.below hb8)
        have HO8 := Lib.hid (own_weak ho8 HN7.out.r.b.size)
        have HOK8 := Lib.hid (own_keep HO7.out hb8)
        clear ho8 hb8
        go_simp
        refine hK.out _ _ ?_ (fun hHeld => ?_)
        · (first | exact HN9.out.two | exact HN8.out.two | exact HN7.out.two | exact HN6D.out.two | exact (HN8.out.below ((Below.refl _ _).alloc (Nat.le_refl _) _)).two)
        clear hK K
        (try simp only [Act.put, List.setIfInBounds_toArray, List.set_cons_zero, List.set_cons_succ])
        refine take_w (i := 7) (oi := ?oZ8) (v := ?vZ8) ?hiZ8 (by kernel_rfl) (by kernel_rfl) (by kernel_rfl) ?hQZ8 ?hwZ8 ?hyZ8 (by assumption) ?restZ8
        case hiZ8 => (simp only [List.getElem?_toArray, List.getElem?_cons_succ, List.getElem?_cons_zero] <;> rfl)
        case hQZ8 => exact (fun _ _ _ h => h)
        case hwZ8 => rfl
        case hyZ8 => (intro w hSw; (try dsimp only at hSw); go_simp; try with_reducible rfl)
        (try simp only [Act.put, List.setIfInBounds_toArray, List.set_cons_zero, List.set_cons_succ])
        refine wpAnyH_ready (rs := [8]) (by kernel_rfl) (by simp) ?_
        refine AllReadyH.cons (o := ?oZ9) ?hiZ9 (fun K hK => ?stZ9) AllReadyH.nil
        case hiZ9 => (simp only [List.getElem?_toArray, List.getElem?_cons_succ, List.getElem?_cons_zero] <;> rfl)
        go_simp
        refine hK.out _ _ ?_ (fun hHeld => ?_)
        · (first | exact HN9.out.two | exact HN8.out.two | exact HN7.out.two | exact HN6D.out.two | exact (HN8.out.below ((Below.refl _ _).alloc (Nat.le_refl _) _)).two)
        clear hK K
        (try simp only [Act.put, List.setIfInBounds_toArray, List.set_cons_zero, List.set_cons_succ])
        refine wpAnyH_ready (rs := [9]) (by kernel_rfl) (by simp) ?_
        refine AllReadyH.cons (o := ?oZ10) ?hiZ10 (fun K hK => ?stZ10) AllReadyH.nil
        case hiZ10 => (simp only [List.getElem?_toArray, List.getElem?_cons_succ, List.getElem?_cons_zero] <;> rfl)
        have qa : Below w8.heap.size w8 (w8.alloc (.cells #[.slice a7 k.length c7, .slice a8 v.length c8] 53)) := (Below.refl _ _).alloc (Nat.le_refl _) _
        have HNA := Lib.hid (HN8.out.below qa)
        have HPA : Hid (POK (w8.alloc (.cells #[.slice a7 k.length c7, .slice a8 v.length c8] 53)) w1.heap.size (⟨a7, k.length, c7, a8, v.length, c8⟩ : PH) (k, v)) := Lib.hid ((⟨HOK8.out, HO8.out, HKV8.out.1, HKV8.out.2⟩ : POK w8 w1.heap.size (⟨a7, k.length, c7, a8, v.length, c8⟩ : PH) (k, v)).keep qa)
        refine step_append_rec _ rfl (.tmp 24) (.tmp 32) 30 rfl recP w1.heap.size 53 ti _ 48 Tryd.underlying30 HTI.out.1 HTI.out.2.1 HTI.out.2.2.1 HTI.out.2.2.2 rfl (.slice ra r rc) rs rfl HNA.out.r.row w8.heap.size 1 (⟨a7, k.length, c7, a8, v.length, c8⟩ : PH) rfl (RBox.cell (c := recP) (r := (⟨a7, k.length, c7, a8, v.length, c8⟩ : PH)) (heap_alloc_new w8 _)) ?_ (by omega) HNA.out.r.b.size ?_
        · rw [hrl]
          omega
        intro v9 w9 ho9 hg9 hw9 _
        obtain ⟨ra9, rc9, hv9⟩ := ho9.sl
        have hlen9 : (rs ++ [(⟨a7, k.length, c7, a8, v.length, c8⟩ : PH)]).length = r + 1 := by simp [hrl]
        rw [hlen9] at hv9
        subst hv9
        have HN9 := Lib.hid (HNA.out.app hg9 ho9 HPA.out)
        have HLE9 := Lib.hid hlen9
        clear ho9 hg9 hlen9 qa
        refine hK.out _ _ ?_ (fun hHeld => ?_)
        · (first | exact HN9.out.two | exact HN8.out.two | exact HN7.out.two | exact HN6D.out.two | exact (HN8.out.below ((Below.refl _ _).alloc (Nat.le_refl _) _)).two)
        clear hK K
        (try simp only [Act.put, List.setIfInBounds_toArray, List.set_cons_zero, List.set_cons_succ])
        refine take_w (i := 10) (oi := ?oZ11) (v := ?vZ11) ?hiZ11 (by kernel_rfl) (by kernel_rfl) (by kernel_rfl) ?hQZ11 ?hwZ11 ?hyZ11 (by assumption) ?restZ11
        case hiZ11 => (simp only [List.getElem?_toArray, List.getElem?_cons_succ, List.getElem?_cons_zero] <;> rfl)
        case hQZ11 => exact (fun _ _ _ h => h)
        case hwZ11 => rfl
        case hyZ11 => (intro w hSw; (try dsimp only at hSw); go_simp; try with_reducible rfl)
        (try simp only [Act.put, List.setIfInBounds_toArray, List.set_cons_zero, List.set_cons_succ])
        refine wpAnyH_done (by kernel_rfl) ?_ _
        clear hHeld
        go_wp2_with fail
        exact ⟨⟨i + 1, ra9, r + 1, rc9, _, by omega, rfl, HLE9.out, by go_num, by rw [filter_in HE4.out HIN.out]; exact HN9.out.r⟩, by simp [intOf]; omega⟩
    · obtain rfl : i = n := by omega
      have q1 : ¬ (i : Int) < (i : Int) := by omega
      go_wp2_with fail
      go_ret2
      have hk : a.pairs.take i = a.pairs := List.take_of_length_le (by rw [← HN.out.2]; exact Nat.le_refl _)
      rw [hk] at hrg
      have hb1 := HX1.out.2.2
      exact ⟨ra, r, rc, rs, rfl, hrg.row.weak hb1.size, hrl, hrg.pv.weak hb1.size, hb1.trans (hrg.b.mono hb1.size)⟩
theorem scanRange_ok (a : AT) (h : TH) (sp : DH) (f tt : List Int) (w : World) (ht : InTree w h a.tr) (hs : SpanIn w sp f tt) (hb : isT a.tr = true) (hcn : countT a.tr ≤ 500) : Calls Tryd.prog 21 #[h.v, sp.v] w (RangeOk w (a.pairs.filter (fun p => inS f tt sp.out p.1))) := by
  refine (scanRange_own a h sp f tt w ht hs hb hcn).mono ?_
  rintro _ w' ⟨ra, r, rc, rs, rfl, h1, h2, h3, h4⟩
  exact ⟨ra, r, rc, rs, rfl, h1, h2, h3.pairs, h3.vals, h4⟩
end Go.Proofs.YtlbiefddcimdgaaDoor

/- The contracts of the document's nodes and turns of AVL trees. -/
namespace Go.Proofs.YtlbiefddcimdgaaDoor
open Go.RowKit
set_option linter.unusedVariables false

set_option maxRecDepth 100000 in
set_option maxHeartbeats 4000000 in
theorem refNode_any (a b : AT) (hl hr : TH) (ka va : Option Addr) (kn kc vn vc : Nat) (key val : List Int) (w : World) (ha : InTree w hl a.tr) (hb : InTree w hr b.tr) (hk : InBytes w ka kn kc key) (hv : InBytes w va vn vc val) :
    Calls Tryd.prog 72 #[hl.v, .slice ka kn kc, .slice va vn vc, hr.v] w (Tells w (AT.node a key val b)) := by
  unfold TH.v
  have q1 : Below w.heap.size w (w.alloc (.cells #[.int .i64 hl.k, .slice hl.ka hl.kn hl.kc, .slice hl.va hl.vn hl.vc, .slice hl.da hl.dn hl.dc, .slice hl.ta hl.tn hl.tc] 27)) := (Below.refl _ _).alloc (Nat.le_refl _) _
  have s1 : (w.alloc (.cells #[.int .i64 hl.k, .slice hl.ka hl.kn hl.kc, .slice hl.va hl.vn hl.vc, .slice hl.da hl.dn hl.dc, .slice hl.ta hl.tn hl.tc] 27)).heap.size = w.heap.size + 1 := by simp
  have q2 : Below w.heap.size w ((w.alloc (.cells #[.int .i64 hl.k, .slice hl.ka hl.kn hl.kc, .slice hl.va hl.vn hl.vc, .slice hl.da hl.dn hl.dc, .slice hl.ta hl.tn hl.tc] 27)).alloc (.cells #[.int .i64 hr.k, .slice hr.ka hr.kn hr.kc, .slice hr.va hr.vn hr.vc, .slice hr.da hr.dn hr.dc, .slice hr.ta hr.tn hr.tc] 27)) := q1.alloc (by rw [s1]; omega) _
  have s2 : ((w.alloc (.cells #[.int .i64 hl.k, .slice hl.ka hl.kn hl.kc, .slice hl.va hl.vn hl.vc, .slice hl.da hl.dn hl.dc, .slice hl.ta hl.tn hl.tc] 27)).alloc (.cells #[.int .i64 hr.k, .slice hr.ka hr.kn hr.kc, .slice hr.va hr.vn hr.vc, .slice hr.da hr.dn hr.dc, .slice hr.ta hr.tn hr.tc] 27)).heap.size = w.heap.size + 2 := by simp
  have q3 : Below w.heap.size w (((w.alloc (.cells #[.int .i64 hl.k, .slice hl.ka hl.kn hl.kc, .slice hl.va hl.vn hl.vc, .slice hl.da hl.dn hl.dc, .slice hl.ta hl.tn hl.tc] 27)).alloc (.cells #[.int .i64 hr.k, .slice hr.ka hr.kn hr.kc, .slice hr.va hr.vn hr.vc, .slice hr.da hr.dn hr.dc, .slice hr.ta hr.tn hr.tc] 27)).alloc (.cells #[.int .i64 0, .slice none 0 0, .slice none 0 0, .slice none 0 0, .slice none 0 0] 27)) := q2.alloc (by rw [s2]; omega) _
  have x1 := Box.new w 27 hl
  have x1' := x1.below ((Below.refl _ _).alloc (Nat.le_refl _) (.cells #[.int .i64 hr.k, .slice hr.ka hr.kn hr.kc, .slice hr.va hr.vn hr.vc, .slice hr.da hr.dn hr.dc, .slice hr.ta hr.tn hr.tc] 27)) x1.lt
  have x1'' := x1'.below ((Below.refl _ _).alloc (Nat.le_refl _) (.cells #[.int .i64 0, .slice none 0 0, .slice none 0 0, .slice none 0 0, .slice none 0 0] 27)) x1'.lt
  have x2 := Box.new (w.alloc (.cells #[.int .i64 hl.k, .slice hl.ka hl.kn hl.kc, .slice hl.va hl.vn hl.vc, .slice hl.da hl.dn hl.dc, .slice hl.ta hl.tn hl.tc] 27)) 27 hr
  have x2' := x2.below ((Below.refl _ _).alloc (Nat.le_refl _) (.cells #[.int .i64 0, .slice none 0 0, .slice none 0 0, .slice none 0 0, .slice none 0 0] 27)) x2.lt
  have x3 : Box (((w.alloc (.cells #[.int .i64 hl.k, .slice hl.ka hl.kn hl.kc, .slice hl.va hl.vn hl.vc, .slice hl.da hl.dn hl.dc, .slice hl.ta hl.tn hl.tc] 27)).alloc (.cells #[.int .i64 hr.k, .slice hr.ka hr.kn hr.kc, .slice hr.va hr.vn hr.vc, .slice hr.da hr.dn hr.dc, .slice hr.ta hr.tn hr.tc] 27)).alloc (.cells #[.int .i64 0, .slice none 0 0, .slice none 0 0, .slice none 0 0, .slice none 0 0] 27)) 27 ((w.alloc (.cells #[.int .i64 hl.k, .slice hl.ka hl.kn hl.kc, .slice hl.va hl.vn hl.vc, .slice hl.da hl.dn hl.dc, .slice hl.ta hl.tn hl.tc] 27)).alloc (.cells #[.int .i64 hr.k, .slice hr.ka hr.kn hr.kc, .slice hr.va hr.vn hr.vc, .slice hr.da hr.dn hr.dc, .slice hr.ta hr.tn hr.tc] 27)).heap.size hZ := Box.new ((w.alloc (.cells #[.int .i64 hl.k, .slice hl.ka hl.kn hl.kc, .slice hl.va hl.vn hl.vc, .slice hl.da hl.dn hl.dc, .slice hl.ta hl.tn hl.tc] 27)).alloc (.cells #[.int .i64 hr.k, .slice hr.ka hr.kn hr.kc, .slice hr.va hr.vn hr.vc, .slice hr.da hr.dn hr.dc, .slice hr.ta hr.tn hr.tc] 27)) 27 hZ
  rw [s1] at x2'
  rw [s2] at x3
  clear q1 s1 q2 s2 x1 x1' x2
  go_enter Tryd.func72, Tryd.ntmps72
  go_upto_region 1 with fail
  generalize (((w.alloc (.cells #[.int .i64 hl.k, .slice hl.ka hl.kn hl.kc, .slice hl.va hl.vn hl.vc, .slice hl.da hl.dn hl.dc, .slice hl.ta hl.tn hl.tc] 27)).alloc (.cells #[.int .i64 hr.k, .slice hr.ka hr.kn hr.kc, .slice hr.va hr.vn hr.vc, .slice hr.da hr.dn hr.dc, .slice hr.ta hr.tn hr.tc] 27)).alloc (.cells #[.int .i64 0, .slice none 0 0, .slice none 0 0, .slice none 0 0, .slice none 0 0] 27)) = w0 at *
  obtain ⟨l0, l1, l2, l3, l4⟩ := x1''.cells
  obtain ⟨r0, r1, r2, r3, r4⟩ := x2'.cells
  have hb1 : Below w0.heap.size w0 (w0.alloc (.cells #[.int .i64 hl.k, .slice hl.ka hl.kn hl.kc, .slice hl.va hl.vn hl.vc, .slice hl.da hl.dn hl.dc, .slice hl.ta hl.tn hl.tc, .int .i64 hr.k, .slice hr.ka hr.kn hr.kc, .slice hr.va hr.vn hr.vc, .slice hr.da hr.dn hr.dc, .slice hr.ta hr.tn hr.tc] 27)) := (Below.refl _ _).alloc (Nat.le_refl _) _
  have HX := Lib.hid (x3.below hb1 x3.lt)
  have HB := Lib.hid (q3.trans (hb1.mono q3.size))
  have HT : Hid (Two5 (w0.alloc (.cells #[.int .i64 hl.k, .slice hl.ka hl.kn hl.kc, .slice hl.va hl.vn hl.vc, .slice hl.da hl.dn hl.dc, .slice hl.ta hl.tn hl.tc, .int .i64 hr.k, .slice hr.ka hr.kn hr.kc, .slice hr.va hr.vn hr.vc, .slice hr.da hr.dn hr.dc, .slice hr.ta hr.tn hr.tc] 27)) 27 w0.heap.size hl hr) := Lib.hid (Two5.new w0 27 hl hr)
  have HI := Lib.hid (And.intro (And.intro ha hb) (And.intro hk hv))
  have hlt : w.heap.size + 2 < w0.heap.size := x3.lt
  clear x1'' x2' x3 q3 hb1 ha hb hk hv
  go_wp2_with (first
    | (refine wpList_store_box rfl 27 (.tmp 8) (.tmp 14) rfl (w.heap.size + 2) hZ ⟨1, ka, kn, kc, va, vn, vc, none, 0, 0, some ⟨w0.heap.size, 0, none⟩, 2, 2⟩ rfl rfl 27 HX.out infoTree5 ?_
       intro w2 hbx2 hg2
       have HX2 := Lib.hid hbx2
       have hb2 : Below w.heap.size w w2 := HB.out.grown hg2 HB.out.size (fun j hj => by injection hj; omega)
       have HT2 : Hid (Two5 w2 27 w0.heap.size hl hr) := Lib.hid ((hg2.block _ HT.out.lt (fun q => by injection q; omega)).trans HT.out)
       have HB2 := Lib.hid hb2
       clear hbx2 hg2 hb2))
  exact bodyPost_ret (v := TH.v ⟨1, ka, kn, kc, va, vn, vc, none, 0, 0, some ⟨w0.heap.size, 0, none⟩, 2, 2⟩) (result_tree Tryd.results72 _ HX2.out rfl Tryd.underlying27 infoTree5) rfl ⟨_, rfl, AT.inNode HT2.out (HI.out.1.1.lower HB2.out) (HI.out.1.2.lower HB2.out) (HI.out.2.1.below HB2.out) (HI.out.2.2.below HB2.out), HB2.out⟩

/-- The depth of a full tree. -/
theorem refDepthA_any (a : AT) (h : TH) (w : World) (ht : InTree w h a.tr) (hl : Lim a.pairs) (hd : a.depth ≤ 64) : Calls Tryd.prog 104 #[h.v] w (Says w (.int .i64 a.depth)) := by
  have := refDepth_any a.tr h 64 w ht ((AT.tr_formed a).2 hl) (by rw [AT.tr_deep a 64 (by omega), decide_eq_false_iff_not]; omega) (by omega) (by omega)
  rw [AT.tr_depth] at this
  exact this
set_option maxRecDepth 100000 in
set_option maxHeartbeats 4000000 in
theorem refTilt_any (a : AT) (key val : List Int) (b : AT) (h : TH) (w : World) (ht : InTree w h (AT.node a key val b).tr) (hlim : Lim (AT.node a key val b).pairs) (hda : a.depth ≤ 64) (hdb : b.depth ≤ 64) :
    Calls Tryd.prog 93 #[h.v] w (Says w (.int .i64 ((a.depth : Int) - (b.depth : Int)))) := by
  unfold TH.v
  obtain ⟨H, hp⟩ := ht.parts
  have ht1 : (1 : Int) < (h.tn : Int) := by have h2 : h.tn = 2 := hp.len.symm; omega
  have ht0 : 0 < h.tn := by omega
  have l0 : 0 < (AT.node a key val b).tr.kids.length := by rw [AT.tr_kids]; simp
  have l1 : 1 < (AT.node a key val b).tr.kids.length := by rw [AT.tr_kids]; simp
  have HP := Lib.hid hp
  have HL := Lib.hid hlim.node
  have hd1 := BW.new w ht
  have HD1 := Lib.hid hd1
  clear hp ht hlim hd1
  go_enter Tryd.func93, Tryd.ntmps93
  go_upto_region 1 with fail
  obtain ⟨g, off, hta, hg, -⟩ := (HP.out.below HD1.out.b).place (by omega)
  have HTA := Lib.hid hta
  rw [hta]
  generalize hw0 : w.alloc (.cells #[.int .i64 h.k, .slice h.ka h.kn h.kc, .slice h.va h.vn h.vc, .slice h.da h.dn h.dc, .slice (some ⟨g, off, none⟩) h.tn h.tc] 27) = w0
  have hw1 : w.alloc (.cells #[.int .i64 h.k, .slice h.ka h.kn h.kc, .slice h.va h.vn h.vc, .slice h.da h.dn h.dc, .slice h.ta h.tn h.tc] 27) = w0 := by rw [hta]; exact hw0
  rw [hw1] at HD1
  clear hta hg hw0 hw1
  refine wp_region_held_drew (S := (fun W => W.cell? ⟨w.heap.size, 4, none⟩ = some (.slice (some ⟨g, off, none⟩) h.tn h.tc) ∧ W.cell? ⟨g, off, none⟩ = some (.int .i64 (H 0).k) ∧ W.cell? ⟨g, off + 1, none⟩ = some (.slice (H 0).ka (H 0).kn (H 0).kc) ∧ W.cell? ⟨g, off + 2, none⟩ = some (.slice (H 0).va (H 0).vn (H 0).vc) ∧ W.cell? ⟨g, off + 3, none⟩ = some (.slice (H 0).da (H 0).dn (H 0).dc) ∧ W.cell? ⟨g, off + 4, none⟩ = some (.slice (H 0).ta (H 0).tn (H 0).tc) ∧ (W.cell? ⟨g, off + 5, none⟩ = some (.int .i64 (H 1).k) ∧ W.cell? ⟨g, off + 5 + 1, none⟩ = some (.slice (H 1).ka (H 1).kn (H 1).kc) ∧ W.cell? ⟨g, off + 5 + 2, none⟩ = some (.slice (H 1).va (H 1).vn (H 1).vc) ∧ W.cell? ⟨g, off + 5 + 3, none⟩ = some (.slice (H 1).da (H 1).dn (H 1).dc) ∧ W.cell? ⟨g, off + 5 + 4, none⟩ = some (.slice (H 1).ta (H 1).tn (H 1).tc)))) (by kernel_rfl) ⟨(HD1.out.drew.box.cells.2.2.2.2).trans (by rw [HTA.out]), ((HP.out.below HD1.out.drew.b).kid0 HTA.out (by omega)).1, ((HP.out.below HD1.out.drew.b).kid0 HTA.out (by omega)).2.1, ((HP.out.below HD1.out.drew.b).kid0 HTA.out (by omega)).2.2.1, ((HP.out.below HD1.out.drew.b).kid0 HTA.out (by omega)).2.2.2.1, ((HP.out.below HD1.out.drew.b).kid0 HTA.out (by omega)).2.2.2.2, (HP.out.below HD1.out.drew.b).kid1 HTA.out (by omega)⟩ (fun hHeld => ?_)
  refine take_w (i := 0) (oi := ?oZ1) (v := ?vZ1) ?hiZ1 (by kernel_rfl) (by kernel_rfl) (by kernel_rfl) ?hQZ1 ?hwZ1 ?hyZ1 (by assumption) ?restZ1
  case hiZ1 => (simp only [List.getElem?_toArray, List.getElem?_cons_zero] <;> rfl)
  case hQZ1 => exact (fun _ _ _ h => h)
  case hwZ1 => rfl
  case hyZ1 => (intro w hSw; (try dsimp only at hSw); go_simp; try with_reducible rfl)
  (try simp only [Act.put, List.setIfInBounds_toArray, List.set_cons_zero, List.set_cons_succ])
  refine take_w (i := 1) (oi := ?oZ2) (v := ?vZ2) ?hiZ2 (by kernel_rfl) (by kernel_rfl) (by kernel_rfl) ?hQZ2 ?hwZ2 ?hyZ2 (by assumption) ?restZ2
  case hiZ2 => (simp only [List.getElem?_toArray, List.getElem?_cons_succ, List.getElem?_cons_zero] <;> rfl)
  case hQZ2 => exact (fun _ _ _ h => h)
  case hwZ2 => rfl
  case hyZ2 => (intro w hSw; (try dsimp only at hSw); go_simp; try with_reducible rfl)
  (try simp only [Act.put, List.setIfInBounds_toArray, List.set_cons_zero, List.set_cons_succ])
  refine take_w (i := 2) (oi := ?oZ3) (v := ?vZ3) ?hiZ3 (by kernel_rfl) (by kernel_rfl) (by kernel_rfl) ?hQZ3 ?hwZ3 ?hyZ3 (by assumption) ?restZ3
  case hiZ3 => (simp only [List.getElem?_toArray, List.getElem?_cons_succ, List.getElem?_cons_zero] <;> rfl)
  case hQZ3 => exact (fun _ _ _ h => h)
  case hwZ3 => rfl
  case hyZ3 => (intro w hSw; (try dsimp only at hSw); go_simp; try with_reducible rfl)
  (try simp only [Act.put, List.setIfInBounds_toArray, List.set_cons_zero, List.set_cons_succ])
  refine take_w (i := 3) (oi := ?oZ4) (v := ?vZ4) ?hiZ4 (by kernel_rfl) (by kernel_rfl) (by kernel_rfl) ?hQZ4 ?hwZ4 ?hyZ4 (by assumption) ?restZ4
  case hiZ4 => (simp only [List.getElem?_toArray, List.getElem?_cons_succ, List.getElem?_cons_zero] <;> rfl)
  case hQZ4 => exact (fun _ _ _ h => h)
  case hwZ4 => rfl
  case hyZ4 => (intro w hSw; (try dsimp only at hSw); go_simp; try with_reducible rfl)
  (try simp only [Act.put, List.setIfInBounds_toArray, List.set_cons_zero, List.set_cons_succ])
  refine take_w (i := 5) (oi := ?oZ5) (v := ?vZ5) ?hiZ5 (by kernel_rfl) (by kernel_rfl) (by kernel_rfl) ?hQZ5 ?hwZ5 ?hyZ5 (by assumption) ?restZ5
  case hiZ5 => (simp only [List.getElem?_toArray, List.getElem?_cons_succ, List.getElem?_cons_zero] <;> rfl)
  case hQZ5 => exact (fun _ _ _ h => h)
  case hwZ5 => rfl
  case hyZ5 => (intro w hSw; (try dsimp only at hSw); go_simp; try with_reducible rfl)
  (try simp only [Act.put, List.setIfInBounds_toArray, List.set_cons_zero, List.set_cons_succ])
  refine take_w (i := 6) (oi := ?oZ6) (v := ?vZ6) ?hiZ6 (by kernel_rfl) (by kernel_rfl) (by kernel_rfl) ?hQZ6 ?hwZ6 ?hyZ6 (by assumption) ?restZ6
  case hiZ6 => (simp only [List.getElem?_toArray, List.getElem?_cons_succ, List.getElem?_cons_zero] <;> rfl)
  case hQZ6 => exact (fun _ _ _ h => h)
  case hwZ6 => rfl
  case hyZ6 => (intro w hSw; (try dsimp only at hSw); go_simp; try with_reducible rfl)
  (try simp only [Act.put, List.setIfInBounds_toArray, List.set_cons_zero, List.set_cons_succ])
  refine take_w (i := 7) (oi := ?oZ7) (v := ?vZ7) ?hiZ7 (by kernel_rfl) (by kernel_rfl) (by kernel_rfl) ?hQZ7 ?hwZ7 ?hyZ7 (by assumption) ?restZ7
  case hiZ7 => (simp only [List.getElem?_toArray, List.getElem?_cons_succ, List.getElem?_cons_zero] <;> rfl)
  case hQZ7 => exact (fun _ _ _ h => h)
  case hwZ7 => rfl
  case hyZ7 => (intro w hSw; (try dsimp only at hSw); go_simp; try with_reducible rfl)
  (try simp only [Act.put, List.setIfInBounds_toArray, List.set_cons_zero, List.set_cons_succ])
  refine take_w (i := 8) (oi := ?oZ8) (v := ?vZ8) ?hiZ8 (by kernel_rfl) (by kernel_rfl) (by kernel_rfl) ?hQZ8 ?hwZ8 ?hyZ8 (by assumption) ?restZ8
  case hiZ8 => (simp only [List.getElem?_toArray, List.getElem?_cons_succ, List.getElem?_cons_zero] <;> rfl)
  case hQZ8 => exact (fun _ _ _ h => h)
  case hwZ8 => rfl
  case hyZ8 => (intro w hSw; (try dsimp only at hSw); go_simp; try with_reducible rfl)
  (try simp only [Act.put, List.setIfInBounds_toArray, List.set_cons_zero, List.set_cons_succ])
  refine wpAnyH_ready (rs := [4]) (by kernel_rfl) (by simp) ?_
  refine AllReadyH.cons (o := ?oZ9) ?hiZ9 (fun K hK => ?stZ9) AllReadyH.nil
  case hiZ9 => (simp only [List.getElem?_toArray, List.getElem?_cons_succ, List.getElem?_cons_zero] <;> rfl)
  go_simp
  go_at_call 104
  refine (refDepthA_any a (H 0) _ ((HP.out.below HD1.out.drew.b).kids 0 l0) HL.out.1 (by omega)).mono ?_
  rintro _ w2 ⟨rfl, hb2⟩
  have HD2 := Lib.hid (HD1.out.drew.below hb2)
  clear hb2
  go_simp
  refine hK.out _ _ ?_ (fun hHeld => ?_)
  · (first | exact ⟨(HD3.out.box.cells.2.2.2.2).trans (by rw [HTA.out]), ((HP.out.below HD3.out.b).kid0 HTA.out (by omega)).1, ((HP.out.below HD3.out.b).kid0 HTA.out (by omega)).2.1, ((HP.out.below HD3.out.b).kid0 HTA.out (by omega)).2.2.1, ((HP.out.below HD3.out.b).kid0 HTA.out (by omega)).2.2.2.1, ((HP.out.below HD3.out.b).kid0 HTA.out (by omega)).2.2.2.2, (HP.out.below HD3.out.b).kid1 HTA.out (by omega)⟩ | exact ⟨(HD2.out.box.cells.2.2.2.2).trans (by rw [HTA.out]), ((HP.out.below HD2.out.b).kid0 HTA.out (by omega)).1, ((HP.out.below HD2.out.b).kid0 HTA.out (by omega)).2.1, ((HP.out.below HD2.out.b).kid0 HTA.out (by omega)).2.2.1, ((HP.out.below HD2.out.b).kid0 HTA.out (by omega)).2.2.2.1, ((HP.out.below HD2.out.b).kid0 HTA.out (by omega)).2.2.2.2, (HP.out.below HD2.out.b).kid1 HTA.out (by omega)⟩ | exact ⟨(HD1.out.drew.box.cells.2.2.2.2).trans (by rw [HTA.out]), ((HP.out.below HD1.out.drew.b).kid0 HTA.out (by omega)).1, ((HP.out.below HD1.out.drew.b).kid0 HTA.out (by omega)).2.1, ((HP.out.below HD1.out.drew.b).kid0 HTA.out (by omega)).2.2.1, ((HP.out.below HD1.out.drew.b).kid0 HTA.out (by omega)).2.2.2.1, ((HP.out.below HD1.out.drew.b).kid0 HTA.out (by omega)).2.2.2.2, (HP.out.below HD1.out.drew.b).kid1 HTA.out (by omega)⟩)
  clear hK K
  (try simp only [Act.put, List.setIfInBounds_toArray, List.set_cons_zero, List.set_cons_succ])
  refine wpAnyH_ready (rs := [9]) (by kernel_rfl) (by simp) ?_
  refine AllReadyH.cons (o := ?oZ10) ?hiZ10 (fun K hK => ?stZ10) AllReadyH.nil
  case hiZ10 => (simp only [List.getElem?_toArray, List.getElem?_cons_succ, List.getElem?_cons_zero] <;> rfl)
  go_simp
  go_at_call 104
  refine (refDepthA_any b (H 1) _ ((HP.out.below HD2.out.b).kids 1 l1) HL.out.2.2.2 (by omega)).mono ?_
  rintro _ w3 ⟨rfl, hb3⟩
  have HD3 := Lib.hid (HD2.out.below hb3)
  clear hb3
  go_simp
  refine hK.out _ _ ?_ (fun hHeld => ?_)
  · (first | exact ⟨(HD3.out.box.cells.2.2.2.2).trans (by rw [HTA.out]), ((HP.out.below HD3.out.b).kid0 HTA.out (by omega)).1, ((HP.out.below HD3.out.b).kid0 HTA.out (by omega)).2.1, ((HP.out.below HD3.out.b).kid0 HTA.out (by omega)).2.2.1, ((HP.out.below HD3.out.b).kid0 HTA.out (by omega)).2.2.2.1, ((HP.out.below HD3.out.b).kid0 HTA.out (by omega)).2.2.2.2, (HP.out.below HD3.out.b).kid1 HTA.out (by omega)⟩ | exact ⟨(HD2.out.box.cells.2.2.2.2).trans (by rw [HTA.out]), ((HP.out.below HD2.out.b).kid0 HTA.out (by omega)).1, ((HP.out.below HD2.out.b).kid0 HTA.out (by omega)).2.1, ((HP.out.below HD2.out.b).kid0 HTA.out (by omega)).2.2.1, ((HP.out.below HD2.out.b).kid0 HTA.out (by omega)).2.2.2.1, ((HP.out.below HD2.out.b).kid0 HTA.out (by omega)).2.2.2.2, (HP.out.below HD2.out.b).kid1 HTA.out (by omega)⟩ | exact ⟨(HD1.out.drew.box.cells.2.2.2.2).trans (by rw [HTA.out]), ((HP.out.below HD1.out.drew.b).kid0 HTA.out (by omega)).1, ((HP.out.below HD1.out.drew.b).kid0 HTA.out (by omega)).2.1, ((HP.out.below HD1.out.drew.b).kid0 HTA.out (by omega)).2.2.1, ((HP.out.below HD1.out.drew.b).kid0 HTA.out (by omega)).2.2.2.1, ((HP.out.below HD1.out.drew.b).kid0 HTA.out (by omega)).2.2.2.2, (HP.out.below HD1.out.drew.b).kid1 HTA.out (by omega)⟩)
  clear hK K
  (try simp only [Act.put, List.setIfInBounds_toArray, List.set_cons_zero, List.set_cons_succ])
  refine take_w (i := 10) (oi := ?oZ11) (v := ?vZ11) ?hiZ11 (by kernel_rfl) (by kernel_rfl) (by kernel_rfl) ?hQZ11 ?hwZ11 ?hyZ11 (by assumption) ?restZ11
  case hiZ11 => (simp only [List.getElem?_toArray, List.getElem?_cons_succ, List.getElem?_cons_zero] <;> rfl)
  case hQZ11 => exact (fun _ _ _ h => h)
  case hwZ11 => rfl
  case hyZ11 => (intro w hSw; (try dsimp only at hSw); go_simp; try with_reducible rfl)
  (try simp only [Act.put, List.setIfInBounds_toArray, List.set_cons_zero, List.set_cons_succ])
  refine take_w (i := 11) (oi := ?oZ12) (v := ?vZ12) ?hiZ12 (by kernel_rfl) (by kernel_rfl) (by kernel_rfl) ?hQZ12 ?hwZ12 ?hyZ12 (by assumption) ?restZ12
  case hiZ12 => (simp only [List.getElem?_toArray, List.getElem?_cons_succ, List.getElem?_cons_zero] <;> rfl)
  case hQZ12 => exact (fun _ _ _ h => h)
  case hwZ12 => rfl
  case hyZ12 => (intro w hSw; (try dsimp only at hSw); go_simp; try with_reducible rfl)
  (try simp only [Act.put, List.setIfInBounds_toArray, List.set_cons_zero, List.set_cons_succ])
  refine wpAnyH_done (by kernel_rfl) ?_ _
  
  go_wp2_with fail
  go_ret
  refine ⟨?_, HD3.out.b⟩
  have e : IntKind.i64.wrap ((a.depth : Int) - (b.depth : Int)) = (a.depth : Int) - (b.depth : Int) := IntWalk.i64_in _ (by omega)
  exact congrArg (fun z => Ending.returned (Value.int .i64 z)) e

set_option maxRecDepth 100000 in
set_option maxHeartbeats 4000000 in
theorem refRight_any (ll : AT) (lk lv : List Int) (lr : AT) (k v : List Int) (r : AT) (h : TH) (w : World) (ht : InTree w h (AT.node (AT.node ll lk lv lr) k v r).tr) :
    Calls Tryd.prog 95 #[h.v] w (Tells w (AT.node ll lk lv (AT.node lr k v r))) := by
  unfold TH.v
  obtain ⟨H, hp⟩ := ht.parts
  have l0 : 0 < (AT.node (AT.node ll lk lv lr) k v r).tr.kids.length := by rw [AT.tr_kids]; simp
  have l1 : 1 < (AT.node (AT.node ll lk lv lr) k v r).tr.kids.length := by rw [AT.tr_kids]; simp
  have m0 : 0 < (AT.node ll lk lv lr).tr.kids.length := by rw [AT.tr_kids]; simp
  have m1 : 1 < (AT.node ll lk lv lr).tr.kids.length := by rw [AT.tr_kids]; simp
  have hkt : InTree w (H 0) (AT.node ll lk lv lr).tr := hp.kids 0 l0
  obtain ⟨HH, hq⟩ := hkt.parts
  have ht1 : (1 : Int) < (h.tn : Int) := by have h2 : h.tn = 2 := hp.len.symm; omega
  have ht0 : 0 < h.tn := by omega
  have hs1 : (1 : Int) < ((H 0).tn : Int) := by have h2 : (H 0).tn = 2 := hq.len.symm; omega
  have hs0 : 0 < (H 0).tn := by omega
  have HP := Lib.hid hp
  have HQ := Lib.hid hq
  obtain ⟨g, off, hta, -, -⟩ := hp.place (by omega)
  obtain ⟨g', off', htk, -, -⟩ := hq.place (by omega)
  have HTA := Lib.hid hta
  have HTK := Lib.hid htk
  obtain ⟨e1, e2, e3, e4⟩ := enter2 w h
  clear hp ht hkt hq hta htk
  go_enter Tryd.func95, Tryd.ntmps95
  go_upto_region 1 with fail
  generalize ((w.alloc (.cells #[.int .i64 h.k, .slice h.ka h.kn h.kc, .slice h.va h.vn h.vc, .slice h.da h.dn h.dc, .slice h.ta h.tn h.tc] 27)).alloc (.cells #[.int .i64 0, .slice none 0 0, .slice none 0 0, .slice none 0 0, .slice none 0 0] 27)) = w0 at *
  have HE := Lib.hid (And.intro e1 (And.intro e2 e3))
  have HE4 := Lib.hid e4
  have x4 := (e1.cells.2.2.2.2).trans (by rw [HTA.out])
  obtain ⟨k0, k1, k2, k3, k4⟩ := (HP.out.below e3).kid0 HTA.out (by omega)
  clear e1 e2 e3 e4
  rw [HTA.out]
  go_upto_region 2 with fail
  clear x4 k0 k1 k2 k3 k4
  have hb1 : Below w0.heap.size w0 (w0.alloc (.cells #[.int .i64 (H 0).k, .slice (H 0).ka (H 0).kn (H 0).kc, .slice (H 0).va (H 0).vn (H 0).vc, .slice (H 0).da (H 0).dn (H 0).dc, .slice (H 0).ta (H 0).tn (H 0).tc] 27)) := (Below.refl _ _).alloc (Nat.le_refl _) _
  have hbx1 := Box.new w0 27 (H 0)
  rw [HE4.out] at hbx1
  have hr1 : RX w (w0.alloc (.cells #[.int .i64 (H 0).k, .slice (H 0).ka (H 0).kn (H 0).kc, .slice (H 0).va (H 0).vn (H 0).vc, .slice (H 0).da (H 0).dn (H 0).dc, .slice (H 0).ta (H 0).tn (H 0).tc] 27)) h (H 0) := ⟨HE.out.1.below hb1 HE.out.1.lt, HE.out.2.1.below hb1 HE.out.2.1.lt, hbx1, HE.out.2.2.trans (hb1.mono HE.out.2.2.size)⟩
  rw [HTK.out, HE4.out]
  rw [HTK.out] at hr1
  generalize hw1 : w0.alloc (.cells #[.int .i64 (H 0).k, .slice (H 0).ka (H 0).kn (H 0).kc, .slice (H 0).va (H 0).vn (H 0).vc, .slice (H 0).da (H 0).dn (H 0).dc, .slice (some ⟨g', off', none⟩) (H 0).tn (H 0).tc] 27) = w1 at *
  have HR1 := Lib.hid hr1
  clear hb1 hbx1 hr1 hw1
  refine wp_region_held_drew (S := (fun W => W.cell? ⟨w.heap.size, 1, none⟩ = some (.slice h.ka h.kn h.kc) ∧ W.cell? ⟨w.heap.size, 2, none⟩ = some (.slice h.va h.vn h.vc) ∧ W.cell? ⟨w.heap.size, 4, none⟩ = some (.slice (some ⟨g, off, none⟩) h.tn h.tc) ∧ W.cell? ⟨w.heap.size + 2, 1, none⟩ = some (.slice (H 0).ka (H 0).kn (H 0).kc) ∧ W.cell? ⟨w.heap.size + 2, 2, none⟩ = some (.slice (H 0).va (H 0).vn (H 0).vc) ∧ W.cell? ⟨w.heap.size + 2, 4, none⟩ = some (.slice (some ⟨g', off', none⟩) (H 0).tn (H 0).tc) ∧ (W.cell? ⟨g, off + 5, none⟩ = some (.int .i64 (H 1).k) ∧ W.cell? ⟨g, off + 5 + 1, none⟩ = some (.slice (H 1).ka (H 1).kn (H 1).kc) ∧ W.cell? ⟨g, off + 5 + 2, none⟩ = some (.slice (H 1).va (H 1).vn (H 1).vc) ∧ W.cell? ⟨g, off + 5 + 3, none⟩ = some (.slice (H 1).da (H 1).dn (H 1).dc) ∧ W.cell? ⟨g, off + 5 + 4, none⟩ = some (.slice (H 1).ta (H 1).tn (H 1).tc)) ∧ (W.cell? ⟨g', off', none⟩ = some (.int .i64 (HH 0).k) ∧ W.cell? ⟨g', off' + 1, none⟩ = some (.slice (HH 0).ka (HH 0).kn (HH 0).kc) ∧ W.cell? ⟨g', off' + 2, none⟩ = some (.slice (HH 0).va (HH 0).vn (HH 0).vc) ∧ W.cell? ⟨g', off' + 3, none⟩ = some (.slice (HH 0).da (HH 0).dn (HH 0).dc) ∧ W.cell? ⟨g', off' + 4, none⟩ = some (.slice (HH 0).ta (HH 0).tn (HH 0).tc)) ∧ (W.cell? ⟨g', off' + 5, none⟩ = some (.int .i64 (HH 1).k) ∧ W.cell? ⟨g', off' + 5 + 1, none⟩ = some (.slice (HH 1).ka (HH 1).kn (HH 1).kc) ∧ W.cell? ⟨g', off' + 5 + 2, none⟩ = some (.slice (HH 1).va (HH 1).vn (HH 1).vc) ∧ W.cell? ⟨g', off' + 5 + 3, none⟩ = some (.slice (HH 1).da (HH 1).dn (HH 1).dc) ∧ W.cell? ⟨g', off' + 5 + 4, none⟩ = some (.slice (HH 1).ta (HH 1).tn (HH 1).tc)))) (by kernel_rfl) ⟨HR1.out.drew.box.cells.2.1, HR1.out.drew.box.cells.2.2.1, (HR1.out.drew.box.cells.2.2.2.2).trans (by rw [HTA.out]), HR1.out.drew.kb.cells.2.1, HR1.out.drew.kb.cells.2.2.1, (HR1.out.drew.kb.cells.2.2.2.2).trans (by rw [HTK.out]), (HP.out.below HR1.out.drew.b).kid1 HTA.out (by omega), (HQ.out.below HR1.out.drew.b).kid0 HTK.out (by omega), (HQ.out.below HR1.out.drew.b).kid1 HTK.out (by omega)⟩ (fun hHeld => ?_)
  refine take_w (i := 0) (oi := ?oZ13) (v := ?vZ13) ?hiZ13 (by kernel_rfl) (by kernel_rfl) (by kernel_rfl) ?hQZ13 ?hwZ13 ?hyZ13 (by assumption) ?restZ13
  case hiZ13 => (simp only [List.getElem?_toArray, List.getElem?_cons_zero] <;> rfl)
  case hQZ13 => exact (fun _ _ _ h => h)
  case hwZ13 => rfl
  case hyZ13 => (intro w hSw; (try dsimp only at hSw); go_simp; try with_reducible rfl)
  (try simp only [Act.put, List.setIfInBounds_toArray, List.set_cons_zero, List.set_cons_succ])
  refine take_w (i := 1) (oi := ?oZ14) (v := ?vZ14) ?hiZ14 (by kernel_rfl) (by kernel_rfl) (by kernel_rfl) ?hQZ14 ?hwZ14 ?hyZ14 (by assumption) ?restZ14
  case hiZ14 => (simp only [List.getElem?_toArray, List.getElem?_cons_succ, List.getElem?_cons_zero] <;> rfl)
  case hQZ14 => exact (fun _ _ _ h => h)
  case hwZ14 => rfl
  case hyZ14 => (intro w hSw; (try dsimp only at hSw); go_simp; try with_reducible rfl)
  (try simp only [Act.put, List.setIfInBounds_toArray, List.set_cons_zero, List.set_cons_succ])
  refine take_w (i := 2) (oi := ?oZ15) (v := ?vZ15) ?hiZ15 (by kernel_rfl) (by kernel_rfl) (by kernel_rfl) ?hQZ15 ?hwZ15 ?hyZ15 (by assumption) ?restZ15
  case hiZ15 => (simp only [List.getElem?_toArray, List.getElem?_cons_succ, List.getElem?_cons_zero] <;> rfl)
  case hQZ15 => exact (fun _ _ _ h => h)
  case hwZ15 => rfl
  case hyZ15 => (intro w hSw; (try dsimp only at hSw); go_simp; try with_reducible rfl)
  (try simp only [Act.put, List.setIfInBounds_toArray, List.set_cons_zero, List.set_cons_succ])
  refine take_w (i := 3) (oi := ?oZ16) (v := ?vZ16) ?hiZ16 (by kernel_rfl) (by kernel_rfl) (by kernel_rfl) ?hQZ16 ?hwZ16 ?hyZ16 (by assumption) ?restZ16
  case hiZ16 => (simp only [List.getElem?_toArray, List.getElem?_cons_succ, List.getElem?_cons_zero] <;> rfl)
  case hQZ16 => exact (fun _ _ _ h => h)
  case hwZ16 => rfl
  case hyZ16 => (intro w hSw; (try dsimp only at hSw); go_simp; try with_reducible rfl)
  (try simp only [Act.put, List.setIfInBounds_toArray, List.set_cons_zero, List.set_cons_succ])
  refine take_w (i := 4) (oi := ?oZ17) (v := ?vZ17) ?hiZ17 (by kernel_rfl) (by kernel_rfl) (by kernel_rfl) ?hQZ17 ?hwZ17 ?hyZ17 (by assumption) ?restZ17
  case hiZ17 => (simp only [List.getElem?_toArray, List.getElem?_cons_succ, List.getElem?_cons_zero] <;> rfl)
  case hQZ17 => exact (fun _ _ _ h => h)
  case hwZ17 => rfl
  case hyZ17 => (intro w hSw; (try dsimp only at hSw); go_simp; try with_reducible rfl)
  (try simp only [Act.put, List.setIfInBounds_toArray, List.set_cons_zero, List.set_cons_succ])
  refine take_w (i := 5) (oi := ?oZ18) (v := ?vZ18) ?hiZ18 (by kernel_rfl) (by kernel_rfl) (by kernel_rfl) ?hQZ18 ?hwZ18 ?hyZ18 (by assumption) ?restZ18
  case hiZ18 => (simp only [List.getElem?_toArray, List.getElem?_cons_succ, List.getElem?_cons_zero] <;> rfl)
  case hQZ18 => exact (fun _ _ _ h => h)
  case hwZ18 => rfl
  case hyZ18 => (intro w hSw; (try dsimp only at hSw); go_simp; try with_reducible rfl)
  (try simp only [Act.put, List.setIfInBounds_toArray, List.set_cons_zero, List.set_cons_succ])
  refine take_w (i := 6) (oi := ?oZ19) (v := ?vZ19) ?hiZ19 (by kernel_rfl) (by kernel_rfl) (by kernel_rfl) ?hQZ19 ?hwZ19 ?hyZ19 (by assumption) ?restZ19
  case hiZ19 => (simp only [List.getElem?_toArray, List.getElem?_cons_succ, List.getElem?_cons_zero] <;> rfl)
  case hQZ19 => exact (fun _ _ _ h => h)
  case hwZ19 => rfl
  case hyZ19 => (intro w hSw; (try dsimp only at hSw); go_simp; try with_reducible rfl)
  (try simp only [Act.put, List.setIfInBounds_toArray, List.set_cons_zero, List.set_cons_succ])
  refine take_w (i := 7) (oi := ?oZ20) (v := ?vZ20) ?hiZ20 (by kernel_rfl) (by kernel_rfl) (by kernel_rfl) ?hQZ20 ?hwZ20 ?hyZ20 (by assumption) ?restZ20
  case hiZ20 => (simp only [List.getElem?_toArray, List.getElem?_cons_succ, List.getElem?_cons_zero] <;> rfl)
  case hQZ20 => exact (fun _ _ _ h => h)
  case hwZ20 => rfl
  case hyZ20 => (intro w hSw; (try dsimp only at hSw); go_simp; try with_reducible rfl)
  (try simp only [Act.put, List.setIfInBounds_toArray, List.set_cons_zero, List.set_cons_succ])
  refine take_w (i := 8) (oi := ?oZ21) (v := ?vZ21) ?hiZ21 (by kernel_rfl) (by kernel_rfl) (by kernel_rfl) ?hQZ21 ?hwZ21 ?hyZ21 (by assumption) ?restZ21
  case hiZ21 => (simp only [List.getElem?_toArray, List.getElem?_cons_succ, List.getElem?_cons_zero] <;> rfl)
  case hQZ21 => exact (fun _ _ _ h => h)
  case hwZ21 => rfl
  case hyZ21 => (intro w hSw; (try dsimp only at hSw); go_simp; try with_reducible rfl)
  (try simp only [Act.put, List.setIfInBounds_toArray, List.set_cons_zero, List.set_cons_succ])
  refine take_w (i := 9) (oi := ?oZ22) (v := ?vZ22) ?hiZ22 (by kernel_rfl) (by kernel_rfl) (by kernel_rfl) ?hQZ22 ?hwZ22 ?hyZ22 (by assumption) ?restZ22
  case hiZ22 => (simp only [List.getElem?_toArray, List.getElem?_cons_succ, List.getElem?_cons_zero] <;> rfl)
  case hQZ22 => exact (fun _ _ _ h => h)
  case hwZ22 => rfl
  case hyZ22 => (intro w hSw; (try dsimp only at hSw); go_simp; try with_reducible rfl)
  (try simp only [Act.put, List.setIfInBounds_toArray, List.set_cons_zero, List.set_cons_succ])
  refine take_w (i := 10) (oi := ?oZ23) (v := ?vZ23) ?hiZ23 (by kernel_rfl) (by kernel_rfl) (by kernel_rfl) ?hQZ23 ?hwZ23 ?hyZ23 (by assumption) ?restZ23
  case hiZ23 => (simp only [List.getElem?_toArray, List.getElem?_cons_succ, List.getElem?_cons_zero] <;> rfl)
  case hQZ23 => exact (fun _ _ _ h => h)
  case hwZ23 => rfl
  case hyZ23 => (intro w hSw; (try dsimp only at hSw); go_simp; try with_reducible rfl)
  (try simp only [Act.put, List.setIfInBounds_toArray, List.set_cons_zero, List.set_cons_succ])
  refine take_w (i := 11) (oi := ?oZ24) (v := ?vZ24) ?hiZ24 (by kernel_rfl) (by kernel_rfl) (by kernel_rfl) ?hQZ24 ?hwZ24 ?hyZ24 (by assumption) ?restZ24
  case hiZ24 => (simp only [List.getElem?_toArray, List.getElem?_cons_succ, List.getElem?_cons_zero] <;> rfl)
  case hQZ24 => exact (fun _ _ _ h => h)
  case hwZ24 => rfl
  case hyZ24 => (intro w hSw; (try dsimp only at hSw); go_simp; try with_reducible rfl)
  (try simp only [Act.put, List.setIfInBounds_toArray, List.set_cons_zero, List.set_cons_succ])
  refine take_w (i := 12) (oi := ?oZ25) (v := ?vZ25) ?hiZ25 (by kernel_rfl) (by kernel_rfl) (by kernel_rfl) ?hQZ25 ?hwZ25 ?hyZ25 (by assumption) ?restZ25
  case hiZ25 => (simp only [List.getElem?_toArray, List.getElem?_cons_succ, List.getElem?_cons_zero] <;> rfl)
  case hQZ25 => exact (fun _ _ _ h => h)
  case hwZ25 => rfl
  case hyZ25 => (intro w hSw; (try dsimp only at hSw); go_simp; try with_reducible rfl)
  (try simp only [Act.put, List.setIfInBounds_toArray, List.set_cons_zero, List.set_cons_succ])
  refine take_w (i := 13) (oi := ?oZ26) (v := ?vZ26) ?hiZ26 (by kernel_rfl) (by kernel_rfl) (by kernel_rfl) ?hQZ26 ?hwZ26 ?hyZ26 (by assumption) ?restZ26
  case hiZ26 => (simp only [List.getElem?_toArray, List.getElem?_cons_succ, List.getElem?_cons_zero] <;> rfl)
  case hQZ26 => exact (fun _ _ _ h => h)
  case hwZ26 => rfl
  case hyZ26 => (intro w hSw; (try dsimp only at hSw); go_simp; try with_reducible rfl)
  (try simp only [Act.put, List.setIfInBounds_toArray, List.set_cons_zero, List.set_cons_succ])
  refine take_w (i := 14) (oi := ?oZ27) (v := ?vZ27) ?hiZ27 (by kernel_rfl) (by kernel_rfl) (by kernel_rfl) ?hQZ27 ?hwZ27 ?hyZ27 (by assumption) ?restZ27
  case hiZ27 => (simp only [List.getElem?_toArray, List.getElem?_cons_succ, List.getElem?_cons_zero] <;> rfl)
  case hQZ27 => exact (fun _ _ _ h => h)
  case hwZ27 => rfl
  case hyZ27 => (intro w hSw; (try dsimp only at hSw); go_simp; try with_reducible rfl)
  (try simp only [Act.put, List.setIfInBounds_toArray, List.set_cons_zero, List.set_cons_succ])
  refine take_w (i := 15) (oi := ?oZ28) (v := ?vZ28) ?hiZ28 (by kernel_rfl) (by kernel_rfl) (by kernel_rfl) ?hQZ28 ?hwZ28 ?hyZ28 (by assumption) ?restZ28
  case hiZ28 => (simp only [List.getElem?_toArray, List.getElem?_cons_succ, List.getElem?_cons_zero] <;> rfl)
  case hQZ28 => exact (fun _ _ _ h => h)
  case hwZ28 => rfl
  case hyZ28 => (intro w hSw; (try dsimp only at hSw); go_simp; try with_reducible rfl)
  (try simp only [Act.put, List.setIfInBounds_toArray, List.set_cons_zero, List.set_cons_succ])
  refine take_w (i := 16) (oi := ?oZ29) (v := ?vZ29) ?hiZ29 (by kernel_rfl) (by kernel_rfl) (by kernel_rfl) ?hQZ29 ?hwZ29 ?hyZ29 (by assumption) ?restZ29
  case hiZ29 => (simp only [List.getElem?_toArray, List.getElem?_cons_succ, List.getElem?_cons_zero] <;> rfl)
  case hQZ29 => exact (fun _ _ _ h => h)
  case hwZ29 => rfl
  case hyZ29 => (intro w hSw; (try dsimp only at hSw); go_simp; try with_reducible rfl)
  (try simp only [Act.put, List.setIfInBounds_toArray, List.set_cons_zero, List.set_cons_succ])
  refine take_w (i := 17) (oi := ?oZ30) (v := ?vZ30) ?hiZ30 (by kernel_rfl) (by kernel_rfl) (by kernel_rfl) ?hQZ30 ?hwZ30 ?hyZ30 (by assumption) ?restZ30
  case hiZ30 => (simp only [List.getElem?_toArray, List.getElem?_cons_succ, List.getElem?_cons_zero] <;> rfl)
  case hQZ30 => exact (fun _ _ _ h => h)
  case hwZ30 => rfl
  case hyZ30 => (intro w hSw; (try dsimp only at hSw); go_simp; try with_reducible rfl)
  (try simp only [Act.put, List.setIfInBounds_toArray, List.set_cons_zero, List.set_cons_succ])
  refine take_w (i := 18) (oi := ?oZ31) (v := ?vZ31) ?hiZ31 (by kernel_rfl) (by kernel_rfl) (by kernel_rfl) ?hQZ31 ?hwZ31 ?hyZ31 (by assumption) ?restZ31
  case hiZ31 => (simp only [List.getElem?_toArray, List.getElem?_cons_succ, List.getElem?_cons_zero] <;> rfl)
  case hQZ31 => exact (fun _ _ _ h => h)
  case hwZ31 => rfl
  case hyZ31 => (intro w hSw; (try dsimp only at hSw); go_simp; try with_reducible rfl)
  (try simp only [Act.put, List.setIfInBounds_toArray, List.set_cons_zero, List.set_cons_succ])
  refine take_w (i := 19) (oi := ?oZ32) (v := ?vZ32) ?hiZ32 (by kernel_rfl) (by kernel_rfl) (by kernel_rfl) ?hQZ32 ?hwZ32 ?hyZ32 (by assumption) ?restZ32
  case hiZ32 => (simp only [List.getElem?_toArray, List.getElem?_cons_succ, List.getElem?_cons_zero] <;> rfl)
  case hQZ32 => exact (fun _ _ _ h => h)
  case hwZ32 => rfl
  case hyZ32 => (intro w hSw; (try dsimp only at hSw); go_simp; try with_reducible rfl)
  (try simp only [Act.put, List.setIfInBounds_toArray, List.set_cons_zero, List.set_cons_succ])
  refine wpAnyH_ready (rs := [20]) (by kernel_rfl) (by simp) ?_
  refine AllReadyH.cons (o := ?oZ33) ?hiZ33 (fun K hK => ?stZ33) AllReadyH.nil
  case hiZ33 => (simp only [List.getElem?_toArray, List.getElem?_cons_succ, List.getElem?_cons_zero] <;> rfl)
  go_simp
  go_at_call 72
  refine (refNode_any lr r (HH 1) (H 1) h.ka h.va h.kn h.kc h.vn h.vc k v _ ((HQ.out.below HR1.out.drew.b).kids 1 m1) ((HP.out.below HR1.out.drew.b).kids 1 l1) (HP.out.below HR1.out.drew.b).key (HP.out.below HR1.out.drew.b).val).mono ?_
  rintro _ w2 ⟨h2, rfl, hi2, hb2⟩
  unfold TH.v
  have HR2 := Lib.hid (HR1.out.drew.below hb2)
  have HI2 := Lib.hid hi2
  clear hi2 hb2
  go_simp
  refine hK.out _ _ ?_ (fun hHeld => ?_)
  · (first | exact ⟨HRX4.out.1.cells.2.1, HRX4.out.1.cells.2.2.1, (HRX4.out.1.cells.2.2.2.2).trans (by rw [HTA.out]), HRX4.out.2.cells.2.1, HRX4.out.2.cells.2.2.1, (HRX4.out.2.cells.2.2.2.2).trans (by rw [HTK.out]), (HP.out.below HB4.out).kid1 HTA.out (by omega), (HQ.out.below HB4.out).kid0 HTK.out (by omega), (HQ.out.below HB4.out).kid1 HTK.out (by omega)⟩ | exact ⟨HR3.out.box.cells.2.1, HR3.out.box.cells.2.2.1, (HR3.out.box.cells.2.2.2.2).trans (by rw [HTA.out]), HR3.out.kb.cells.2.1, HR3.out.kb.cells.2.2.1, (HR3.out.kb.cells.2.2.2.2).trans (by rw [HTK.out]), (HP.out.below HR3.out.b).kid1 HTA.out (by omega), (HQ.out.below HR3.out.b).kid0 HTK.out (by omega), (HQ.out.below HR3.out.b).kid1 HTK.out (by omega)⟩ | exact ⟨HR2.out.box.cells.2.1, HR2.out.box.cells.2.2.1, (HR2.out.box.cells.2.2.2.2).trans (by rw [HTA.out]), HR2.out.kb.cells.2.1, HR2.out.kb.cells.2.2.1, (HR2.out.kb.cells.2.2.2.2).trans (by rw [HTK.out]), (HP.out.below HR2.out.b).kid1 HTA.out (by omega), (HQ.out.below HR2.out.b).kid0 HTK.out (by omega), (HQ.out.below HR2.out.b).kid1 HTK.out (by omega)⟩ | exact ⟨HR1.out.drew.box.cells.2.1, HR1.out.drew.box.cells.2.2.1, (HR1.out.drew.box.cells.2.2.2.2).trans (by rw [HTA.out]), HR1.out.drew.kb.cells.2.1, HR1.out.drew.kb.cells.2.2.1, (HR1.out.drew.kb.cells.2.2.2.2).trans (by rw [HTK.out]), (HP.out.below HR1.out.drew.b).kid1 HTA.out (by omega), (HQ.out.below HR1.out.drew.b).kid0 HTK.out (by omega), (HQ.out.below HR1.out.drew.b).kid1 HTK.out (by omega)⟩)
  clear hK K
  (try simp only [Act.put, List.setIfInBounds_toArray, List.set_cons_zero, List.set_cons_succ])
  refine wpAnyH_ready (rs := [21]) (by kernel_rfl) (by simp) ?_
  refine AllReadyH.cons (o := ?oZ34) ?hiZ34 (fun K hK => ?stZ34) AllReadyH.nil
  case hiZ34 => (simp only [List.getElem?_toArray, List.getElem?_cons_succ, List.getElem?_cons_zero] <;> rfl)
  go_simp
  go_at_call 72
  refine (refNode_any ll (AT.node lr k v r) (HH 0) h2 (H 0).ka (H 0).va (H 0).kn (H 0).kc (H 0).vn (H 0).vc lk lv _ ((HQ.out.below HR2.out.b).kids 0 m0) HI2.out (HQ.out.below HR2.out.b).key (HQ.out.below HR2.out.b).val).mono ?_
  rintro _ w3 ⟨h3, rfl, hi3, hb3⟩
  unfold TH.v
  have HR3 := Lib.hid (HR2.out.below hb3)
  have HI3 := Lib.hid hi3
  clear hi3 hb3
  go_simp
  refine hK.out _ _ ?_ (fun hHeld => ?_)
  · (first | exact ⟨HRX4.out.1.cells.2.1, HRX4.out.1.cells.2.2.1, (HRX4.out.1.cells.2.2.2.2).trans (by rw [HTA.out]), HRX4.out.2.cells.2.1, HRX4.out.2.cells.2.2.1, (HRX4.out.2.cells.2.2.2.2).trans (by rw [HTK.out]), (HP.out.below HB4.out).kid1 HTA.out (by omega), (HQ.out.below HB4.out).kid0 HTK.out (by omega), (HQ.out.below HB4.out).kid1 HTK.out (by omega)⟩ | exact ⟨HR3.out.box.cells.2.1, HR3.out.box.cells.2.2.1, (HR3.out.box.cells.2.2.2.2).trans (by rw [HTA.out]), HR3.out.kb.cells.2.1, HR3.out.kb.cells.2.2.1, (HR3.out.kb.cells.2.2.2.2).trans (by rw [HTK.out]), (HP.out.below HR3.out.b).kid1 HTA.out (by omega), (HQ.out.below HR3.out.b).kid0 HTK.out (by omega), (HQ.out.below HR3.out.b).kid1 HTK.out (by omega)⟩ | exact ⟨HR2.out.box.cells.2.1, HR2.out.box.cells.2.2.1, (HR2.out.box.cells.2.2.2.2).trans (by rw [HTA.out]), HR2.out.kb.cells.2.1, HR2.out.kb.cells.2.2.1, (HR2.out.kb.cells.2.2.2.2).trans (by rw [HTK.out]), (HP.out.below HR2.out.b).kid1 HTA.out (by omega), (HQ.out.below HR2.out.b).kid0 HTK.out (by omega), (HQ.out.below HR2.out.b).kid1 HTK.out (by omega)⟩ | exact ⟨HR1.out.drew.box.cells.2.1, HR1.out.drew.box.cells.2.2.1, (HR1.out.drew.box.cells.2.2.2.2).trans (by rw [HTA.out]), HR1.out.drew.kb.cells.2.1, HR1.out.drew.kb.cells.2.2.1, (HR1.out.drew.kb.cells.2.2.2.2).trans (by rw [HTK.out]), (HP.out.below HR1.out.drew.b).kid1 HTA.out (by omega), (HQ.out.below HR1.out.drew.b).kid0 HTK.out (by omega), (HQ.out.below HR1.out.drew.b).kid1 HTK.out (by omega)⟩)
  clear hK K
  (try simp only [Act.put, List.setIfInBounds_toArray, List.set_cons_zero, List.set_cons_succ])
  refine wpAnyH_ready (rs := [22]) (by kernel_rfl) (by simp) ?_
  refine AllReadyH.cons (o := ?oZ35) ?hiZ35 (fun K hK => ?stZ35) AllReadyH.nil
  case hiZ35 => (simp only [List.getElem?_toArray, List.getElem?_cons_succ, List.getElem?_cons_zero] <;> rfl)
  refine step_store_box rfl 27 (.tmp 2) (.tmp 29) rfl (w.heap.size + 1) hZ h3 rfl rfl 27 HR3.out.res infoTree5 ?_
  intro w4 hbx4 hg4
  have HX4 := Lib.hid hbx4
  have HI4 := Lib.hid (AT.outBox HR3.out.res hg4 _ _ HI3.out)
  have HB4 : Hid (Below w.heap.size w w4) := Lib.hid (HR3.out.b.grown hg4 HR3.out.b.size (fun j hj => by injection hj; omega))
  have HRX4 : Hid (Box w4 27 w.heap.size h ∧ Box w4 27 (w.heap.size + 2) (H 0)) := Lib.hid ⟨HR3.out.box.grown hg4 (fun q => by injection q; omega), HR3.out.kb.grown hg4 (fun q => by injection q; omega)⟩
  clear hbx4 hg4
  refine hK.out _ _ ?_ (fun hHeld => ?_)
  · (first | exact ⟨HRX4.out.1.cells.2.1, HRX4.out.1.cells.2.2.1, (HRX4.out.1.cells.2.2.2.2).trans (by rw [HTA.out]), HRX4.out.2.cells.2.1, HRX4.out.2.cells.2.2.1, (HRX4.out.2.cells.2.2.2.2).trans (by rw [HTK.out]), (HP.out.below HB4.out).kid1 HTA.out (by omega), (HQ.out.below HB4.out).kid0 HTK.out (by omega), (HQ.out.below HB4.out).kid1 HTK.out (by omega)⟩ | exact ⟨HR3.out.box.cells.2.1, HR3.out.box.cells.2.2.1, (HR3.out.box.cells.2.2.2.2).trans (by rw [HTA.out]), HR3.out.kb.cells.2.1, HR3.out.kb.cells.2.2.1, (HR3.out.kb.cells.2.2.2.2).trans (by rw [HTK.out]), (HP.out.below HR3.out.b).kid1 HTA.out (by omega), (HQ.out.below HR3.out.b).kid0 HTK.out (by omega), (HQ.out.below HR3.out.b).kid1 HTK.out (by omega)⟩ | exact ⟨HR2.out.box.cells.2.1, HR2.out.box.cells.2.2.1, (HR2.out.box.cells.2.2.2.2).trans (by rw [HTA.out]), HR2.out.kb.cells.2.1, HR2.out.kb.cells.2.2.1, (HR2.out.kb.cells.2.2.2.2).trans (by rw [HTK.out]), (HP.out.below HR2.out.b).kid1 HTA.out (by omega), (HQ.out.below HR2.out.b).kid0 HTK.out (by omega), (HQ.out.below HR2.out.b).kid1 HTK.out (by omega)⟩ | exact ⟨HR1.out.drew.box.cells.2.1, HR1.out.drew.box.cells.2.2.1, (HR1.out.drew.box.cells.2.2.2.2).trans (by rw [HTA.out]), HR1.out.drew.kb.cells.2.1, HR1.out.drew.kb.cells.2.2.1, (HR1.out.drew.kb.cells.2.2.2.2).trans (by rw [HTK.out]), (HP.out.below HR1.out.drew.b).kid1 HTA.out (by omega), (HQ.out.below HR1.out.drew.b).kid0 HTK.out (by omega), (HQ.out.below HR1.out.drew.b).kid1 HTK.out (by omega)⟩)
  clear hK K
  (try simp only [Act.put])
  refine wpAnyH_done (by kernel_rfl) ?_ _
  
  go_wp2_with fail
  exact bodyPost_ret (v := h3.v) (result_tree Tryd.results95 _ HX4.out rfl Tryd.underlying27 infoTree5) rfl ⟨_, rfl, HI4.out, HB4.out⟩

set_option maxRecDepth 100000 in
set_option maxHeartbeats 4000000 in
theorem refLeft_any (l : AT) (k v : List Int) (rl : AT) (rk rv : List Int) (rr : AT) (h : TH) (w : World) (ht : InTree w h (AT.node l k v (AT.node rl rk rv rr)).tr) :
    Calls Tryd.prog 94 #[h.v] w (Tells w (AT.node (AT.node l k v rl) rk rv rr)) := by
  unfold TH.v
  obtain ⟨H, hp⟩ := ht.parts
  have l0 : 0 < (AT.node l k v (AT.node rl rk rv rr)).tr.kids.length := by rw [AT.tr_kids]; simp
  have l1 : 1 < (AT.node l k v (AT.node rl rk rv rr)).tr.kids.length := by rw [AT.tr_kids]; simp
  have m0 : 0 < (AT.node rl rk rv rr).tr.kids.length := by rw [AT.tr_kids]; simp
  have m1 : 1 < (AT.node rl rk rv rr).tr.kids.length := by rw [AT.tr_kids]; simp
  have hkt : InTree w (H 1) (AT.node rl rk rv rr).tr := hp.kids 1 l1
  obtain ⟨HH, hq⟩ := hkt.parts
  have ht1 : (1 : Int) < (h.tn : Int) := by have h2 : h.tn = 2 := hp.len.symm; omega
  have ht0 : 0 < h.tn := by omega
  have hs1 : (1 : Int) < ((H 1).tn : Int) := by have h2 : (H 1).tn = 2 := hq.len.symm; omega
  have hs0 : 0 < (H 1).tn := by omega
  have HP := Lib.hid hp
  have HQ := Lib.hid hq
  obtain ⟨g, off, hta, -, -⟩ := hp.place (by omega)
  obtain ⟨g', off', htk, -, -⟩ := hq.place (by omega)
  have HTA := Lib.hid hta
  have HTK := Lib.hid htk
  obtain ⟨e1, e2, e3, e4⟩ := enter2 w h
  clear hp ht hkt hq hta htk
  go_enter Tryd.func94, Tryd.ntmps94
  go_upto_region 1 with fail
  generalize ((w.alloc (.cells #[.int .i64 h.k, .slice h.ka h.kn h.kc, .slice h.va h.vn h.vc, .slice h.da h.dn h.dc, .slice h.ta h.tn h.tc] 27)).alloc (.cells #[.int .i64 0, .slice none 0 0, .slice none 0 0, .slice none 0 0, .slice none 0 0] 27)) = w0 at *
  have HE := Lib.hid (And.intro e1 (And.intro e2 e3))
  have HE4 := Lib.hid e4
  have x4 := (e1.cells.2.2.2.2).trans (by rw [HTA.out])
  obtain ⟨k0, k1, k2, k3, k4⟩ := (HP.out.below e3).kid1 HTA.out (by omega)
  clear e1 e2 e3 e4
  rw [HTA.out]
  go_upto_region 2 with fail
  clear x4 k0 k1 k2 k3 k4
  have hb1 : Below w0.heap.size w0 (w0.alloc (.cells #[.int .i64 (H 1).k, .slice (H 1).ka (H 1).kn (H 1).kc, .slice (H 1).va (H 1).vn (H 1).vc, .slice (H 1).da (H 1).dn (H 1).dc, .slice (H 1).ta (H 1).tn (H 1).tc] 27)) := (Below.refl _ _).alloc (Nat.le_refl _) _
  have hbx1 := Box.new w0 27 (H 1)
  rw [HE4.out] at hbx1
  have hr1 : RX w (w0.alloc (.cells #[.int .i64 (H 1).k, .slice (H 1).ka (H 1).kn (H 1).kc, .slice (H 1).va (H 1).vn (H 1).vc, .slice (H 1).da (H 1).dn (H 1).dc, .slice (H 1).ta (H 1).tn (H 1).tc] 27)) h (H 1) := ⟨HE.out.1.below hb1 HE.out.1.lt, HE.out.2.1.below hb1 HE.out.2.1.lt, hbx1, HE.out.2.2.trans (hb1.mono HE.out.2.2.size)⟩
  rw [HTK.out, HE4.out]
  rw [HTK.out] at hr1
  generalize hw1 : w0.alloc (.cells #[.int .i64 (H 1).k, .slice (H 1).ka (H 1).kn (H 1).kc, .slice (H 1).va (H 1).vn (H 1).vc, .slice (H 1).da (H 1).dn (H 1).dc, .slice (some ⟨g', off', none⟩) (H 1).tn (H 1).tc] 27) = w1 at *
  have HR1 := Lib.hid hr1
  clear hb1 hbx1 hr1 hw1
  refine wp_region_held_drew (S := (fun W => W.cell? ⟨w.heap.size, 1, none⟩ = some (.slice h.ka h.kn h.kc) ∧ W.cell? ⟨w.heap.size, 2, none⟩ = some (.slice h.va h.vn h.vc) ∧ W.cell? ⟨w.heap.size, 4, none⟩ = some (.slice (some ⟨g, off, none⟩) h.tn h.tc) ∧ W.cell? ⟨w.heap.size + 2, 1, none⟩ = some (.slice (H 1).ka (H 1).kn (H 1).kc) ∧ W.cell? ⟨w.heap.size + 2, 2, none⟩ = some (.slice (H 1).va (H 1).vn (H 1).vc) ∧ W.cell? ⟨w.heap.size + 2, 4, none⟩ = some (.slice (some ⟨g', off', none⟩) (H 1).tn (H 1).tc) ∧ (W.cell? ⟨g, off, none⟩ = some (.int .i64 (H 0).k) ∧ W.cell? ⟨g, off + 1, none⟩ = some (.slice (H 0).ka (H 0).kn (H 0).kc) ∧ W.cell? ⟨g, off + 2, none⟩ = some (.slice (H 0).va (H 0).vn (H 0).vc) ∧ W.cell? ⟨g, off + 3, none⟩ = some (.slice (H 0).da (H 0).dn (H 0).dc) ∧ W.cell? ⟨g, off + 4, none⟩ = some (.slice (H 0).ta (H 0).tn (H 0).tc)) ∧ (W.cell? ⟨g', off', none⟩ = some (.int .i64 (HH 0).k) ∧ W.cell? ⟨g', off' + 1, none⟩ = some (.slice (HH 0).ka (HH 0).kn (HH 0).kc) ∧ W.cell? ⟨g', off' + 2, none⟩ = some (.slice (HH 0).va (HH 0).vn (HH 0).vc) ∧ W.cell? ⟨g', off' + 3, none⟩ = some (.slice (HH 0).da (HH 0).dn (HH 0).dc) ∧ W.cell? ⟨g', off' + 4, none⟩ = some (.slice (HH 0).ta (HH 0).tn (HH 0).tc)) ∧ (W.cell? ⟨g', off' + 5, none⟩ = some (.int .i64 (HH 1).k) ∧ W.cell? ⟨g', off' + 5 + 1, none⟩ = some (.slice (HH 1).ka (HH 1).kn (HH 1).kc) ∧ W.cell? ⟨g', off' + 5 + 2, none⟩ = some (.slice (HH 1).va (HH 1).vn (HH 1).vc) ∧ W.cell? ⟨g', off' + 5 + 3, none⟩ = some (.slice (HH 1).da (HH 1).dn (HH 1).dc) ∧ W.cell? ⟨g', off' + 5 + 4, none⟩ = some (.slice (HH 1).ta (HH 1).tn (HH 1).tc)))) (by kernel_rfl) ⟨HR1.out.drew.box.cells.2.1, HR1.out.drew.box.cells.2.2.1, (HR1.out.drew.box.cells.2.2.2.2).trans (by rw [HTA.out]), HR1.out.drew.kb.cells.2.1, HR1.out.drew.kb.cells.2.2.1, (HR1.out.drew.kb.cells.2.2.2.2).trans (by rw [HTK.out]), (HP.out.below HR1.out.drew.b).kid0 HTA.out (by omega), (HQ.out.below HR1.out.drew.b).kid0 HTK.out (by omega), (HQ.out.below HR1.out.drew.b).kid1 HTK.out (by omega)⟩ (fun hHeld => ?_)
  refine take_w (i := 0) (oi := ?oZ36) (v := ?vZ36) ?hiZ36 (by kernel_rfl) (by kernel_rfl) (by kernel_rfl) ?hQZ36 ?hwZ36 ?hyZ36 (by assumption) ?restZ36
  case hiZ36 => (simp only [List.getElem?_toArray, List.getElem?_cons_zero] <;> rfl)
  case hQZ36 => exact (fun _ _ _ h => h)
  case hwZ36 => rfl
  case hyZ36 => (intro w hSw; (try dsimp only at hSw); go_simp; try with_reducible rfl)
  (try simp only [Act.put, List.setIfInBounds_toArray, List.set_cons_zero, List.set_cons_succ])
  refine take_w (i := 1) (oi := ?oZ37) (v := ?vZ37) ?hiZ37 (by kernel_rfl) (by kernel_rfl) (by kernel_rfl) ?hQZ37 ?hwZ37 ?hyZ37 (by assumption) ?restZ37
  case hiZ37 => (simp only [List.getElem?_toArray, List.getElem?_cons_succ, List.getElem?_cons_zero] <;> rfl)
  case hQZ37 => exact (fun _ _ _ h => h)
  case hwZ37 => rfl
  case hyZ37 => (intro w hSw; (try dsimp only at hSw); go_simp; try with_reducible rfl)
  (try simp only [Act.put, List.setIfInBounds_toArray, List.set_cons_zero, List.set_cons_succ])
  refine take_w (i := 2) (oi := ?oZ38) (v := ?vZ38) ?hiZ38 (by kernel_rfl) (by kernel_rfl) (by kernel_rfl) ?hQZ38 ?hwZ38 ?hyZ38 (by assumption) ?restZ38
  case hiZ38 => (simp only [List.getElem?_toArray, List.getElem?_cons_succ, List.getElem?_cons_zero] <;> rfl)
  case hQZ38 => exact (fun _ _ _ h => h)
  case hwZ38 => rfl
  case hyZ38 => (intro w hSw; (try dsimp only at hSw); go_simp; try with_reducible rfl)
  (try simp only [Act.put, List.setIfInBounds_toArray, List.set_cons_zero, List.set_cons_succ])
  refine take_w (i := 3) (oi := ?oZ39) (v := ?vZ39) ?hiZ39 (by kernel_rfl) (by kernel_rfl) (by kernel_rfl) ?hQZ39 ?hwZ39 ?hyZ39 (by assumption) ?restZ39
  case hiZ39 => (simp only [List.getElem?_toArray, List.getElem?_cons_succ, List.getElem?_cons_zero] <;> rfl)
  case hQZ39 => exact (fun _ _ _ h => h)
  case hwZ39 => rfl
  case hyZ39 => (intro w hSw; (try dsimp only at hSw); go_simp; try with_reducible rfl)
  (try simp only [Act.put, List.setIfInBounds_toArray, List.set_cons_zero, List.set_cons_succ])
  refine take_w (i := 4) (oi := ?oZ40) (v := ?vZ40) ?hiZ40 (by kernel_rfl) (by kernel_rfl) (by kernel_rfl) ?hQZ40 ?hwZ40 ?hyZ40 (by assumption) ?restZ40
  case hiZ40 => (simp only [List.getElem?_toArray, List.getElem?_cons_succ, List.getElem?_cons_zero] <;> rfl)
  case hQZ40 => exact (fun _ _ _ h => h)
  case hwZ40 => rfl
  case hyZ40 => (intro w hSw; (try dsimp only at hSw); go_simp; try with_reducible rfl)
  (try simp only [Act.put, List.setIfInBounds_toArray, List.set_cons_zero, List.set_cons_succ])
  refine take_w (i := 5) (oi := ?oZ41) (v := ?vZ41) ?hiZ41 (by kernel_rfl) (by kernel_rfl) (by kernel_rfl) ?hQZ41 ?hwZ41 ?hyZ41 (by assumption) ?restZ41
  case hiZ41 => (simp only [List.getElem?_toArray, List.getElem?_cons_succ, List.getElem?_cons_zero] <;> rfl)
  case hQZ41 => exact (fun _ _ _ h => h)
  case hwZ41 => rfl
  case hyZ41 => (intro w hSw; (try dsimp only at hSw); go_simp; try with_reducible rfl)
  (try simp only [Act.put, List.setIfInBounds_toArray, List.set_cons_zero, List.set_cons_succ])
  refine take_w (i := 6) (oi := ?oZ42) (v := ?vZ42) ?hiZ42 (by kernel_rfl) (by kernel_rfl) (by kernel_rfl) ?hQZ42 ?hwZ42 ?hyZ42 (by assumption) ?restZ42
  case hiZ42 => (simp only [List.getElem?_toArray, List.getElem?_cons_succ, List.getElem?_cons_zero] <;> rfl)
  case hQZ42 => exact (fun _ _ _ h => h)
  case hwZ42 => rfl
  case hyZ42 => (intro w hSw; (try dsimp only at hSw); go_simp; try with_reducible rfl)
  (try simp only [Act.put, List.setIfInBounds_toArray, List.set_cons_zero, List.set_cons_succ])
  refine take_w (i := 7) (oi := ?oZ43) (v := ?vZ43) ?hiZ43 (by kernel_rfl) (by kernel_rfl) (by kernel_rfl) ?hQZ43 ?hwZ43 ?hyZ43 (by assumption) ?restZ43
  case hiZ43 => (simp only [List.getElem?_toArray, List.getElem?_cons_succ, List.getElem?_cons_zero] <;> rfl)
  case hQZ43 => exact (fun _ _ _ h => h)
  case hwZ43 => rfl
  case hyZ43 => (intro w hSw; (try dsimp only at hSw); go_simp; try with_reducible rfl)
  (try simp only [Act.put, List.setIfInBounds_toArray, List.set_cons_zero, List.set_cons_succ])
  refine take_w (i := 8) (oi := ?oZ44) (v := ?vZ44) ?hiZ44 (by kernel_rfl) (by kernel_rfl) (by kernel_rfl) ?hQZ44 ?hwZ44 ?hyZ44 (by assumption) ?restZ44
  case hiZ44 => (simp only [List.getElem?_toArray, List.getElem?_cons_succ, List.getElem?_cons_zero] <;> rfl)
  case hQZ44 => exact (fun _ _ _ h => h)
  case hwZ44 => rfl
  case hyZ44 => (intro w hSw; (try dsimp only at hSw); go_simp; try with_reducible rfl)
  (try simp only [Act.put, List.setIfInBounds_toArray, List.set_cons_zero, List.set_cons_succ])
  refine take_w (i := 9) (oi := ?oZ45) (v := ?vZ45) ?hiZ45 (by kernel_rfl) (by kernel_rfl) (by kernel_rfl) ?hQZ45 ?hwZ45 ?hyZ45 (by assumption) ?restZ45
  case hiZ45 => (simp only [List.getElem?_toArray, List.getElem?_cons_succ, List.getElem?_cons_zero] <;> rfl)
  case hQZ45 => exact (fun _ _ _ h => h)
  case hwZ45 => rfl
  case hyZ45 => (intro w hSw; (try dsimp only at hSw); go_simp; try with_reducible rfl)
  (try simp only [Act.put, List.setIfInBounds_toArray, List.set_cons_zero, List.set_cons_succ])
  refine take_w (i := 10) (oi := ?oZ46) (v := ?vZ46) ?hiZ46 (by kernel_rfl) (by kernel_rfl) (by kernel_rfl) ?hQZ46 ?hwZ46 ?hyZ46 (by assumption) ?restZ46
  case hiZ46 => (simp only [List.getElem?_toArray, List.getElem?_cons_succ, List.getElem?_cons_zero] <;> rfl)
  case hQZ46 => exact (fun _ _ _ h => h)
  case hwZ46 => rfl
  case hyZ46 => (intro w hSw; (try dsimp only at hSw); go_simp; try with_reducible rfl)
  (try simp only [Act.put, List.setIfInBounds_toArray, List.set_cons_zero, List.set_cons_succ])
  refine take_w (i := 11) (oi := ?oZ47) (v := ?vZ47) ?hiZ47 (by kernel_rfl) (by kernel_rfl) (by kernel_rfl) ?hQZ47 ?hwZ47 ?hyZ47 (by assumption) ?restZ47
  case hiZ47 => (simp only [List.getElem?_toArray, List.getElem?_cons_succ, List.getElem?_cons_zero] <;> rfl)
  case hQZ47 => exact (fun _ _ _ h => h)
  case hwZ47 => rfl
  case hyZ47 => (intro w hSw; (try dsimp only at hSw); go_simp; try with_reducible rfl)
  (try simp only [Act.put, List.setIfInBounds_toArray, List.set_cons_zero, List.set_cons_succ])
  refine take_w (i := 13) (oi := ?oZ48) (v := ?vZ48) ?hiZ48 (by kernel_rfl) (by kernel_rfl) (by kernel_rfl) ?hQZ48 ?hwZ48 ?hyZ48 (by assumption) ?restZ48
  case hiZ48 => (simp only [List.getElem?_toArray, List.getElem?_cons_succ, List.getElem?_cons_zero] <;> rfl)
  case hQZ48 => exact (fun _ _ _ h => h)
  case hwZ48 => rfl
  case hyZ48 => (intro w hSw; (try dsimp only at hSw); go_simp; try with_reducible rfl)
  (try simp only [Act.put, List.setIfInBounds_toArray, List.set_cons_zero, List.set_cons_succ])
  refine take_w (i := 14) (oi := ?oZ49) (v := ?vZ49) ?hiZ49 (by kernel_rfl) (by kernel_rfl) (by kernel_rfl) ?hQZ49 ?hwZ49 ?hyZ49 (by assumption) ?restZ49
  case hiZ49 => (simp only [List.getElem?_toArray, List.getElem?_cons_succ, List.getElem?_cons_zero] <;> rfl)
  case hQZ49 => exact (fun _ _ _ h => h)
  case hwZ49 => rfl
  case hyZ49 => (intro w hSw; (try dsimp only at hSw); go_simp; try with_reducible rfl)
  (try simp only [Act.put, List.setIfInBounds_toArray, List.set_cons_zero, List.set_cons_succ])
  refine take_w (i := 15) (oi := ?oZ50) (v := ?vZ50) ?hiZ50 (by kernel_rfl) (by kernel_rfl) (by kernel_rfl) ?hQZ50 ?hwZ50 ?hyZ50 (by assumption) ?restZ50
  case hiZ50 => (simp only [List.getElem?_toArray, List.getElem?_cons_succ, List.getElem?_cons_zero] <;> rfl)
  case hQZ50 => exact (fun _ _ _ h => h)
  case hwZ50 => rfl
  case hyZ50 => (intro w hSw; (try dsimp only at hSw); go_simp; try with_reducible rfl)
  (try simp only [Act.put, List.setIfInBounds_toArray, List.set_cons_zero, List.set_cons_succ])
  refine take_w (i := 16) (oi := ?oZ51) (v := ?vZ51) ?hiZ51 (by kernel_rfl) (by kernel_rfl) (by kernel_rfl) ?hQZ51 ?hwZ51 ?hyZ51 (by assumption) ?restZ51
  case hiZ51 => (simp only [List.getElem?_toArray, List.getElem?_cons_succ, List.getElem?_cons_zero] <;> rfl)
  case hQZ51 => exact (fun _ _ _ h => h)
  case hwZ51 => rfl
  case hyZ51 => (intro w hSw; (try dsimp only at hSw); go_simp; try with_reducible rfl)
  (try simp only [Act.put, List.setIfInBounds_toArray, List.set_cons_zero, List.set_cons_succ])
  refine take_w (i := 17) (oi := ?oZ52) (v := ?vZ52) ?hiZ52 (by kernel_rfl) (by kernel_rfl) (by kernel_rfl) ?hQZ52 ?hwZ52 ?hyZ52 (by assumption) ?restZ52
  case hiZ52 => (simp only [List.getElem?_toArray, List.getElem?_cons_succ, List.getElem?_cons_zero] <;> rfl)
  case hQZ52 => exact (fun _ _ _ h => h)
  case hwZ52 => rfl
  case hyZ52 => (intro w hSw; (try dsimp only at hSw); go_simp; try with_reducible rfl)
  (try simp only [Act.put, List.setIfInBounds_toArray, List.set_cons_zero, List.set_cons_succ])
  refine take_w (i := 18) (oi := ?oZ53) (v := ?vZ53) ?hiZ53 (by kernel_rfl) (by kernel_rfl) (by kernel_rfl) ?hQZ53 ?hwZ53 ?hyZ53 (by assumption) ?restZ53
  case hiZ53 => (simp only [List.getElem?_toArray, List.getElem?_cons_succ, List.getElem?_cons_zero] <;> rfl)
  case hQZ53 => exact (fun _ _ _ h => h)
  case hwZ53 => rfl
  case hyZ53 => (intro w hSw; (try dsimp only at hSw); go_simp; try with_reducible rfl)
  (try simp only [Act.put, List.setIfInBounds_toArray, List.set_cons_zero, List.set_cons_succ])
  refine take_w (i := 19) (oi := ?oZ54) (v := ?vZ54) ?hiZ54 (by kernel_rfl) (by kernel_rfl) (by kernel_rfl) ?hQZ54 ?hwZ54 ?hyZ54 (by assumption) ?restZ54
  case hiZ54 => (simp only [List.getElem?_toArray, List.getElem?_cons_succ, List.getElem?_cons_zero] <;> rfl)
  case hQZ54 => exact (fun _ _ _ h => h)
  case hwZ54 => rfl
  case hyZ54 => (intro w hSw; (try dsimp only at hSw); go_simp; try with_reducible rfl)
  (try simp only [Act.put, List.setIfInBounds_toArray, List.set_cons_zero, List.set_cons_succ])
  refine take_w (i := 20) (oi := ?oZ55) (v := ?vZ55) ?hiZ55 (by kernel_rfl) (by kernel_rfl) (by kernel_rfl) ?hQZ55 ?hwZ55 ?hyZ55 (by assumption) ?restZ55
  case hiZ55 => (simp only [List.getElem?_toArray, List.getElem?_cons_succ, List.getElem?_cons_zero] <;> rfl)
  case hQZ55 => exact (fun _ _ _ h => h)
  case hwZ55 => rfl
  case hyZ55 => (intro w hSw; (try dsimp only at hSw); go_simp; try with_reducible rfl)
  (try simp only [Act.put, List.setIfInBounds_toArray, List.set_cons_zero, List.set_cons_succ])
  refine wpAnyH_ready (rs := [12]) (by kernel_rfl) (by simp) ?_
  refine AllReadyH.cons (o := ?oZ56) ?hiZ56 (fun K hK => ?stZ56) AllReadyH.nil
  case hiZ56 => (simp only [List.getElem?_toArray, List.getElem?_cons_succ, List.getElem?_cons_zero] <;> rfl)
  go_simp
  go_at_call 72
  refine (refNode_any l rl (H 0) (HH 0) h.ka h.va h.kn h.kc h.vn h.vc k v _ ((HP.out.below HR1.out.drew.b).kids 0 l0) ((HQ.out.below HR1.out.drew.b).kids 0 m0) (HP.out.below HR1.out.drew.b).key (HP.out.below HR1.out.drew.b).val).mono ?_
  rintro _ w2 ⟨h2, rfl, hi2, hb2⟩
  unfold TH.v
  have HR2 := Lib.hid (HR1.out.drew.below hb2)
  have HI2 := Lib.hid hi2
  clear hi2 hb2
  go_simp
  refine hK.out _ _ ?_ (fun hHeld => ?_)
  · (first | exact ⟨HRX4.out.1.cells.2.1, HRX4.out.1.cells.2.2.1, (HRX4.out.1.cells.2.2.2.2).trans (by rw [HTA.out]), HRX4.out.2.cells.2.1, HRX4.out.2.cells.2.2.1, (HRX4.out.2.cells.2.2.2.2).trans (by rw [HTK.out]), (HP.out.below HB4.out).kid0 HTA.out (by omega), (HQ.out.below HB4.out).kid0 HTK.out (by omega), (HQ.out.below HB4.out).kid1 HTK.out (by omega)⟩ | exact ⟨HR3.out.box.cells.2.1, HR3.out.box.cells.2.2.1, (HR3.out.box.cells.2.2.2.2).trans (by rw [HTA.out]), HR3.out.kb.cells.2.1, HR3.out.kb.cells.2.2.1, (HR3.out.kb.cells.2.2.2.2).trans (by rw [HTK.out]), (HP.out.below HR3.out.b).kid0 HTA.out (by omega), (HQ.out.below HR3.out.b).kid0 HTK.out (by omega), (HQ.out.below HR3.out.b).kid1 HTK.out (by omega)⟩ | exact ⟨HR2.out.box.cells.2.1, HR2.out.box.cells.2.2.1, (HR2.out.box.cells.2.2.2.2).trans (by rw [HTA.out]), HR2.out.kb.cells.2.1, HR2.out.kb.cells.2.2.1, (HR2.out.kb.cells.2.2.2.2).trans (by rw [HTK.out]), (HP.out.below HR2.out.b).kid0 HTA.out (by omega), (HQ.out.below HR2.out.b).kid0 HTK.out (by omega), (HQ.out.below HR2.out.b).kid1 HTK.out (by omega)⟩ | exact ⟨HR1.out.drew.box.cells.2.1, HR1.out.drew.box.cells.2.2.1, (HR1.out.drew.box.cells.2.2.2.2).trans (by rw [HTA.out]), HR1.out.drew.kb.cells.2.1, HR1.out.drew.kb.cells.2.2.1, (HR1.out.drew.kb.cells.2.2.2.2).trans (by rw [HTK.out]), (HP.out.below HR1.out.drew.b).kid0 HTA.out (by omega), (HQ.out.below HR1.out.drew.b).kid0 HTK.out (by omega), (HQ.out.below HR1.out.drew.b).kid1 HTK.out (by omega)⟩)
  clear hK K
  (try simp only [Act.put, List.setIfInBounds_toArray, List.set_cons_zero, List.set_cons_succ])
  refine wpAnyH_ready (rs := [21]) (by kernel_rfl) (by simp) ?_
  refine AllReadyH.cons (o := ?oZ57) ?hiZ57 (fun K hK => ?stZ57) AllReadyH.nil
  case hiZ57 => (simp only [List.getElem?_toArray, List.getElem?_cons_succ, List.getElem?_cons_zero] <;> rfl)
  go_simp
  go_at_call 72
  refine (refNode_any (AT.node l k v rl) rr h2 (HH 1) (H 1).ka (H 1).va (H 1).kn (H 1).kc (H 1).vn (H 1).vc rk rv _ HI2.out ((HQ.out.below HR2.out.b).kids 1 m1) (HQ.out.below HR2.out.b).key (HQ.out.below HR2.out.b).val).mono ?_
  rintro _ w3 ⟨h3, rfl, hi3, hb3⟩
  unfold TH.v
  have HR3 := Lib.hid (HR2.out.below hb3)
  have HI3 := Lib.hid hi3
  clear hi3 hb3
  go_simp
  refine hK.out _ _ ?_ (fun hHeld => ?_)
  · (first | exact ⟨HRX4.out.1.cells.2.1, HRX4.out.1.cells.2.2.1, (HRX4.out.1.cells.2.2.2.2).trans (by rw [HTA.out]), HRX4.out.2.cells.2.1, HRX4.out.2.cells.2.2.1, (HRX4.out.2.cells.2.2.2.2).trans (by rw [HTK.out]), (HP.out.below HB4.out).kid0 HTA.out (by omega), (HQ.out.below HB4.out).kid0 HTK.out (by omega), (HQ.out.below HB4.out).kid1 HTK.out (by omega)⟩ | exact ⟨HR3.out.box.cells.2.1, HR3.out.box.cells.2.2.1, (HR3.out.box.cells.2.2.2.2).trans (by rw [HTA.out]), HR3.out.kb.cells.2.1, HR3.out.kb.cells.2.2.1, (HR3.out.kb.cells.2.2.2.2).trans (by rw [HTK.out]), (HP.out.below HR3.out.b).kid0 HTA.out (by omega), (HQ.out.below HR3.out.b).kid0 HTK.out (by omega), (HQ.out.below HR3.out.b).kid1 HTK.out (by omega)⟩ | exact ⟨HR2.out.box.cells.2.1, HR2.out.box.cells.2.2.1, (HR2.out.box.cells.2.2.2.2).trans (by rw [HTA.out]), HR2.out.kb.cells.2.1, HR2.out.kb.cells.2.2.1, (HR2.out.kb.cells.2.2.2.2).trans (by rw [HTK.out]), (HP.out.below HR2.out.b).kid0 HTA.out (by omega), (HQ.out.below HR2.out.b).kid0 HTK.out (by omega), (HQ.out.below HR2.out.b).kid1 HTK.out (by omega)⟩ | exact ⟨HR1.out.drew.box.cells.2.1, HR1.out.drew.box.cells.2.2.1, (HR1.out.drew.box.cells.2.2.2.2).trans (by rw [HTA.out]), HR1.out.drew.kb.cells.2.1, HR1.out.drew.kb.cells.2.2.1, (HR1.out.drew.kb.cells.2.2.2.2).trans (by rw [HTK.out]), (HP.out.below HR1.out.drew.b).kid0 HTA.out (by omega), (HQ.out.below HR1.out.drew.b).kid0 HTK.out (by omega), (HQ.out.below HR1.out.drew.b).kid1 HTK.out (by omega)⟩)
  clear hK K
  (try simp only [Act.put, List.setIfInBounds_toArray, List.set_cons_zero, List.set_cons_succ])
  refine wpAnyH_ready (rs := [22]) (by kernel_rfl) (by simp) ?_
  refine AllReadyH.cons (o := ?oZ58) ?hiZ58 (fun K hK => ?stZ58) AllReadyH.nil
  case hiZ58 => (simp only [List.getElem?_toArray, List.getElem?_cons_succ, List.getElem?_cons_zero] <;> rfl)
  refine step_store_box rfl 27 (.tmp 2) (.tmp 29) rfl (w.heap.size + 1) hZ h3 rfl rfl 27 HR3.out.res infoTree5 ?_
  intro w4 hbx4 hg4
  have HX4 := Lib.hid hbx4
  have HI4 := Lib.hid (AT.outBox HR3.out.res hg4 _ _ HI3.out)
  have HB4 : Hid (Below w.heap.size w w4) := Lib.hid (HR3.out.b.grown hg4 HR3.out.b.size (fun j hj => by injection hj; omega))
  have HRX4 : Hid (Box w4 27 w.heap.size h ∧ Box w4 27 (w.heap.size + 2) (H 1)) := Lib.hid ⟨HR3.out.box.grown hg4 (fun q => by injection q; omega), HR3.out.kb.grown hg4 (fun q => by injection q; omega)⟩
  clear hbx4 hg4
  refine hK.out _ _ ?_ (fun hHeld => ?_)
  · (first | exact ⟨HRX4.out.1.cells.2.1, HRX4.out.1.cells.2.2.1, (HRX4.out.1.cells.2.2.2.2).trans (by rw [HTA.out]), HRX4.out.2.cells.2.1, HRX4.out.2.cells.2.2.1, (HRX4.out.2.cells.2.2.2.2).trans (by rw [HTK.out]), (HP.out.below HB4.out).kid0 HTA.out (by omega), (HQ.out.below HB4.out).kid0 HTK.out (by omega), (HQ.out.below HB4.out).kid1 HTK.out (by omega)⟩ | exact ⟨HR3.out.box.cells.2.1, HR3.out.box.cells.2.2.1, (HR3.out.box.cells.2.2.2.2).trans (by rw [HTA.out]), HR3.out.kb.cells.2.1, HR3.out.kb.cells.2.2.1, (HR3.out.kb.cells.2.2.2.2).trans (by rw [HTK.out]), (HP.out.below HR3.out.b).kid0 HTA.out (by omega), (HQ.out.below HR3.out.b).kid0 HTK.out (by omega), (HQ.out.below HR3.out.b).kid1 HTK.out (by omega)⟩ | exact ⟨HR2.out.box.cells.2.1, HR2.out.box.cells.2.2.1, (HR2.out.box.cells.2.2.2.2).trans (by rw [HTA.out]), HR2.out.kb.cells.2.1, HR2.out.kb.cells.2.2.1, (HR2.out.kb.cells.2.2.2.2).trans (by rw [HTK.out]), (HP.out.below HR2.out.b).kid0 HTA.out (by omega), (HQ.out.below HR2.out.b).kid0 HTK.out (by omega), (HQ.out.below HR2.out.b).kid1 HTK.out (by omega)⟩ | exact ⟨HR1.out.drew.box.cells.2.1, HR1.out.drew.box.cells.2.2.1, (HR1.out.drew.box.cells.2.2.2.2).trans (by rw [HTA.out]), HR1.out.drew.kb.cells.2.1, HR1.out.drew.kb.cells.2.2.1, (HR1.out.drew.kb.cells.2.2.2.2).trans (by rw [HTK.out]), (HP.out.below HR1.out.drew.b).kid0 HTA.out (by omega), (HQ.out.below HR1.out.drew.b).kid0 HTK.out (by omega), (HQ.out.below HR1.out.drew.b).kid1 HTK.out (by omega)⟩)
  clear hK K
  (try simp only [Act.put])
  refine wpAnyH_done (by kernel_rfl) ?_ _
  
  go_wp2_with fail
  exact bodyPost_ret (v := h3.v) (result_tree Tryd.results94 _ HX4.out rfl Tryd.underlying27 infoTree5) rfl ⟨_, rfl, HI4.out, HB4.out⟩
end Go.Proofs.YtlbiefddcimdgaaDoor

/- The contract of the document's leveling of AVL trees. -/
namespace Go.Proofs.YtlbiefddcimdgaaDoor
open Go.RowKit
set_option linter.unusedVariables false

set_option maxRecDepth 100000 in
set_option maxHeartbeats 4000000 in
theorem refLevel_any (l : AT) (k v : List Int) (r : AT) (h : TH) (w : World) (ht : InTree w h (AT.node l k v r).tr) (hlim : Lim (AT.node l k v r).pairs) (hdl : l.depth ≤ 64) (hdr : r.depth ≤ 64) :
    Calls Tryd.prog 73 #[h.v] w (Tells w (AT.node l k v r).level) := by
  unfold TH.v
  obtain ⟨H, hp⟩ := ht.parts
  have l0 : 0 < (AT.node l k v r).tr.kids.length := by rw [AT.tr_kids]; simp
  have l1 : 1 < (AT.node l k v r).tr.kids.length := by rw [AT.tr_kids]; simp
  have ht1 : (1 : Int) < (h.tn : Int) := by have h2 : h.tn = 2 := hp.len.symm; omega
  have ht0 : 0 < h.tn := by omega
  have HP := Lib.hid hp
  have HL := Lib.hid hlim
  obtain ⟨g, off, hta, -, -⟩ := hp.place (by omega)
  have HTA := Lib.hid hta
  obtain ⟨e1, e2, e3, e4⟩ := enter2 w h
  clear hp hta hlim
  go_enter Tryd.func73, Tryd.ntmps73
  go_upto_region 1 with fail
  generalize ((w.alloc (.cells #[.int .i64 h.k, .slice h.ka h.kn h.kc, .slice h.va h.vn h.vc, .slice h.da h.dn h.dc, .slice h.ta h.tn h.tc] 27)).alloc (.cells #[.int .i64 0, .slice none 0 0, .slice none 0 0, .slice none 0 0, .slice none 0 0] 27)) = w0 at *
  have HX0 : Hid (LX w w0 h (AT.node l k v r).tr) := Lib.hid ⟨e1, e2, ht.lower e3, e3⟩
  obtain ⟨x0, x1, x2, x3, x4⟩ := e1.cells
  clear e1 e2 e3 e4 ht
  have hlv := AT.level_node l k v r
  have HLV0 := Lib.hid hlv
  clear hlv
  go_upto_if 7 with (first
    | (go_at_call 93
       refine (refTilt_any l k v r h _ HX0.out.ti HL.out hdl hdr).mono ?_
       rintro _ w1 ⟨rfl, hb1⟩
       have HX1 := Lib.hid (HX0.out.below hb1)
       clear hb1))
  clear x0 x1 x2 x3 x4
  generalize hx : (l.depth : Int) - (r.depth : Int) = x
  have HXX := Lib.hid hx
  clear hx
  obtain ⟨x0, x1, x2, x3, x4⟩ := HX1.out.box.cells
  by_cases c1 : x = 2
  · subst c1
    cases l with
    | nil => exact absurd HXX.out (by simp [AT.depth]; omega)
    | node ll lk lv lr =>
      have x4' := x4.trans (by rw [HTA.out])
      obtain ⟨k0, k1, k2, k3, k4⟩ := (HP.out.below HX1.out.b).kid0 HTA.out (by omega)
      clear x4
      rw [HTA.out]
      go_upto_if 13 with (first
    | (go_at_call 93
       refine (refTilt_any ll lk lv lr (H 0) _ ((HP.out.below HX1.out.b).kids 0 l0) HL.out.node.1 (by simp only [AT.depth] at *; omega) (by simp only [AT.depth] at *; omega)).mono ?_
       rintro _ w2 ⟨rfl, hb2⟩
       have HX2 := Lib.hid (HX1.out.below hb2)
       clear hb2))
      clear x0 x1 x2 x3 x4' k0 k1 k2 k3 k4
      generalize hy : (ll.depth : Int) - (lr.depth : Int) = y
      have HYY := Lib.hid hy
      clear hy
      by_cases c2 : y < 0
      · cases lr with
        | nil => exact absurd HYY.out (by simp only [AT.depth]; omega)
        | node a b c d =>
        have HLV : Hid ((AT.node (AT.node ll lk lv (AT.node a b c d)) k v r).level = AT.node (AT.node ll lk lv a) b c (AT.node d k v r)) := Lib.hid (by
          rw [HLV0.out, if_pos HXX.out, if_pos (show (AT.node ll lk lv (AT.node a b c d)).tilt < 0 by simp only [AT.tilt]; rw [HYY.out]; exact c2)]
          rfl)
        clear HLV0
        go_upto_region 4 with fail
        refine region_l (S := (fun W => W.cell? ⟨w.heap.size, 1, none⟩ = some (.slice h.ka h.kn h.kc) ∧ W.cell? ⟨w.heap.size, 2, none⟩ = some (.slice h.va h.vn h.vc) ∧ W.cell? ⟨w.heap.size, 4, none⟩ = some (.slice (some ⟨g, off, none⟩) h.tn h.tc) ∧ (W.cell? ⟨g, off, none⟩ = some (.int .i64 (H 0).k) ∧ W.cell? ⟨g, off + 1, none⟩ = some (.slice (H 0).ka (H 0).kn (H 0).kc) ∧ W.cell? ⟨g, off + 2, none⟩ = some (.slice (H 0).va (H 0).vn (H 0).vc) ∧ W.cell? ⟨g, off + 3, none⟩ = some (.slice (H 0).da (H 0).dn (H 0).dc) ∧ W.cell? ⟨g, off + 4, none⟩ = some (.slice (H 0).ta (H 0).tn (H 0).tc)) ∧ W.cell? ⟨g, off + 5, none⟩ = some (.int .i64 (H 1).k) ∧ W.cell? ⟨g, off + 5 + 1, none⟩ = some (.slice (H 1).ka (H 1).kn (H 1).kc) ∧ W.cell? ⟨g, off + 5 + 2, none⟩ = some (.slice (H 1).va (H 1).vn (H 1).vc) ∧ W.cell? ⟨g, off + 5 + 3, none⟩ = some (.slice (H 1).da (H 1).dn (H 1).dc) ∧ W.cell? ⟨g, off + 5 + 4, none⟩ = some (.slice (H 1).ta (H 1).tn (H 1).tc))) 14 (by kernel_rfl) ⟨HX2.out.drew.box.cells.2.1, HX2.out.drew.box.cells.2.2.1, (HX2.out.drew.box.cells.2.2.2.2).trans (by rw [HTA.out]), (HP.out.below HX2.out.drew.b).kid0 HTA.out (by omega), (HP.out.below HX2.out.drew.b).kid1 HTA.out (by omega)⟩ (fun hHeld => ?_)
        refine take_l (i := 0) (oi := ?oZ59) (v := ?vZ59) ?hiZ59 (by kernel_rfl) (by kernel_rfl) (by kernel_rfl) (by kernel_rfl) ?hQZ59 ?hwZ59 ?hyZ59 (by assumption) ?restZ59
        case hiZ59 => (simp only [List.getElem?_toArray, List.getElem?_cons_zero] <;> rfl)
        case hQZ59 => exact (fun _ _ _ h => h)
        case hwZ59 => rfl
        case hyZ59 => (intro w hSw; (try dsimp only at hSw); go_simp; try with_reducible rfl)
        (try simp only [Act.put, List.setIfInBounds_toArray, List.set_cons_zero, List.set_cons_succ])
        refine take_l (i := 1) (oi := ?oZ60) (v := ?vZ60) ?hiZ60 (by kernel_rfl) (by kernel_rfl) (by kernel_rfl) (by kernel_rfl) ?hQZ60 ?hwZ60 ?hyZ60 (by assumption) ?restZ60
        case hiZ60 => (simp only [List.getElem?_toArray, List.getElem?_cons_succ, List.getElem?_cons_zero] <;> rfl)
        case hQZ60 => exact (fun _ _ _ h => h)
        case hwZ60 => rfl
        case hyZ60 => (intro w hSw; (try dsimp only at hSw); go_simp; try with_reducible rfl)
        (try simp only [Act.put, List.setIfInBounds_toArray, List.set_cons_zero, List.set_cons_succ])
        refine take_l (i := 2) (oi := ?oZ61) (v := ?vZ61) ?hiZ61 (by kernel_rfl) (by kernel_rfl) (by kernel_rfl) (by kernel_rfl) ?hQZ61 ?hwZ61 ?hyZ61 (by assumption) ?restZ61
        case hiZ61 => (simp only [List.getElem?_toArray, List.getElem?_cons_succ, List.getElem?_cons_zero] <;> rfl)
        case hQZ61 => exact (fun _ _ _ h => h)
        case hwZ61 => rfl
        case hyZ61 => (intro w hSw; (try dsimp only at hSw); go_simp; try with_reducible rfl)
        (try simp only [Act.put, List.setIfInBounds_toArray, List.set_cons_zero, List.set_cons_succ])
        refine take_l (i := 3) (oi := ?oZ62) (v := ?vZ62) ?hiZ62 (by kernel_rfl) (by kernel_rfl) (by kernel_rfl) (by kernel_rfl) ?hQZ62 ?hwZ62 ?hyZ62 (by assumption) ?restZ62
        case hiZ62 => (simp only [List.getElem?_toArray, List.getElem?_cons_succ, List.getElem?_cons_zero] <;> rfl)
        case hQZ62 => exact (fun _ _ _ h => h)
        case hwZ62 => rfl
        case hyZ62 => (intro w hSw; (try dsimp only at hSw); go_simp; try with_reducible rfl)
        (try simp only [Act.put, List.setIfInBounds_toArray, List.set_cons_zero, List.set_cons_succ])
        refine take_l (i := 5) (oi := ?oZ63) (v := ?vZ63) ?hiZ63 (by kernel_rfl) (by kernel_rfl) (by kernel_rfl) (by kernel_rfl) ?hQZ63 ?hwZ63 ?hyZ63 (by assumption) ?restZ63
        case hiZ63 => (simp only [List.getElem?_toArray, List.getElem?_cons_succ, List.getElem?_cons_zero] <;> rfl)
        case hQZ63 => exact (fun _ _ _ h => h)
        case hwZ63 => rfl
        case hyZ63 => (intro w hSw; (try dsimp only at hSw); go_simp; try with_reducible rfl)
        (try simp only [Act.put, List.setIfInBounds_toArray, List.set_cons_zero, List.set_cons_succ])
        refine take_l (i := 6) (oi := ?oZ64) (v := ?vZ64) ?hiZ64 (by kernel_rfl) (by kernel_rfl) (by kernel_rfl) (by kernel_rfl) ?hQZ64 ?hwZ64 ?hyZ64 (by assumption) ?restZ64
        case hiZ64 => (simp only [List.getElem?_toArray, List.getElem?_cons_succ, List.getElem?_cons_zero] <;> rfl)
        case hQZ64 => exact (fun _ _ _ h => h)
        case hwZ64 => rfl
        case hyZ64 => (intro w hSw; (try dsimp only at hSw); go_simp; try with_reducible rfl)
        (try simp only [Act.put, List.setIfInBounds_toArray, List.set_cons_zero, List.set_cons_succ])
        refine take_l (i := 7) (oi := ?oZ65) (v := ?vZ65) ?hiZ65 (by kernel_rfl) (by kernel_rfl) (by kernel_rfl) (by kernel_rfl) ?hQZ65 ?hwZ65 ?hyZ65 (by assumption) ?restZ65
        case hiZ65 => (simp only [List.getElem?_toArray, List.getElem?_cons_succ, List.getElem?_cons_zero] <;> rfl)
        case hQZ65 => exact (fun _ _ _ h => h)
        case hwZ65 => rfl
        case hyZ65 => (intro w hSw; (try dsimp only at hSw); go_simp; try with_reducible rfl)
        (try simp only [Act.put, List.setIfInBounds_toArray, List.set_cons_zero, List.set_cons_succ])
        refine take_l (i := 8) (oi := ?oZ66) (v := ?vZ66) ?hiZ66 (by kernel_rfl) (by kernel_rfl) (by kernel_rfl) (by kernel_rfl) ?hQZ66 ?hwZ66 ?hyZ66 (by assumption) ?restZ66
        case hiZ66 => (simp only [List.getElem?_toArray, List.getElem?_cons_succ, List.getElem?_cons_zero] <;> rfl)
        case hQZ66 => exact (fun _ _ _ h => h)
        case hwZ66 => rfl
        case hyZ66 => (intro w hSw; (try dsimp only at hSw); go_simp; try with_reducible rfl)
        (try simp only [Act.put, List.setIfInBounds_toArray, List.set_cons_zero, List.set_cons_succ])
        refine take_l (i := 9) (oi := ?oZ67) (v := ?vZ67) ?hiZ67 (by kernel_rfl) (by kernel_rfl) (by kernel_rfl) (by kernel_rfl) ?hQZ67 ?hwZ67 ?hyZ67 (by assumption) ?restZ67
        case hiZ67 => (simp only [List.getElem?_toArray, List.getElem?_cons_succ, List.getElem?_cons_zero] <;> rfl)
        case hQZ67 => exact (fun _ _ _ h => h)
        case hwZ67 => rfl
        case hyZ67 => (intro w hSw; (try dsimp only at hSw); go_simp; try with_reducible rfl)
        (try simp only [Act.put, List.setIfInBounds_toArray, List.set_cons_zero, List.set_cons_succ])
        refine take_l (i := 10) (oi := ?oZ68) (v := ?vZ68) ?hiZ68 (by kernel_rfl) (by kernel_rfl) (by kernel_rfl) (by kernel_rfl) ?hQZ68 ?hwZ68 ?hyZ68 (by assumption) ?restZ68
        case hiZ68 => (simp only [List.getElem?_toArray, List.getElem?_cons_succ, List.getElem?_cons_zero] <;> rfl)
        case hQZ68 => exact (fun _ _ _ h => h)
        case hwZ68 => rfl
        case hyZ68 => (intro w hSw; (try dsimp only at hSw); go_simp; try with_reducible rfl)
        (try simp only [Act.put, List.setIfInBounds_toArray, List.set_cons_zero, List.set_cons_succ])
        refine take_l (i := 11) (oi := ?oZ69) (v := ?vZ69) ?hiZ69 (by kernel_rfl) (by kernel_rfl) (by kernel_rfl) (by kernel_rfl) ?hQZ69 ?hwZ69 ?hyZ69 (by assumption) ?restZ69
        case hiZ69 => (simp only [List.getElem?_toArray, List.getElem?_cons_succ, List.getElem?_cons_zero] <;> rfl)
        case hQZ69 => exact (fun _ _ _ h => h)
        case hwZ69 => rfl
        case hyZ69 => (intro w hSw; (try dsimp only at hSw); go_simp; try with_reducible rfl)
        (try simp only [Act.put, List.setIfInBounds_toArray, List.set_cons_zero, List.set_cons_succ])
        refine take_l (i := 12) (oi := ?oZ70) (v := ?vZ70) ?hiZ70 (by kernel_rfl) (by kernel_rfl) (by kernel_rfl) (by kernel_rfl) ?hQZ70 ?hwZ70 ?hyZ70 (by assumption) ?restZ70
        case hiZ70 => (simp only [List.getElem?_toArray, List.getElem?_cons_succ, List.getElem?_cons_zero] <;> rfl)
        case hQZ70 => exact (fun _ _ _ h => h)
        case hwZ70 => rfl
        case hyZ70 => (intro w hSw; (try dsimp only at hSw); go_simp; try with_reducible rfl)
        (try simp only [Act.put, List.setIfInBounds_toArray, List.set_cons_zero, List.set_cons_succ])
        refine one_l (i := 4) (o := ?oZ71) (by kernel_rfl) ?hiZ71 (fun K hK => ?stZ71)
        case hiZ71 => (simp only [List.getElem?_toArray, List.getElem?_cons_succ, List.getElem?_cons_zero] <;> rfl)
        go_simp
        go_at_call 94
        refine (refLeft_any ll lk lv a b c d (H 0) _ ((HP.out.below HX2.out.drew.b).kids 0 l0)).mono ?_
        rintro _ w3 ⟨h3, rfl, hi3, hb3⟩
        unfold TH.v
        have HX3 := Lib.hid (HX2.out.drew.below hb3)
        have HI3 := Lib.hid hi3
        clear hi3 hb3
        go_simp
        refine hK.out _ _ ?_ (fun hHeld => ?_)
        · (first | exact ⟨HX4.out.box.cells.2.1, HX4.out.box.cells.2.2.1, (HX4.out.box.cells.2.2.2.2).trans (by rw [HTA.out]), (HP.out.below HX4.out.b).kid0 HTA.out (by omega), (HP.out.below HX4.out.b).kid1 HTA.out (by omega)⟩ | exact ⟨HX3.out.box.cells.2.1, HX3.out.box.cells.2.2.1, (HX3.out.box.cells.2.2.2.2).trans (by rw [HTA.out]), (HP.out.below HX3.out.b).kid0 HTA.out (by omega), (HP.out.below HX3.out.b).kid1 HTA.out (by omega)⟩ | exact ⟨HX2.out.drew.box.cells.2.1, HX2.out.drew.box.cells.2.2.1, (HX2.out.drew.box.cells.2.2.2.2).trans (by rw [HTA.out]), (HP.out.below HX2.out.drew.b).kid0 HTA.out (by omega), (HP.out.below HX2.out.drew.b).kid1 HTA.out (by omega)⟩)
        clear hK K
        (try simp only [Act.put, List.setIfInBounds_toArray, List.set_cons_zero, List.set_cons_succ])
        refine one_l (i := 13) (o := ?oZ72) (by kernel_rfl) ?hiZ72 (fun K hK => ?stZ72)
        case hiZ72 => (simp only [List.getElem?_toArray, List.getElem?_cons_succ, List.getElem?_cons_zero] <;> rfl)
        go_simp
        go_at_call 72
        refine (refNode_any (AT.node (AT.node ll lk lv a) b c d) r h3 (H 1) h.ka h.va h.kn h.kc h.vn h.vc k v _ HI3.out ((HP.out.below HX3.out.b).kids 1 l1) (HP.out.below HX3.out.b).key (HP.out.below HX3.out.b).val).mono ?_
        rintro _ w4 ⟨h4, rfl, hi4, hb4⟩
        unfold TH.v
        have HX4 := Lib.hid (HX3.out.below hb4)
        have HI4 := Lib.hid hi4
        clear hi4 hb4
        go_simp
        refine hK.out _ _ ?_ (fun hHeld => ?_)
        · (first | exact ⟨HX4.out.box.cells.2.1, HX4.out.box.cells.2.2.1, (HX4.out.box.cells.2.2.2.2).trans (by rw [HTA.out]), (HP.out.below HX4.out.b).kid0 HTA.out (by omega), (HP.out.below HX4.out.b).kid1 HTA.out (by omega)⟩ | exact ⟨HX3.out.box.cells.2.1, HX3.out.box.cells.2.2.1, (HX3.out.box.cells.2.2.2.2).trans (by rw [HTA.out]), (HP.out.below HX3.out.b).kid0 HTA.out (by omega), (HP.out.below HX3.out.b).kid1 HTA.out (by omega)⟩ | exact ⟨HX2.out.drew.box.cells.2.1, HX2.out.drew.box.cells.2.2.1, (HX2.out.drew.box.cells.2.2.2.2).trans (by rw [HTA.out]), (HP.out.below HX2.out.drew.b).kid0 HTA.out (by omega), (HP.out.below HX2.out.drew.b).kid1 HTA.out (by omega)⟩)
        clear hK K
        (try simp only [Act.put, List.setIfInBounds_toArray, List.set_cons_zero, List.set_cons_succ])
        refine last_l (o := ?oZ73) (by kernel_rfl) ?hiZ73 (by kernel_rfl) (fun K hK => ?stZ73)
        case hiZ73 => (simp only [List.getElem?_toArray, List.getElem?_cons_succ, List.getElem?_cons_zero] <;> rfl)
        refine step_store_box rfl 27 (.tmp 1) (.tmp 27) rfl w.heap.size h h4 rfl rfl 27 HX4.out.box infoTree5 ?_
        intro w5 hbx5 hg5
        have HX5 : Hid (LX w w5 h4 _) := Lib.hid ⟨hbx5, HX4.out.res.grown hg5 (fun q => by injection q; omega), AT.outBox HX4.out.box hg5 _ _ HI4.out, HX4.out.b.grown hg5 HX4.out.b.size (fun j hj => by injection hj; omega)⟩
        clear hbx5 hg5
        refine hK.out _ _ ?_
        clear hK K
        (try simp only [Act.put])
        
        clear hHeld
        obtain ⟨x0, x1, x2, x3, x4⟩ := HX5.out.box.cells
        go_wp2_with (first
          | (go_at_call 95
             refine (refRight_any (AT.node ll lk lv a) b c d k v r h4 _ HX5.out.ti).mono ?_
             rintro _ w8 ⟨h8, rfl, hi8, hb8⟩
             unfold TH.v
             have HX8 := Lib.hid (HX5.out.below hb8)
             have HI8 := Lib.hid hi8
             clear hi8 hb8)
          | (refine wpList_store_box rfl 27 (.tmp 2) (.tmp 29) rfl (w.heap.size + 1) hZ h8 rfl rfl 27 HX8.out.res infoTree5 ?_
             intro w9 hbx9 hg9
             have HX9 := Lib.hid hbx9
             have HI9 := Lib.hid (AT.outBox HX8.out.res hg9 _ _ HI8.out)
             have HB9 : Hid (Below w.heap.size w w9) := Lib.hid (HX8.out.b.grown hg9 HX8.out.b.size (fun j hj => by injection hj; omega))
             clear hbx9 hg9))
        refine bodyPost_ret (v := h8.v) (result_tree Tryd.results73 _ HX9.out rfl Tryd.underlying27 infoTree5) rfl ⟨_, rfl, ?_, HB9.out⟩
        rw [HLV.out]
        exact HI9.out

      · have HLV : Hid ((AT.node (AT.node ll lk lv lr) k v r).level = AT.node ll lk lv (AT.node lr k v r)) := Lib.hid (by
          rw [HLV0.out, if_pos HXX.out, if_neg (show ¬ (AT.node ll lk lv lr).tilt < 0 by simp only [AT.tilt]; rw [HYY.out]; exact c2)]
          rfl)
        clear HLV0
        obtain ⟨x0, x1, x2, x3, x4⟩ := HX2.out.box.cells
        go_wp2_with (first
          | (go_at_call 95
             refine (refRight_any ll lk lv lr k v r h _ HX2.out.ti).mono ?_
             rintro _ w8 ⟨h8, rfl, hi8, hb8⟩
             unfold TH.v
             have HX8 := Lib.hid (HX2.out.below hb8)
             have HI8 := Lib.hid hi8
             clear hi8 hb8)
          | (refine wpList_store_box rfl 27 (.tmp 2) (.tmp 29) rfl (w.heap.size + 1) hZ h8 rfl rfl 27 HX8.out.res infoTree5 ?_
             intro w9 hbx9 hg9
             have HX9 := Lib.hid hbx9
             have HI9 := Lib.hid (AT.outBox HX8.out.res hg9 _ _ HI8.out)
             have HB9 : Hid (Below w.heap.size w w9) := Lib.hid (HX8.out.b.grown hg9 HX8.out.b.size (fun j hj => by injection hj; omega))
             clear hbx9 hg9))
        refine bodyPost_ret (v := h8.v) (result_tree Tryd.results73 _ HX9.out rfl Tryd.underlying27 infoTree5) rfl ⟨_, rfl, ?_, HB9.out⟩
        rw [HLV.out]
        exact HI9.out

  have c1b : (x == 2) = false := by simp [c1]
  rw [c1b]
  by_cases c3 : x = -2
  · subst c3
    cases r with
    | nil => exact absurd HXX.out (by simp only [AT.depth]; omega)
    | node rl rk rv rr =>
      have x4' := x4.trans (by rw [HTA.out])
      obtain ⟨k0, k1, k2, k3, k4⟩ := (HP.out.below HX1.out.b).kid1 HTA.out (by omega)
      clear x4
      rw [HTA.out]
      go_upto_if 37 with (first
    | (go_at_call 93
       refine (refTilt_any rl rk rv rr (H 1) _ ((HP.out.below HX1.out.b).kids 1 l1) HL.out.node.2.2.2 (by simp only [AT.depth] at *; omega) (by simp only [AT.depth] at *; omega)).mono ?_
       rintro _ w2 ⟨rfl, hb2⟩
       have HX2 := Lib.hid (HX1.out.below hb2)
       clear hb2))
      clear x0 x1 x2 x3 x4' k0 k1 k2 k3 k4
      generalize hy : (rl.depth : Int) - (rr.depth : Int) = y
      have HYY := Lib.hid hy
      clear hy
      by_cases c2 : 0 < y
      · cases rl with
        | nil => exact absurd HYY.out (by simp only [AT.depth]; omega)
        | node a b c d =>
        have HLV : Hid ((AT.node l k v (AT.node (AT.node a b c d) rk rv rr)).level = AT.node (AT.node l k v a) b c (AT.node d rk rv rr)) := Lib.hid (by
          rw [HLV0.out, if_neg (by rw [HXX.out]; omega), if_pos HXX.out, if_pos (show 0 < (AT.node (AT.node a b c d) rk rv rr).tilt by simp only [AT.tilt]; rw [HYY.out]; exact c2)]
          rfl)
        clear HLV0
        have hqn : rr.depth < (AT.node a b c d).depth := by have := HYY.out; omega
        go_upto_region 8 with fail
        clear hqn
        refine region_l (S := (fun W => W.cell? ⟨w.heap.size, 1, none⟩ = some (.slice h.ka h.kn h.kc) ∧ W.cell? ⟨w.heap.size, 2, none⟩ = some (.slice h.va h.vn h.vc) ∧ W.cell? ⟨w.heap.size, 4, none⟩ = some (.slice (some ⟨g, off, none⟩) h.tn h.tc) ∧ (W.cell? ⟨g, off, none⟩ = some (.int .i64 (H 0).k) ∧ W.cell? ⟨g, off + 1, none⟩ = some (.slice (H 0).ka (H 0).kn (H 0).kc) ∧ W.cell? ⟨g, off + 2, none⟩ = some (.slice (H 0).va (H 0).vn (H 0).vc) ∧ W.cell? ⟨g, off + 3, none⟩ = some (.slice (H 0).da (H 0).dn (H 0).dc) ∧ W.cell? ⟨g, off + 4, none⟩ = some (.slice (H 0).ta (H 0).tn (H 0).tc)) ∧ W.cell? ⟨g, off + 5, none⟩ = some (.int .i64 (H 1).k) ∧ W.cell? ⟨g, off + 5 + 1, none⟩ = some (.slice (H 1).ka (H 1).kn (H 1).kc) ∧ W.cell? ⟨g, off + 5 + 2, none⟩ = some (.slice (H 1).va (H 1).vn (H 1).vc) ∧ W.cell? ⟨g, off + 5 + 3, none⟩ = some (.slice (H 1).da (H 1).dn (H 1).dc) ∧ W.cell? ⟨g, off + 5 + 4, none⟩ = some (.slice (H 1).ta (H 1).tn (H 1).tc))) 14 (by kernel_rfl) ⟨HX2.out.drew.box.cells.2.1, HX2.out.drew.box.cells.2.2.1, (HX2.out.drew.box.cells.2.2.2.2).trans (by rw [HTA.out]), (HP.out.below HX2.out.drew.b).kid0 HTA.out (by omega), (HP.out.below HX2.out.drew.b).kid1 HTA.out (by omega)⟩ (fun hHeld => ?_)
        refine take_l (i := 0) (oi := ?oZ74) (v := ?vZ74) ?hiZ74 (by kernel_rfl) (by kernel_rfl) (by kernel_rfl) (by kernel_rfl) ?hQZ74 ?hwZ74 ?hyZ74 (by assumption) ?restZ74
        case hiZ74 => (simp only [List.getElem?_toArray, List.getElem?_cons_zero] <;> rfl)
        case hQZ74 => exact (fun _ _ _ h => h)
        case hwZ74 => rfl
        case hyZ74 => (intro w hSw; (try dsimp only at hSw); go_simp; try with_reducible rfl)
        (try simp only [Act.put, List.setIfInBounds_toArray, List.set_cons_zero, List.set_cons_succ])
        refine take_l (i := 1) (oi := ?oZ75) (v := ?vZ75) ?hiZ75 (by kernel_rfl) (by kernel_rfl) (by kernel_rfl) (by kernel_rfl) ?hQZ75 ?hwZ75 ?hyZ75 (by assumption) ?restZ75
        case hiZ75 => (simp only [List.getElem?_toArray, List.getElem?_cons_succ, List.getElem?_cons_zero] <;> rfl)
        case hQZ75 => exact (fun _ _ _ h => h)
        case hwZ75 => rfl
        case hyZ75 => (intro w hSw; (try dsimp only at hSw); go_simp; try with_reducible rfl)
        (try simp only [Act.put, List.setIfInBounds_toArray, List.set_cons_zero, List.set_cons_succ])
        refine take_l (i := 2) (oi := ?oZ76) (v := ?vZ76) ?hiZ76 (by kernel_rfl) (by kernel_rfl) (by kernel_rfl) (by kernel_rfl) ?hQZ76 ?hwZ76 ?hyZ76 (by assumption) ?restZ76
        case hiZ76 => (simp only [List.getElem?_toArray, List.getElem?_cons_succ, List.getElem?_cons_zero] <;> rfl)
        case hQZ76 => exact (fun _ _ _ h => h)
        case hwZ76 => rfl
        case hyZ76 => (intro w hSw; (try dsimp only at hSw); go_simp; try with_reducible rfl)
        (try simp only [Act.put, List.setIfInBounds_toArray, List.set_cons_zero, List.set_cons_succ])
        refine take_l (i := 3) (oi := ?oZ77) (v := ?vZ77) ?hiZ77 (by kernel_rfl) (by kernel_rfl) (by kernel_rfl) (by kernel_rfl) ?hQZ77 ?hwZ77 ?hyZ77 (by assumption) ?restZ77
        case hiZ77 => (simp only [List.getElem?_toArray, List.getElem?_cons_succ, List.getElem?_cons_zero] <;> rfl)
        case hQZ77 => exact (fun _ _ _ h => h)
        case hwZ77 => rfl
        case hyZ77 => (intro w hSw; (try dsimp only at hSw); go_simp; try with_reducible rfl)
        (try simp only [Act.put, List.setIfInBounds_toArray, List.set_cons_zero, List.set_cons_succ])
        refine take_l (i := 4) (oi := ?oZ78) (v := ?vZ78) ?hiZ78 (by kernel_rfl) (by kernel_rfl) (by kernel_rfl) (by kernel_rfl) ?hQZ78 ?hwZ78 ?hyZ78 (by assumption) ?restZ78
        case hiZ78 => (simp only [List.getElem?_toArray, List.getElem?_cons_succ, List.getElem?_cons_zero] <;> rfl)
        case hQZ78 => exact (fun _ _ _ h => h)
        case hwZ78 => rfl
        case hyZ78 => (intro w hSw; (try dsimp only at hSw); go_simp; try with_reducible rfl)
        (try simp only [Act.put, List.setIfInBounds_toArray, List.set_cons_zero, List.set_cons_succ])
        refine take_l (i := 5) (oi := ?oZ79) (v := ?vZ79) ?hiZ79 (by kernel_rfl) (by kernel_rfl) (by kernel_rfl) (by kernel_rfl) ?hQZ79 ?hwZ79 ?hyZ79 (by assumption) ?restZ79
        case hiZ79 => (simp only [List.getElem?_toArray, List.getElem?_cons_succ, List.getElem?_cons_zero] <;> rfl)
        case hQZ79 => exact (fun _ _ _ h => h)
        case hwZ79 => rfl
        case hyZ79 => (intro w hSw; (try dsimp only at hSw); go_simp; try with_reducible rfl)
        (try simp only [Act.put, List.setIfInBounds_toArray, List.set_cons_zero, List.set_cons_succ])
        refine take_l (i := 6) (oi := ?oZ80) (v := ?vZ80) ?hiZ80 (by kernel_rfl) (by kernel_rfl) (by kernel_rfl) (by kernel_rfl) ?hQZ80 ?hwZ80 ?hyZ80 (by assumption) ?restZ80
        case hiZ80 => (simp only [List.getElem?_toArray, List.getElem?_cons_succ, List.getElem?_cons_zero] <;> rfl)
        case hQZ80 => exact (fun _ _ _ h => h)
        case hwZ80 => rfl
        case hyZ80 => (intro w hSw; (try dsimp only at hSw); go_simp; try with_reducible rfl)
        (try simp only [Act.put, List.setIfInBounds_toArray, List.set_cons_zero, List.set_cons_succ])
        refine take_l (i := 7) (oi := ?oZ81) (v := ?vZ81) ?hiZ81 (by kernel_rfl) (by kernel_rfl) (by kernel_rfl) (by kernel_rfl) ?hQZ81 ?hwZ81 ?hyZ81 (by assumption) ?restZ81
        case hiZ81 => (simp only [List.getElem?_toArray, List.getElem?_cons_succ, List.getElem?_cons_zero] <;> rfl)
        case hQZ81 => exact (fun _ _ _ h => h)
        case hwZ81 => rfl
        case hyZ81 => (intro w hSw; (try dsimp only at hSw); go_simp; try with_reducible rfl)
        (try simp only [Act.put, List.setIfInBounds_toArray, List.set_cons_zero, List.set_cons_succ])
        refine take_l (i := 8) (oi := ?oZ82) (v := ?vZ82) ?hiZ82 (by kernel_rfl) (by kernel_rfl) (by kernel_rfl) (by kernel_rfl) ?hQZ82 ?hwZ82 ?hyZ82 (by assumption) ?restZ82
        case hiZ82 => (simp only [List.getElem?_toArray, List.getElem?_cons_succ, List.getElem?_cons_zero] <;> rfl)
        case hQZ82 => exact (fun _ _ _ h => h)
        case hwZ82 => rfl
        case hyZ82 => (intro w hSw; (try dsimp only at hSw); go_simp; try with_reducible rfl)
        (try simp only [Act.put, List.setIfInBounds_toArray, List.set_cons_zero, List.set_cons_succ])
        refine take_l (i := 9) (oi := ?oZ83) (v := ?vZ83) ?hiZ83 (by kernel_rfl) (by kernel_rfl) (by kernel_rfl) (by kernel_rfl) ?hQZ83 ?hwZ83 ?hyZ83 (by assumption) ?restZ83
        case hiZ83 => (simp only [List.getElem?_toArray, List.getElem?_cons_succ, List.getElem?_cons_zero] <;> rfl)
        case hQZ83 => exact (fun _ _ _ h => h)
        case hwZ83 => rfl
        case hyZ83 => (intro w hSw; (try dsimp only at hSw); go_simp; try with_reducible rfl)
        (try simp only [Act.put, List.setIfInBounds_toArray, List.set_cons_zero, List.set_cons_succ])
        refine take_l (i := 10) (oi := ?oZ84) (v := ?vZ84) ?hiZ84 (by kernel_rfl) (by kernel_rfl) (by kernel_rfl) (by kernel_rfl) ?hQZ84 ?hwZ84 ?hyZ84 (by assumption) ?restZ84
        case hiZ84 => (simp only [List.getElem?_toArray, List.getElem?_cons_succ, List.getElem?_cons_zero] <;> rfl)
        case hQZ84 => exact (fun _ _ _ h => h)
        case hwZ84 => rfl
        case hyZ84 => (intro w hSw; (try dsimp only at hSw); go_simp; try with_reducible rfl)
        (try simp only [Act.put, List.setIfInBounds_toArray, List.set_cons_zero, List.set_cons_succ])
        refine take_l (i := 11) (oi := ?oZ85) (v := ?vZ85) ?hiZ85 (by kernel_rfl) (by kernel_rfl) (by kernel_rfl) (by kernel_rfl) ?hQZ85 ?hwZ85 ?hyZ85 (by assumption) ?restZ85
        case hiZ85 => (simp only [List.getElem?_toArray, List.getElem?_cons_succ, List.getElem?_cons_zero] <;> rfl)
        case hQZ85 => exact (fun _ _ _ h => h)
        case hwZ85 => rfl
        case hyZ85 => (intro w hSw; (try dsimp only at hSw); go_simp; try with_reducible rfl)
        (try simp only [Act.put, List.setIfInBounds_toArray, List.set_cons_zero, List.set_cons_succ])
        refine one_l (i := 12) (o := ?oZ86) (by kernel_rfl) ?hiZ86 (fun K hK => ?stZ86)
        case hiZ86 => (simp only [List.getElem?_toArray, List.getElem?_cons_succ, List.getElem?_cons_zero] <;> rfl)
        go_simp
        go_at_call 95
        refine (refRight_any a b c d rk rv rr (H 1) _ ((HP.out.below HX2.out.drew.b).kids 1 l1)).mono ?_
        rintro _ w3 ⟨h3, rfl, hi3, hb3⟩
        unfold TH.v
        have HX3 := Lib.hid (HX2.out.drew.below hb3)
        have HI3 := Lib.hid hi3
        clear hi3 hb3
        go_simp
        refine hK.out _ _ ?_ (fun hHeld => ?_)
        · (first | exact ⟨HX4.out.box.cells.2.1, HX4.out.box.cells.2.2.1, (HX4.out.box.cells.2.2.2.2).trans (by rw [HTA.out]), (HP.out.below HX4.out.b).kid0 HTA.out (by omega), (HP.out.below HX4.out.b).kid1 HTA.out (by omega)⟩ | exact ⟨HX3.out.box.cells.2.1, HX3.out.box.cells.2.2.1, (HX3.out.box.cells.2.2.2.2).trans (by rw [HTA.out]), (HP.out.below HX3.out.b).kid0 HTA.out (by omega), (HP.out.below HX3.out.b).kid1 HTA.out (by omega)⟩ | exact ⟨HX2.out.drew.box.cells.2.1, HX2.out.drew.box.cells.2.2.1, (HX2.out.drew.box.cells.2.2.2.2).trans (by rw [HTA.out]), (HP.out.below HX2.out.drew.b).kid0 HTA.out (by omega), (HP.out.below HX2.out.drew.b).kid1 HTA.out (by omega)⟩)
        clear hK K
        (try simp only [Act.put, List.setIfInBounds_toArray, List.set_cons_zero, List.set_cons_succ])
        refine one_l (i := 13) (o := ?oZ87) (by kernel_rfl) ?hiZ87 (fun K hK => ?stZ87)
        case hiZ87 => (simp only [List.getElem?_toArray, List.getElem?_cons_succ, List.getElem?_cons_zero] <;> rfl)
        go_simp
        go_at_call 72
        refine (refNode_any l (AT.node a b c (AT.node d rk rv rr)) (H 0) h3 h.ka h.va h.kn h.kc h.vn h.vc k v _ ((HP.out.below HX3.out.b).kids 0 l0) HI3.out (HP.out.below HX3.out.b).key (HP.out.below HX3.out.b).val).mono ?_
        rintro _ w4 ⟨h4, rfl, hi4, hb4⟩
        unfold TH.v
        have HX4 := Lib.hid (HX3.out.below hb4)
        have HI4 := Lib.hid hi4
        clear hi4 hb4
        go_simp
        refine hK.out _ _ ?_ (fun hHeld => ?_)
        · (first | exact ⟨HX4.out.box.cells.2.1, HX4.out.box.cells.2.2.1, (HX4.out.box.cells.2.2.2.2).trans (by rw [HTA.out]), (HP.out.below HX4.out.b).kid0 HTA.out (by omega), (HP.out.below HX4.out.b).kid1 HTA.out (by omega)⟩ | exact ⟨HX3.out.box.cells.2.1, HX3.out.box.cells.2.2.1, (HX3.out.box.cells.2.2.2.2).trans (by rw [HTA.out]), (HP.out.below HX3.out.b).kid0 HTA.out (by omega), (HP.out.below HX3.out.b).kid1 HTA.out (by omega)⟩ | exact ⟨HX2.out.drew.box.cells.2.1, HX2.out.drew.box.cells.2.2.1, (HX2.out.drew.box.cells.2.2.2.2).trans (by rw [HTA.out]), (HP.out.below HX2.out.drew.b).kid0 HTA.out (by omega), (HP.out.below HX2.out.drew.b).kid1 HTA.out (by omega)⟩)
        clear hK K
        (try simp only [Act.put, List.setIfInBounds_toArray, List.set_cons_zero, List.set_cons_succ])
        refine last_l (o := ?oZ88) (by kernel_rfl) ?hiZ88 (by kernel_rfl) (fun K hK => ?stZ88)
        case hiZ88 => (simp only [List.getElem?_toArray, List.getElem?_cons_succ, List.getElem?_cons_zero] <;> rfl)
        refine step_store_box rfl 27 (.tmp 1) (.tmp 51) rfl w.heap.size h h4 rfl rfl 27 HX4.out.box infoTree5 ?_
        intro w5 hbx5 hg5
        have HX5 : Hid (LX w w5 h4 _) := Lib.hid ⟨hbx5, HX4.out.res.grown hg5 (fun q => by injection q; omega), AT.outBox HX4.out.box hg5 _ _ HI4.out, HX4.out.b.grown hg5 HX4.out.b.size (fun j hj => by injection hj; omega)⟩
        clear hbx5 hg5
        refine hK.out _ _ ?_
        clear hK K
        (try simp only [Act.put])
        
        clear hHeld
        obtain ⟨x0, x1, x2, x3, x4⟩ := HX5.out.box.cells
        go_wp2_with (first
          | (go_at_call 94
             refine (refLeft_any l k v a b c (AT.node d rk rv rr) h4 _ HX5.out.ti).mono ?_
             rintro _ w8 ⟨h8, rfl, hi8, hb8⟩
             unfold TH.v
             have HX8 := Lib.hid (HX5.out.below hb8)
             have HI8 := Lib.hid hi8
             clear hi8 hb8)
          | (refine wpList_store_box rfl 27 (.tmp 2) (.tmp 53) rfl (w.heap.size + 1) hZ h8 rfl rfl 27 HX8.out.res infoTree5 ?_
             intro w9 hbx9 hg9
             have HX9 := Lib.hid hbx9
             have HI9 := Lib.hid (AT.outBox HX8.out.res hg9 _ _ HI8.out)
             have HB9 : Hid (Below w.heap.size w w9) := Lib.hid (HX8.out.b.grown hg9 HX8.out.b.size (fun j hj => by injection hj; omega))
             clear hbx9 hg9))
        refine bodyPost_ret (v := h8.v) (result_tree Tryd.results73 _ HX9.out rfl Tryd.underlying27 infoTree5) rfl ⟨_, rfl, ?_, HB9.out⟩
        rw [HLV.out]
        exact HI9.out

      · have HLV : Hid ((AT.node l k v (AT.node rl rk rv rr)).level = AT.node (AT.node l k v rl) rk rv rr) := Lib.hid (by
          rw [HLV0.out, if_neg (by rw [HXX.out]; omega), if_pos HXX.out, if_neg (show ¬ 0 < (AT.node rl rk rv rr).tilt by simp only [AT.tilt]; rw [HYY.out]; exact c2)]
          rfl)
        clear HLV0
        have hqn : ¬ rr.depth < rl.depth := by have := HYY.out; omega
        obtain ⟨x0, x1, x2, x3, x4⟩ := HX2.out.box.cells
        go_wp2_with (first
          | (go_at_call 94
             refine (refLeft_any l k v rl rk rv rr h _ HX2.out.ti).mono ?_
             rintro _ w8 ⟨h8, rfl, hi8, hb8⟩
             unfold TH.v
             have HX8 := Lib.hid (HX2.out.below hb8)
             have HI8 := Lib.hid hi8
             clear hi8 hb8)
          | (refine wpList_store_box rfl 27 (.tmp 2) (.tmp 53) rfl (w.heap.size + 1) hZ h8 rfl rfl 27 HX8.out.res infoTree5 ?_
             intro w9 hbx9 hg9
             have HX9 := Lib.hid hbx9
             have HI9 := Lib.hid (AT.outBox HX8.out.res hg9 _ _ HI8.out)
             have HB9 : Hid (Below w.heap.size w w9) := Lib.hid (HX8.out.b.grown hg9 HX8.out.b.size (fun j hj => by injection hj; omega))
             clear hbx9 hg9))
        refine bodyPost_ret (v := h8.v) (result_tree Tryd.results73 _ HX9.out rfl Tryd.underlying27 infoTree5) rfl ⟨_, rfl, ?_, HB9.out⟩
        rw [HLV.out]
        exact HI9.out

  have c3b : (x == -2) = false := by simp [c3]
  have HLV : Hid ((AT.node l k v r).level = AT.node l k v r) := Lib.hid (by rw [HLV0.out, if_neg (by rw [HXX.out]; exact c1), if_neg (by rw [HXX.out]; exact c3)])
  clear HLV0
  go_wp2_with (first
  | (refine wpList_store_box rfl 27 (.tmp 2) (.tmp 54) rfl (w.heap.size + 1) hZ h rfl rfl 27 HX1.out.res infoTree5 ?_
     intro w9 hbx9 hg9
     have HX9 := Lib.hid hbx9
     have HI9 := Lib.hid (AT.outBox HX1.out.res hg9 _ _ HX1.out.ti)
     have HB9 : Hid (Below w.heap.size w w9) := Lib.hid (HX1.out.b.grown hg9 HX1.out.b.size (fun j hj => by injection hj; omega))
     clear hbx9 hg9))
  refine bodyPost_ret (v := h.v) (result_tree Tryd.results73 _ HX9.out rfl Tryd.underlying27 infoTree5) rfl ⟨_, rfl, ?_, HB9.out⟩
  rw [HLV.out]
  exact HI9.out
end Go.Proofs.YtlbiefddcimdgaaDoor
