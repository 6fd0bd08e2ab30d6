/- The contracts of the program's Put and Delete. -/
import Derived.Test.YtolpdidjabbipaaPrGet
import Derived.Test.YtolpdidjabbipaaPrIns
import Derived.Test.YtolpdidjabbipaaPrDel
namespace Go.Proofs.Ytolpdidjabbipaa
open Go.RowKit
set_option linter.unusedVariables false

/-- Three results, the first a tree in its box. -/
theorem Box.result3 {P : Program} {fn : Func} {p q r : Tmp} {ty : TypeId} (hr : fn.results = #[.cell p ty, .tmp q, .tmp r]) (tmps : Array Value) {w : World} {g : Nat} {t : TypeId} {h : TH} {fs : Array Field} (hx : Box w t g h)
    (hp : tmps.getD p undef = .pointer (some ⟨g, 0, none⟩)) (hu : P.underlying ty = some (.struct fs)) (hi : (P.info? ty).map (·.size) = some 5) :
    (results fn tmps).run P w = .ok (.tuple #[h.v, tmps.getD q undef, tmps.getD r undef]) w := by
  have hp' : tmps[p]?.getD undef = .pointer (some ⟨g, 0, none⟩) := by simpa using hp
  have hl := run_loadVar_row (P := P) w g t ty _ _ (.struct fs) hx hu rfl (by simpa using hi)
  simp [results, hr, hp', asAddr, hl, TH.v]
/-- Where a key isn't, a deletion changes nothing. -/
theorem AT.level_same {l : AT} {k v : List Int} {r : AT} (h : (AT.node l k v r).bal) : (AT.node l k v r).level = .node l k v r := by
  simp only [AT.bal] at h
  rw [AT.level_node, if_neg (by omega), if_neg (by omega)]
theorem AT.del_absent (key : List Int) : ∀ a : AT, a.bal → (a.find key).isNil = true → a.del key = a := by
  intro a
  induction a with
  | nil => intro _ _; rfl
  | node l k v r ihl ihr =>
    intro hb hf
    have hb' := hb
    simp only [AT.bal] at hb
    rw [AT.find_node] at hf
    rw [AT.del_node]
    by_cases c1 : ltL key k = true
    · rw [if_pos c1] at hf ⊢
      rw [ihl hb.1 hf]
      exact AT.level_same hb'
    · rw [if_neg c1] at hf ⊢
      by_cases c2 : ltL k key = true
      · rw [if_pos c2] at hf ⊢
        rw [ihr hb.2.1 hf]
        exact AT.level_same hb'
      · rw [if_neg c2] at hf
        cases hf
theorem AT.find_some {key : List Int} {a : AT} (h : Rise a.pairs) : (!(a.find key).isNil) = (a.get key).isSome := by
  rcases AT.find_get key a h with ⟨e1, e2⟩ | ⟨l, v, r, e1, e2⟩
  · rw [e1, e2]; rfl
  · rw [e1, e2]; rfl
def PutBad (w : World) (k : Nat) (e : Ending) (w' : World) : Prop := e = .returned (.tuple #[hZ.v, codeV k]) ∧ Below w.heap.size w w'
def PutOk (w : World) (a : AT) (e : Ending) (w' : World) : Prop := ∃ h', e = .returned (.tuple #[h'.v, .nilIface]) ∧ InTree w' h' a.tr ∧ Below w.heap.size w w'
def DelBad (w : World) (k : Nat) (e : Ending) (w' : World) : Prop := e = .returned (.tuple #[hZ.v, .bool false, codeV k]) ∧ Below w.heap.size w w'
def DelOk (w : World) (a : AT) (b : Bool) (e : Ending) (w' : World) : Prop := ∃ h', e = .returned (.tuple #[h'.v, .bool b, .nilIface]) ∧ InTree w' h' a.tr ∧ Below w.heap.size w w'

set_option maxRecDepth 100000 in
set_option maxHeartbeats 4000000 in
theorem put_bad (t : Tr) (h : TH) (ka va : Option Addr) (kn kc vn vc : Nat) (w : World) (ht : InTree w h t) (hbad : badA t kn vn ≠ 0) : Calls Try.prog 16 #[h.v, .slice ka kn kc, .slice va vn vc] w (PutBad w (badA t kn vn)) := by
  unfold TH.v
  obtain ⟨e1, e2, e3, e4⟩ := enter2 w h
  have HBAD := Lib.hid hbad
  clear hbad
  go_enter Try.func16, Try.ntmps16
  go_upto_region 1 with fail
  generalize ((w.alloc (.cells #[.int .i64 h.k, .slice h.ka h.kn h.kc, .slice h.va h.vn h.vc, .slice h.da h.dn h.dc, .slice h.ta h.tn h.tc] 25)).alloc (.cells #[.int .i64 0, .slice none 0 0, .slice none 0 0, .slice none 0 0, .slice none 0 0] 25)) = w0 at *
  have HX0 : Hid (LX w w0 h t) := Lib.hid ⟨e1, e2, ht.lower e3, e3⟩
  obtain ⟨x0, x1, x2, x3, x4⟩ := e1.cells
  clear e1 e2 e3 e4 ht
  go_wp2_with (first
    | (go_at_call 29
       refine (refusal_any t h ka va kn kc vn vc _ HX0.out.ti).mono ?_
       rintro _ w1 ⟨rfl, hb1⟩
       have HX1 := Lib.hid (HX0.out.below hb1)
       rw [codeV_pos HBAD.out]
       clear hb1 x0 x1 x2 x3 x4)
    | (refine wpList_store_box rfl 25 (.tmp 6) (.tmp 15) rfl (w.heap.size + 1) hZ hZ rfl rfl 25 HX1.out.res infoTree5 ?_
       intro w9 hbx9 hg9
       have HX9 := Lib.hid hbx9
       have HB9 : Hid (Below w.heap.size w w9) := Lib.hid (HX1.out.b.grown hg9 HX1.out.b.size (fun j hj => by injection hj; omega))
       clear hbx9 hg9))
  refine bodyPost_ret (Box.result Try.results16 _ HX9.out rfl Try.underlying25 infoTree5) rfl ⟨?_, HB9.out⟩
  rw [codeV_pos HBAD.out]
  rfl

set_option maxRecDepth 100000 in
set_option maxHeartbeats 4000000 in
theorem del_bad (t : Tr) (h : TH) (ka : Option Addr) (kn kc : Nat) (w : World) (ht : InTree w h t) (hbad : badA t kn 0 ≠ 0) : Calls Try.prog 19 #[h.v, .slice ka kn kc] w (DelBad w (badA t kn 0)) := by
  unfold TH.v
  obtain ⟨e1, e2, e3, e4⟩ := enter2 w h
  have HBAD := Lib.hid hbad
  clear hbad
  go_enter Try.func19, Try.ntmps19
  go_upto_region 1 with fail
  generalize ((w.alloc (.cells #[.int .i64 h.k, .slice h.ka h.kn h.kc, .slice h.va h.vn h.vc, .slice h.da h.dn h.dc, .slice h.ta h.tn h.tc] 25)).alloc (.cells #[.int .i64 0, .slice none 0 0, .slice none 0 0, .slice none 0 0, .slice none 0 0] 25)) = w0 at *
  have HX0 : Hid (LX w w0 h t) := Lib.hid ⟨e1, e2, ht.lower e3, e3⟩
  obtain ⟨x0, x1, x2, x3, x4⟩ := e1.cells
  clear e1 e2 e3 e4 ht
  go_wp2_with (first
    | (go_at_call 29
       refine (refusal_any t h ka none kn kc 0 0 _ HX0.out.ti).mono ?_
       rintro _ w1 ⟨rfl, hb1⟩
       have HX1 := Lib.hid (HX0.out.below hb1)
       rw [codeV_pos HBAD.out]
       clear hb1 x0 x1 x2 x3 x4)
    | (refine wpList_store_box rfl 25 (.tmp 4) (.tmp 15) rfl (w.heap.size + 1) hZ hZ rfl rfl 25 HX1.out.res infoTree5 ?_
       intro w9 hbx9 hg9
       have HX9 := Lib.hid hbx9
       have HB9 : Hid (Below w.heap.size w w9) := Lib.hid (HX1.out.b.grown hg9 HX1.out.b.size (fun j hj => by injection hj; omega))
       clear hbx9 hg9))
  refine bodyPost_ret (Box.result3 Try.results19 _ HX9.out rfl Try.underlying25 infoTree5) rfl ⟨?_, HB9.out⟩
  rw [codeV_pos HBAD.out]
  rfl

set_option maxRecDepth 100000 in
set_option maxHeartbeats 4000000 in
theorem put_ok (a : AT) (h : TH) (key val : List Int) (ka va : Option Addr) (kn kc vn vc : Nat) (w : World) (ht : InTree w h a.tr) (hk : InBytes w ka kn kc key) (hv : InBytes w va vn vc val) (hbad : badA a.tr kn vn = 0) : Calls Try.prog 16 #[h.v, .slice ka kn kc, .slice va vn vc] w (PutOk w (a.put key val)) := by
  obtain ⟨⟨a', e, hbal, -, -, hdep⟩, hkn, hvn⟩ := badA_zero hbad
  obtain rfl := AT.tr_inj e
  have HBAD := Lib.hid hbad
  have HK := Lib.hid (And.intro hk hv)
  clear e hbad hk hv
  unfold TH.v
  obtain ⟨e1, e2, e3, e4⟩ := enter2 w h
  go_enter Try.func16, Try.ntmps16
  go_upto_region 1 with fail
  generalize ((w.alloc (.cells #[.int .i64 h.k, .slice h.ka h.kn h.kc, .slice h.va h.vn h.vc, .slice h.da h.dn h.dc, .slice h.ta h.tn h.tc] 25)).alloc (.cells #[.int .i64 0, .slice none 0 0, .slice none 0 0, .slice none 0 0, .slice none 0 0] 25)) = w0 at *
  have HX0 : Hid (LX w w0 h a.tr) := Lib.hid ⟨e1, e2, ht.lower e3, e3⟩
  obtain ⟨x0, x1, x2, x3, x4⟩ := e1.cells
  clear e1 e2 e3 e4 ht
  go_upto_region 4 with (first
    | (go_at_call 29
       refine (refusal_any a.tr h ka va kn kc vn vc _ HX0.out.ti).mono ?_
       rintro _ w1 ⟨rfl, hb1⟩
       have HX1 := Lib.hid (HX0.out.below hb1)
       rw [HBAD.out, codeV_zero]
       clear hb1 x0 x1 x2 x3 x4))
  refine wp_region_held_drew (S := (fun W => W.cell? ⟨w.heap.size, 0, none⟩ = some (.int .i64 h.k) ∧ W.cell? ⟨w.heap.size, 1, none⟩ = some (.slice h.ka h.kn h.kc) ∧ W.cell? ⟨w.heap.size, 2, none⟩ = some (.slice h.va h.vn h.vc) ∧ W.cell? ⟨w.heap.size, 3, none⟩ = some (.slice h.da h.dn h.dc) ∧ W.cell? ⟨w.heap.size, 4, none⟩ = some (.slice h.ta h.tn h.tc))) (by kernel_rfl) HX1.out.drew.box.cells (fun hHeld => ?_)
  refine take_w (i := 0) (oi := ?oZ1) (v := ?vZ1) ?hiZ1 (by kernel_rfl) (by kernel_rfl) (by kernel_rfl) ?hQZ1 ?hwZ1 ?hyZ1 (by assumption) ?restZ1
  case hiZ1 => (simp only [List.getElem?_toArray, List.getElem?_cons_zero] <;> rfl)
  case hQZ1 => exact (fun _ _ _ h => h)
  case hwZ1 => rfl
  case hyZ1 => (intro w hSw; (try dsimp only at hSw); go_simp; try with_reducible rfl)
  (try simp only [Act.put, List.setIfInBounds_toArray, List.set_cons_zero, List.set_cons_succ])
  refine take_w (i := 1) (oi := ?oZ2) (v := ?vZ2) ?hiZ2 (by kernel_rfl) (by kernel_rfl) (by kernel_rfl) ?hQZ2 ?hwZ2 ?hyZ2 (by assumption) ?restZ2
  case hiZ2 => (simp only [List.getElem?_toArray, List.getElem?_cons_succ, List.getElem?_cons_zero] <;> rfl)
  case hQZ2 => exact (fun _ _ _ h => h)
  case hwZ2 => rfl
  case hyZ2 => (intro w hSw; (try dsimp only at hSw); go_simp; try with_reducible rfl)
  (try simp only [Act.put, List.setIfInBounds_toArray, List.set_cons_zero, List.set_cons_succ])
  refine take_w (i := 3) (oi := ?oZ3) (v := ?vZ3) ?hiZ3 (by kernel_rfl) (by kernel_rfl) (by kernel_rfl) ?hQZ3 ?hwZ3 ?hyZ3 (by assumption) ?restZ3
  case hiZ3 => (simp only [List.getElem?_toArray, List.getElem?_cons_succ, List.getElem?_cons_zero] <;> rfl)
  case hQZ3 => exact (fun _ _ _ h => h)
  case hwZ3 => rfl
  case hyZ3 => (intro w hSw; (try dsimp only at hSw); go_simp; try with_reducible rfl)
  (try simp only [Act.put, List.setIfInBounds_toArray, List.set_cons_zero, List.set_cons_succ])
  refine wpAnyH_ready (rs := [2]) (by kernel_rfl) (by simp) ?_
  refine AllReadyH.cons (o := ?oZ4) ?hiZ4 (fun K hK => ?stZ4) AllReadyH.nil
  case hiZ4 => (simp only [List.getElem?_toArray, List.getElem?_cons_succ, List.getElem?_cons_zero] <;> rfl)
  go_simp
  go_at_call 31
  refine (clone_any ka kn kc key _ (HK.out.1.below HX1.out.drew.b) (by omega)).mono ?_
  rintro _ w2 ⟨a2, c2, rfl, hi2, -, hb2⟩
  have HX2 := Lib.hid (HX1.out.drew.below hb2)
  have HI2 := Lib.hid hi2
  clear hi2 hb2
  go_simp
  refine hK.out _ _ ?_ (fun hHeld => ?_)
  · (first | exact HX9.out | exact HX4.out.box.cells | exact HX3.out.box.cells | exact HX2.out.box.cells | exact HX1.out.drew.box.cells)
  clear hK K
  (try simp only [Act.put, List.setIfInBounds_toArray, List.set_cons_zero, List.set_cons_succ])
  refine wpAnyH_ready (rs := [4]) (by kernel_rfl) (by simp) ?_
  refine AllReadyH.cons (o := ?oZ5) ?hiZ5 (fun K hK => ?stZ5) AllReadyH.nil
  case hiZ5 => (simp only [List.getElem?_toArray, List.getElem?_cons_succ, List.getElem?_cons_zero] <;> rfl)
  go_simp
  go_at_call 31
  refine (clone_any va vn vc val _ (HK.out.2.below HX2.out.b) (by omega)).mono ?_
  rintro _ w3 ⟨a3, c3, rfl, hi3, -, hb3⟩
  have HX3 := Lib.hid (HX2.out.below hb3)
  have HI3 := Lib.hid (And.intro (HI2.out.below hb3) hi3)
  clear hi3 hb3
  go_simp
  refine hK.out _ _ ?_ (fun hHeld => ?_)
  · (first | exact HX9.out | exact HX4.out.box.cells | exact HX3.out.box.cells | exact HX2.out.box.cells | exact HX1.out.drew.box.cells)
  clear hK K
  (try simp only [Act.put, List.setIfInBounds_toArray, List.set_cons_zero, List.set_cons_succ])
  refine wpAnyH_ready (rs := [5]) (by kernel_rfl) (by simp) ?_
  refine AllReadyH.cons (o := ?oZ6) ?hiZ6 (fun K hK => ?stZ6) AllReadyH.nil
  case hiZ6 => (simp only [List.getElem?_toArray, List.getElem?_cons_succ, List.getElem?_cons_zero] <;> rfl)
  go_simp
  go_at_call 32
  refine (prIns_any key val a2 a3 key.length c2 val.length c3 a h _ HX3.out.ti hbal (by omega) HI3.out.1 HI3.out.2).mono ?_
  rintro _ w4 ⟨h4, rfl, hi4, hb4⟩
  have HX4 := Lib.hid (HX3.out.below hb4)
  have HI4 := Lib.hid hi4
  clear hi4 hb4
  go_simp
  refine hK.out _ _ ?_ (fun hHeld => ?_)
  · (first | exact HX9.out | exact HX4.out.box.cells | exact HX3.out.box.cells | exact HX2.out.box.cells | exact HX1.out.drew.box.cells)
  clear hK K
  (try simp only [Act.put, List.setIfInBounds_toArray, List.set_cons_zero, List.set_cons_succ])
  refine wpAnyH_ready (rs := [6]) (by kernel_rfl) (by simp) ?_
  refine AllReadyH.cons (o := ?oZ7) ?hiZ7 (fun K hK => ?stZ7) AllReadyH.nil
  case hiZ7 => (simp only [List.getElem?_toArray, List.getElem?_cons_succ, List.getElem?_cons_zero] <;> rfl)
  refine step_store_box rfl 25 (.tmp 6) (.tmp 22) rfl (w.heap.size + 1) hZ h4 rfl rfl 25 HX4.out.res infoTree5 ?_
  intro w9 hbx9 hg9
  have HX9 : Hid ((fun W => W.cell? ⟨w.heap.size, 0, none⟩ = some (.int .i64 h.k) ∧ W.cell? ⟨w.heap.size, 1, none⟩ = some (.slice h.ka h.kn h.kc) ∧ W.cell? ⟨w.heap.size, 2, none⟩ = some (.slice h.va h.vn h.vc) ∧ W.cell? ⟨w.heap.size, 3, none⟩ = some (.slice h.da h.dn h.dc) ∧ W.cell? ⟨w.heap.size, 4, none⟩ = some (.slice h.ta h.tn h.tc)) w9) := Lib.hid ((HX4.out.box.grown hg9 (fun q => by injection q; omega)).cells)
  have HR9 := Lib.hid hbx9
  have HI9 := Lib.hid (AT.outBox HX4.out.res hg9 _ _ HI4.out)
  have HB9 : Hid (Below w.heap.size w w9) := Lib.hid (HX4.out.b.grown hg9 HX4.out.b.size (fun j hj => by injection hj; omega))
  clear hbx9 hg9
  refine hK.out _ _ ?_ (fun hHeld => ?_)
  · (first | exact HX9.out | exact HX4.out.box.cells | exact HX3.out.box.cells | exact HX2.out.box.cells | exact HX1.out.drew.box.cells)
  clear hK K
  (try simp only [Act.put])
  refine wpAnyH_ready (rs := [7]) (by kernel_rfl) (by simp) ?_
  refine AllReadyH.cons (o := ?oZ8) ?hiZ8 (fun K hK => ?stZ8) AllReadyH.nil
  case hiZ8 => (simp only [List.getElem?_toArray, List.getElem?_cons_succ, List.getElem?_cons_zero] <;> rfl)
  go_simp
  refine hK.out _ _ ?_ (fun hHeld => ?_)
  · (first | exact HX9.out | exact HX4.out.box.cells | exact HX3.out.box.cells | exact HX2.out.box.cells | exact HX1.out.drew.box.cells)
  clear hK K
  (try simp only [Act.put, List.setIfInBounds_toArray, List.set_cons_zero, List.set_cons_succ])
  refine wpAnyH_done (by kernel_rfl) ?_ _
  clear hHeld
  go_wp2_with fail
  exact bodyPost_ret (Box.result Try.results16 _ HR9.out rfl Try.underlying25 infoTree5) rfl ⟨h4, rfl, HI9.out, HB9.out⟩

set_option maxRecDepth 100000 in
set_option maxHeartbeats 4000000 in
theorem del_ok (a : AT) (h : TH) (key : List Int) (ka : Option Addr) (kn kc : Nat) (w : World) (ht : InTree w h a.tr) (hk : InBytes w ka kn kc key) (hbad : badA a.tr kn 0 = 0) : Calls Try.prog 19 #[h.v, .slice ka kn kc] w (DelOk w (a.del key) (a.get key).isSome) := by
  obtain ⟨⟨a', e, hbal, hri, -, hdep⟩, -, -⟩ := badA_zero hbad
  obtain rfl := AT.tr_inj e
  have HBAD := Lib.hid hbad
  have HK := Lib.hid hk
  have HFS := Lib.hid (AT.find_some (key := key) hri)
  have HBR := Lib.hid (And.intro hbal hri)
  clear e hbad hk hbal hri
  unfold TH.v
  obtain ⟨e1, e2, e3, e4⟩ := enter2 w h
  go_enter Try.func19, Try.ntmps19
  go_upto_region 1 with fail
  generalize ((w.alloc (.cells #[.int .i64 h.k, .slice h.ka h.kn h.kc, .slice h.va h.vn h.vc, .slice h.da h.dn h.dc, .slice h.ta h.tn h.tc] 25)).alloc (.cells #[.int .i64 0, .slice none 0 0, .slice none 0 0, .slice none 0 0, .slice none 0 0] 25)) = w0 at *
  have HX0 : Hid (LX w w0 h a.tr) := Lib.hid ⟨e1, e2, ht.lower e3, e3⟩
  obtain ⟨x0, x1, x2, x3, x4⟩ := e1.cells
  clear e1 e2 e3 e4 ht
  generalize hF : (a.find key).isNil = F
  have HF := Lib.hid hF
  clear hF
  go_upto_region 5 with (first
    | (go_at_call 29
       refine (refusal_any a.tr h ka none kn kc 0 0 _ HX0.out.ti).mono ?_
       rintro _ w1 ⟨rfl, hb1⟩
       have HX1 := Lib.hid (HX0.out.below hb1)
       rw [HBAD.out, codeV_zero]
       clear x0 x1 x2 x3 x4
       obtain ⟨x0, x1, x2, x3, x4⟩ := HX1.out.box.cells
       clear hb1)
    | (go_at_call 30
       refine (prFind_any key ka kn kc a h _ HX1.out.ti (HK.out.below HX1.out.b)).mono ?_
       rintro _ w2 ⟨h2, rfl, -, hb2⟩
       rw [HF.out]
       have HX2 := Lib.hid (HX1.out.below hb2)
       clear hb2 x0 x1 x2 x3 x4)
    | (refine wpList_store_box rfl 25 (.tmp 8) (.tmp 21) rfl w2.heap.size hZ h2 rfl rfl 25 (Box.new w2 25 hZ) infoTree5 ?_
       intro w3 hbx3 hg3
       have q3 : Below w2.heap.size w2 w3 := ((Below.refl w2.heap.size w2).alloc (Nat.le_refl _) _).grown hg3 (by simp) (fun j hj => by injection hj; omega)
       have HX3 := Lib.hid (HX2.out.below q3)
       obtain ⟨x0, x1, x2, x3, x4⟩ := HX3.out.box.cells
       clear hbx3 hg3 q3))
  cases F with
  | true =>
    simp only [Bool.not_true]
    go_wp2_with (first
      | (refine wpList_store_box rfl 25 (.tmp 4) (.tmp 25) rfl (w.heap.size + 1) hZ h rfl rfl 25 HX3.out.res infoTree5 ?_
         intro w9 hbx9 hg9
         have HX9 := Lib.hid hbx9
         have HI9 := Lib.hid (AT.outBox HX3.out.res hg9 _ _ HX3.out.ti)
         have HB9 : Hid (Below w.heap.size w w9) := Lib.hid (HX3.out.b.grown hg9 HX3.out.b.size (fun j hj => by injection hj; omega))
         clear hbx9 hg9))
    refine bodyPost_ret (Box.result3 Try.results19 _ HX9.out rfl Try.underlying25 infoTree5) rfl ⟨h, ?_, ?_, HB9.out⟩
    · rw [← HFS.out, HF.out]
      rfl
    · rw [AT.del_absent key a HBR.out.1 HF.out]
      exact HI9.out
  | false =>
    simp only [Bool.not_false]
    go_wp2_with (first
      | (go_at_call 35
         refine (prDel_any a key ka kn kc h _ HX3.out.ti HBR.out.1 HBR.out.2 (by omega) HF.out (HK.out.below HX3.out.b)).mono ?_
         rintro _ w4 ⟨h4, rfl, hi4, hb4⟩
         have HX4 := Lib.hid (HX3.out.below hb4)
         have HI4 := Lib.hid hi4
         clear hi4 hb4 x0 x1 x2 x3 x4)
      | (refine wpList_store_box rfl 25 (.tmp 4) (.tmp 28) rfl (w.heap.size + 1) hZ h4 rfl rfl 25 HX4.out.res infoTree5 ?_
         intro w9 hbx9 hg9
         have HX9 := Lib.hid hbx9
         have HI9 := Lib.hid (AT.outBox HX4.out.res hg9 _ _ HI4.out)
         have HB9 : Hid (Below w.heap.size w w9) := Lib.hid (HX4.out.b.grown hg9 HX4.out.b.size (fun j hj => by injection hj; omega))
         clear hbx9 hg9))
    refine bodyPost_ret (Box.result3 Try.results19 _ HX9.out rfl Try.underlying25 infoTree5) rfl ⟨h4, ?_, HI9.out, HB9.out⟩
    rw [← HFS.out, HF.out]
    rfl

end Go.Proofs.Ytolpdidjabbipaa
