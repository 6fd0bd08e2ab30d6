/- The contract of the program's list of nodes. The walk of the law ProofRoots. What the rows' condition on the two listed tables gives the walks; a start that meets it. Spans, and lists of pairs, that are arguments. -/
import Derived.Test.YtkfjhegehhahcaaDoorMSA
import Derived.Test.YtkfjhegehhahcaaDoorMSD
import Derived.Test.YtkfjhegehhahcaaDoorMRE
import Derived.Test.YtkfjhegehhahcaaDoorMSB
import Derived.Test.YtkfjhegehhahcaaDoorMSC
import Derived.Test.YtkfjhegehhahcaaDoorRows
import Derived.ProofKit
import Derived.LaidMore
import Derived.OpenShut
import Derived.Stop.Joined
/- The contract of the program's list of nodes. -/
namespace Go.Proofs.YtkfjhegehhahcaaDoor
open Go.RowKit
set_option linter.unusedVariables false

/-- From w to w' block gn and the row v alone were written; the row is where it was, or in a new block. -/
structure Keeps (w w' : World) (gn : Nat) (v v' : Value) : Prop where
  os : w'.os = w.os
  tape : w'.tape = w.tape
  output : w'.output = w.output
  size : w.heap.size ≤ w'.heap.size
  block : ∀ j, j < w.heap.size → j ≠ gn → some j ≠ v.ownBlock → w'.heap[j]? = w.heap[j]?
  ob : v'.ownBlock = v.ownBlock ∨ ∃ g, v'.ownBlock = some g ∧ w.heap.size ≤ g
theorem Keeps.trans {a b c : World} {gn : Nat} {u v x : Value} (h : Keeps a b gn u v) (h' : Keeps b c gn v x) : Keeps a c gn u x :=
  ⟨h'.os.trans h.os, h'.tape.trans h.tape, h'.output.trans h.output, Nat.le_trans h.size h'.size, fun j hj hn ho => by
    rw [h'.block j (Nat.lt_of_lt_of_le hj h.size) hn ?_]
    · exact h.block j hj hn ho
    · rcases h.ob with e | ⟨g, e, hg⟩
      · rw [e]; exact ho
      · rw [e]
        intro q
        injection q with q
        omega, by
    rcases h'.ob with e | ⟨g, e, hg⟩
    · rw [e]; exact h.ob
    · exact .inr ⟨g, e, Nat.le_trans h.size hg⟩⟩
theorem Keeps.of_below {w w' : World} (gn : Nat) (v : Value) (hb : Below w.heap.size w w') : Keeps w w' gn v v :=
  ⟨hb.os, hb.tape, hb.output, hb.size, fun j hj _ _ => hb.block j hj, .inl rfl⟩
theorem Keeps.of_grown {w w' : World} (gn : Nat) {v v' : Value} (hg : w.grownBy w' v.ownBlock) (ho : v'.ownBlock = v.ownBlock ∨ v'.ownBlock = some w.heap.size) : Keeps w w' gn v v' :=
  ⟨hg.os, hg.tape, hg.output, hg.size, fun j hj _ h => hg.block j hj h, by
    rcases ho with h | h
    · exact .inl h
    · exact .inr ⟨_, h, Nat.le_refl _⟩⟩
theorem Keeps.of_set (w : World) (gn : Nat) (v u : Value) : Keeps w (w.setCell ⟨gn, 0, none⟩ u) gn v v :=
  ⟨rfl, rfl, rfl, by simp [World.setCell], fun j _ hn _ => Below.heap_setCell w ⟨gn, 0, none⟩ u j hn, .inl rfl⟩
theorem Keeps.below {wb w w' : World} {gn B : Nat} {v v' : Value} (h : Keeps w w' gn v v') (hb : Below B wb w) (hB : B ≤ w.heap.size) (hgn : B ≤ gn) (hv : ∀ k, v.ownBlock = some k → B ≤ k) : Below B wb w' :=
  ⟨h.os.trans hb.os, h.tape.trans hb.tape, h.output.trans hb.output, Nat.le_trans hb.size h.size, fun j hj => by
    rw [h.block j (by omega) (by omega) ?_]
    · exact hb.block j hj
    · intro q
      have := hv j q.symm
      omega⟩
/-- The world inside the closure of List: u is what the variable holds, v the row. -/
structure LW (wb w W : World) (gc gn : Nat) (h : TH) (v0 u v : Value) (hs : List TH) : Prop where
  box : Box W 25 w.heap.size h
  clo : Var1 W 75 gc (.func (.func 41) #[] #[.pointer (some ⟨gc, 0, none⟩), .pointer (some ⟨gn, 0, none⟩)])
  var : Var1 W 23 gn u
  own : OwnT W wb.heap.size 25 v hs
  b : Below wb.heap.size wb W
  nb : some w.heap.size ≠ v.ownBlock
  ge : wb.heap.size ≤ gn
  k : Keeps w W gn v0 v
section
variable {wb w W W' : World} {gc gn : Nat} {h : TH} {v0 u v u' v' : Value} {hs hs' : List TH}
theorem LW.step (d : LW wb w W gc gn h v0 u v hs) (hvar : Var1 W' 23 gn u') (hown : OwnT W' wb.heap.size 25 v' hs') (hk : Keeps W W' gn v v') : LW wb w W' gc gn h v0 u' v' hs' :=
  ⟨(hk.block _ d.box.lt (d.box.neV d.var (by decide)) d.nb).trans d.box, (hk.block _ d.clo.lt (d.clo.ne d.var (by decide)) (d.own.neV d.clo (by decide))).trans d.clo, hvar, hown,
    hk.below d.b d.b.size d.ge (fun k e => (d.own.lt k e).1), by
      rcases hk.ob with e | ⟨g, e, hg⟩
      · rw [e]; exact d.nb
      · rw [e]
        intro q
        injection q with q
        have := d.box.lt
        omega, d.ge, d.k.trans hk⟩
theorem LW.below (d : LW wb w W gc gn h v0 u v hs) (hb : Below W.heap.size W W') : LW wb w W' gc gn h v0 u v hs :=
  d.step (d.var.below hb d.var.lt) (d.own.keep hb) (Keeps.of_below gn v hb)
theorem LW.drew (d : LW wb w W gc gn h v0 u v hs) : LW wb w W.drew gc gn h v0 u v hs := d.below (Below.refl _ _).drew
/-- The row was written, or has grown. -/
theorem LW.grown (d : LW wb w W gc gn h v0 u v hs) (hown : OwnT W' wb.heap.size 25 v' hs') (hg : W.grownBy W' v.ownBlock) (ho : v'.ownBlock = v.ownBlock ∨ v'.ownBlock = some W.heap.size) : LW wb w W' gc gn h v0 u v' hs' :=
  d.step (d.var.grown hg (d.own.neV d.var (by decide))) hown (Keeps.of_grown gn hg ho)
/-- The variable was written. -/
theorem LW.put (d : LW wb w W gc gn h v0 u v hs) (x : Value) : LW wb w (W.setCell ⟨gn, 0, none⟩ x) gc gn h v0 x v hs :=
  d.step (d.var.set x) (d.own.far (p := ⟨gn, 0, none⟩) (d.own.neV d.var (by decide)) x) (Keeps.of_set W gn v x)
end
theorem LW.new {wb w : World} {gc gn : Nat} {v : Value} {hs : List TH} (h : TH) (hb : Below wb.heap.size wb w) (hge : wb.heap.size ≤ gn) (hc : Var1 w 75 gc (.func (.func 41) #[] #[.pointer (some ⟨gc, 0, none⟩), .pointer (some ⟨gn, 0, none⟩)])) (hv : Var1 w 23 gn v) (ho : OwnT w wb.heap.size 25 v hs) : LW wb w (w.alloc (.cells #[.int .i64 h.k, .slice h.ka h.kn h.kc, .slice h.va h.vn h.vc, .slice h.da h.dn h.dc, .slice h.ta h.tn h.tc] 25)) gc gn h v v v hs :=
  have h1 : Below w.heap.size w (w.alloc (.cells #[.int .i64 h.k, .slice h.ka h.kn h.kc, .slice h.va h.vn h.vc, .slice h.da h.dn h.dc, .slice h.ta h.tn h.tc] 25)) := (Below.refl _ _).alloc (Nat.le_refl _) _
  ⟨Box.new w _ h, hc.below h1 hc.lt, hv.below h1 hv.lt, ho.keep h1, hb.trans (h1.mono hb.size), fun q => by have := (ho.lt _ q.symm).2; omega, hge, Keeps.of_below gn v h1⟩

set_option maxRecDepth 100000 in
set_option maxHeartbeats 4000000 in
theorem listC_any (wb : World) : ∀ (t : Tr) (h : TH) (w : World) (gc gn : Nat) (v : Value) (hs : List TH), InTree wb h t → formedT t = true → hs.length + countT t ≤ 1000 → Below wb.heap.size wb w → wb.heap.size ≤ gn →
    Var1 w 75 gc (.func (.func 41) #[] #[.pointer (some ⟨gc, 0, none⟩), .pointer (some ⟨gn, 0, none⟩)]) → Var1 w 23 gn v → OwnT w wb.heap.size 25 v hs →
    Calls Tryd.prog 41 #[h.v, .pointer (some ⟨gc, 0, none⟩), .pointer (some ⟨gn, 0, none⟩)] w (fun e w' => ∃ v' hs', e = .returned (.tuple #[]) ∧ Var1 w' 23 gn v' ∧ OwnT w' wb.heap.size 25 v' (hs ++ hs') ∧ Heads wb hs' (listT t) ∧ Keeps w w' gn v v') := by
  intro t
  induction t using Tr.ind with
  | h t ih =>
  intro h w gc gn v hs ht hf hcn hbw hge hc hv ho
  obtain ⟨hpb, hfk⟩ := formed_kids hf
  unfold TH.v
  obtain ⟨H, hp⟩ := ht.parts
  have htl := hp.len
  have htm := Nat.le_trans hp.sl.le hp.sl.max
  have htc := hp.sl.le
  simp only [maxLen] at htm
  have HP := Lib.hid hp
  have HTT := Lib.hid ht
  have IH := Lib.hid ih
  have hd0 := LW.new h hbw hge hc hv ho
  have HD0 := Lib.hid hd0
  obtain ⟨x0, x1, x2, x3, x4⟩ := hd0.box.cells
  clear hp ht ih hbw hge hc hv ho hd0
  obtain ⟨ti, hti, htz⟩ := Option.map_eq_some_iff.1 infoTree2
  simp only [Prod.mk.injEq] at htz
  obtain ⟨hz0, hz1, hz2⟩ := htz
  go_enter Tryd.func41, Tryd.ntmps41
  go_upto_if 6 with (first
    | (go_at_call 42
       refine (isNode_any t h _ (HTT.out.lower HD0.out.b)).mono ?_
       rintro _ w1 ⟨rfl, hb1⟩
       have HD1 := Lib.hid (HD0.out.below hb1)
       clear hb1))
  clear x0 x1 x2 x3 x4 HD0
  rcases part_kids hpb with ⟨h0, hk⟩ | ⟨h2, hk⟩
  · have e1 : nodeK t = false := by unfold nodeK; rcases hk with hk | hk <;> rw [hk] <;> rfl
    rw [e1]
    clear e1 hk
    go_wp2_with fail
    first | go_end0 | refine bodyPost_ret (results_none rfl _ _ _) rfl ?_
    exact ⟨v, [], rfl, HD1.out.var, by rw [List.append_nil]; exact HD1.out.own, by rw [listT_0 h0]; exact Heads.nil wb, HD1.out.k⟩
  have e1 : nodeK t = true := by unfold nodeK; rcases hk with hk | hk <;> rw [hk] <;> rfl
  rw [e1]
  clear e1 hk
  simp only [Bool.not_true]
  have l0 : 0 < t.kids.length := by omega
  have l1 : 1 < t.kids.length := by omega
  have hct := count_two h2
  have ll0 := list_len _ (hfk 0 l0)
  have HL := Lib.hid (listT_2 h2)
  have HF := Lib.hid hfk
  have hbd0 : hs.length + countT t.kids[0] ≤ 1000 := by omega
  have hbd3 : hs.length + countT t.kids[0] + 1 + countT t.kids[1] ≤ 1000 := by omega
  clear hfk hf hct hcn
  go_upto_region 2 with fail
  obtain ⟨g, off, hta, hg, -⟩ := (HP.out.below HD1.out.b).place (by omega)
  have HTA := Lib.hid hta
  rw [hta]
  clear hta hg
  have ht1 : (1 : Int) < (h.tn : Int) := by omega
  have ht0 : 0 < h.tn := by omega
  refine wp_region_held_drew (S := (fun W => W.cell? ⟨gc, 0, none⟩ = some (.func (.func 41) #[] #[.pointer (some ⟨gc, 0, none⟩), .pointer (some ⟨gn, 0, none⟩)]) ∧ W.cell? ⟨w.heap.size, 4, none⟩ = some (.slice (some ⟨g, off, none⟩) h.tn h.tc) ∧ W.cell? ⟨g, off, none⟩ = some (.int .i64 (H 0).k) ∧ W.cell? ⟨g, off + 1, none⟩ = some (.slice (H 0).ka (H 0).kn (H 0).kc) ∧ W.cell? ⟨g, off + 2, none⟩ = some (.slice (H 0).va (H 0).vn (H 0).vc) ∧ W.cell? ⟨g, off + 3, none⟩ = some (.slice (H 0).da (H 0).dn (H 0).dc) ∧ W.cell? ⟨g, off + 4, none⟩ = some (.slice (H 0).ta (H 0).tn (H 0).tc))) (by kernel_rfl) ⟨HD1.out.drew.clo.cell, (HD1.out.drew.box.cells.2.2.2.2).trans (by rw [HTA.out]), (HP.out.below HD1.out.drew.b).kid0 HTA.out (by omega)⟩ (fun hHeld => ?_)
  refine take_w (i := 0) (oi := ?oZ1) (v := ?vZ1) ?hiZ1 (by kernel_rfl) (by kernel_rfl) (by kernel_rfl) ?hQZ1 ?hwZ1 ?hyZ1 (by assumption) ?restZ1
  case hiZ1 => (simp only [List.getElem?_toArray, List.getElem?_cons_zero] <;> rfl)
  case hQZ1 => exact (fun _ _ _ h => h)
  case hwZ1 => rfl
  case hyZ1 => (intro w hSw; (try dsimp only at hSw); go_simp; try with_reducible rfl)
  (try simp only [Act.put, List.setIfInBounds_toArray, List.set_cons_zero, List.set_cons_succ])
  refine take_w (i := 1) (oi := ?oZ2) (v := ?vZ2) ?hiZ2 (by kernel_rfl) (by kernel_rfl) (by kernel_rfl) ?hQZ2 ?hwZ2 ?hyZ2 (by assumption) ?restZ2
  case hiZ2 => (simp only [List.getElem?_toArray, List.getElem?_cons_succ, List.getElem?_cons_zero] <;> rfl)
  case hQZ2 => exact (fun _ _ _ h => h)
  case hwZ2 => rfl
  case hyZ2 => (intro w hSw; (try dsimp only at hSw); go_simp; try with_reducible rfl)
  (try simp only [Act.put, List.setIfInBounds_toArray, List.set_cons_zero, List.set_cons_succ])
  refine take_w (i := 2) (oi := ?oZ3) (v := ?vZ3) ?hiZ3 (by kernel_rfl) (by kernel_rfl) (by kernel_rfl) ?hQZ3 ?hwZ3 ?hyZ3 (by assumption) ?restZ3
  case hiZ3 => (simp only [List.getElem?_toArray, List.getElem?_cons_succ, List.getElem?_cons_zero] <;> rfl)
  case hQZ3 => exact (fun _ _ _ h => h)
  case hwZ3 => rfl
  case hyZ3 => (intro w hSw; (try dsimp only at hSw); go_simp; try with_reducible rfl)
  (try simp only [Act.put, List.setIfInBounds_toArray, List.set_cons_zero, List.set_cons_succ])
  refine take_w (i := 3) (oi := ?oZ4) (v := ?vZ4) ?hiZ4 (by kernel_rfl) (by kernel_rfl) (by kernel_rfl) ?hQZ4 ?hwZ4 ?hyZ4 (by assumption) ?restZ4
  case hiZ4 => (simp only [List.getElem?_toArray, List.getElem?_cons_succ, List.getElem?_cons_zero] <;> rfl)
  case hQZ4 => exact (fun _ _ _ h => h)
  case hwZ4 => rfl
  case hyZ4 => (intro w hSw; (try dsimp only at hSw); go_simp; try with_reducible rfl)
  (try simp only [Act.put, List.setIfInBounds_toArray, List.set_cons_zero, List.set_cons_succ])
  refine take_w (i := 4) (oi := ?oZ5) (v := ?vZ5) ?hiZ5 (by kernel_rfl) (by kernel_rfl) (by kernel_rfl) ?hQZ5 ?hwZ5 ?hyZ5 (by assumption) ?restZ5
  case hiZ5 => (simp only [List.getElem?_toArray, List.getElem?_cons_succ, List.getElem?_cons_zero] <;> rfl)
  case hQZ5 => exact (fun _ _ _ h => h)
  case hwZ5 => rfl
  case hyZ5 => (intro w hSw; (try dsimp only at hSw); go_simp; try with_reducible rfl)
  (try simp only [Act.put, List.setIfInBounds_toArray, List.set_cons_zero, List.set_cons_succ])
  refine wpAnyH_ready (rs := [5]) (by kernel_rfl) (by simp) ?_
  refine AllReadyH.cons (o := ?oZ6) ?hiZ6 (fun K hK => ?stZ6) AllReadyH.nil
  case hiZ6 => (simp only [List.getElem?_toArray, List.getElem?_cons_succ, List.getElem?_cons_zero] <;> rfl)
  go_simp
  go_at_call 41
  refine (IH.out _ (List.getElem_mem l0) (H 0) _ gc gn _ _ (HP.out.kids 0 l0) (HF.out 0 l0) hbd0 HD1.out.drew.b HD1.out.drew.ge HD1.out.drew.clo HD1.out.drew.var HD1.out.drew.own).mono ?_
  rintro _ w2 ⟨v2, hs2, rfl, hv2, ho2, hh2, hk2⟩
  have HD2 := Lib.hid (HD1.out.drew.step hv2 ho2 hk2)
  have HH2 := Lib.hid hh2
  clear hv2 ho2 hh2 hk2
  go_simp
  refine hK.out _ _ ?_ (fun hHeld => ?_)
  · (first | exact ⟨HD2.out.clo.cell, (HD2.out.box.cells.2.2.2.2).trans (by rw [HTA.out]), (HP.out.below HD2.out.b).kid0 HTA.out (by omega)⟩ | exact ⟨HD1.out.drew.clo.cell, (HD1.out.drew.box.cells.2.2.2.2).trans (by rw [HTA.out]), (HP.out.below HD1.out.drew.b).kid0 HTA.out (by omega)⟩)
  clear hK K
  (try simp only [Act.put, List.setIfInBounds_toArray, List.set_cons_zero, List.set_cons_succ])
  refine wpAnyH_done (by kernel_rfl) ?_ _
  
  clear hHeld
  have hhl := HH2.out.1
  obtain ⟨a2, c2, hv2⟩ := HD2.out.own.sl
  have hbd4 : (hs ++ hs2).length + 1 + countT t.kids[1] ≤ 1000 := by rw [List.length_append, hhl]; omega
  generalize hn2 : (hs ++ hs2).length = n2 at hv2 hbd4
  have HN2 := Lib.hid hn2
  subst hv2
  clear hhl hn2
  go_upto_region 3 with fail
  go_cut [] (fun wx => ∃ v3, LW wb w wx gc gn h v v3 v3 (hs ++ hs2 ++ [h]))
  case first =>
    have hba : Below w2.drew.heap.size w2.drew (w2.drew.alloc (.cells #[.int .i64 0, .slice none 0 0, .slice none 0 0, .slice none 0 0, .slice none 0 0] 25)) := (Below.refl _ _).alloc (Nat.le_refl _) _
    have HDA := Lib.hid (HD2.out.drew.below hba)
    have HZB : Hid (Box (w2.drew.alloc (.cells #[.int .i64 0, .slice none 0 0, .slice none 0 0, .slice none 0 0, .slice none 0 0] 25)) 25 w2.heap.size hZ) := Lib.hid (Box.new w2.drew 25 hZ)
    have cv2 := HD2.out.var.cell
    have cva : (w2.alloc (.cells #[.int .i64 0, .slice none 0 0, .slice none 0 0, .slice none 0 0, .slice none 0 0] 25)).cell? ⟨gn, 0, none⟩ = some (.slice a2 n2 c2) := HDA.out.var.cell
    have hlt2 : (n2 : Int) < (n2 : Int) + 1 := by omega
    clear hba
    refine wp_region_held_drew (S := (fun W => W.cell? ⟨w.heap.size, 0, none⟩ = some (.int .i64 h.k) ∧ W.cell? ⟨w.heap.size, 1, none⟩ = some (.slice h.ka h.kn h.kc) ∧ W.cell? ⟨w.heap.size, 2, none⟩ = some (.slice h.va h.vn h.vc) ∧ W.cell? ⟨w.heap.size, 3, none⟩ = some (.slice h.da h.dn h.dc) ∧ W.cell? ⟨w.heap.size, 4, none⟩ = some (.slice (some ⟨g, off, none⟩) h.tn h.tc))) (by kernel_rfl) ⟨HD2.out.drew.box.cells.1, HD2.out.drew.box.cells.2.1, HD2.out.drew.box.cells.2.2.1, HD2.out.drew.box.cells.2.2.2.1, (HD2.out.drew.box.cells.2.2.2.2).trans (by rw [HTA.out])⟩ (fun hHeld => ?_)
    refine take_w (i := 1) (oi := ?oZ13) (v := ?vZ13) ?hiZ13 (by kernel_rfl) (by kernel_rfl) (by kernel_rfl) ?hQZ13 ?hwZ13 ?hyZ13 (by assumption) ?restZ13
    case hiZ13 => (simp only [List.getElem?_toArray, List.getElem?_cons_succ, List.getElem?_cons_zero] <;> rfl)
    case hQZ13 => exact (fun _ _ _ h => h)
    case hwZ13 => rfl
    case hyZ13 => (intro w hSw; (try dsimp only at hSw); go_simp; try with_reducible rfl)
    (try simp only [Act.put, List.setIfInBounds_toArray, List.set_cons_zero, List.set_cons_succ])
    refine wpAnyH_ready (rs := [0, 3]) (by kernel_rfl) (by simp) ?_
    refine AllReadyH.cons (o := ?oZ14) ?hiZ14 (fun K hK => ?stZ14) (AllReadyH.cons (o := ?oZ15) ?hiZ15 (fun K hK => ?stZ15) AllReadyH.nil)
    case hiZ14 => (simp only [List.getElem?_toArray, List.getElem?_cons_zero] <;> rfl)
    case hiZ15 => (simp only [List.getElem?_toArray, List.getElem?_cons_succ, List.getElem?_cons_zero] <;> rfl)
    case stZ14 =>
      go_simp
      refine hK.out _ _ ?_ (fun hHeld => ?_)
      · (first | exact ⟨(HD4.out.put (.slice (some ⟨g3, 0, none⟩) (n2 + 1) c3)).box.cells.1, (HD4.out.put (.slice (some ⟨g3, 0, none⟩) (n2 + 1) c3)).box.cells.2.1, (HD4.out.put (.slice (some ⟨g3, 0, none⟩) (n2 + 1) c3)).box.cells.2.2.1, (HD4.out.put (.slice (some ⟨g3, 0, none⟩) (n2 + 1) c3)).box.cells.2.2.2.1, ((HD4.out.put (.slice (some ⟨g3, 0, none⟩) (n2 + 1) c3)).box.cells.2.2.2.2).trans (by rw [HTA.out])⟩ | exact ⟨HD5.out.box.cells.1, HD5.out.box.cells.2.1, HD5.out.box.cells.2.2.1, HD5.out.box.cells.2.2.2.1, (HD5.out.box.cells.2.2.2.2).trans (by rw [HTA.out])⟩ | exact ⟨HD4.out.box.cells.1, HD4.out.box.cells.2.1, HD4.out.box.cells.2.2.1, HD4.out.box.cells.2.2.2.1, (HD4.out.box.cells.2.2.2.2).trans (by rw [HTA.out])⟩ | exact ⟨(HD3.out.put (.slice (some ⟨g3, 0, none⟩) (n2 + 1) c3)).box.cells.1, (HD3.out.put (.slice (some ⟨g3, 0, none⟩) (n2 + 1) c3)).box.cells.2.1, (HD3.out.put (.slice (some ⟨g3, 0, none⟩) (n2 + 1) c3)).box.cells.2.2.1, (HD3.out.put (.slice (some ⟨g3, 0, none⟩) (n2 + 1) c3)).box.cells.2.2.2.1, ((HD3.out.put (.slice (some ⟨g3, 0, none⟩) (n2 + 1) c3)).box.cells.2.2.2.2).trans (by rw [HTA.out])⟩ | exact ⟨HD3.out.box.cells.1, HD3.out.box.cells.2.1, HD3.out.box.cells.2.2.1, HD3.out.box.cells.2.2.2.1, (HD3.out.box.cells.2.2.2.2).trans (by rw [HTA.out])⟩ | exact ⟨HDA.out.box.cells.1, HDA.out.box.cells.2.1, HDA.out.box.cells.2.2.1, HDA.out.box.cells.2.2.2.1, (HDA.out.box.cells.2.2.2.2).trans (by rw [HTA.out])⟩ | exact ⟨HD2.out.drew.box.cells.1, HD2.out.drew.box.cells.2.1, HD2.out.drew.box.cells.2.2.1, HD2.out.drew.box.cells.2.2.2.1, (HD2.out.drew.box.cells.2.2.2.2).trans (by rw [HTA.out])⟩)
      clear hK K
      (try simp only [Act.put, List.setIfInBounds_toArray, List.set_cons_zero, List.set_cons_succ])
      refine take_w (i := 2) (oi := ?oZ16) (v := ?vZ16) ?hiZ16 (by kernel_rfl) (by kernel_rfl) (by kernel_rfl) ?hQZ16 ?hwZ16 ?hyZ16 (by assumption) ?restZ16
      case hiZ16 => (simp only [List.getElem?_toArray, List.getElem?_cons_succ, List.getElem?_cons_zero] <;> rfl)
      case hQZ16 => exact (fun _ _ _ h => h)
      case hwZ16 => rfl
      case hyZ16 => (intro w hSw; (try dsimp only at hSw); go_simp; try with_reducible rfl)
      (try simp only [Act.put, List.setIfInBounds_toArray, List.set_cons_zero, List.set_cons_succ])
      refine wpAnyH_ready (rs := [3]) (by kernel_rfl) (by simp) ?_
      refine AllReadyH.cons (o := ?oZ17) ?hiZ17 (fun K hK => ?stZ17) AllReadyH.nil
      case hiZ17 => (simp only [List.getElem?_toArray, List.getElem?_cons_succ, List.getElem?_cons_zero] <;> rfl)
      go_simp
      refine hK.out _ _ ?_ (fun hHeld => ?_)
      · (first | exact ⟨(HD4.out.put (.slice (some ⟨g3, 0, none⟩) (n2 + 1) c3)).box.cells.1, (HD4.out.put (.slice (some ⟨g3, 0, none⟩) (n2 + 1) c3)).box.cells.2.1, (HD4.out.put (.slice (some ⟨g3, 0, none⟩) (n2 + 1) c3)).box.cells.2.2.1, (HD4.out.put (.slice (some ⟨g3, 0, none⟩) (n2 + 1) c3)).box.cells.2.2.2.1, ((HD4.out.put (.slice (some ⟨g3, 0, none⟩) (n2 + 1) c3)).box.cells.2.2.2.2).trans (by rw [HTA.out])⟩ | exact ⟨HD5.out.box.cells.1, HD5.out.box.cells.2.1, HD5.out.box.cells.2.2.1, HD5.out.box.cells.2.2.2.1, (HD5.out.box.cells.2.2.2.2).trans (by rw [HTA.out])⟩ | exact ⟨HD4.out.box.cells.1, HD4.out.box.cells.2.1, HD4.out.box.cells.2.2.1, HD4.out.box.cells.2.2.2.1, (HD4.out.box.cells.2.2.2.2).trans (by rw [HTA.out])⟩ | exact ⟨(HD3.out.put (.slice (some ⟨g3, 0, none⟩) (n2 + 1) c3)).box.cells.1, (HD3.out.put (.slice (some ⟨g3, 0, none⟩) (n2 + 1) c3)).box.cells.2.1, (HD3.out.put (.slice (some ⟨g3, 0, none⟩) (n2 + 1) c3)).box.cells.2.2.1, (HD3.out.put (.slice (some ⟨g3, 0, none⟩) (n2 + 1) c3)).box.cells.2.2.2.1, ((HD3.out.put (.slice (some ⟨g3, 0, none⟩) (n2 + 1) c3)).box.cells.2.2.2.2).trans (by rw [HTA.out])⟩ | exact ⟨HD3.out.box.cells.1, HD3.out.box.cells.2.1, HD3.out.box.cells.2.2.1, HD3.out.box.cells.2.2.2.1, (HD3.out.box.cells.2.2.2.2).trans (by rw [HTA.out])⟩ | exact ⟨HDA.out.box.cells.1, HDA.out.box.cells.2.1, HDA.out.box.cells.2.2.1, HDA.out.box.cells.2.2.2.1, (HDA.out.box.cells.2.2.2.2).trans (by rw [HTA.out])⟩ | exact ⟨HD2.out.drew.box.cells.1, HD2.out.drew.box.cells.2.1, HD2.out.drew.box.cells.2.2.1, HD2.out.drew.box.cells.2.2.2.1, (HD2.out.drew.box.cells.2.2.2.2).trans (by rw [HTA.out])⟩)
      clear hK K
      (try simp only [Act.put, List.setIfInBounds_toArray, List.set_cons_zero, List.set_cons_succ])
      refine wpAnyH_ready (rs := [4]) (by kernel_rfl) (by simp) ?_
      refine AllReadyH.cons (o := ?oZ18) ?hiZ18 (fun K hK => ?stZ18) AllReadyH.nil
      case hiZ18 => (simp only [List.getElem?_toArray, List.getElem?_cons_succ, List.getElem?_cons_zero] <;> rfl)
      refine step_append_trees _ rfl (.tmp 13) (.tmp 16) 23 rfl wb.heap.size 25 ti _ 104 Tryd.underlying23 hti hz0 hz1 hz2 rfl (.slice a2 n2 c2) (hs ++ hs2) rfl HDA.out.own w2.heap.size 1 [hZ] rfl HZB.out.row (by rw [HN2.out]; simp only [List.length_cons, List.length_nil]; omega) (by omega) HDA.out.b.size ?_
      intro v3 w3 ho3 hg3 hob3
      have hl3 : (hs ++ hs2 ++ [hZ]).length = n2 + 1 := by rw [List.length_append, HN2.out]; rfl
      rcases ho3.form with ⟨_, q1⟩ | ⟨g3, c3, q1, -, -, -, -, -⟩
      · exfalso
        rw [q1] at hl3
        simp at hl3
      rw [hl3] at q1
      subst q1
      clear hl3
      have hd3 := HDA.out.grown ho3 hg3 hob3
      have HD3 := Lib.hid hd3
      have cn3 := hd3.var.cell
      have cf3 := hd3.var.frozen 0
      clear ho3 hg3 hob3 hd3
      refine hK.out _ _ ?_ (fun hHeld => ?_)
      · (first | exact ⟨(HD4.out.put (.slice (some ⟨g3, 0, none⟩) (n2 + 1) c3)).box.cells.1, (HD4.out.put (.slice (some ⟨g3, 0, none⟩) (n2 + 1) c3)).box.cells.2.1, (HD4.out.put (.slice (some ⟨g3, 0, none⟩) (n2 + 1) c3)).box.cells.2.2.1, (HD4.out.put (.slice (some ⟨g3, 0, none⟩) (n2 + 1) c3)).box.cells.2.2.2.1, ((HD4.out.put (.slice (some ⟨g3, 0, none⟩) (n2 + 1) c3)).box.cells.2.2.2.2).trans (by rw [HTA.out])⟩ | exact ⟨HD5.out.box.cells.1, HD5.out.box.cells.2.1, HD5.out.box.cells.2.2.1, HD5.out.box.cells.2.2.2.1, (HD5.out.box.cells.2.2.2.2).trans (by rw [HTA.out])⟩ | exact ⟨HD4.out.box.cells.1, HD4.out.box.cells.2.1, HD4.out.box.cells.2.2.1, HD4.out.box.cells.2.2.2.1, (HD4.out.box.cells.2.2.2.2).trans (by rw [HTA.out])⟩ | exact ⟨(HD3.out.put (.slice (some ⟨g3, 0, none⟩) (n2 + 1) c3)).box.cells.1, (HD3.out.put (.slice (some ⟨g3, 0, none⟩) (n2 + 1) c3)).box.cells.2.1, (HD3.out.put (.slice (some ⟨g3, 0, none⟩) (n2 + 1) c3)).box.cells.2.2.1, (HD3.out.put (.slice (some ⟨g3, 0, none⟩) (n2 + 1) c3)).box.cells.2.2.2.1, ((HD3.out.put (.slice (some ⟨g3, 0, none⟩) (n2 + 1) c3)).box.cells.2.2.2.2).trans (by rw [HTA.out])⟩ | exact ⟨HD3.out.box.cells.1, HD3.out.box.cells.2.1, HD3.out.box.cells.2.2.1, HD3.out.box.cells.2.2.2.1, (HD3.out.box.cells.2.2.2.2).trans (by rw [HTA.out])⟩ | exact ⟨HDA.out.box.cells.1, HDA.out.box.cells.2.1, HDA.out.box.cells.2.2.1, HDA.out.box.cells.2.2.2.1, (HDA.out.box.cells.2.2.2.2).trans (by rw [HTA.out])⟩ | exact ⟨HD2.out.drew.box.cells.1, HD2.out.drew.box.cells.2.1, HD2.out.drew.box.cells.2.2.1, HD2.out.drew.box.cells.2.2.2.1, (HD2.out.drew.box.cells.2.2.2.2).trans (by rw [HTA.out])⟩)
      clear hK K
      (try simp only [Act.put, List.setIfInBounds_toArray, List.set_cons_zero, List.set_cons_succ])
      refine take_w (i := 5) (oi := ?oZ19) (v := ?vZ19) ?hiZ19 (by kernel_rfl) (by kernel_rfl) (by kernel_rfl) ?hQZ19 ?hwZ19 ?hyZ19 (by assumption) ?restZ19
      case hiZ19 => (simp only [List.getElem?_toArray, List.getElem?_cons_succ, List.getElem?_cons_zero] <;> rfl)
      case hQZ19 => exact (fun _ _ _ h => h)
      case hwZ19 => rfl
      case hyZ19 => (intro w hSw; (try dsimp only at hSw); go_simp; try with_reducible rfl)
      (try simp only [Act.put, List.setIfInBounds_toArray, List.set_cons_zero, List.set_cons_succ])
      refine wpAnyH_ready (rs := [6, 7]) (by kernel_rfl) (by simp) ?_
      refine AllReadyH.cons (o := ?oZ20) ?hiZ20 (fun K hK => ?stZ20) (AllReadyH.cons (o := ?oZ21) ?hiZ21 (fun K hK => ?stZ21) AllReadyH.nil)
      case hiZ20 => (simp only [List.getElem?_toArray, List.getElem?_cons_succ, List.getElem?_cons_zero] <;> rfl)
      case hiZ21 => (simp only [List.getElem?_toArray, List.getElem?_cons_succ, List.getElem?_cons_zero] <;> rfl)
      case stZ20 =>
        refine step_store_last _ rfl 25 (.tmp 18) (.tmp 14) rfl wb.heap.size 25 g3 n2 c3 (hs ++ hs2) hZ h HN2.out HD3.out.own rfl (by unfold TH.v; rw [HTA.out]; rfl) infoTree5 ?_
        intro w4 ho4 hg4
        have hd4 := HD3.out.grown ho4 hg4 (.inl rfl)
        have HD4 := Lib.hid hd4
        have cn4 := hd4.var.cell
        have cf4 := hd4.var.frozen 0
        clear ho4 hg4 hd4
        refine hK.out _ _ ?_ (fun hHeld => ?_)
        · (first | exact ⟨(HD4.out.put (.slice (some ⟨g3, 0, none⟩) (n2 + 1) c3)).box.cells.1, (HD4.out.put (.slice (some ⟨g3, 0, none⟩) (n2 + 1) c3)).box.cells.2.1, (HD4.out.put (.slice (some ⟨g3, 0, none⟩) (n2 + 1) c3)).box.cells.2.2.1, (HD4.out.put (.slice (some ⟨g3, 0, none⟩) (n2 + 1) c3)).box.cells.2.2.2.1, ((HD4.out.put (.slice (some ⟨g3, 0, none⟩) (n2 + 1) c3)).box.cells.2.2.2.2).trans (by rw [HTA.out])⟩ | exact ⟨HD5.out.box.cells.1, HD5.out.box.cells.2.1, HD5.out.box.cells.2.2.1, HD5.out.box.cells.2.2.2.1, (HD5.out.box.cells.2.2.2.2).trans (by rw [HTA.out])⟩ | exact ⟨HD4.out.box.cells.1, HD4.out.box.cells.2.1, HD4.out.box.cells.2.2.1, HD4.out.box.cells.2.2.2.1, (HD4.out.box.cells.2.2.2.2).trans (by rw [HTA.out])⟩ | exact ⟨(HD3.out.put (.slice (some ⟨g3, 0, none⟩) (n2 + 1) c3)).box.cells.1, (HD3.out.put (.slice (some ⟨g3, 0, none⟩) (n2 + 1) c3)).box.cells.2.1, (HD3.out.put (.slice (some ⟨g3, 0, none⟩) (n2 + 1) c3)).box.cells.2.2.1, (HD3.out.put (.slice (some ⟨g3, 0, none⟩) (n2 + 1) c3)).box.cells.2.2.2.1, ((HD3.out.put (.slice (some ⟨g3, 0, none⟩) (n2 + 1) c3)).box.cells.2.2.2.2).trans (by rw [HTA.out])⟩ | exact ⟨HD3.out.box.cells.1, HD3.out.box.cells.2.1, HD3.out.box.cells.2.2.1, HD3.out.box.cells.2.2.2.1, (HD3.out.box.cells.2.2.2.2).trans (by rw [HTA.out])⟩ | exact ⟨HDA.out.box.cells.1, HDA.out.box.cells.2.1, HDA.out.box.cells.2.2.1, HDA.out.box.cells.2.2.2.1, (HDA.out.box.cells.2.2.2.2).trans (by rw [HTA.out])⟩ | exact ⟨HD2.out.drew.box.cells.1, HD2.out.drew.box.cells.2.1, HD2.out.drew.box.cells.2.2.1, HD2.out.drew.box.cells.2.2.2.1, (HD2.out.drew.box.cells.2.2.2.2).trans (by rw [HTA.out])⟩)
        clear hK K
        (try simp only [Act.put])
        refine wpAnyH_ready (rs := [7]) (by kernel_rfl) (by simp) ?_
        refine AllReadyH.cons (o := ?oZ22) ?hiZ22 (fun K hK => ?stZ22) AllReadyH.nil
        case hiZ22 => (simp only [List.getElem?_toArray, List.getElem?_cons_succ, List.getElem?_cons_zero] <;> rfl)
        go_simp
        refine hK.out _ _ ?_ (fun hHeld => ?_)
        · (first | exact ⟨(HD4.out.put (.slice (some ⟨g3, 0, none⟩) (n2 + 1) c3)).box.cells.1, (HD4.out.put (.slice (some ⟨g3, 0, none⟩) (n2 + 1) c3)).box.cells.2.1, (HD4.out.put (.slice (some ⟨g3, 0, none⟩) (n2 + 1) c3)).box.cells.2.2.1, (HD4.out.put (.slice (some ⟨g3, 0, none⟩) (n2 + 1) c3)).box.cells.2.2.2.1, ((HD4.out.put (.slice (some ⟨g3, 0, none⟩) (n2 + 1) c3)).box.cells.2.2.2.2).trans (by rw [HTA.out])⟩ | exact ⟨HD5.out.box.cells.1, HD5.out.box.cells.2.1, HD5.out.box.cells.2.2.1, HD5.out.box.cells.2.2.2.1, (HD5.out.box.cells.2.2.2.2).trans (by rw [HTA.out])⟩ | exact ⟨HD4.out.box.cells.1, HD4.out.box.cells.2.1, HD4.out.box.cells.2.2.1, HD4.out.box.cells.2.2.2.1, (HD4.out.box.cells.2.2.2.2).trans (by rw [HTA.out])⟩ | exact ⟨(HD3.out.put (.slice (some ⟨g3, 0, none⟩) (n2 + 1) c3)).box.cells.1, (HD3.out.put (.slice (some ⟨g3, 0, none⟩) (n2 + 1) c3)).box.cells.2.1, (HD3.out.put (.slice (some ⟨g3, 0, none⟩) (n2 + 1) c3)).box.cells.2.2.1, (HD3.out.put (.slice (some ⟨g3, 0, none⟩) (n2 + 1) c3)).box.cells.2.2.2.1, ((HD3.out.put (.slice (some ⟨g3, 0, none⟩) (n2 + 1) c3)).box.cells.2.2.2.2).trans (by rw [HTA.out])⟩ | exact ⟨HD3.out.box.cells.1, HD3.out.box.cells.2.1, HD3.out.box.cells.2.2.1, HD3.out.box.cells.2.2.2.1, (HD3.out.box.cells.2.2.2.2).trans (by rw [HTA.out])⟩ | exact ⟨HDA.out.box.cells.1, HDA.out.box.cells.2.1, HDA.out.box.cells.2.2.1, HDA.out.box.cells.2.2.2.1, (HDA.out.box.cells.2.2.2.2).trans (by rw [HTA.out])⟩ | exact ⟨HD2.out.drew.box.cells.1, HD2.out.drew.box.cells.2.1, HD2.out.drew.box.cells.2.2.1, HD2.out.drew.box.cells.2.2.2.1, (HD2.out.drew.box.cells.2.2.2.2).trans (by rw [HTA.out])⟩)
        clear hK K
        (try simp only [Act.put])
        refine wpAnyH_done (by kernel_rfl) ?_ _
        go_wp2_with fail
        go_meet
        first | exact ⟨_, HD5.out⟩ | exact ⟨_, HD4.out.put _⟩
      case stZ21 =>
        go_simp
        refine hK.out _ _ ?_ (fun hHeld => ?_)
        · (first | exact ⟨(HD4.out.put (.slice (some ⟨g3, 0, none⟩) (n2 + 1) c3)).box.cells.1, (HD4.out.put (.slice (some ⟨g3, 0, none⟩) (n2 + 1) c3)).box.cells.2.1, (HD4.out.put (.slice (some ⟨g3, 0, none⟩) (n2 + 1) c3)).box.cells.2.2.1, (HD4.out.put (.slice (some ⟨g3, 0, none⟩) (n2 + 1) c3)).box.cells.2.2.2.1, ((HD4.out.put (.slice (some ⟨g3, 0, none⟩) (n2 + 1) c3)).box.cells.2.2.2.2).trans (by rw [HTA.out])⟩ | exact ⟨HD5.out.box.cells.1, HD5.out.box.cells.2.1, HD5.out.box.cells.2.2.1, HD5.out.box.cells.2.2.2.1, (HD5.out.box.cells.2.2.2.2).trans (by rw [HTA.out])⟩ | exact ⟨HD4.out.box.cells.1, HD4.out.box.cells.2.1, HD4.out.box.cells.2.2.1, HD4.out.box.cells.2.2.2.1, (HD4.out.box.cells.2.2.2.2).trans (by rw [HTA.out])⟩ | exact ⟨(HD3.out.put (.slice (some ⟨g3, 0, none⟩) (n2 + 1) c3)).box.cells.1, (HD3.out.put (.slice (some ⟨g3, 0, none⟩) (n2 + 1) c3)).box.cells.2.1, (HD3.out.put (.slice (some ⟨g3, 0, none⟩) (n2 + 1) c3)).box.cells.2.2.1, (HD3.out.put (.slice (some ⟨g3, 0, none⟩) (n2 + 1) c3)).box.cells.2.2.2.1, ((HD3.out.put (.slice (some ⟨g3, 0, none⟩) (n2 + 1) c3)).box.cells.2.2.2.2).trans (by rw [HTA.out])⟩ | exact ⟨HD3.out.box.cells.1, HD3.out.box.cells.2.1, HD3.out.box.cells.2.2.1, HD3.out.box.cells.2.2.2.1, (HD3.out.box.cells.2.2.2.2).trans (by rw [HTA.out])⟩ | exact ⟨HDA.out.box.cells.1, HDA.out.box.cells.2.1, HDA.out.box.cells.2.2.1, HDA.out.box.cells.2.2.2.1, (HDA.out.box.cells.2.2.2.2).trans (by rw [HTA.out])⟩ | exact ⟨HD2.out.drew.box.cells.1, HD2.out.drew.box.cells.2.1, HD2.out.drew.box.cells.2.2.1, HD2.out.drew.box.cells.2.2.2.1, (HD2.out.drew.box.cells.2.2.2.2).trans (by rw [HTA.out])⟩)
        clear hK K
        (try simp only [Act.put])
        refine wpAnyH_ready (rs := [6]) (by kernel_rfl) (by simp) ?_
        refine AllReadyH.cons (o := ?oZ23) ?hiZ23 (fun K hK => ?stZ23) AllReadyH.nil
        case hiZ23 => (simp only [List.getElem?_toArray, List.getElem?_cons_succ, List.getElem?_cons_zero] <;> rfl)
        refine step_store_last _ rfl 25 (.tmp 18) (.tmp 14) rfl wb.heap.size 25 g3 n2 c3 (hs ++ hs2) hZ h HN2.out (HD3.out.put (.slice (some ⟨g3, 0, none⟩) (n2 + 1) c3)).own rfl (by unfold TH.v; rw [HTA.out]; rfl) infoTree5 ?_
        intro w5 ho4 hg4
        have hd4 := (HD3.out.put (.slice (some ⟨g3, 0, none⟩) (n2 + 1) c3)).grown ho4 hg4 (.inl rfl)
        have HD5 := Lib.hid hd4
        have cn4 := hd4.var.cell
        have cf4 := hd4.var.frozen 0
        clear ho4 hg4 hd4
        refine hK.out _ _ ?_ (fun hHeld => ?_)
        · (first | exact ⟨(HD4.out.put (.slice (some ⟨g3, 0, none⟩) (n2 + 1) c3)).box.cells.1, (HD4.out.put (.slice (some ⟨g3, 0, none⟩) (n2 + 1) c3)).box.cells.2.1, (HD4.out.put (.slice (some ⟨g3, 0, none⟩) (n2 + 1) c3)).box.cells.2.2.1, (HD4.out.put (.slice (some ⟨g3, 0, none⟩) (n2 + 1) c3)).box.cells.2.2.2.1, ((HD4.out.put (.slice (some ⟨g3, 0, none⟩) (n2 + 1) c3)).box.cells.2.2.2.2).trans (by rw [HTA.out])⟩ | exact ⟨HD5.out.box.cells.1, HD5.out.box.cells.2.1, HD5.out.box.cells.2.2.1, HD5.out.box.cells.2.2.2.1, (HD5.out.box.cells.2.2.2.2).trans (by rw [HTA.out])⟩ | exact ⟨HD4.out.box.cells.1, HD4.out.box.cells.2.1, HD4.out.box.cells.2.2.1, HD4.out.box.cells.2.2.2.1, (HD4.out.box.cells.2.2.2.2).trans (by rw [HTA.out])⟩ | exact ⟨(HD3.out.put (.slice (some ⟨g3, 0, none⟩) (n2 + 1) c3)).box.cells.1, (HD3.out.put (.slice (some ⟨g3, 0, none⟩) (n2 + 1) c3)).box.cells.2.1, (HD3.out.put (.slice (some ⟨g3, 0, none⟩) (n2 + 1) c3)).box.cells.2.2.1, (HD3.out.put (.slice (some ⟨g3, 0, none⟩) (n2 + 1) c3)).box.cells.2.2.2.1, ((HD3.out.put (.slice (some ⟨g3, 0, none⟩) (n2 + 1) c3)).box.cells.2.2.2.2).trans (by rw [HTA.out])⟩ | exact ⟨HD3.out.box.cells.1, HD3.out.box.cells.2.1, HD3.out.box.cells.2.2.1, HD3.out.box.cells.2.2.2.1, (HD3.out.box.cells.2.2.2.2).trans (by rw [HTA.out])⟩ | exact ⟨HDA.out.box.cells.1, HDA.out.box.cells.2.1, HDA.out.box.cells.2.2.1, HDA.out.box.cells.2.2.2.1, (HDA.out.box.cells.2.2.2.2).trans (by rw [HTA.out])⟩ | exact ⟨HD2.out.drew.box.cells.1, HD2.out.drew.box.cells.2.1, HD2.out.drew.box.cells.2.2.1, HD2.out.drew.box.cells.2.2.2.1, (HD2.out.drew.box.cells.2.2.2.2).trans (by rw [HTA.out])⟩)
        clear hK K
        (try simp only [Act.put])
        refine wpAnyH_done (by kernel_rfl) ?_ _
        go_wp2_with fail
        go_meet
        first | exact ⟨_, HD5.out⟩ | exact ⟨_, HD4.out.put _⟩
    case stZ15 =>
      go_simp
      refine hK.out _ _ ?_ (fun hHeld => ?_)
      · (first | exact ⟨(HD4.out.put (.slice (some ⟨g3, 0, none⟩) (n2 + 1) c3)).box.cells.1, (HD4.out.put (.slice (some ⟨g3, 0, none⟩) (n2 + 1) c3)).box.cells.2.1, (HD4.out.put (.slice (some ⟨g3, 0, none⟩) (n2 + 1) c3)).box.cells.2.2.1, (HD4.out.put (.slice (some ⟨g3, 0, none⟩) (n2 + 1) c3)).box.cells.2.2.2.1, ((HD4.out.put (.slice (some ⟨g3, 0, none⟩) (n2 + 1) c3)).box.cells.2.2.2.2).trans (by rw [HTA.out])⟩ | exact ⟨HD5.out.box.cells.1, HD5.out.box.cells.2.1, HD5.out.box.cells.2.2.1, HD5.out.box.cells.2.2.2.1, (HD5.out.box.cells.2.2.2.2).trans (by rw [HTA.out])⟩ | exact ⟨HD4.out.box.cells.1, HD4.out.box.cells.2.1, HD4.out.box.cells.2.2.1, HD4.out.box.cells.2.2.2.1, (HD4.out.box.cells.2.2.2.2).trans (by rw [HTA.out])⟩ | exact ⟨(HD3.out.put (.slice (some ⟨g3, 0, none⟩) (n2 + 1) c3)).box.cells.1, (HD3.out.put (.slice (some ⟨g3, 0, none⟩) (n2 + 1) c3)).box.cells.2.1, (HD3.out.put (.slice (some ⟨g3, 0, none⟩) (n2 + 1) c3)).box.cells.2.2.1, (HD3.out.put (.slice (some ⟨g3, 0, none⟩) (n2 + 1) c3)).box.cells.2.2.2.1, ((HD3.out.put (.slice (some ⟨g3, 0, none⟩) (n2 + 1) c3)).box.cells.2.2.2.2).trans (by rw [HTA.out])⟩ | exact ⟨HD3.out.box.cells.1, HD3.out.box.cells.2.1, HD3.out.box.cells.2.2.1, HD3.out.box.cells.2.2.2.1, (HD3.out.box.cells.2.2.2.2).trans (by rw [HTA.out])⟩ | exact ⟨HDA.out.box.cells.1, HDA.out.box.cells.2.1, HDA.out.box.cells.2.2.1, HDA.out.box.cells.2.2.2.1, (HDA.out.box.cells.2.2.2.2).trans (by rw [HTA.out])⟩ | exact ⟨HD2.out.drew.box.cells.1, HD2.out.drew.box.cells.2.1, HD2.out.drew.box.cells.2.2.1, HD2.out.drew.box.cells.2.2.2.1, (HD2.out.drew.box.cells.2.2.2.2).trans (by rw [HTA.out])⟩)
      clear hK K
      (try simp only [Act.put, List.setIfInBounds_toArray, List.set_cons_zero, List.set_cons_succ])
      refine wpAnyH_ready (rs := [0]) (by kernel_rfl) (by simp) ?_
      refine AllReadyH.cons (o := ?oZ24) ?hiZ24 (fun K hK => ?stZ24) AllReadyH.nil
      case hiZ24 => (simp only [List.getElem?_toArray, List.getElem?_cons_zero] <;> rfl)
      go_simp
      refine hK.out _ _ ?_ (fun hHeld => ?_)
      · (first | exact ⟨(HD4.out.put (.slice (some ⟨g3, 0, none⟩) (n2 + 1) c3)).box.cells.1, (HD4.out.put (.slice (some ⟨g3, 0, none⟩) (n2 + 1) c3)).box.cells.2.1, (HD4.out.put (.slice (some ⟨g3, 0, none⟩) (n2 + 1) c3)).box.cells.2.2.1, (HD4.out.put (.slice (some ⟨g3, 0, none⟩) (n2 + 1) c3)).box.cells.2.2.2.1, ((HD4.out.put (.slice (some ⟨g3, 0, none⟩) (n2 + 1) c3)).box.cells.2.2.2.2).trans (by rw [HTA.out])⟩ | exact ⟨HD5.out.box.cells.1, HD5.out.box.cells.2.1, HD5.out.box.cells.2.2.1, HD5.out.box.cells.2.2.2.1, (HD5.out.box.cells.2.2.2.2).trans (by rw [HTA.out])⟩ | exact ⟨HD4.out.box.cells.1, HD4.out.box.cells.2.1, HD4.out.box.cells.2.2.1, HD4.out.box.cells.2.2.2.1, (HD4.out.box.cells.2.2.2.2).trans (by rw [HTA.out])⟩ | exact ⟨(HD3.out.put (.slice (some ⟨g3, 0, none⟩) (n2 + 1) c3)).box.cells.1, (HD3.out.put (.slice (some ⟨g3, 0, none⟩) (n2 + 1) c3)).box.cells.2.1, (HD3.out.put (.slice (some ⟨g3, 0, none⟩) (n2 + 1) c3)).box.cells.2.2.1, (HD3.out.put (.slice (some ⟨g3, 0, none⟩) (n2 + 1) c3)).box.cells.2.2.2.1, ((HD3.out.put (.slice (some ⟨g3, 0, none⟩) (n2 + 1) c3)).box.cells.2.2.2.2).trans (by rw [HTA.out])⟩ | exact ⟨HD3.out.box.cells.1, HD3.out.box.cells.2.1, HD3.out.box.cells.2.2.1, HD3.out.box.cells.2.2.2.1, (HD3.out.box.cells.2.2.2.2).trans (by rw [HTA.out])⟩ | exact ⟨HDA.out.box.cells.1, HDA.out.box.cells.2.1, HDA.out.box.cells.2.2.1, HDA.out.box.cells.2.2.2.1, (HDA.out.box.cells.2.2.2.2).trans (by rw [HTA.out])⟩ | exact ⟨HD2.out.drew.box.cells.1, HD2.out.drew.box.cells.2.1, HD2.out.drew.box.cells.2.2.1, HD2.out.drew.box.cells.2.2.2.1, (HD2.out.drew.box.cells.2.2.2.2).trans (by rw [HTA.out])⟩)
      clear hK K
      (try simp only [Act.put, List.setIfInBounds_toArray, List.set_cons_zero, List.set_cons_succ])
      refine take_w (i := 2) (oi := ?oZ25) (v := ?vZ25) ?hiZ25 (by kernel_rfl) (by kernel_rfl) (by kernel_rfl) ?hQZ25 ?hwZ25 ?hyZ25 (by assumption) ?restZ25
      case hiZ25 => (simp only [List.getElem?_toArray, List.getElem?_cons_succ, List.getElem?_cons_zero] <;> rfl)
      case hQZ25 => exact (fun _ _ _ h => h)
      case hwZ25 => rfl
      case hyZ25 => (intro w hSw; (try dsimp only at hSw); go_simp; try with_reducible rfl)
      (try simp only [Act.put, List.setIfInBounds_toArray, List.set_cons_zero, List.set_cons_succ])
      refine wpAnyH_ready (rs := [4]) (by kernel_rfl) (by simp) ?_
      refine AllReadyH.cons (o := ?oZ26) ?hiZ26 (fun K hK => ?stZ26) AllReadyH.nil
      case hiZ26 => (simp only [List.getElem?_toArray, List.getElem?_cons_succ, List.getElem?_cons_zero] <;> rfl)
      refine step_append_trees _ rfl (.tmp 13) (.tmp 16) 23 rfl wb.heap.size 25 ti _ 104 Tryd.underlying23 hti hz0 hz1 hz2 rfl (.slice a2 n2 c2) (hs ++ hs2) rfl HDA.out.own w2.heap.size 1 [hZ] rfl HZB.out.row (by rw [HN2.out]; simp only [List.length_cons, List.length_nil]; omega) (by omega) HDA.out.b.size ?_
      intro v3 w3 ho3 hg3 hob3
      have hl3 : (hs ++ hs2 ++ [hZ]).length = n2 + 1 := by rw [List.length_append, HN2.out]; rfl
      rcases ho3.form with ⟨_, q1⟩ | ⟨g3, c3, q1, -, -, -, -, -⟩
      · exfalso
        rw [q1] at hl3
        simp at hl3
      rw [hl3] at q1
      subst q1
      clear hl3
      have hd3 := HDA.out.grown ho3 hg3 hob3
      have HD3 := Lib.hid hd3
      have cn3 := hd3.var.cell
      have cf3 := hd3.var.frozen 0
      clear ho3 hg3 hob3 hd3
      refine hK.out _ _ ?_ (fun hHeld => ?_)
      · (first | exact ⟨(HD4.out.put (.slice (some ⟨g3, 0, none⟩) (n2 + 1) c3)).box.cells.1, (HD4.out.put (.slice (some ⟨g3, 0, none⟩) (n2 + 1) c3)).box.cells.2.1, (HD4.out.put (.slice (some ⟨g3, 0, none⟩) (n2 + 1) c3)).box.cells.2.2.1, (HD4.out.put (.slice (some ⟨g3, 0, none⟩) (n2 + 1) c3)).box.cells.2.2.2.1, ((HD4.out.put (.slice (some ⟨g3, 0, none⟩) (n2 + 1) c3)).box.cells.2.2.2.2).trans (by rw [HTA.out])⟩ | exact ⟨HD5.out.box.cells.1, HD5.out.box.cells.2.1, HD5.out.box.cells.2.2.1, HD5.out.box.cells.2.2.2.1, (HD5.out.box.cells.2.2.2.2).trans (by rw [HTA.out])⟩ | exact ⟨HD4.out.box.cells.1, HD4.out.box.cells.2.1, HD4.out.box.cells.2.2.1, HD4.out.box.cells.2.2.2.1, (HD4.out.box.cells.2.2.2.2).trans (by rw [HTA.out])⟩ | exact ⟨(HD3.out.put (.slice (some ⟨g3, 0, none⟩) (n2 + 1) c3)).box.cells.1, (HD3.out.put (.slice (some ⟨g3, 0, none⟩) (n2 + 1) c3)).box.cells.2.1, (HD3.out.put (.slice (some ⟨g3, 0, none⟩) (n2 + 1) c3)).box.cells.2.2.1, (HD3.out.put (.slice (some ⟨g3, 0, none⟩) (n2 + 1) c3)).box.cells.2.2.2.1, ((HD3.out.put (.slice (some ⟨g3, 0, none⟩) (n2 + 1) c3)).box.cells.2.2.2.2).trans (by rw [HTA.out])⟩ | exact ⟨HD3.out.box.cells.1, HD3.out.box.cells.2.1, HD3.out.box.cells.2.2.1, HD3.out.box.cells.2.2.2.1, (HD3.out.box.cells.2.2.2.2).trans (by rw [HTA.out])⟩ | exact ⟨HDA.out.box.cells.1, HDA.out.box.cells.2.1, HDA.out.box.cells.2.2.1, HDA.out.box.cells.2.2.2.1, (HDA.out.box.cells.2.2.2.2).trans (by rw [HTA.out])⟩ | exact ⟨HD2.out.drew.box.cells.1, HD2.out.drew.box.cells.2.1, HD2.out.drew.box.cells.2.2.1, HD2.out.drew.box.cells.2.2.2.1, (HD2.out.drew.box.cells.2.2.2.2).trans (by rw [HTA.out])⟩)
      clear hK K
      (try simp only [Act.put, List.setIfInBounds_toArray, List.set_cons_zero, List.set_cons_succ])
      refine take_w (i := 5) (oi := ?oZ27) (v := ?vZ27) ?hiZ27 (by kernel_rfl) (by kernel_rfl) (by kernel_rfl) ?hQZ27 ?hwZ27 ?hyZ27 (by assumption) ?restZ27
      case hiZ27 => (simp only [List.getElem?_toArray, List.getElem?_cons_succ, List.getElem?_cons_zero] <;> rfl)
      case hQZ27 => exact (fun _ _ _ h => h)
      case hwZ27 => rfl
      case hyZ27 => (intro w hSw; (try dsimp only at hSw); go_simp; try with_reducible rfl)
      (try simp only [Act.put, List.setIfInBounds_toArray, List.set_cons_zero, List.set_cons_succ])
      refine wpAnyH_ready (rs := [6, 7]) (by kernel_rfl) (by simp) ?_
      refine AllReadyH.cons (o := ?oZ28) ?hiZ28 (fun K hK => ?stZ28) (AllReadyH.cons (o := ?oZ29) ?hiZ29 (fun K hK => ?stZ29) AllReadyH.nil)
      case hiZ28 => (simp only [List.getElem?_toArray, List.getElem?_cons_succ, List.getElem?_cons_zero] <;> rfl)
      case hiZ29 => (simp only [List.getElem?_toArray, List.getElem?_cons_succ, List.getElem?_cons_zero] <;> rfl)
      case stZ28 =>
        refine step_store_last _ rfl 25 (.tmp 18) (.tmp 14) rfl wb.heap.size 25 g3 n2 c3 (hs ++ hs2) hZ h HN2.out HD3.out.own rfl (by unfold TH.v; rw [HTA.out]; rfl) infoTree5 ?_
        intro w4 ho4 hg4
        have hd4 := HD3.out.grown ho4 hg4 (.inl rfl)
        have HD4 := Lib.hid hd4
        have cn4 := hd4.var.cell
        have cf4 := hd4.var.frozen 0
        clear ho4 hg4 hd4
        refine hK.out _ _ ?_ (fun hHeld => ?_)
        · (first | exact ⟨(HD4.out.put (.slice (some ⟨g3, 0, none⟩) (n2 + 1) c3)).box.cells.1, (HD4.out.put (.slice (some ⟨g3, 0, none⟩) (n2 + 1) c3)).box.cells.2.1, (HD4.out.put (.slice (some ⟨g3, 0, none⟩) (n2 + 1) c3)).box.cells.2.2.1, (HD4.out.put (.slice (some ⟨g3, 0, none⟩) (n2 + 1) c3)).box.cells.2.2.2.1, ((HD4.out.put (.slice (some ⟨g3, 0, none⟩) (n2 + 1) c3)).box.cells.2.2.2.2).trans (by rw [HTA.out])⟩ | exact ⟨HD5.out.box.cells.1, HD5.out.box.cells.2.1, HD5.out.box.cells.2.2.1, HD5.out.box.cells.2.2.2.1, (HD5.out.box.cells.2.2.2.2).trans (by rw [HTA.out])⟩ | exact ⟨HD4.out.box.cells.1, HD4.out.box.cells.2.1, HD4.out.box.cells.2.2.1, HD4.out.box.cells.2.2.2.1, (HD4.out.box.cells.2.2.2.2).trans (by rw [HTA.out])⟩ | exact ⟨(HD3.out.put (.slice (some ⟨g3, 0, none⟩) (n2 + 1) c3)).box.cells.1, (HD3.out.put (.slice (some ⟨g3, 0, none⟩) (n2 + 1) c3)).box.cells.2.1, (HD3.out.put (.slice (some ⟨g3, 0, none⟩) (n2 + 1) c3)).box.cells.2.2.1, (HD3.out.put (.slice (some ⟨g3, 0, none⟩) (n2 + 1) c3)).box.cells.2.2.2.1, ((HD3.out.put (.slice (some ⟨g3, 0, none⟩) (n2 + 1) c3)).box.cells.2.2.2.2).trans (by rw [HTA.out])⟩ | exact ⟨HD3.out.box.cells.1, HD3.out.box.cells.2.1, HD3.out.box.cells.2.2.1, HD3.out.box.cells.2.2.2.1, (HD3.out.box.cells.2.2.2.2).trans (by rw [HTA.out])⟩ | exact ⟨HDA.out.box.cells.1, HDA.out.box.cells.2.1, HDA.out.box.cells.2.2.1, HDA.out.box.cells.2.2.2.1, (HDA.out.box.cells.2.2.2.2).trans (by rw [HTA.out])⟩ | exact ⟨HD2.out.drew.box.cells.1, HD2.out.drew.box.cells.2.1, HD2.out.drew.box.cells.2.2.1, HD2.out.drew.box.cells.2.2.2.1, (HD2.out.drew.box.cells.2.2.2.2).trans (by rw [HTA.out])⟩)
        clear hK K
        (try simp only [Act.put])
        refine wpAnyH_ready (rs := [7]) (by kernel_rfl) (by simp) ?_
        refine AllReadyH.cons (o := ?oZ30) ?hiZ30 (fun K hK => ?stZ30) AllReadyH.nil
        case hiZ30 => (simp only [List.getElem?_toArray, List.getElem?_cons_succ, List.getElem?_cons_zero] <;> rfl)
        go_simp
        refine hK.out _ _ ?_ (fun hHeld => ?_)
        · (first | exact ⟨(HD4.out.put (.slice (some ⟨g3, 0, none⟩) (n2 + 1) c3)).box.cells.1, (HD4.out.put (.slice (some ⟨g3, 0, none⟩) (n2 + 1) c3)).box.cells.2.1, (HD4.out.put (.slice (some ⟨g3, 0, none⟩) (n2 + 1) c3)).box.cells.2.2.1, (HD4.out.put (.slice (some ⟨g3, 0, none⟩) (n2 + 1) c3)).box.cells.2.2.2.1, ((HD4.out.put (.slice (some ⟨g3, 0, none⟩) (n2 + 1) c3)).box.cells.2.2.2.2).trans (by rw [HTA.out])⟩ | exact ⟨HD5.out.box.cells.1, HD5.out.box.cells.2.1, HD5.out.box.cells.2.2.1, HD5.out.box.cells.2.2.2.1, (HD5.out.box.cells.2.2.2.2).trans (by rw [HTA.out])⟩ | exact ⟨HD4.out.box.cells.1, HD4.out.box.cells.2.1, HD4.out.box.cells.2.2.1, HD4.out.box.cells.2.2.2.1, (HD4.out.box.cells.2.2.2.2).trans (by rw [HTA.out])⟩ | exact ⟨(HD3.out.put (.slice (some ⟨g3, 0, none⟩) (n2 + 1) c3)).box.cells.1, (HD3.out.put (.slice (some ⟨g3, 0, none⟩) (n2 + 1) c3)).box.cells.2.1, (HD3.out.put (.slice (some ⟨g3, 0, none⟩) (n2 + 1) c3)).box.cells.2.2.1, (HD3.out.put (.slice (some ⟨g3, 0, none⟩) (n2 + 1) c3)).box.cells.2.2.2.1, ((HD3.out.put (.slice (some ⟨g3, 0, none⟩) (n2 + 1) c3)).box.cells.2.2.2.2).trans (by rw [HTA.out])⟩ | exact ⟨HD3.out.box.cells.1, HD3.out.box.cells.2.1, HD3.out.box.cells.2.2.1, HD3.out.box.cells.2.2.2.1, (HD3.out.box.cells.2.2.2.2).trans (by rw [HTA.out])⟩ | exact ⟨HDA.out.box.cells.1, HDA.out.box.cells.2.1, HDA.out.box.cells.2.2.1, HDA.out.box.cells.2.2.2.1, (HDA.out.box.cells.2.2.2.2).trans (by rw [HTA.out])⟩ | exact ⟨HD2.out.drew.box.cells.1, HD2.out.drew.box.cells.2.1, HD2.out.drew.box.cells.2.2.1, HD2.out.drew.box.cells.2.2.2.1, (HD2.out.drew.box.cells.2.2.2.2).trans (by rw [HTA.out])⟩)
        clear hK K
        (try simp only [Act.put])
        refine wpAnyH_done (by kernel_rfl) ?_ _
        go_wp2_with fail
        go_meet
        first | exact ⟨_, HD5.out⟩ | exact ⟨_, HD4.out.put _⟩
      case stZ29 =>
        go_simp
        refine hK.out _ _ ?_ (fun hHeld => ?_)
        · (first | exact ⟨(HD4.out.put (.slice (some ⟨g3, 0, none⟩) (n2 + 1) c3)).box.cells.1, (HD4.out.put (.slice (some ⟨g3, 0, none⟩) (n2 + 1) c3)).box.cells.2.1, (HD4.out.put (.slice (some ⟨g3, 0, none⟩) (n2 + 1) c3)).box.cells.2.2.1, (HD4.out.put (.slice (some ⟨g3, 0, none⟩) (n2 + 1) c3)).box.cells.2.2.2.1, ((HD4.out.put (.slice (some ⟨g3, 0, none⟩) (n2 + 1) c3)).box.cells.2.2.2.2).trans (by rw [HTA.out])⟩ | exact ⟨HD5.out.box.cells.1, HD5.out.box.cells.2.1, HD5.out.box.cells.2.2.1, HD5.out.box.cells.2.2.2.1, (HD5.out.box.cells.2.2.2.2).trans (by rw [HTA.out])⟩ | exact ⟨HD4.out.box.cells.1, HD4.out.box.cells.2.1, HD4.out.box.cells.2.2.1, HD4.out.box.cells.2.2.2.1, (HD4.out.box.cells.2.2.2.2).trans (by rw [HTA.out])⟩ | exact ⟨(HD3.out.put (.slice (some ⟨g3, 0, none⟩) (n2 + 1) c3)).box.cells.1, (HD3.out.put (.slice (some ⟨g3, 0, none⟩) (n2 + 1) c3)).box.cells.2.1, (HD3.out.put (.slice (some ⟨g3, 0, none⟩) (n2 + 1) c3)).box.cells.2.2.1, (HD3.out.put (.slice (some ⟨g3, 0, none⟩) (n2 + 1) c3)).box.cells.2.2.2.1, ((HD3.out.put (.slice (some ⟨g3, 0, none⟩) (n2 + 1) c3)).box.cells.2.2.2.2).trans (by rw [HTA.out])⟩ | exact ⟨HD3.out.box.cells.1, HD3.out.box.cells.2.1, HD3.out.box.cells.2.2.1, HD3.out.box.cells.2.2.2.1, (HD3.out.box.cells.2.2.2.2).trans (by rw [HTA.out])⟩ | exact ⟨HDA.out.box.cells.1, HDA.out.box.cells.2.1, HDA.out.box.cells.2.2.1, HDA.out.box.cells.2.2.2.1, (HDA.out.box.cells.2.2.2.2).trans (by rw [HTA.out])⟩ | exact ⟨HD2.out.drew.box.cells.1, HD2.out.drew.box.cells.2.1, HD2.out.drew.box.cells.2.2.1, HD2.out.drew.box.cells.2.2.2.1, (HD2.out.drew.box.cells.2.2.2.2).trans (by rw [HTA.out])⟩)
        clear hK K
        (try simp only [Act.put])
        refine wpAnyH_ready (rs := [6]) (by kernel_rfl) (by simp) ?_
        refine AllReadyH.cons (o := ?oZ31) ?hiZ31 (fun K hK => ?stZ31) AllReadyH.nil
        case hiZ31 => (simp only [List.getElem?_toArray, List.getElem?_cons_succ, List.getElem?_cons_zero] <;> rfl)
        refine step_store_last _ rfl 25 (.tmp 18) (.tmp 14) rfl wb.heap.size 25 g3 n2 c3 (hs ++ hs2) hZ h HN2.out (HD3.out.put (.slice (some ⟨g3, 0, none⟩) (n2 + 1) c3)).own rfl (by unfold TH.v; rw [HTA.out]; rfl) infoTree5 ?_
        intro w5 ho4 hg4
        have hd4 := (HD3.out.put (.slice (some ⟨g3, 0, none⟩) (n2 + 1) c3)).grown ho4 hg4 (.inl rfl)
        have HD5 := Lib.hid hd4
        have cn4 := hd4.var.cell
        have cf4 := hd4.var.frozen 0
        clear ho4 hg4 hd4
        refine hK.out _ _ ?_ (fun hHeld => ?_)
        · (first | exact ⟨(HD4.out.put (.slice (some ⟨g3, 0, none⟩) (n2 + 1) c3)).box.cells.1, (HD4.out.put (.slice (some ⟨g3, 0, none⟩) (n2 + 1) c3)).box.cells.2.1, (HD4.out.put (.slice (some ⟨g3, 0, none⟩) (n2 + 1) c3)).box.cells.2.2.1, (HD4.out.put (.slice (some ⟨g3, 0, none⟩) (n2 + 1) c3)).box.cells.2.2.2.1, ((HD4.out.put (.slice (some ⟨g3, 0, none⟩) (n2 + 1) c3)).box.cells.2.2.2.2).trans (by rw [HTA.out])⟩ | exact ⟨HD5.out.box.cells.1, HD5.out.box.cells.2.1, HD5.out.box.cells.2.2.1, HD5.out.box.cells.2.2.2.1, (HD5.out.box.cells.2.2.2.2).trans (by rw [HTA.out])⟩ | exact ⟨HD4.out.box.cells.1, HD4.out.box.cells.2.1, HD4.out.box.cells.2.2.1, HD4.out.box.cells.2.2.2.1, (HD4.out.box.cells.2.2.2.2).trans (by rw [HTA.out])⟩ | exact ⟨(HD3.out.put (.slice (some ⟨g3, 0, none⟩) (n2 + 1) c3)).box.cells.1, (HD3.out.put (.slice (some ⟨g3, 0, none⟩) (n2 + 1) c3)).box.cells.2.1, (HD3.out.put (.slice (some ⟨g3, 0, none⟩) (n2 + 1) c3)).box.cells.2.2.1, (HD3.out.put (.slice (some ⟨g3, 0, none⟩) (n2 + 1) c3)).box.cells.2.2.2.1, ((HD3.out.put (.slice (some ⟨g3, 0, none⟩) (n2 + 1) c3)).box.cells.2.2.2.2).trans (by rw [HTA.out])⟩ | exact ⟨HD3.out.box.cells.1, HD3.out.box.cells.2.1, HD3.out.box.cells.2.2.1, HD3.out.box.cells.2.2.2.1, (HD3.out.box.cells.2.2.2.2).trans (by rw [HTA.out])⟩ | exact ⟨HDA.out.box.cells.1, HDA.out.box.cells.2.1, HDA.out.box.cells.2.2.1, HDA.out.box.cells.2.2.2.1, (HDA.out.box.cells.2.2.2.2).trans (by rw [HTA.out])⟩ | exact ⟨HD2.out.drew.box.cells.1, HD2.out.drew.box.cells.2.1, HD2.out.drew.box.cells.2.2.1, HD2.out.drew.box.cells.2.2.2.1, (HD2.out.drew.box.cells.2.2.2.2).trans (by rw [HTA.out])⟩)
        clear hK K
        (try simp only [Act.put])
        refine wpAnyH_done (by kernel_rfl) ?_ _
        go_wp2_with fail
        go_meet
        first | exact ⟨_, HD5.out⟩ | exact ⟨_, HD4.out.put _⟩
  case rest =>
    obtain ⟨v3, hd3⟩ := hcut
    have HD3 := Lib.hid hd3
    clear hd3 HD2 HD1
    have hbd1 : (hs ++ hs2 ++ [h]).length + countT t.kids[1] ≤ 1000 := by rw [List.length_append, HN2.out]; simp only [List.length_cons, List.length_nil]; omega
    clear hbd3 hbd4
    go_upto_region 4 with fail
    refine wp_region_held_drew (S := (fun W => W.cell? ⟨gc, 0, none⟩ = some (.func (.func 41) #[] #[.pointer (some ⟨gc, 0, none⟩), .pointer (some ⟨gn, 0, none⟩)]) ∧ W.cell? ⟨w.heap.size, 4, none⟩ = some (.slice (some ⟨g, off, none⟩) h.tn h.tc) ∧ W.cell? ⟨g, off + 5, none⟩ = some (.int .i64 (H 1).k) ∧ W.cell? ⟨g, off + 5 + 1, none⟩ = some (.slice (H 1).ka (H 1).kn (H 1).kc) ∧ W.cell? ⟨g, off + 5 + 2, none⟩ = some (.slice (H 1).va (H 1).vn (H 1).vc) ∧ W.cell? ⟨g, off + 5 + 3, none⟩ = some (.slice (H 1).da (H 1).dn (H 1).dc) ∧ W.cell? ⟨g, off + 5 + 4, none⟩ = some (.slice (H 1).ta (H 1).tn (H 1).tc))) (by kernel_rfl) ⟨HD3.out.drew.clo.cell, (HD3.out.drew.box.cells.2.2.2.2).trans (by rw [HTA.out]), (HP.out.below HD3.out.drew.b).kid1 HTA.out (by omega)⟩ (fun hHeld => ?_)
    refine take_w (i := 0) (oi := ?oZ7) (v := ?vZ7) ?hiZ7 (by kernel_rfl) (by kernel_rfl) (by kernel_rfl) ?hQZ7 ?hwZ7 ?hyZ7 (by assumption) ?restZ7
    case hiZ7 => (simp only [List.getElem?_toArray, List.getElem?_cons_zero] <;> rfl)
    case hQZ7 => exact (fun _ _ _ h => h)
    case hwZ7 => rfl
    case hyZ7 => (intro w hSw; (try dsimp only at hSw); go_simp; try with_reducible rfl)
    (try simp only [Act.put, List.setIfInBounds_toArray, List.set_cons_zero, List.set_cons_succ])
    refine take_w (i := 1) (oi := ?oZ8) (v := ?vZ8) ?hiZ8 (by kernel_rfl) (by kernel_rfl) (by kernel_rfl) ?hQZ8 ?hwZ8 ?hyZ8 (by assumption) ?restZ8
    case hiZ8 => (simp only [List.getElem?_toArray, List.getElem?_cons_succ, List.getElem?_cons_zero] <;> rfl)
    case hQZ8 => exact (fun _ _ _ h => h)
    case hwZ8 => rfl
    case hyZ8 => (intro w hSw; (try dsimp only at hSw); go_simp; try with_reducible rfl)
    (try simp only [Act.put, List.setIfInBounds_toArray, List.set_cons_zero, List.set_cons_succ])
    refine take_w (i := 2) (oi := ?oZ9) (v := ?vZ9) ?hiZ9 (by kernel_rfl) (by kernel_rfl) (by kernel_rfl) ?hQZ9 ?hwZ9 ?hyZ9 (by assumption) ?restZ9
    case hiZ9 => (simp only [List.getElem?_toArray, List.getElem?_cons_succ, List.getElem?_cons_zero] <;> rfl)
    case hQZ9 => exact (fun _ _ _ h => h)
    case hwZ9 => rfl
    case hyZ9 => (intro w hSw; (try dsimp only at hSw); go_simp; try with_reducible rfl)
    (try simp only [Act.put, List.setIfInBounds_toArray, List.set_cons_zero, List.set_cons_succ])
    refine take_w (i := 3) (oi := ?oZ10) (v := ?vZ10) ?hiZ10 (by kernel_rfl) (by kernel_rfl) (by kernel_rfl) ?hQZ10 ?hwZ10 ?hyZ10 (by assumption) ?restZ10
    case hiZ10 => (simp only [List.getElem?_toArray, List.getElem?_cons_succ, List.getElem?_cons_zero] <;> rfl)
    case hQZ10 => exact (fun _ _ _ h => h)
    case hwZ10 => rfl
    case hyZ10 => (intro w hSw; (try dsimp only at hSw); go_simp; try with_reducible rfl)
    (try simp only [Act.put, List.setIfInBounds_toArray, List.set_cons_zero, List.set_cons_succ])
    refine take_w (i := 4) (oi := ?oZ11) (v := ?vZ11) ?hiZ11 (by kernel_rfl) (by kernel_rfl) (by kernel_rfl) ?hQZ11 ?hwZ11 ?hyZ11 (by assumption) ?restZ11
    case hiZ11 => (simp only [List.getElem?_toArray, List.getElem?_cons_succ, List.getElem?_cons_zero] <;> rfl)
    case hQZ11 => exact (fun _ _ _ h => h)
    case hwZ11 => rfl
    case hyZ11 => (intro w hSw; (try dsimp only at hSw); go_simp; try with_reducible rfl)
    (try simp only [Act.put, List.setIfInBounds_toArray, List.set_cons_zero, List.set_cons_succ])
    refine wpAnyH_ready (rs := [5]) (by kernel_rfl) (by simp) ?_
    refine AllReadyH.cons (o := ?oZ12) ?hiZ12 (fun K hK => ?stZ12) AllReadyH.nil
    case hiZ12 => (simp only [List.getElem?_toArray, List.getElem?_cons_succ, List.getElem?_cons_zero] <;> rfl)
    go_simp
    go_at_call 41
    refine (IH.out _ (List.getElem_mem l1) (H 1) _ gc gn _ _ (HP.out.kids 1 l1) (HF.out 1 l1) hbd1 HD3.out.drew.b HD3.out.drew.ge HD3.out.drew.clo HD3.out.drew.var HD3.out.drew.own).mono ?_
    rintro _ w4 ⟨v4, hs4, rfl, hv4, ho4, hh4, hk4⟩
    have HD4 := Lib.hid (HD3.out.drew.step hv4 ho4 hk4)
    have HH4 := Lib.hid hh4
    clear hv4 ho4 hh4 hk4
    go_simp
    refine hK.out _ _ ?_ (fun hHeld => ?_)
    · (first | exact ⟨HD4.out.clo.cell, (HD4.out.box.cells.2.2.2.2).trans (by rw [HTA.out]), (HP.out.below HD4.out.b).kid1 HTA.out (by omega)⟩ | exact ⟨HD3.out.drew.clo.cell, (HD3.out.drew.box.cells.2.2.2.2).trans (by rw [HTA.out]), (HP.out.below HD3.out.drew.b).kid1 HTA.out (by omega)⟩)
    clear hK K
    (try simp only [Act.put, List.setIfInBounds_toArray, List.set_cons_zero, List.set_cons_succ])
    refine wpAnyH_done (by kernel_rfl) ?_ _
    
    clear hHeld
    go_wp2_with fail
    first | go_end0 | refine bodyPost_ret (results_none rfl _ _ _) rfl ?_
    refine ⟨v4, hs2 ++ ([h] ++ hs4), rfl, HD4.out.var, ?_, ?_, HD4.out.k⟩
    · have := HD4.out.own
      rw [List.append_assoc, List.append_assoc] at this
      exact this
    · rw [HL.out]
      exact HH2.out.app ((Heads.one HTT.out).app HH4.out)

set_option maxRecDepth 100000 in
set_option maxHeartbeats 4000000 in
theorem list_any (t : Tr) (h : TH) (w : World) (ht : InTree w h t) (hcn : countT t ≤ 1000) : Calls Tryd.prog 15 #[h.v] w (fun e w' => ∃ v hs, e = .returned v ∧ OwnT w' w.heap.size 25 v hs ∧ (checkT t = 0 → Heads w hs (listT t)) ∧ (checkT t ≠ 0 → hs = []) ∧ Below w.heap.size w w') := by
  have hmf : ∀ (fn : Fn) (first cap : Array Value) (w : World), (Instr.makeFunc fn first cap).run Tryd.prog w = .ok (.func fn first cap) w := fun _ _ _ _ => rfl
  unfold TH.v
  have hbox := Box.new w 25 h
  have HX := Lib.hid hbox
  have HT := Lib.hid ht
  obtain ⟨x0, x1, x2, x3, x4⟩ := hbox.cells
  clear hbox ht
  go_enter Tryd.func15, Tryd.ntmps15
  go_upto_region 1 with fail
  by_cases hc : checkT t = 0
  · have HCZ := Lib.hid hc
    clear hc
    go_upto_region 3 with (first
      | (go_at_call 31
         refine (check_any t h _ ?_).mono ?_
         · exact HT.out.lower ((Below.refl _ _).alloc (Nat.le_refl _) _)
         rintro _ w1 ⟨rfl, hb1⟩
         have HB1 : Hid (Below w.heap.size w w1) := Lib.hid (((Below.refl w.heap.size w).alloc (Nat.le_refl _) _).trans (hb1.mono (by simp)))
         have HX1 := Lib.hid (HX.out.below hb1 HX.out.lt)
         have hcv : codeV (checkT t) = .nilIface := by rw [HCZ.out]; rfl
         rw [hcv]
         clear hcv
         clear hb1 x0 x1 x2 x3 x4))
    have hb2 : Below w1.heap.size w1 (w1.alloc (.cells #[.slice none 0 0] 23)) := (Below.refl _ _).alloc (Nat.le_refl _) _
    have hv2 := Var1.new w1 23 (.slice none 0 0)
    have hx2 := HX1.out.below hb2 HX1.out.lt
    have hs2 : (w1.alloc (.cells #[.slice none 0 0] 23)).heap.size = w1.heap.size + 1 := by simp
    have hb3 : Below w1.heap.size w1 ((w1.alloc (.cells #[.slice none 0 0] 23)).alloc (.cells #[.nilFunc] 75)) := hb2.alloc (by rw [hs2]; omega) _
    have hba : Below (w1.alloc (.cells #[.slice none 0 0] 23)).heap.size (w1.alloc (.cells #[.slice none 0 0] 23)) ((w1.alloc (.cells #[.slice none 0 0] 23)).alloc (.cells #[.nilFunc] 75)) := (Below.refl _ _).alloc (Nat.le_refl _) _
    have hv3 := hv2.below hba hv2.lt
    have hx3 := hx2.below hba hx2.lt
    have hn3 := Var1.new (w1.alloc (.cells #[.slice none 0 0] 23)) 75 .nilFunc
    rw [hs2] at hn3
    have hsz := HB1.out.size
    clear hb2 hv2 hx2 hs2 hba
    go_upto_region 5 with fail
    generalize ((w1.alloc (.cells #[.slice none 0 0] 23)).alloc (.cells #[.nilFunc] 75)) = w2 at *
    have c0 := hn3.cell
    have c1 := hn3.frozen 0
    have hn4 := hn3.set (.func (.func 41) #[] #[.pointer (some ⟨(w1.heap.size + 1), 0, none⟩), .pointer (some ⟨w1.heap.size, 0, none⟩)])
    have hne : w.heap.size ≠ w1.heap.size + 1 := by have := HX1.out.lt; omega
    have hx4 : Box (w2.setCell ⟨w1.heap.size + 1, 0, none⟩ (.func (.func 41) #[] #[.pointer (some ⟨(w1.heap.size + 1), 0, none⟩), .pointer (some ⟨w1.heap.size, 0, none⟩)])) 25 w.heap.size h := (Below.heap_setCell w2 ⟨w1.heap.size + 1, 0, none⟩ _ w.heap.size hne).trans hx3
    have hv4 := hv3.far (p := ⟨w1.heap.size + 1, 0, none⟩) (by simp) (.func (.func 41) #[] #[.pointer (some ⟨(w1.heap.size + 1), 0, none⟩), .pointer (some ⟨w1.heap.size, 0, none⟩)])
    have hb4 : Below w1.heap.size w1 (w2.setCell ⟨w1.heap.size + 1, 0, none⟩ (.func (.func 41) #[] #[.pointer (some ⟨(w1.heap.size + 1), 0, none⟩), .pointer (some ⟨w1.heap.size, 0, none⟩)])) := hb3.setCell (by simp) _
    clear hn3 hx3 hv3 hb3 hne
    go_upto_region 6 with fail
    generalize (w2.setCell ⟨w1.heap.size + 1, 0, none⟩ (.func (.func 41) #[] #[.pointer (some ⟨(w1.heap.size + 1), 0, none⟩), .pointer (some ⟨w1.heap.size, 0, none⟩)])) = w3 at *
    obtain ⟨x0, x1, x2, x3, x4⟩ := hx4.cells
    have c2 := hn4.cell
    have HN := Lib.hid hn4
    have HV := Lib.hid hv4
    have HB4 : Hid (Below w.heap.size w w3) := Lib.hid (HB1.out.trans (hb4.mono hsz))
    have HSZ := Lib.hid hsz
    clear c0 c1 hx4 hb4 hn4 hsz hv4
    go_upto_region 7 with (first
      | (go_at_call 41
         refine (listC_any w t h _ (w1.heap.size + 1) w1.heap.size (.slice none 0 0) [] HT.out (check_zero HCZ.out).1 (by simp only [List.length_nil]; omega) HB4.out HSZ.out HN.out HV.out (OwnT.nil _ _ _)).mono ?_
         rintro _ w4 ⟨v4, hs4, rfl, hv4, ho4, hh4, hk4⟩
         have HB5 : Hid (Below w.heap.size w w4) := Lib.hid (hk4.below HB4.out HB4.out.size HSZ.out (fun k e => by cases e))
         have HO4 : Hid (OwnT w4 w.heap.size 25 v4 hs4) := Lib.hid ho4
         have HH4 := Lib.hid hh4
         have c4 := hv4.cell
         clear hv4 ho4 hh4 hk4))
    go_wp2_with fail
    go_ret
    exact ⟨v4, hs4, rfl, HO4.out, fun _ => HH4.out, fun q => absurd HCZ.out q, HB5.out⟩
  · have HCZ := Lib.hid hc
    clear hc
    go_wp2_with (first
      | (go_at_call 31
         refine (check_any t h _ ?_).mono ?_
         · exact HT.out.lower ((Below.refl _ _).alloc (Nat.le_refl _) _)
         rintro _ w1 ⟨rfl, hb1⟩
         have HB1 : Hid (Below w.heap.size w w1) := Lib.hid (((Below.refl w.heap.size w).alloc (Nat.le_refl _) _).trans (hb1.mono (by simp)))
         rw [codeV_pos HCZ.out]
         clear hb1 x0 x1 x2 x3 x4))
    go_ret
    exact ⟨_, [], rfl, OwnT.nil _ _ _, fun q => absurd q HCZ.out, fun _ => rfl, HB1.out⟩
end Go.Proofs.YtkfjhegehhahcaaDoor

/- The walk of the law ProofRoots. -/
namespace Go.Proofs.YtkfjhegehhahcaaDoor
open Go.RowKit
set_option linter.unusedVariables false

theorem count_small {a : AT} (h : a.pairs.length ≤ 60) : countT a.tr ≤ 500 := by
  have e : countT a.tr = 2 * a.pairs.length + 1 := by
    clear h
    induction a with
    | nil => rw [countT_eq]; rfl
    | node l k v r ihl ihr =>
      rw [countT_eq, AT.tr_kids]
      simp only [List.map_cons, List.map_nil, List.sum_cons, List.sum_nil, ihl, ihr, AT.pairs, List.length_append, List.length_cons]
      omega
  omega
theorem told_yes {l : List Tr} {i : Nat} {x : Tr} (e : l[i]? = some x) (h : toldB x = true) : ((l.take (i + 1)).filter toldB).map (fun x => (x.key, x.val)) = ((l.take i).filter toldB).map (fun x => (x.key, x.val)) ++ [(x.key, x.val)] := by
  rw [List.take_add_one, e, List.filter_append, List.map_append]
  simp [h]
theorem told_no {l : List Tr} {i : Nat} {x : Tr} (e : l[i]? = some x) (h : toldB x = false) : ((l.take (i + 1)).filter toldB).map (fun x => (x.key, x.val)) = ((l.take i).filter toldB).map (fun x => (x.key, x.val)) := by
  rw [List.take_add_one, e, List.filter_append, List.map_append]
  simp [h]
/-- The law's span, and its tree. -/
structure GX7 (w W : World) (sp : DH) (f tt : List Int) (g1 : Nat) (h2 : TH) (a : AT) : Prop where
  sx : SX w W sp f tt
  tb : Box W 25 g1 h2
  ti : InTree W h2 a.tr
/-- And the proof. -/
structure HX7 (w W : World) (sp : DH) (f tt : List Int) (g1 : Nat) (h2 : TH) (a : AT) (g2 : Nat) (hp : TH) (p : Tr) : Prop where
  g : GX7 w W sp f tt g1 h2 a
  pb : Box W 25 g2 hp
  pt : InTree W hp p
/-- The nodes' row, and the row of what was told. -/
structure TW7 (w W : World) (a : Option Addr) (n c : Nat) (hs : List TH) (ts : List Tr) (rv : Value) (rs : List PH) : Prop where
  b : Below w.heap.size w W
  o : OwnT W 0 25 (.slice a n c) hs
  hw : Heads w hs ts
  row : OwnR recP W w.heap.size 51 rv rs
section
variable {w W W' : World} {sp : DH} {f tt : List Int} {g1 g2 : Nat} {h2 hp : TH} {a : AT} {p : Tr} {la : Option Addr} {n c : Nat} {hs : List TH} {ts : List Tr} {rv rv' : Value} {rs : List PH} {q : PH}
theorem GX7.below (x : GX7 w W sp f tt g1 h2 a) (hb : Below W.heap.size W W') : GX7 w W' sp f tt g1 h2 a := ⟨x.sx.below hb, x.tb.below hb x.tb.lt, x.ti.lower hb⟩
theorem HX7.below (x : HX7 w W sp f tt g1 h2 a g2 hp p) (hb : Below W.heap.size W W') : HX7 w W' sp f tt g1 h2 a g2 hp p := ⟨x.g.below hb, x.pb.below hb x.pb.lt, x.pt.lower hb⟩
theorem TW7.below (x : TW7 w W la n c hs ts rv rs) (hb : Below W.heap.size W W') : TW7 w W' la n c hs ts rv rs := ⟨x.b.trans (hb.mono x.b.size), x.o.keep hb, x.hw, x.row.keep hb⟩
theorem TW7.drew (x : TW7 w W la n c hs ts rv rs) : TW7 w W.drew la n c hs ts rv rs := x.below (Below.refl _ _).drew
theorem TW7.app (x : TW7 w W la n c hs ts rv rs) (hg : W.grownBy W' rv.ownBlock) (ho : OwnR recP W' w.heap.size 51 rv' (rs ++ [q])) : TW7 w W' la n c hs ts rv' (rs ++ [q]) :=
  ⟨x.b.grown hg x.b.size (fun j hj => (x.row.base_le hj).1), World.ownsRow.kept x.o hg (own_apart x.o x.row (by decide)), x.hw, ho⟩
theorem TW7.cells {g : Nat} (x : TW7 w W (some ⟨g, 0, none⟩) n c hs ts rv rs) (hl : hs.length = n) (i : Nat) (hi : i < hs.length) : W.cell? ⟨g, i * 5, none⟩ = some (.int .i64 (hs[i]).k) ∧ W.cell? ⟨g, i * 5 + 1, none⟩ = some (.slice (hs[i]).ka (hs[i]).kn (hs[i]).kc) ∧ W.cell? ⟨g, i * 5 + 2, none⟩ = some (.slice (hs[i]).va (hs[i]).vn (hs[i]).vc) ∧ W.cell? ⟨g, i * 5 + 3, none⟩ = some (.slice (hs[i]).da (hs[i]).dn (hs[i]).dc) ∧ W.cell? ⟨g, i * 5 + 4, none⟩ = some (.slice (hs[i]).ta (hs[i]).tn (hs[i]).tc) := by
  obtain ⟨g', e, h⟩ := x.o.at hl i hi
  injection e with e
  injection e with e
  subst e
  exact h
end

set_option maxRecDepth 100000 in
set_option maxHeartbeats 8000000 in
theorem proofRoots_law (x : Int) (la : Option Addr) (n cap : Nat) (D : Nat → PH) (sp : DH) (f tt : List Int) (w : World) (hin : InRec recP w la n cap D) (hkv : ∀ i, i < n → ∃ key val, InBytes w (D i).ka (D i).kn (D i).kc key ∧ InBytes w (D i).va (D i).vn (D i).vc val)
    (hs : SpanIn w sp f tt) (hT : TabLies w) (hx1 : -9223372036854775808 ≤ x) (hx2 : x ≤ 9223372036854775807) :
    Calls Tryd.prog 4 #[.int .i64 x, .slice la n cap, sp.v] w (Says w (.bool true)) := by
  have heq : ∀ (W : World) (p q : Int), (binOp .eql 31 (.iface 34 (.int .i64 p)) (.iface 34 (.int .i64 q))).run Tryd.prog W = .ok (.bool (p == q)) W := fun W p q => eql_code p q W
  have hcd1 : codeV 1 = .iface 34 (.int .i64 1) := rfl
  obtain ⟨ti, hti, htz⟩ := Option.map_eq_some_iff.1 infoPair
  simp only [Prod.mk.injEq] at htz
  obtain ⟨hz0, hz1, hz2⟩ := htz
  have HTI := Lib.hid (And.intro hti (And.intro hz0 (And.intro hz1 hz2)))
  unfold DH.v
  have HD0 := Lib.hid (SX.new w hs)
  have HL0 := Lib.hid (And.intro hin hkv)
  have HT := Lib.hid hT
  clear hti hz0 hz1 hz2 hs hin hkv hT
  go_enter Tryd.func4, Tryd.ntmps4
  go_upto_region 3 with (first
    | (go_at_call 6
       refine (up7_any _ (HT.out.below HD0.out.b (Nat.le_refl _))).mono ?_
       rintro _ w1 ⟨rfl, hb1⟩
       have HD1 := Lib.hid (HD0.out.below hb1)
       clear hb1)
    | (go_at_call 13
       refine (refGrown_any la n cap D _ (HL0.out.1.below HD1.out.b) (fun i hi => by
         obtain ⟨key, val, q1, q2⟩ := HL0.out.2 i hi
         exact ⟨key, val, q1.below HD1.out.b, q2.below HD1.out.b⟩)).mono ?_
       rintro _ w2 ⟨a, hgood, hlen, h2, rfl, hi2, hb2⟩
       have HD2 := Lib.hid (HD1.out.below hb2)
       have HI2 := Lib.hid hi2
       have HGD := Lib.hid hgood
       have HLEN := Lib.hid hlen
       clear hb2 hi2 hgood hlen)
    | (refine wpList_store_box rfl 25 (.tmp 8) (.tmp 20) rfl w2.heap.size hZ h2 rfl rfl 25 (Box.new w2 25 hZ) infoTree5 ?_
       intro w2b hbx hg
       have qq : Below w2.heap.size w2 w2b := ((Below.refl w2.heap.size w2).alloc (Nat.le_refl _) _).grown hg (by simp) (fun j hj => by injection hj; omega)
       have HG3 : Hid (GX7 w w2b sp f tt w2.heap.size h2 a) := Lib.hid ⟨HD2.out.below qq, hbx, HI2.out.lower qq⟩
       clear hbx hg qq))
  generalize w2.heap.size = g1 at *
  have HIS : Hid (isT a.tr = true) := Lib.hid (HGD.out.is (by have := HLEN.out; omega))
  have HCN : Hid (countT a.tr ≤ 500) := Lib.hid (count_small HLEN.out)
  obtain ⟨x0, x1, x2, x3, x4⟩ := HG3.out.tb.cells
  obtain ⟨y0, y1, y2⟩ := HG3.out.sx.box.three
  by_cases hx : 1 ≤ x ∧ x ≤ 32
  rotate_left
  · have HXX := Lib.hid hx
    clear hx
    go_wp2_with (first
    | (go_at_call 8
       refine (prove_arg x a.tr h2 sp f tt _ HG3.out.ti HG3.out.sx.sp hx1 hx2 HXX.out).mono ?_
       rintro _ w4 ⟨h4, rfl, hi4, hb4⟩
       rw [hcd1]
       have HG4 := Lib.hid (HG3.out.below hb4)
       have HI4 := Lib.hid hi4
       clear hi4 hb4
       clear x0 x1 x2 x3 x4 y0 y1 y2)
    | (refine wpList_store_box rfl 25 (.tmp 9) (.tmp 26) rfl w4.heap.size hZ h4 rfl rfl 25 (Box.new w4 25 hZ) infoTree5 ?_
       intro w4b hbx hg
       have qq : Below w4.heap.size w4 w4b := ((Below.refl w4.heap.size w4).alloc (Nat.le_refl _) _).grown hg (by simp) (fun j hj => by injection hj; omega)
       have HH5 : Hid (HX7 w w4b sp f tt g1 h2 a w4.heap.size h4 tNil) := Lib.hid ⟨HG4.out.below qq, hbx, HI4.out.lower qq⟩
       obtain ⟨x0, x1, x2, x3, x4⟩ := HH5.out.g.tb.cells
       obtain ⟨z0, z1, z2, z3, z4⟩ := HH5.out.pb.cells
       obtain ⟨y0, y1, y2⟩ := HH5.out.g.sx.box.three
       clear hbx hg qq)
    | (go_at_call 14
       refine (digest_arg x a.tr h2 _ HH5.out.g.ti hx1 hx2 HXX.out).mono ?_
       rintro _ w6 ⟨a6, c6, rfl, hb6⟩
       rw [hcd1]
       have HH6 := Lib.hid (HH5.out.below hb6)
       clear hb6
       clear x0 x1 x2 x3 x4 z0 z1 z2 z3 z4 y0 y1 y2))
    go_ret
    exact ⟨by simp, HH6.out.g.sx.b⟩
  obtain ⟨k, rfl⟩ : ∃ k : Nat, x = (k : Int) := ⟨x.toNat, by omega⟩
  have hk1 : 1 ≤ k := by omega
  have hk2 : k ≤ 32 := by omega
  clear hx
  have HPR : Hid (checkT (showA k f tt sp.out a) = 0 ∧ digT k (showA k f tt sp.out a) = some (digA k a) ∧ countT (showA k f tt sp.out a) ≤ 500 ∧ toldT (showA k f tt sp.out a) = a.pairs.filter (fun p => inS f tt sp.out p.1)) := Lib.hid ⟨show_check f tt sp.out HGD.out.lim (Nat.le_trans (AT.depth_le a) (by have := HLEN.out; omega)), show_dig hk2 f tt sp.out a, Nat.le_trans (show_count f tt sp.out a) HCN.out, show_told f tt sp.out a HGD.out.rise⟩
  have HCK : Hid (checkT a.tr = 0) := Lib.hid (by
    have q := HIS.out
    unfold isT at q
    rw [Bool.and_eq_true, decide_eq_true_eq] at q
    exact q.1)
  generalize hpt : showA k f tt sp.out a = pt at *
  have HPT := Lib.hid hpt
  clear hpt
  go_upto_region 7 with (first
    | (go_at_call 8
       refine (prove_ok k hk1 hk2 a h2 sp f tt _ HG3.out.ti HG3.out.sx.sp HIS.out HCN.out (HT.out.below HG3.out.sx.b (Nat.le_refl _))).mono ?_
       rw [HPT.out]
       rintro _ w4 ⟨h4, rfl, hf4, hb4⟩
       have HG4 := Lib.hid (HG3.out.below hb4)
       have HI4 := Lib.hid (hf4.self (Nat.le_refl _))
       clear hf4 hb4
       clear x0 x1 x2 x3 x4 y0 y1 y2)
    | (refine wpList_store_box rfl 25 (.tmp 9) (.tmp 26) rfl w4.heap.size hZ h4 rfl rfl 25 (Box.new w4 25 hZ) infoTree5 ?_
       intro w4b hbx hg
       have qq : Below w4.heap.size w4 w4b := ((Below.refl w4.heap.size w4).alloc (Nat.le_refl _) _).grown hg (by simp) (fun j hj => by injection hj; omega)
       have HH5 : Hid (HX7 w w4b sp f tt g1 h2 a w4.heap.size h4 pt) := Lib.hid ⟨HG4.out.below qq, hbx, HI4.out.lower qq⟩
       obtain ⟨x0, x1, x2, x3, x4⟩ := HH5.out.g.tb.cells
       obtain ⟨z0, z1, z2, z3, z4⟩ := HH5.out.pb.cells
       obtain ⟨y0, y1, y2⟩ := HH5.out.g.sx.box.three
       clear hbx hg qq)
    | (go_at_call 14
       refine (digest_ok k hk1 hk2 a.tr h2 _ HH5.out.g.ti (HT.out.below HH5.out.g.sx.b (Nat.le_refl _)) HCK.out (AT.digs hk2 a)).mono ?_
       rintro _ w6 ⟨a6, c6, rfl, hn6, hb6⟩
       have HH6 := Lib.hid (HH5.out.below hb6)
       have HN6 := Lib.hid hn6.1
       clear hb6 hn6
       clear x0 x1 x2 x3 x4 z0 z1 z2 z3 z4 y0 y1 y2
       obtain ⟨x0, x1, x2, x3, x4⟩ := HH6.out.g.tb.cells
       obtain ⟨z0, z1, z2, z3, z4⟩ := HH6.out.pb.cells
       obtain ⟨y0, y1, y2⟩ := HH6.out.g.sx.box.three))
  go_upto_region 10 with (first
    | (go_at_call 14
       refine (digest_ok k hk1 hk2 pt h4 _ HH6.out.pt (HT.out.below HH6.out.g.sx.b (Nat.le_refl _)) HPR.out.1 HPR.out.2.1).mono ?_
       rintro _ w7 ⟨a7, c7, rfl, hn7, hb7⟩
       have HH7 := Lib.hid (HH6.out.below hb7)
       have HN7 := Lib.hid (And.intro (HN6.out.below hb7) hn7.1)
       clear hb7 hn7
       clear x0 x1 x2 x3 x4 z0 z1 z2 z3 z4 y0 y1 y2
       obtain ⟨x0, x1, x2, x3, x4⟩ := HH7.out.g.tb.cells
       obtain ⟨z0, z1, z2, z3, z4⟩ := HH7.out.pb.cells
       obtain ⟨y0, y1, y2⟩ := HH7.out.g.sx.box.three)
    | (go_at_call 15
       refine (list_any pt h4 _ HH7.out.pt (by have := HPR.out.2.2.1; omega)).mono ?_
       rintro _ w8 ⟨v8, hs, rfl, ho8, hh8, -, hb8⟩
       have HH8 := Lib.hid (HH7.out.below hb8)
       have HN8 := Lib.hid (And.intro (HN7.out.1.below hb8) (HN7.out.2.below hb8))
       have HO8 := Lib.hid (And.intro ho8 (And.intro (hh8 HPR.out.1) hb8))
       clear hb8 ho8 hh8
       clear x0 x1 x2 x3 x4 z0 z1 z2 z3 z4 y0 y1 y2))
  obtain ⟨ho8, hh8, hb8⟩ := HO8.out
  obtain ⟨la8, lc8, hv8⟩ := ho8.sl
  generalize hm : (listT pt).length = m at *
  have hhm : hs.length = m := hh8.1.trans hm
  rw [hhm] at hv8
  subst hv8
  have hm5 : m ≤ 1000 := by
    have q := list_len pt (check_zero HPR.out.1).1
    have := HPR.out.2.2.1
    omega
  have HM := Lib.hid (And.intro hm hhm)
  have HW0 : Hid (Heads w8 hs (listT pt)) := Lib.hid (hh8.lower hb8)
  have HTW : Hid (TW7 w8 w8 la8 m lc8 hs (listT pt) (.slice none 0 0) []) := Lib.hid ⟨Below.refl _ _, ho8.weak (Nat.zero_le _), HW0.out, OwnR.nil _ _ _ _⟩
  generalize hwl : w8 = wl at *
  clear hm hhm ho8 hh8 hb8 hwl HO8
  go_wp2_with fail
  go_loopw [15, 17] (fun s15 s17 wx => ∃ (i : Nat) (ra : Option Addr) (r rc : Nat) (rs : List PH), i ≤ m ∧ s15 = .slice ra r rc ∧ rs.length = r ∧ s17 = .int .i64 i ∧ TW7 wl wx la8 m lc8 hs (listT pt) (.slice ra r rc) rs ∧ PairsIn wl rs ((((listT pt).take i).filter toldB).map (fun x => (x.key, x.val)))) (fun _ s17 _ => m - (intOf s17).toNat)
  case atStart => exact ⟨0, none, 0, 0, [], by omega, rfl, rfl, rfl, HTW.out, PairsIn.nil _⟩
  case round =>
    clear HTW
    obtain ⟨i, ra, r, rc, rs, hi, rfl, hrl, rfl, htw, hpin⟩ := hrel
    have HPIN := Lib.hid hpin
    have hr5 : r ≤ 1000 := by
      have h1 := hpin.1
      have h2 := List.length_filter_le toldB ((listT pt).take i)
      rw [List.length_map] at h1
      rw [List.length_take] at h2
      omega
    clear hpin
    by_cases hlt : i < m
    · have q1 : (i : Int) < (m : Int) := by omega
      have hhl : hs.length = m := HM.out.2
      have him : i < hs.length := by omega
      have him2 : i < (listT pt).length := by rw [HM.out.1]; exact hlt
      have hgi : (listT pt)[i]? = some (listT pt)[i] := List.getElem?_eq_getElem him2
      obtain ⟨H, hp⟩ := (htw.hw.2 i him him2).parts
      generalize (listT pt)[i] = y at *
      have HGI := Lib.hid hgi
      have HKV : Hid (InBytes wl (hs[i]).ka (hs[i]).kn (hs[i]).kc y.key ∧ InBytes wl (hs[i]).va (hs[i]).vn (hs[i]).vc y.val ∧ (hs[i]).k = y.k) := Lib.hid ⟨hp.key, hp.val, hp.hk⟩
      obtain ⟨g, hga, -⟩ := htw.o.at hhl i him
      subst hga
      obtain ⟨x0, x1, x2, x3, x4⟩ := htw.cells hhl i him
      have HL := Lib.hid htw
      clear htw hp hgi
      cases hkd : ((hs[i]).k == 1) with
      | false =>
        have HTO : Hid (toldB y = false) := Lib.hid (by unfold toldB; rw [← HKV.out.2.2]; exact hkd)
        go_wp2_with fail
        exact ⟨⟨i + 1, ra, r, rc, rs, by omega, rfl, hrl, by go_num, HL.out, by rw [told_no HGI.out HTO.out]; exact HPIN.out⟩, by simp [intOf]; omega⟩
      | true =>
        have HTO : Hid (toldB y = true) := Lib.hid (by unfold toldB; rw [← HKV.out.2.2]; exact hkd)
        go_upto_region 14 with fail
        clear x0 x1 x2 x3 x4
        refine wp_region_held_drew (S := (fun W => W.cell? ⟨g, i * 5 + 1, none⟩ = some (.slice (hs[i]).ka (hs[i]).kn (hs[i]).kc) ∧ W.cell? ⟨g, i * 5 + 2, none⟩ = some (.slice (hs[i]).va (hs[i]).vn (hs[i]).vc))) (by kernel_rfl) ⟨(HL.out.drew.cells hhl i him).2.1, (HL.out.drew.cells hhl i him).2.2.1⟩ (fun hHeld => ?_)
        refine take_w (i := 0) (oi := ?oZ16) (v := ?vZ16) ?hiZ16 (by kernel_rfl) (by kernel_rfl) (by kernel_rfl) ?hQZ16 ?hwZ16 ?hyZ16 (by assumption) ?restZ16
        case hiZ16 => (simp only [List.getElem?_toArray, List.getElem?_cons_zero] <;> rfl)
        case hQZ16 => exact (fun _ _ _ h => h)
        case hwZ16 => rfl
        case hyZ16 => (intro w hSw; (try dsimp only at hSw); go_simp; try with_reducible rfl)
        (try simp only [Act.put, List.setIfInBounds_toArray, List.set_cons_zero, List.set_cons_succ])
        refine take_w (i := 1) (oi := ?oZ17) (v := ?vZ17) ?hiZ17 (by kernel_rfl) (by kernel_rfl) (by kernel_rfl) ?hQZ17 ?hwZ17 ?hyZ17 (by assumption) ?restZ17
        case hiZ17 => (simp only [List.getElem?_toArray, List.getElem?_cons_succ, List.getElem?_cons_zero] <;> rfl)
        case hQZ17 => exact (fun _ _ _ h => h)
        case hwZ17 => rfl
        case hyZ17 => (intro w hSw; (try dsimp only at hSw); go_simp; try with_reducible rfl)
        (try simp only [Act.put, List.setIfInBounds_toArray, List.set_cons_zero, List.set_cons_succ])
        refine take_w (i := 2) (oi := ?oZ18) (v := ?vZ18) ?hiZ18 (by kernel_rfl) (by kernel_rfl) (by kernel_rfl) ?hQZ18 ?hwZ18 ?hyZ18 (by assumption) ?restZ18
        case hiZ18 => (simp only [List.getElem?_toArray, List.getElem?_cons_succ, List.getElem?_cons_zero] <;> rfl)
        case hQZ18 => exact (fun _ _ _ h => h)
        case hwZ18 => rfl
        case hyZ18 => (intro w hSw; (try dsimp only at hSw); go_simp; try with_reducible rfl)
        (try simp only [Act.put, List.setIfInBounds_toArray, List.set_cons_zero, List.set_cons_succ])
        refine take_w (i := 3) (oi := ?oZ19) (v := ?vZ19) ?hiZ19 (by kernel_rfl) (by kernel_rfl) (by kernel_rfl) ?hQZ19 ?hwZ19 ?hyZ19 (by assumption) ?restZ19
        case hiZ19 => (simp only [List.getElem?_toArray, List.getElem?_cons_succ, List.getElem?_cons_zero] <;> rfl)
        case hQZ19 => exact (fun _ _ _ h => h)
        case hwZ19 => rfl
        case hyZ19 => (intro w hSw; (try dsimp only at hSw); go_simp; try with_reducible rfl)
        (try simp only [Act.put, List.setIfInBounds_toArray, List.set_cons_zero, List.set_cons_succ])
        refine take_w (i := 4) (oi := ?oZ20) (v := ?vZ20) ?hiZ20 (by kernel_rfl) (by kernel_rfl) (by kernel_rfl) ?hQZ20 ?hwZ20 ?hyZ20 (by assumption) ?restZ20
        case hiZ20 => (simp only [List.getElem?_toArray, List.getElem?_cons_succ, List.getElem?_cons_zero] <;> rfl)
        case hQZ20 => exact (fun _ _ _ h => h)
        case hwZ20 => rfl
        case hyZ20 => (intro w hSw; (try dsimp only at hSw); go_simp; try with_reducible rfl)
        (try simp only [Act.put, List.setIfInBounds_toArray, List.set_cons_zero, List.set_cons_succ])
        refine take_w (i := 5) (oi := ?oZ21) (v := ?vZ21) ?hiZ21 (by kernel_rfl) (by kernel_rfl) (by kernel_rfl) ?hQZ21 ?hwZ21 ?hyZ21 (by assumption) ?restZ21
        case hiZ21 => (simp only [List.getElem?_toArray, List.getElem?_cons_succ, List.getElem?_cons_zero] <;> rfl)
        case hQZ21 => exact (fun _ _ _ h => h)
        case hwZ21 => rfl
        case hyZ21 => (intro w hSw; (try dsimp only at hSw); go_simp; try with_reducible rfl)
        (try simp only [Act.put, List.setIfInBounds_toArray, List.set_cons_zero, List.set_cons_succ])
        refine take_w (i := 6) (oi := ?oZ22) (v := ?vZ22) ?hiZ22 (by kernel_rfl) (by kernel_rfl) (by kernel_rfl) ?hQZ22 ?hwZ22 ?hyZ22 (by assumption) ?restZ22
        case hiZ22 => (simp only [List.getElem?_toArray, List.getElem?_cons_succ, List.getElem?_cons_zero] <;> rfl)
        case hQZ22 => exact (fun _ _ _ h => h)
        case hwZ22 => rfl
        case hyZ22 => (intro w hSw; (try dsimp only at hSw); go_simp; try with_reducible rfl)
        (try simp only [Act.put, List.setIfInBounds_toArray, List.set_cons_zero, List.set_cons_succ])
        refine take_w (i := 7) (oi := ?oZ23) (v := ?vZ23) ?hiZ23 (by kernel_rfl) (by kernel_rfl) (by kernel_rfl) ?hQZ23 ?hwZ23 ?hyZ23 (by assumption) ?restZ23
        case hiZ23 => (simp only [List.getElem?_toArray, List.getElem?_cons_succ, List.getElem?_cons_zero] <;> rfl)
        case hQZ23 => exact (fun _ _ _ h => h)
        case hwZ23 => rfl
        case hyZ23 => (intro w hSw; (try dsimp only at hSw); go_simp; try with_reducible rfl)
        (try simp only [Act.put, List.setIfInBounds_toArray, List.set_cons_zero, List.set_cons_succ])
        refine take_w (i := 8) (oi := ?oZ24) (v := ?vZ24) ?hiZ24 (by kernel_rfl) (by kernel_rfl) (by kernel_rfl) ?hQZ24 ?hwZ24 ?hyZ24 (by assumption) ?restZ24
        case hiZ24 => (simp only [List.getElem?_toArray, List.getElem?_cons_succ, List.getElem?_cons_zero] <;> rfl)
        case hQZ24 => exact (fun _ _ _ h => h)
        case hwZ24 => rfl
        case hyZ24 => (intro w hSw; (try dsimp only at hSw); go_simp; try with_reducible rfl)
        (try simp only [Act.put, List.setIfInBounds_toArray, List.set_cons_zero, List.set_cons_succ])
        refine take_w (i := 9) (oi := ?oZ25) (v := ?vZ25) ?hiZ25 (by kernel_rfl) (by kernel_rfl) (by kernel_rfl) ?hQZ25 ?hwZ25 ?hyZ25 (by assumption) ?restZ25
        case hiZ25 => (simp only [List.getElem?_toArray, List.getElem?_cons_succ, List.getElem?_cons_zero] <;> rfl)
        case hQZ25 => exact (fun _ _ _ h => h)
        case hwZ25 => rfl
        case hyZ25 => (intro w hSw; (try dsimp only at hSw); go_simp; try with_reducible rfl)
        (try simp only [Act.put, List.setIfInBounds_toArray, List.set_cons_zero, List.set_cons_succ])
        refine take_w (i := 10) (oi := ?oZ26) (v := ?vZ26) ?hiZ26 (by kernel_rfl) (by kernel_rfl) (by kernel_rfl) ?hQZ26 ?hwZ26 ?hyZ26 (by assumption) ?restZ26
        case hiZ26 => (simp only [List.getElem?_toArray, List.getElem?_cons_succ, List.getElem?_cons_zero] <;> rfl)
        case hQZ26 => exact (fun _ _ _ h => h)
        case hwZ26 => rfl
        case hyZ26 => (intro w hSw; (try dsimp only at hSw); go_simp; try with_reducible rfl)
        (try simp only [Act.put, List.setIfInBounds_toArray, List.set_cons_zero, List.set_cons_succ])
        refine take_w (i := 11) (oi := ?oZ27) (v := ?vZ27) ?hiZ27 (by kernel_rfl) (by kernel_rfl) (by kernel_rfl) ?hQZ27 ?hwZ27 ?hyZ27 (by assumption) ?restZ27
        case hiZ27 => (simp only [List.getElem?_toArray, List.getElem?_cons_succ, List.getElem?_cons_zero] <;> rfl)
        case hQZ27 => exact (fun _ _ _ h => h)
        case hwZ27 => rfl
        case hyZ27 => (intro w hSw; (try dsimp only at hSw); go_simp; try with_reducible rfl)
        (try simp only [Act.put, List.setIfInBounds_toArray, List.set_cons_zero, List.set_cons_succ])
        refine wpAnyH_ready (rs := [12]) (by kernel_rfl) (by simp) ?_
        refine AllReadyH.cons (o := ?oZ28) ?hiZ28 (fun K hK => ?stZ28) AllReadyH.nil
        case hiZ28 => (simp only [List.getElem?_toArray, List.getElem?_cons_succ, List.getElem?_cons_zero] <;> rfl)
        go_simp
        refine hK.out _ _ ?_ (fun hHeld => ?_)
        · (first | exact ⟨(HL9.out.cells hhl i him).2.1, (HL9.out.cells hhl i him).2.2.1⟩ | exact ⟨(HL.out.drew.cells hhl i him).2.1, (HL.out.drew.cells hhl i him).2.2.1⟩ | exact ⟨((HL.out.drew.below ((Below.refl _ _).alloc (Nat.le_refl _) _)).cells hhl i him).2.1, ((HL.out.drew.below ((Below.refl _ _).alloc (Nat.le_refl _) _)).cells hhl i him).2.2.1⟩)
        clear hK K
        (try simp only [Act.put, List.setIfInBounds_toArray, List.set_cons_zero, List.set_cons_succ])
        refine wpAnyH_ready (rs := [13]) (by kernel_rfl) (by simp) ?_
        refine AllReadyH.cons (o := ?oZ29) ?hiZ29 (fun K hK => ?stZ29) AllReadyH.nil
        case hiZ29 => (simp only [List.getElem?_toArray, List.getElem?_cons_succ, List.getElem?_cons_zero] <;> rfl)
        have qa : Below wr.drew.heap.size wr.drew (wr.drew.alloc (.cells #[.slice (hs[i]).ka (hs[i]).kn (hs[i]).kc, .slice (hs[i]).va (hs[i]).vn (hs[i]).vc] 51)) := (Below.refl _ _).alloc (Nat.le_refl _) _
        have HLA := Lib.hid (HL.out.drew.below qa)
        refine step_append_rec _ rfl (.tmp 71) (.tmp 83) 45 rfl recP wl.heap.size 51 ti _ 48 Tryd.underlying45 HTI.out.1 HTI.out.2.1 HTI.out.2.2.1 HTI.out.2.2.2 rfl (.slice ra r rc) rs rfl HLA.out.row wr.heap.size 1 (⟨(hs[i]).ka, (hs[i]).kn, (hs[i]).kc, (hs[i]).va, (hs[i]).vn, (hs[i]).vc⟩ : PH) rfl (RBox.cell (c := recP) (r := (⟨(hs[i]).ka, (hs[i]).kn, (hs[i]).kc, (hs[i]).va, (hs[i]).vn, (hs[i]).vc⟩ : PH)) (heap_alloc_new wr.drew _)) ?_ (by omega) HLA.out.b.size ?_
        · rw [hrl]
          omega
        intro v9 w9 ho9 hg9 hw9 _
        obtain ⟨ra9, rc9, hv9⟩ := ho9.sl
        have hlen9 : (rs ++ [(⟨(hs[i]).ka, (hs[i]).kn, (hs[i]).kc, (hs[i]).va, (hs[i]).vn, (hs[i]).vc⟩ : PH)]).length = r + 1 := by simp [hrl]
        rw [hlen9] at hv9
        subst hv9
        have HL9 := Lib.hid (HLA.out.app hg9 ho9)
        have HLE9 := Lib.hid hlen9
        clear ho9 hg9 hlen9 qa
        refine hK.out _ _ ?_ (fun hHeld => ?_)
        · (first | exact ⟨(HL9.out.cells hhl i him).2.1, (HL9.out.cells hhl i him).2.2.1⟩ | exact ⟨(HL.out.drew.cells hhl i him).2.1, (HL.out.drew.cells hhl i him).2.2.1⟩ | exact ⟨((HL.out.drew.below ((Below.refl _ _).alloc (Nat.le_refl _) _)).cells hhl i him).2.1, ((HL.out.drew.below ((Below.refl _ _).alloc (Nat.le_refl _) _)).cells hhl i him).2.2.1⟩)
        clear hK K
        (try simp only [Act.put, List.setIfInBounds_toArray, List.set_cons_zero, List.set_cons_succ])
        refine take_w (i := 14) (oi := ?oZ30) (v := ?vZ30) ?hiZ30 (by kernel_rfl) (by kernel_rfl) (by kernel_rfl) ?hQZ30 ?hwZ30 ?hyZ30 (by assumption) ?restZ30
        case hiZ30 => (simp only [List.getElem?_toArray, List.getElem?_cons_succ, List.getElem?_cons_zero] <;> rfl)
        case hQZ30 => exact (fun _ _ _ h => h)
        case hwZ30 => rfl
        case hyZ30 => (intro w hSw; (try dsimp only at hSw); go_simp; try with_reducible rfl)
        (try simp only [Act.put, List.setIfInBounds_toArray, List.set_cons_zero, List.set_cons_succ])
        refine wpAnyH_done (by kernel_rfl) ?_ _
        clear hHeld
        go_wp2_with fail
        exact ⟨⟨i + 1, ra9, r + 1, rc9, _, by omega, rfl, HLE9.out, by go_num, HL9.out, by rw [told_yes HGI.out HTO.out]; exact HPIN.out.snoc HKV.out.1 HKV.out.2.1⟩, by simp [intOf]; omega⟩
    · obtain rfl : i = m := by omega
      have q1 : ¬ (i : Int) < (i : Int) := by omega
      have hk : (listT pt).take i = listT pt := List.take_of_length_le (by rw [HM.out.1]; exact Nat.le_refl _)
      have htd : (((listT pt).take i).filter toldB).map (fun x => (x.key, x.val)) = a.pairs.filter (fun p => inS f tt sp.out p.1) := by
        rw [hk]
        exact HPR.out.2.2.2
      have HPK := HPIN.out
      rw [htd] at HPK
      generalize hkv : a.pairs.filter (fun p => inS f tt sp.out p.1) = kvs at *
      have HKV := Lib.hid hkv
      have HH9 := Lib.hid (HH8.out.below htw.b)
      have e3 : r = kvs.length := by rw [← hrl, HPK.1]
      subst e3
      have HR9 : Hid (InRec recP wr ra kvs.length rc (fun i => rs.getD i pZ) ∧ PairsD wr (fun i => rs.getD i pZ) kvs) := Lib.hid ⟨(htw.row.inRec pZ).2, (HPK.below htw.b).byD⟩
      have cv1 := conv_key (HN8.out.2.below htw.b)
      have cv2 := conv_key (HN8.out.1.below htw.b)
      clear hk htd HPK hkv htw HH8
      obtain ⟨x0, x1, x2, x3, x4⟩ := HH9.out.g.tb.cells
      obtain ⟨y0, y1, y2⟩ := HH9.out.g.sx.box.three
      go_wp2_with (first
        | (go_at_call 17
           refine (refRange_any a h2 sp f tt _ HH9.out.g.ti HGD.out.lim HCN.out HH9.out.g.sx.sp).mono ?_
           rw [HKV.out]
           rintro _ w10 ⟨ra10, r10, rc10, rs10, rfl, ho10, hl10, hp10, hb10⟩
           have HH10 := Lib.hid (HH9.out.below hb10)
           have e10 : r10 = kvs.length := by rw [← hl10, hp10.1]
           subst e10
           have HR10 := Lib.hid (And.intro (HR9.out.1.below hb10) (HR9.out.2.below hb10))
           have HS10 : Hid (InRec recP w10 ra10 kvs.length rc10 (fun i => rs10.getD i pZ) ∧ PairsD w10 (fun i => rs10.getD i pZ) kvs) := Lib.hid ⟨(ho10.inRec pZ).2, (hp10.below hb10).byD⟩
           clear ho10 hl10 hp10 hb10)
        | (go_at_call 16
           refine (refSameP_any kvs _ _ ra ra10 kvs.length rc rc10 _ rfl HR10.out.1 HS10.out.1 HR10.out.2 HS10.out.2).mono ?_
           rintro _ w11 ⟨rfl, hb11⟩
           have HH11 := Lib.hid (HH10.out.below hb11)
           clear hb11))
      go_ret
      exact ⟨by simp, HH11.out.g.sx.b⟩
end Go.Proofs.YtkfjhegehhahcaaDoor

/- What the rows' condition on the two listed tables gives the walks; a start that meets it. -/
namespace Go.Proofs.YtkfjhegehhahcaaDoor
open Go.ChangeShapes Go.WideShapes Go.ChangeAt Go.RowKit
set_option linter.unusedVariables false

theorem own : ownKnob Tryd.prog.godebug = none := by kernel_rfl
theorem laidOut : laidOutB Tryd.prog = true := by kernel_rfl
theorem gK : Tryd.prog.globalNamed "heartwood/sha.roundConstants" = some 2 := by kernel_rfl
theorem gH : Tryd.prog.globalNamed "heartwood/sha.initialState" = some 1 := by kernel_rfl
theorem tK : (Tryd.prog.globals[2]?).map (·.type) = some 99 := by kernel_rfl
theorem tH : (Tryd.prog.globals[1]?).map (·.type) = some 40 := by kernel_rfl
theorem cK : Tryd.prog.cellsOf 99 = 64 := by kernel_rfl
theorem cH : Tryd.prog.cellsOf 40 = 8 := by kernel_rfl
theorem cU : Tryd.prog.cellsOf 39 = 1 := by kernel_rfl

abbrev tabs : List (String × DataW Unit) := [("heartwood/sha.roundConstants", Rows.laid_heartwood_sha_roundConstants), ("heartwood/sha.initialState", Rows.laid_heartwood_sha_initialState)]

theorem of_laid {W : World} (h : laidMetH Tryd.prog tabs W) : TabLies W := by
  rw [MakeChecks.laidMetH_plain _ _ _ (by kernel_rfl)] at h
  obtain ⟨ps, ⟨g0, t0, cs0, f0, p0, q0, hg0, ht0, hv0, hd0, ⟨g1, t1, cs1, f1, p1, q1, hg1, ht1, hv1, hd1, _, _⟩, _⟩, _, _⟩ := h
  obtain rfl := Option.some.inj (gK.symm.trans hg0)
  obtain rfl := Option.some.inj (gH.symm.trans hg1)
  obtain rfl := Option.some.inj (tK.symm.trans ht0)
  obtain rfl := Option.some.inj (tH.symm.trans ht1)
  have e0 : cs0.toList = kTab.map (Value.int .u32) := ints_of_trod (zs := kTab) Tryd.underlying99 Tryd.underlying39 cU cK rfl hd0
  have e1 : cs1.toList = hTab.map (Value.int .u32) := ints_of_trod (zs := hTab) Tryd.underlying40 Tryd.underlying39 cU cH rfl hd1
  constructor
  · simp only [World.var?, gK, Option.bind_some] at hv0
    split at hv0
    · rename_i cs t fr hh
      injection hv0 with hv0
      subst hv0
      refine ⟨t, fr, ?_⟩
      rw [hh, ← e0]
    · cases hv0
  · simp only [World.var?, gH, Option.bind_some] at hv1
    split at hv1
    · rename_i cs t fr hh
      injection hv1 with hv1
      subst hv1
      refine ⟨t, fr, ?_⟩
      rw [hh, ← e1]
    · cases hv1

/-- The door's own heap meets the condition. -/
theorem door_met (os : Os) (args : Array Value) : laidMetH Tryd.prog tabs ((World.doorLaid Tryd.prog 400 os).forCall (fun _ _ => 0) ⟨#[], args, []⟩).memory :=
  laidMetH_of_parts3 (fuel := 8) (laidMet_of_run' 8 (by kernel_rfl) (by kernel_rfl)) (by kernel_rfl) (by kernel_rfl)
end Go.Proofs.YtkfjhegehhahcaaDoor

/- Spans, and lists of pairs, that are arguments. -/
namespace Go.Proofs.YtkfjhegehhahcaaDoor
open Go.ChangeShapes Go.WideShapes Go.RowKit Go.Deep
set_option linter.unusedVariables false

set_option maxRecDepth 100000 in
theorem open_span {H : Type} {enc : TypeId × Value → H} {w : World} {base : Nat} {spare : Nat → Bool} {held : Bool} {r : Reach} {b0 : Nat} {v : Value} {d : DataW H} {p : List MemPlace}
    (hv : Value.okWide Tryd.prog w r b0 27 v) (h : DataW.Trod enc Tryd.prog w base spare held 27 v d p) : ∃ hd f t, v = DH.v hd ∧ SpanIn w hd f t := by
  obtain ⟨cs, rfl, hs⟩ := okWide_struct Tryd.underlying27 hv
  obtain ⟨fuel, hf⟩ := h
  obtain ⟨hd, e, key, val, h1, h2⟩ := trod_deed Tryd.underlying27 (by kernel_rfl) rfl rfl rfl (by kernel_rfl) (by kernel_rfl) (by kernel_rfl) Tryd.underlying22 Tryd.underlying22 Tryd.underlying4 Tryd.underlying5 (by kernel_rfl) fuel _ _ hf
  refine ⟨hd, key, val, ?_, h1, h2⟩
  have e2 : cs = (recD.cells hd).toArray := by
    simp only [Value.cells] at e
    rw [← e]
  rw [e2]
  rfl
section
variable {H : Type} {enc : TypeId × Value → H} {P : Program} {w : World} {base : Nat} {spare : Nat → Bool} {held : Bool}
theorem trod_pair {T B : TypeId} {f0 f1 : Field} (he : P.underlying T = some (.struct #[f0, f1])) (hc : P.cellsOf T = 2)
    (o0 : f0.offset = 0) (o1 : f1.offset = 1) (c0 : P.cellsOf f0.type = 1) (c1 : P.cellsOf f1.type = 1)
    (u0 : P.underlying f0.type = some (.slice B)) (u1 : P.underlying f1.type = some (.slice B)) (hB : P.underlying B = some (.int .u8)) (hcB : P.cellsOf B = 1)
    (fuel : Nat) (cs : List Value) (x : DataW H × List MemPlace) (hx : DataW.trod enc P w base spare held fuel T cs = some x) :
    ∃ r : PH, cs = recP.cells r ∧ ∃ key val, InBytes w r.ka r.kn r.kc key ∧ InBytes w r.va r.vn r.vc val := by
  obtain ⟨xs, n, hn, _, hl, hxl, hf⟩ := DataW.trod_struct he hx
  rw [hc] at hl
  obtain ⟨v0, v1, rfl⟩ : ∃ v0 v1, cs = [v0, v1] := by
    rcases cs with _ | ⟨v0, _ | ⟨v1, _ | ⟨y, r⟩⟩⟩ <;> simp at hl
    exact ⟨_, _, rfl⟩
  have hxs : xs.length = 2 := by simpa using hxl
  have g0 := hf 0 f0 rfl
  have g1 := hf 1 f1 rfl
  rw [o0, c0, List.getElem?_eq_getElem (by omega)] at g0
  rw [o1, c1, List.getElem?_eq_getElem (by omega)] at g1
  replace g0 : DataW.trod enc P w base spare held n f0.type [v0] = some xs[0] := g0
  replace g1 : DataW.trod enc P w base spare held n f1.type [v1] = some xs[1] := g1
  obtain ⟨a0, n0, k0, rfl⟩ := slice_form u0 g0
  obtain ⟨a1, n1, k1, rfl⟩ := slice_form u1 g1
  obtain ⟨key, hkey⟩ := open_bytes (d := xs[0].1) (p := xs[0].2) u0 hB hcB ⟨n, g0⟩
  obtain ⟨val, hval⟩ := open_bytes (d := xs[1].1) (p := xs[1].2) u1 hB hcB ⟨n, g1⟩
  exact ⟨⟨a0, n0, k0, a1, n1, k1⟩, rfl, key, val, hkey, hval⟩
end
set_option maxRecDepth 100000 in
theorem open_pairs {H : Type} {enc : TypeId × Value → H} {w : World} {base : Nat} {spare : Nat → Bool} {held : Bool} {a : Option Addr} {n cap : Nat} {d : DataW H} {p : List MemPlace}
    (h : DataW.Trod enc Tryd.prog w base spare held 45 (.slice a n cap) d p) : ∃ D : Nat → PH, InRec recP w a n cap D ∧ ∀ i, i < n → ∃ key val, InBytes w (D i).ka (D i).kn (D i).kc key ∧ InBytes w (D i).va (D i).vn (D i).vc val :=
  open_rec recP (fun r => ∃ key val, InBytes w r.ka r.kn r.kc key ∧ InBytes w r.va r.vn r.vc val) pZ Tryd.underlying45 (by kernel_rfl)
    (fun fuel cs x hx => trod_pair Tryd.underlying51 (by kernel_rfl) rfl rfl (by kernel_rfl) (by kernel_rfl) Tryd.underlying22 Tryd.underlying22 Tryd.underlying5 (by kernel_rfl) fuel cs x hx) h
end Go.Proofs.YtkfjhegehhahcaaDoor
