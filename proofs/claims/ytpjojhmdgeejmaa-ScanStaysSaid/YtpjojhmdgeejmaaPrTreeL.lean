/- The contract of the program's list of nodes. -/
import Derived.Test.YtpjojhmdgeejmaaPrFull
import Derived.Test.YtpjojhmdgeejmaaRefList
namespace Go.Proofs.Ytpjojhmdgeejmaa
open Go.RowKit
set_option linter.unusedVariables false

/-- From w to w' block gn and the row v alone were written; the row is where it was, or in a new block. -/
structure Keeps (w w' : World) (gn : Nat) (v v' : Value) : Prop where
  os : w'.os = w.os
  tape : w'.tape = w.tape
  output : w'.output = w.output
  size : w.heap.size ≤ w'.heap.size
  block : ∀ j, j < w.heap.size → j ≠ gn → some j ≠ v.ownBlock → w'.heap[j]? = w.heap[j]?
  ob : v'.ownBlock = v.ownBlock ∨ ∃ g, v'.ownBlock = some g ∧ w.heap.size ≤ g
theorem Keeps.trans {a b c : World} {gn : Nat} {u v x : Value} (h : Keeps a b gn u v) (h' : Keeps b c gn v x) : Keeps a c gn u x :=
  ⟨h'.os.trans h.os, h'.tape.trans h.tape, h'.output.trans h.output, Nat.le_trans h.size h'.size, fun j hj hn ho => by
    rw [h'.block j (Nat.lt_of_lt_of_le hj h.size) hn ?_]
    · exact h.block j hj hn ho
    · rcases h.ob with e | ⟨g, e, hg⟩
      · rw [e]; exact ho
      · rw [e]
        intro q
        injection q with q
        omega, by
    rcases h'.ob with e | ⟨g, e, hg⟩
    · rw [e]; exact h.ob
    · exact .inr ⟨g, e, Nat.le_trans h.size hg⟩⟩
theorem Keeps.of_below {w w' : World} (gn : Nat) (v : Value) (hb : Below w.heap.size w w') : Keeps w w' gn v v :=
  ⟨hb.os, hb.tape, hb.output, hb.size, fun j hj _ _ => hb.block j hj, .inl rfl⟩
theorem Keeps.of_grown {w w' : World} (gn : Nat) {v v' : Value} (hg : w.grownBy w' v.ownBlock) (ho : v'.ownBlock = v.ownBlock ∨ v'.ownBlock = some w.heap.size) : Keeps w w' gn v v' :=
  ⟨hg.os, hg.tape, hg.output, hg.size, fun j hj _ h => hg.block j hj h, by
    rcases ho with h | h
    · exact .inl h
    · exact .inr ⟨_, h, Nat.le_refl _⟩⟩
theorem Keeps.of_set (w : World) (gn : Nat) (v u : Value) : Keeps w (w.setCell ⟨gn, 0, none⟩ u) gn v v :=
  ⟨rfl, rfl, rfl, by simp [World.setCell], fun j _ hn _ => Below.heap_setCell w ⟨gn, 0, none⟩ u j hn, .inl rfl⟩
theorem Keeps.below {wb w w' : World} {gn B : Nat} {v v' : Value} (h : Keeps w w' gn v v') (hb : Below B wb w) (hB : B ≤ w.heap.size) (hgn : B ≤ gn) (hv : ∀ k, v.ownBlock = some k → B ≤ k) : Below B wb w' :=
  ⟨h.os.trans hb.os, h.tape.trans hb.tape, h.output.trans hb.output, Nat.le_trans hb.size h.size, fun j hj => by
    rw [h.block j (by omega) (by omega) ?_]
    · exact hb.block j hj
    · intro q
      have := hv j q.symm
      omega⟩
/-- The world inside the closure of List: u is what the variable holds, v the row. -/
structure LW (wb w W : World) (gc gn : Nat) (h : TH) (v0 u v : Value) (hs : List TH) : Prop where
  box : Box W 33 w.heap.size h
  clo : Var1 W 60 gc (.func (.func 39) #[] #[.pointer (some ⟨gc, 0, none⟩), .pointer (some ⟨gn, 0, none⟩)])
  var : Var1 W 31 gn u
  own : OwnT W wb.heap.size 33 v hs
  b : Below wb.heap.size wb W
  nb : some w.heap.size ≠ v.ownBlock
  ge : wb.heap.size ≤ gn
  k : Keeps w W gn v0 v
section
variable {wb w W W' : World} {gc gn : Nat} {h : TH} {v0 u v u' v' : Value} {hs hs' : List TH}
theorem LW.step (d : LW wb w W gc gn h v0 u v hs) (hvar : Var1 W' 31 gn u') (hown : OwnT W' wb.heap.size 33 v' hs') (hk : Keeps W W' gn v v') : LW wb w W' gc gn h v0 u' v' hs' :=
  ⟨(hk.block _ d.box.lt (d.box.neV d.var (by decide)) d.nb).trans d.box, (hk.block _ d.clo.lt (d.clo.ne d.var (by decide)) (d.own.neV d.clo (by decide))).trans d.clo, hvar, hown,
    hk.below d.b d.b.size d.ge (fun k e => (d.own.lt k e).1), by
      rcases hk.ob with e | ⟨g, e, hg⟩
      · rw [e]; exact d.nb
      · rw [e]
        intro q
        injection q with q
        have := d.box.lt
        omega, d.ge, d.k.trans hk⟩
theorem LW.below (d : LW wb w W gc gn h v0 u v hs) (hb : Below W.heap.size W W') : LW wb w W' gc gn h v0 u v hs :=
  d.step (d.var.below hb d.var.lt) (d.own.keep hb) (Keeps.of_below gn v hb)
theorem LW.drew (d : LW wb w W gc gn h v0 u v hs) : LW wb w W.drew gc gn h v0 u v hs := d.below (Below.refl _ _).drew
/-- The row was written, or has grown. -/
theorem LW.grown (d : LW wb w W gc gn h v0 u v hs) (hown : OwnT W' wb.heap.size 33 v' hs') (hg : W.grownBy W' v.ownBlock) (ho : v'.ownBlock = v.ownBlock ∨ v'.ownBlock = some W.heap.size) : LW wb w W' gc gn h v0 u v' hs' :=
  d.step (d.var.grown hg (d.own.neV d.var (by decide))) hown (Keeps.of_grown gn hg ho)
/-- The variable was written. -/
theorem LW.put (d : LW wb w W gc gn h v0 u v hs) (x : Value) : LW wb w (W.setCell ⟨gn, 0, none⟩ x) gc gn h v0 x v hs :=
  d.step (d.var.set x) (d.own.far (p := ⟨gn, 0, none⟩) (d.own.neV d.var (by decide)) x) (Keeps.of_set W gn v x)
end
theorem LW.new {wb w : World} {gc gn : Nat} {v : Value} {hs : List TH} (h : TH) (hb : Below wb.heap.size wb w) (hge : wb.heap.size ≤ gn) (hc : Var1 w 60 gc (.func (.func 39) #[] #[.pointer (some ⟨gc, 0, none⟩), .pointer (some ⟨gn, 0, none⟩)])) (hv : Var1 w 31 gn v) (ho : OwnT w wb.heap.size 33 v hs) : LW wb w (w.alloc (.cells #[.int .i64 h.k, .slice h.ka h.kn h.kc, .slice h.va h.vn h.vc, .slice h.da h.dn h.dc, .slice h.ta h.tn h.tc] 33)) gc gn h v v v hs :=
  have h1 : Below w.heap.size w (w.alloc (.cells #[.int .i64 h.k, .slice h.ka h.kn h.kc, .slice h.va h.vn h.vc, .slice h.da h.dn h.dc, .slice h.ta h.tn h.tc] 33)) := (Below.refl _ _).alloc (Nat.le_refl _) _
  ⟨Box.new w _ h, hc.below h1 hc.lt, hv.below h1 hv.lt, ho.keep h1, hb.trans (h1.mono hb.size), fun q => by have := (ho.lt _ q.symm).2; omega, hge, Keeps.of_below gn v h1⟩

set_option maxRecDepth 100000 in
set_option maxHeartbeats 4000000 in
theorem listC_any (wb : World) : ∀ (t : Tr) (h : TH) (w : World) (gc gn : Nat) (v : Value) (hs : List TH), InTree wb h t → formedT t = true → hs.length + countT t ≤ 1000 → Below wb.heap.size wb w → wb.heap.size ≤ gn →
    Var1 w 60 gc (.func (.func 39) #[] #[.pointer (some ⟨gc, 0, none⟩), .pointer (some ⟨gn, 0, none⟩)]) → Var1 w 31 gn v → OwnT w wb.heap.size 33 v hs →
    Calls Try.prog 39 #[h.v, .pointer (some ⟨gc, 0, none⟩), .pointer (some ⟨gn, 0, none⟩)] w (fun e w' => ∃ v' hs', e = .returned (.tuple #[]) ∧ Var1 w' 31 gn v' ∧ OwnT w' wb.heap.size 33 v' (hs ++ hs') ∧ Heads wb hs' (listT t) ∧ Keeps w w' gn v v') := by
  intro t
  induction t using Tr.ind with
  | h t ih =>
  intro h w gc gn v hs ht hf hcn hbw hge hc hv ho
  obtain ⟨hpb, hfk⟩ := formed_kids hf
  unfold TH.v
  obtain ⟨H, hp⟩ := ht.parts
  have htl := hp.len
  have htm := Nat.le_trans hp.sl.le hp.sl.max
  have htc := hp.sl.le
  simp only [maxLen] at htm
  have HP := Lib.hid hp
  have HTT := Lib.hid ht
  have IH := Lib.hid ih
  have hd0 := LW.new h hbw hge hc hv ho
  have HD0 := Lib.hid hd0
  obtain ⟨x0, x1, x2, x3, x4⟩ := hd0.box.cells
  clear hp ht ih hbw hge hc hv ho hd0
  obtain ⟨ti, hti, htz⟩ := Option.map_eq_some_iff.1 infoTree2
  simp only [Prod.mk.injEq] at htz
  obtain ⟨hz0, hz1, hz2⟩ := htz
  go_enter Try.func39, Try.ntmps39
  go_upto_if 6 with (first
    | (go_at_call 40
       refine (isNode_any t h _ (HTT.out.lower HD0.out.b)).mono ?_
       rintro _ w1 ⟨rfl, hb1⟩
       have HD1 := Lib.hid (HD0.out.below hb1)
       clear hb1))
  clear x0 x1 x2 x3 x4 HD0
  rcases part_kids hpb with ⟨h0, hk⟩ | ⟨h2, hk⟩
  · have e1 : nodeK t = false := by unfold nodeK; rcases hk with hk | hk <;> rw [hk] <;> rfl
    rw [e1]
    clear e1 hk
    go_wp2_with fail
    first | go_end0 | refine bodyPost_ret (results_none rfl _ _ _) rfl ?_
    exact ⟨v, [], rfl, HD1.out.var, by rw [List.append_nil]; exact HD1.out.own, by rw [listT_0 h0]; exact Heads.nil wb, HD1.out.k⟩
  have e1 : nodeK t = true := by unfold nodeK; rcases hk with hk | hk <;> rw [hk] <;> rfl
  rw [e1]
  clear e1 hk
  simp only [Bool.not_true]
  have l0 : 0 < t.kids.length := by omega
  have l1 : 1 < t.kids.length := by omega
  have hct := count_two h2
  have ll0 := list_len _ (hfk 0 l0)
  have HL := Lib.hid (listT_2 h2)
  have HF := Lib.hid hfk
  have hbd0 : hs.length + countT t.kids[0] ≤ 1000 := by omega
  have hbd3 : hs.length + countT t.kids[0] + 1 + countT t.kids[1] ≤ 1000 := by omega
  clear hfk hf hct hcn
  go_upto_region 2 with fail
  obtain ⟨g, off, hta, hg, -⟩ := (HP.out.below HD1.out.b).place (by omega)
  have HTA := Lib.hid hta
  rw [hta]
  clear hta hg
  have ht1 : (1 : Int) < (h.tn : Int) := by omega
  have ht0 : 0 < h.tn := by omega
  refine wp_region_held_drew (S := (fun W => W.cell? ⟨gc, 0, none⟩ = some (.func (.func 39) #[] #[.pointer (some ⟨gc, 0, none⟩), .pointer (some ⟨gn, 0, none⟩)]) ∧ W.cell? ⟨w.heap.size, 4, none⟩ = some (.slice (some ⟨g, off, none⟩) h.tn h.tc) ∧ W.cell? ⟨g, off, none⟩ = some (.int .i64 (H 0).k) ∧ W.cell? ⟨g, off + 1, none⟩ = some (.slice (H 0).ka (H 0).kn (H 0).kc) ∧ W.cell? ⟨g, off + 2, none⟩ = some (.slice (H 0).va (H 0).vn (H 0).vc) ∧ W.cell? ⟨g, off + 3, none⟩ = some (.slice (H 0).da (H 0).dn (H 0).dc) ∧ W.cell? ⟨g, off + 4, none⟩ = some (.slice (H 0).ta (H 0).tn (H 0).tc))) (by kernel_rfl) ⟨HD1.out.drew.clo.cell, (HD1.out.drew.box.cells.2.2.2.2).trans (by rw [HTA.out]), (HP.out.below HD1.out.drew.b).kid0 HTA.out (by omega)⟩ (fun hHeld => ?_)
  refine take_w (i := 0) (oi := ?oZ1) (v := ?vZ1) ?hiZ1 (by kernel_rfl) (by kernel_rfl) (by kernel_rfl) ?hQZ1 ?hwZ1 ?hyZ1 (by assumption) ?restZ1
  case hiZ1 => (simp only [List.getElem?_toArray, List.getElem?_cons_zero] <;> rfl)
  case hQZ1 => exact (fun _ _ _ h => h)
  case hwZ1 => rfl
  case hyZ1 => (intro w hSw; (try dsimp only at hSw); go_simp; try with_reducible rfl)
  (try simp only [Act.put, List.setIfInBounds_toArray, List.set_cons_zero, List.set_cons_succ])
  refine take_w (i := 1) (oi := ?oZ2) (v := ?vZ2) ?hiZ2 (by kernel_rfl) (by kernel_rfl) (by kernel_rfl) ?hQZ2 ?hwZ2 ?hyZ2 (by assumption) ?restZ2
  case hiZ2 => (simp only [List.getElem?_toArray, List.getElem?_cons_succ, List.getElem?_cons_zero] <;> rfl)
  case hQZ2 => exact (fun _ _ _ h => h)
  case hwZ2 => rfl
  case hyZ2 => (intro w hSw; (try dsimp only at hSw); go_simp; try with_reducible rfl)
  (try simp only [Act.put, List.setIfInBounds_toArray, List.set_cons_zero, List.set_cons_succ])
  refine take_w (i := 2) (oi := ?oZ3) (v := ?vZ3) ?hiZ3 (by kernel_rfl) (by kernel_rfl) (by kernel_rfl) ?hQZ3 ?hwZ3 ?hyZ3 (by assumption) ?restZ3
  case hiZ3 => (simp only [List.getElem?_toArray, List.getElem?_cons_succ, List.getElem?_cons_zero] <;> rfl)
  case hQZ3 => exact (fun _ _ _ h => h)
  case hwZ3 => rfl
  case hyZ3 => (intro w hSw; (try dsimp only at hSw); go_simp; try with_reducible rfl)
  (try simp only [Act.put, List.setIfInBounds_toArray, List.set_cons_zero, List.set_cons_succ])
  refine take_w (i := 3) (oi := ?oZ4) (v := ?vZ4) ?hiZ4 (by kernel_rfl) (by kernel_rfl) (by kernel_rfl) ?hQZ4 ?hwZ4 ?hyZ4 (by assumption) ?restZ4
  case hiZ4 => (simp only [List.getElem?_toArray, List.getElem?_cons_succ, List.getElem?_cons_zero] <;> rfl)
  case hQZ4 => exact (fun _ _ _ h => h)
  case hwZ4 => rfl
  case hyZ4 => (intro w hSw; (try dsimp only at hSw); go_simp; try with_reducible rfl)
  (try simp only [Act.put, List.setIfInBounds_toArray, List.set_cons_zero, List.set_cons_succ])
  refine take_w (i := 4) (oi := ?oZ5) (v := ?vZ5) ?hiZ5 (by kernel_rfl) (by kernel_rfl) (by kernel_rfl) ?hQZ5 ?hwZ5 ?hyZ5 (by assumption) ?restZ5
  case hiZ5 => (simp only [List.getElem?_toArray, List.getElem?_cons_succ, List.getElem?_cons_zero] <;> rfl)
  case hQZ5 => exact (fun _ _ _ h => h)
  case hwZ5 => rfl
  case hyZ5 => (intro w hSw; (try dsimp only at hSw); go_simp; try with_reducible rfl)
  (try simp only [Act.put, List.setIfInBounds_toArray, List.set_cons_zero, List.set_cons_succ])
  refine wpAnyH_ready (rs := [5]) (by kernel_rfl) (by simp) ?_
  refine AllReadyH.cons (o := ?oZ6) ?hiZ6 (fun K hK => ?stZ6) AllReadyH.nil
  case hiZ6 => (simp only [List.getElem?_toArray, List.getElem?_cons_succ, List.getElem?_cons_zero] <;> rfl)
  go_simp
  go_at_call 39
  refine (IH.out _ (List.getElem_mem l0) (H 0) _ gc gn _ _ (HP.out.kids 0 l0) (HF.out 0 l0) hbd0 HD1.out.drew.b HD1.out.drew.ge HD1.out.drew.clo HD1.out.drew.var HD1.out.drew.own).mono ?_
  rintro _ w2 ⟨v2, hs2, rfl, hv2, ho2, hh2, hk2⟩
  have HD2 := Lib.hid (HD1.out.drew.step hv2 ho2 hk2)
  have HH2 := Lib.hid hh2
  clear hv2 ho2 hh2 hk2
  go_simp
  refine hK.out _ _ ?_ (fun hHeld => ?_)
  · (first | exact ⟨HD2.out.clo.cell, (HD2.out.box.cells.2.2.2.2).trans (by rw [HTA.out]), (HP.out.below HD2.out.b).kid0 HTA.out (by omega)⟩ | exact ⟨HD1.out.drew.clo.cell, (HD1.out.drew.box.cells.2.2.2.2).trans (by rw [HTA.out]), (HP.out.below HD1.out.drew.b).kid0 HTA.out (by omega)⟩)
  clear hK K
  (try simp only [Act.put, List.setIfInBounds_toArray, List.set_cons_zero, List.set_cons_succ])
  refine wpAnyH_done (by kernel_rfl) ?_ _
  
  clear hHeld
  have hhl := HH2.out.1
  obtain ⟨a2, c2, hv2⟩ := HD2.out.own.sl
  have hbd4 : (hs ++ hs2).length + 1 + countT t.kids[1] ≤ 1000 := by rw [List.length_append, hhl]; omega
  generalize hn2 : (hs ++ hs2).length = n2 at hv2 hbd4
  have HN2 := Lib.hid hn2
  subst hv2
  clear hhl hn2
  go_upto_region 3 with fail
  go_cut [] (fun wx => ∃ v3, LW wb w wx gc gn h v v3 v3 (hs ++ hs2 ++ [h]))
  case first =>
    have hba : Below w2.drew.heap.size w2.drew (w2.drew.alloc (.cells #[.int .i64 0, .slice none 0 0, .slice none 0 0, .slice none 0 0, .slice none 0 0] 33)) := (Below.refl _ _).alloc (Nat.le_refl _) _
    have HDA := Lib.hid (HD2.out.drew.below hba)
    have HZB : Hid (Box (w2.drew.alloc (.cells #[.int .i64 0, .slice none 0 0, .slice none 0 0, .slice none 0 0, .slice none 0 0] 33)) 33 w2.heap.size hZ) := Lib.hid (Box.new w2.drew 33 hZ)
    have cv2 := HD2.out.var.cell
    have cva : (w2.alloc (.cells #[.int .i64 0, .slice none 0 0, .slice none 0 0, .slice none 0 0, .slice none 0 0] 33)).cell? ⟨gn, 0, none⟩ = some (.slice a2 n2 c2) := HDA.out.var.cell
    have hlt2 : (n2 : Int) < (n2 : Int) + 1 := by omega
    clear hba
    refine wp_region_held_drew (S := (fun W => W.cell? ⟨w.heap.size, 0, none⟩ = some (.int .i64 h.k) ∧ W.cell? ⟨w.heap.size, 1, none⟩ = some (.slice h.ka h.kn h.kc) ∧ W.cell? ⟨w.heap.size, 2, none⟩ = some (.slice h.va h.vn h.vc) ∧ W.cell? ⟨w.heap.size, 3, none⟩ = some (.slice h.da h.dn h.dc) ∧ W.cell? ⟨w.heap.size, 4, none⟩ = some (.slice (some ⟨g, off, none⟩) h.tn h.tc))) (by kernel_rfl) ⟨HD2.out.drew.box.cells.1, HD2.out.drew.box.cells.2.1, HD2.out.drew.box.cells.2.2.1, HD2.out.drew.box.cells.2.2.2.1, (HD2.out.drew.box.cells.2.2.2.2).trans (by rw [HTA.out])⟩ (fun hHeld => ?_)
    refine take_w (i := 1) (oi := ?oZ13) (v := ?vZ13) ?hiZ13 (by kernel_rfl) (by kernel_rfl) (by kernel_rfl) ?hQZ13 ?hwZ13 ?hyZ13 (by assumption) ?restZ13
    case hiZ13 => (simp only [List.getElem?_toArray, List.getElem?_cons_succ, List.getElem?_cons_zero] <;> rfl)
    case hQZ13 => exact (fun _ _ _ h => h)
    case hwZ13 => rfl
    case hyZ13 => (intro w hSw; (try dsimp only at hSw); go_simp; try with_reducible rfl)
    (try simp only [Act.put, List.setIfInBounds_toArray, List.set_cons_zero, List.set_cons_succ])
    refine wpAnyH_ready (rs := [0, 3]) (by kernel_rfl) (by simp) ?_
    refine AllReadyH.cons (o := ?oZ14) ?hiZ14 (fun K hK => ?stZ14) (AllReadyH.cons (o := ?oZ15) ?hiZ15 (fun K hK => ?stZ15) AllReadyH.nil)
    case hiZ14 => (simp only [List.getElem?_toArray, List.getElem?_cons_zero] <;> rfl)
    case hiZ15 => (simp only [List.getElem?_toArray, List.getElem?_cons_succ, List.getElem?_cons_zero] <;> rfl)
    case stZ14 =>
      go_simp
      refine hK.out _ _ ?_ (fun hHeld => ?_)
      · (first | exact ⟨(HD4.out.put (.slice (some ⟨g3, 0, none⟩) (n2 + 1) c3)).box.cells.1, (HD4.out.put (.slice (some ⟨g3, 0, none⟩) (n2 + 1) c3)).box.cells.2.1, (HD4.out.put (.slice (some ⟨g3, 0, none⟩) (n2 + 1) c3)).box.cells.2.2.1, (HD4.out.put (.slice (some ⟨g3, 0, none⟩) (n2 + 1) c3)).box.cells.2.2.2.1, ((HD4.out.put (.slice (some ⟨g3, 0, none⟩) (n2 + 1) c3)).box.cells.2.2.2.2).trans (by rw [HTA.out])⟩ | exact ⟨HD5.out.box.cells.1, HD5.out.box.cells.2.1, HD5.out.box.cells.2.2.1, HD5.out.box.cells.2.2.2.1, (HD5.out.box.cells.2.2.2.2).trans (by rw [HTA.out])⟩ | exact ⟨HD4.out.box.cells.1, HD4.out.box.cells.2.1, HD4.out.box.cells.2.2.1, HD4.out.box.cells.2.2.2.1, (HD4.out.box.cells.2.2.2.2).trans (by rw [HTA.out])⟩ | exact ⟨(HD3.out.put (.slice (some ⟨g3, 0, none⟩) (n2 + 1) c3)).box.cells.1, (HD3.out.put (.slice (some ⟨g3, 0, none⟩) (n2 + 1) c3)).box.cells.2.1, (HD3.out.put (.slice (some ⟨g3, 0, none⟩) (n2 + 1) c3)).box.cells.2.2.1, (HD3.out.put (.slice (some ⟨g3, 0, none⟩) (n2 + 1) c3)).box.cells.2.2.2.1, ((HD3.out.put (.slice (some ⟨g3, 0, none⟩) (n2 + 1) c3)).box.cells.2.2.2.2).trans (by rw [HTA.out])⟩ | exact ⟨HD3.out.box.cells.1, HD3.out.box.cells.2.1, HD3.out.box.cells.2.2.1, HD3.out.box.cells.2.2.2.1, (HD3.out.box.cells.2.2.2.2).trans (by rw [HTA.out])⟩ | exact ⟨HDA.out.box.cells.1, HDA.out.box.cells.2.1, HDA.out.box.cells.2.2.1, HDA.out.box.cells.2.2.2.1, (HDA.out.box.cells.2.2.2.2).trans (by rw [HTA.out])⟩ | exact ⟨HD2.out.drew.box.cells.1, HD2.out.drew.box.cells.2.1, HD2.out.drew.box.cells.2.2.1, HD2.out.drew.box.cells.2.2.2.1, (HD2.out.drew.box.cells.2.2.2.2).trans (by rw [HTA.out])⟩)
      clear hK K
      (try simp only [Act.put, List.setIfInBounds_toArray, List.set_cons_zero, List.set_cons_succ])
      refine take_w (i := 2) (oi := ?oZ16) (v := ?vZ16) ?hiZ16 (by kernel_rfl) (by kernel_rfl) (by kernel_rfl) ?hQZ16 ?hwZ16 ?hyZ16 (by assumption) ?restZ16
      case hiZ16 => (simp only [List.getElem?_toArray, List.getElem?_cons_succ, List.getElem?_cons_zero] <;> rfl)
      case hQZ16 => exact (fun _ _ _ h => h)
      case hwZ16 => rfl
      case hyZ16 => (intro w hSw; (try dsimp only at hSw); go_simp; try with_reducible rfl)
      (try simp only [Act.put, List.setIfInBounds_toArray, List.set_cons_zero, List.set_cons_succ])
      refine wpAnyH_ready (rs := [3]) (by kernel_rfl) (by simp) ?_
      refine AllReadyH.cons (o := ?oZ17) ?hiZ17 (fun K hK => ?stZ17) AllReadyH.nil
      case hiZ17 => (simp only [List.getElem?_toArray, List.getElem?_cons_succ, List.getElem?_cons_zero] <;> rfl)
      go_simp
      refine hK.out _ _ ?_ (fun hHeld => ?_)
      · (first | exact ⟨(HD4.out.put (.slice (some ⟨g3, 0, none⟩) (n2 + 1) c3)).box.cells.1, (HD4.out.put (.slice (some ⟨g3, 0, none⟩) (n2 + 1) c3)).box.cells.2.1, (HD4.out.put (.slice (some ⟨g3, 0, none⟩) (n2 + 1) c3)).box.cells.2.2.1, (HD4.out.put (.slice (some ⟨g3, 0, none⟩) (n2 + 1) c3)).box.cells.2.2.2.1, ((HD4.out.put (.slice (some ⟨g3, 0, none⟩) (n2 + 1) c3)).box.cells.2.2.2.2).trans (by rw [HTA.out])⟩ | exact ⟨HD5.out.box.cells.1, HD5.out.box.cells.2.1, HD5.out.box.cells.2.2.1, HD5.out.box.cells.2.2.2.1, (HD5.out.box.cells.2.2.2.2).trans (by rw [HTA.out])⟩ | exact ⟨HD4.out.box.cells.1, HD4.out.box.cells.2.1, HD4.out.box.cells.2.2.1, HD4.out.box.cells.2.2.2.1, (HD4.out.box.cells.2.2.2.2).trans (by rw [HTA.out])⟩ | exact ⟨(HD3.out.put (.slice (some ⟨g3, 0, none⟩) (n2 + 1) c3)).box.cells.1, (HD3.out.put (.slice (some ⟨g3, 0, none⟩) (n2 + 1) c3)).box.cells.2.1, (HD3.out.put (.slice (some ⟨g3, 0, none⟩) (n2 + 1) c3)).box.cells.2.2.1, (HD3.out.put (.slice (some ⟨g3, 0, none⟩) (n2 + 1) c3)).box.cells.2.2.2.1, ((HD3.out.put (.slice (some ⟨g3, 0, none⟩) (n2 + 1) c3)).box.cells.2.2.2.2).trans (by rw [HTA.out])⟩ | exact ⟨HD3.out.box.cells.1, HD3.out.box.cells.2.1, HD3.out.box.cells.2.2.1, HD3.out.box.cells.2.2.2.1, (HD3.out.box.cells.2.2.2.2).trans (by rw [HTA.out])⟩ | exact ⟨HDA.out.box.cells.1, HDA.out.box.cells.2.1, HDA.out.box.cells.2.2.1, HDA.out.box.cells.2.2.2.1, (HDA.out.box.cells.2.2.2.2).trans (by rw [HTA.out])⟩ | exact ⟨HD2.out.drew.box.cells.1, HD2.out.drew.box.cells.2.1, HD2.out.drew.box.cells.2.2.1, HD2.out.drew.box.cells.2.2.2.1, (HD2.out.drew.box.cells.2.2.2.2).trans (by rw [HTA.out])⟩)
      clear hK K
      (try simp only [Act.put, List.setIfInBounds_toArray, List.set_cons_zero, List.set_cons_succ])
      refine wpAnyH_ready (rs := [4]) (by kernel_rfl) (by simp) ?_
      refine AllReadyH.cons (o := ?oZ18) ?hiZ18 (fun K hK => ?stZ18) AllReadyH.nil
      case hiZ18 => (simp only [List.getElem?_toArray, List.getElem?_cons_succ, List.getElem?_cons_zero] <;> rfl)
      refine step_append_trees _ rfl (.tmp 13) (.tmp 16) 31 rfl wb.heap.size 33 ti _ 104 Try.underlying31 hti hz0 hz1 hz2 rfl (.slice a2 n2 c2) (hs ++ hs2) rfl HDA.out.own w2.heap.size 1 [hZ] rfl HZB.out.row (by rw [HN2.out]; simp only [List.length_cons, List.length_nil]; omega) (by omega) HDA.out.b.size ?_
      intro v3 w3 ho3 hg3 hob3
      have hl3 : (hs ++ hs2 ++ [hZ]).length = n2 + 1 := by rw [List.length_append, HN2.out]; rfl
      rcases ho3.form with ⟨_, q1⟩ | ⟨g3, c3, q1, -, -, -, -, -⟩
      · exfalso
        rw [q1] at hl3
        simp at hl3
      rw [hl3] at q1
      subst q1
      clear hl3
      have hd3 := HDA.out.grown ho3 hg3 hob3
      have HD3 := Lib.hid hd3
      have cn3 := hd3.var.cell
      have cf3 := hd3.var.frozen 0
      clear ho3 hg3 hob3 hd3
      refine hK.out _ _ ?_ (fun hHeld => ?_)
      · (first | exact ⟨(HD4.out.put (.slice (some ⟨g3, 0, none⟩) (n2 + 1) c3)).box.cells.1, (HD4.out.put (.slice (some ⟨g3, 0, none⟩) (n2 + 1) c3)).box.cells.2.1, (HD4.out.put (.slice (some ⟨g3, 0, none⟩) (n2 + 1) c3)).box.cells.2.2.1, (HD4.out.put (.slice (some ⟨g3, 0, none⟩) (n2 + 1) c3)).box.cells.2.2.2.1, ((HD4.out.put (.slice (some ⟨g3, 0, none⟩) (n2 + 1) c3)).box.cells.2.2.2.2).trans (by rw [HTA.out])⟩ | exact ⟨HD5.out.box.cells.1, HD5.out.box.cells.2.1, HD5.out.box.cells.2.2.1, HD5.out.box.cells.2.2.2.1, (HD5.out.box.cells.2.2.2.2).trans (by rw [HTA.out])⟩ | exact ⟨HD4.out.box.cells.1, HD4.out.box.cells.2.1, HD4.out.box.cells.2.2.1, HD4.out.box.cells.2.2.2.1, (HD4.out.box.cells.2.2.2.2).trans (by rw [HTA.out])⟩ | exact ⟨(HD3.out.put (.slice (some ⟨g3, 0, none⟩) (n2 + 1) c3)).box.cells.1, (HD3.out.put (.slice (some ⟨g3, 0, none⟩) (n2 + 1) c3)).box.cells.2.1, (HD3.out.put (.slice (some ⟨g3, 0, none⟩) (n2 + 1) c3)).box.cells.2.2.1, (HD3.out.put (.slice (some ⟨g3, 0, none⟩) (n2 + 1) c3)).box.cells.2.2.2.1, ((HD3.out.put (.slice (some ⟨g3, 0, none⟩) (n2 + 1) c3)).box.cells.2.2.2.2).trans (by rw [HTA.out])⟩ | exact ⟨HD3.out.box.cells.1, HD3.out.box.cells.2.1, HD3.out.box.cells.2.2.1, HD3.out.box.cells.2.2.2.1, (HD3.out.box.cells.2.2.2.2).trans (by rw [HTA.out])⟩ | exact ⟨HDA.out.box.cells.1, HDA.out.box.cells.2.1, HDA.out.box.cells.2.2.1, HDA.out.box.cells.2.2.2.1, (HDA.out.box.cells.2.2.2.2).trans (by rw [HTA.out])⟩ | exact ⟨HD2.out.drew.box.cells.1, HD2.out.drew.box.cells.2.1, HD2.out.drew.box.cells.2.2.1, HD2.out.drew.box.cells.2.2.2.1, (HD2.out.drew.box.cells.2.2.2.2).trans (by rw [HTA.out])⟩)
      clear hK K
      (try simp only [Act.put, List.setIfInBounds_toArray, List.set_cons_zero, List.set_cons_succ])
      refine take_w (i := 5) (oi := ?oZ19) (v := ?vZ19) ?hiZ19 (by kernel_rfl) (by kernel_rfl) (by kernel_rfl) ?hQZ19 ?hwZ19 ?hyZ19 (by assumption) ?restZ19
      case hiZ19 => (simp only [List.getElem?_toArray, List.getElem?_cons_succ, List.getElem?_cons_zero] <;> rfl)
      case hQZ19 => exact (fun _ _ _ h => h)
      case hwZ19 => rfl
      case hyZ19 => (intro w hSw; (try dsimp only at hSw); go_simp; try with_reducible rfl)
      (try simp only [Act.put, List.setIfInBounds_toArray, List.set_cons_zero, List.set_cons_succ])
      refine wpAnyH_ready (rs := [6, 7]) (by kernel_rfl) (by simp) ?_
      refine AllReadyH.cons (o := ?oZ20) ?hiZ20 (fun K hK => ?stZ20) (AllReadyH.cons (o := ?oZ21) ?hiZ21 (fun K hK => ?stZ21) AllReadyH.nil)
      case hiZ20 => (simp only [List.getElem?_toArray, List.getElem?_cons_succ, List.getElem?_cons_zero] <;> rfl)
      case hiZ21 => (simp only [List.getElem?_toArray, List.getElem?_cons_succ, List.getElem?_cons_zero] <;> rfl)
      case stZ20 =>
        refine step_store_last _ rfl 33 (.tmp 18) (.tmp 14) rfl wb.heap.size 33 g3 n2 c3 (hs ++ hs2) hZ h HN2.out HD3.out.own rfl (by unfold TH.v; rw [HTA.out]; rfl) infoTree5 ?_
        intro w4 ho4 hg4
        have hd4 := HD3.out.grown ho4 hg4 (.inl rfl)
        have HD4 := Lib.hid hd4
        have cn4 := hd4.var.cell
        have cf4 := hd4.var.frozen 0
        clear ho4 hg4 hd4
        refine hK.out _ _ ?_ (fun hHeld => ?_)
        · (first | exact ⟨(HD4.out.put (.slice (some ⟨g3, 0, none⟩) (n2 + 1) c3)).box.cells.1, (HD4.out.put (.slice (some ⟨g3, 0, none⟩) (n2 + 1) c3)).box.cells.2.1, (HD4.out.put (.slice (some ⟨g3, 0, none⟩) (n2 + 1) c3)).box.cells.2.2.1, (HD4.out.put (.slice (some ⟨g3, 0, none⟩) (n2 + 1) c3)).box.cells.2.2.2.1, ((HD4.out.put (.slice (some ⟨g3, 0, none⟩) (n2 + 1) c3)).box.cells.2.2.2.2).trans (by rw [HTA.out])⟩ | exact ⟨HD5.out.box.cells.1, HD5.out.box.cells.2.1, HD5.out.box.cells.2.2.1, HD5.out.box.cells.2.2.2.1, (HD5.out.box.cells.2.2.2.2).trans (by rw [HTA.out])⟩ | exact ⟨HD4.out.box.cells.1, HD4.out.box.cells.2.1, HD4.out.box.cells.2.2.1, HD4.out.box.cells.2.2.2.1, (HD4.out.box.cells.2.2.2.2).trans (by rw [HTA.out])⟩ | exact ⟨(HD3.out.put (.slice (some ⟨g3, 0, none⟩) (n2 + 1) c3)).box.cells.1, (HD3.out.put (.slice (some ⟨g3, 0, none⟩) (n2 + 1) c3)).box.cells.2.1, (HD3.out.put (.slice (some ⟨g3, 0, none⟩) (n2 + 1) c3)).box.cells.2.2.1, (HD3.out.put (.slice (some ⟨g3, 0, none⟩) (n2 + 1) c3)).box.cells.2.2.2.1, ((HD3.out.put (.slice (some ⟨g3, 0, none⟩) (n2 + 1) c3)).box.cells.2.2.2.2).trans (by rw [HTA.out])⟩ | exact ⟨HD3.out.box.cells.1, HD3.out.box.cells.2.1, HD3.out.box.cells.2.2.1, HD3.out.box.cells.2.2.2.1, (HD3.out.box.cells.2.2.2.2).trans (by rw [HTA.out])⟩ | exact ⟨HDA.out.box.cells.1, HDA.out.box.cells.2.1, HDA.out.box.cells.2.2.1, HDA.out.box.cells.2.2.2.1, (HDA.out.box.cells.2.2.2.2).trans (by rw [HTA.out])⟩ | exact ⟨HD2.out.drew.box.cells.1, HD2.out.drew.box.cells.2.1, HD2.out.drew.box.cells.2.2.1, HD2.out.drew.box.cells.2.2.2.1, (HD2.out.drew.box.cells.2.2.2.2).trans (by rw [HTA.out])⟩)
        clear hK K
        (try simp only [Act.put])
        refine wpAnyH_ready (rs := [7]) (by kernel_rfl) (by simp) ?_
        refine AllReadyH.cons (o := ?oZ22) ?hiZ22 (fun K hK => ?stZ22) AllReadyH.nil
        case hiZ22 => (simp only [List.getElem?_toArray, List.getElem?_cons_succ, List.getElem?_cons_zero] <;> rfl)
        go_simp
        refine hK.out _ _ ?_ (fun hHeld => ?_)
        · (first | exact ⟨(HD4.out.put (.slice (some ⟨g3, 0, none⟩) (n2 + 1) c3)).box.cells.1, (HD4.out.put (.slice (some ⟨g3, 0, none⟩) (n2 + 1) c3)).box.cells.2.1, (HD4.out.put (.slice (some ⟨g3, 0, none⟩) (n2 + 1) c3)).box.cells.2.2.1, (HD4.out.put (.slice (some ⟨g3, 0, none⟩) (n2 + 1) c3)).box.cells.2.2.2.1, ((HD4.out.put (.slice (some ⟨g3, 0, none⟩) (n2 + 1) c3)).box.cells.2.2.2.2).trans (by rw [HTA.out])⟩ | exact ⟨HD5.out.box.cells.1, HD5.out.box.cells.2.1, HD5.out.box.cells.2.2.1, HD5.out.box.cells.2.2.2.1, (HD5.out.box.cells.2.2.2.2).trans (by rw [HTA.out])⟩ | exact ⟨HD4.out.box.cells.1, HD4.out.box.cells.2.1, HD4.out.box.cells.2.2.1, HD4.out.box.cells.2.2.2.1, (HD4.out.box.cells.2.2.2.2).trans (by rw [HTA.out])⟩ | exact ⟨(HD3.out.put (.slice (some ⟨g3, 0, none⟩) (n2 + 1) c3)).box.cells.1, (HD3.out.put (.slice (some ⟨g3, 0, none⟩) (n2 + 1) c3)).box.cells.2.1, (HD3.out.put (.slice (some ⟨g3, 0, none⟩) (n2 + 1) c3)).box.cells.2.2.1, (HD3.out.put (.slice (some ⟨g3, 0, none⟩) (n2 + 1) c3)).box.cells.2.2.2.1, ((HD3.out.put (.slice (some ⟨g3, 0, none⟩) (n2 + 1) c3)).box.cells.2.2.2.2).trans (by rw [HTA.out])⟩ | exact ⟨HD3.out.box.cells.1, HD3.out.box.cells.2.1, HD3.out.box.cells.2.2.1, HD3.out.box.cells.2.2.2.1, (HD3.out.box.cells.2.2.2.2).trans (by rw [HTA.out])⟩ | exact ⟨HDA.out.box.cells.1, HDA.out.box.cells.2.1, HDA.out.box.cells.2.2.1, HDA.out.box.cells.2.2.2.1, (HDA.out.box.cells.2.2.2.2).trans (by rw [HTA.out])⟩ | exact ⟨HD2.out.drew.box.cells.1, HD2.out.drew.box.cells.2.1, HD2.out.drew.box.cells.2.2.1, HD2.out.drew.box.cells.2.2.2.1, (HD2.out.drew.box.cells.2.2.2.2).trans (by rw [HTA.out])⟩)
        clear hK K
        (try simp only [Act.put])
        refine wpAnyH_done (by kernel_rfl) ?_ _
        go_wp2_with fail
        go_meet
        first | exact ⟨_, HD5.out⟩ | exact ⟨_, HD4.out.put _⟩
      case stZ21 =>
        go_simp
        refine hK.out _ _ ?_ (fun hHeld => ?_)
        · (first | exact ⟨(HD4.out.put (.slice (some ⟨g3, 0, none⟩) (n2 + 1) c3)).box.cells.1, (HD4.out.put (.slice (some ⟨g3, 0, none⟩) (n2 + 1) c3)).box.cells.2.1, (HD4.out.put (.slice (some ⟨g3, 0, none⟩) (n2 + 1) c3)).box.cells.2.2.1, (HD4.out.put (.slice (some ⟨g3, 0, none⟩) (n2 + 1) c3)).box.cells.2.2.2.1, ((HD4.out.put (.slice (some ⟨g3, 0, none⟩) (n2 + 1) c3)).box.cells.2.2.2.2).trans (by rw [HTA.out])⟩ | exact ⟨HD5.out.box.cells.1, HD5.out.box.cells.2.1, HD5.out.box.cells.2.2.1, HD5.out.box.cells.2.2.2.1, (HD5.out.box.cells.2.2.2.2).trans (by rw [HTA.out])⟩ | exact ⟨HD4.out.box.cells.1, HD4.out.box.cells.2.1, HD4.out.box.cells.2.2.1, HD4.out.box.cells.2.2.2.1, (HD4.out.box.cells.2.2.2.2).trans (by rw [HTA.out])⟩ | exact ⟨(HD3.out.put (.slice (some ⟨g3, 0, none⟩) (n2 + 1) c3)).box.cells.1, (HD3.out.put (.slice (some ⟨g3, 0, none⟩) (n2 + 1) c3)).box.cells.2.1, (HD3.out.put (.slice (some ⟨g3, 0, none⟩) (n2 + 1) c3)).box.cells.2.2.1, (HD3.out.put (.slice (some ⟨g3, 0, none⟩) (n2 + 1) c3)).box.cells.2.2.2.1, ((HD3.out.put (.slice (some ⟨g3, 0, none⟩) (n2 + 1) c3)).box.cells.2.2.2.2).trans (by rw [HTA.out])⟩ | exact ⟨HD3.out.box.cells.1, HD3.out.box.cells.2.1, HD3.out.box.cells.2.2.1, HD3.out.box.cells.2.2.2.1, (HD3.out.box.cells.2.2.2.2).trans (by rw [HTA.out])⟩ | exact ⟨HDA.out.box.cells.1, HDA.out.box.cells.2.1, HDA.out.box.cells.2.2.1, HDA.out.box.cells.2.2.2.1, (HDA.out.box.cells.2.2.2.2).trans (by rw [HTA.out])⟩ | exact ⟨HD2.out.drew.box.cells.1, HD2.out.drew.box.cells.2.1, HD2.out.drew.box.cells.2.2.1, HD2.out.drew.box.cells.2.2.2.1, (HD2.out.drew.box.cells.2.2.2.2).trans (by rw [HTA.out])⟩)
        clear hK K
        (try simp only [Act.put])
        refine wpAnyH_ready (rs := [6]) (by kernel_rfl) (by simp) ?_
        refine AllReadyH.cons (o := ?oZ23) ?hiZ23 (fun K hK => ?stZ23) AllReadyH.nil
        case hiZ23 => (simp only [List.getElem?_toArray, List.getElem?_cons_succ, List.getElem?_cons_zero] <;> rfl)
        refine step_store_last _ rfl 33 (.tmp 18) (.tmp 14) rfl wb.heap.size 33 g3 n2 c3 (hs ++ hs2) hZ h HN2.out (HD3.out.put (.slice (some ⟨g3, 0, none⟩) (n2 + 1) c3)).own rfl (by unfold TH.v; rw [HTA.out]; rfl) infoTree5 ?_
        intro w5 ho4 hg4
        have hd4 := (HD3.out.put (.slice (some ⟨g3, 0, none⟩) (n2 + 1) c3)).grown ho4 hg4 (.inl rfl)
        have HD5 := Lib.hid hd4
        have cn4 := hd4.var.cell
        have cf4 := hd4.var.frozen 0
        clear ho4 hg4 hd4
        refine hK.out _ _ ?_ (fun hHeld => ?_)
        · (first | exact ⟨(HD4.out.put (.slice (some ⟨g3, 0, none⟩) (n2 + 1) c3)).box.cells.1, (HD4.out.put (.slice (some ⟨g3, 0, none⟩) (n2 + 1) c3)).box.cells.2.1, (HD4.out.put (.slice (some ⟨g3, 0, none⟩) (n2 + 1) c3)).box.cells.2.2.1, (HD4.out.put (.slice (some ⟨g3, 0, none⟩) (n2 + 1) c3)).box.cells.2.2.2.1, ((HD4.out.put (.slice (some ⟨g3, 0, none⟩) (n2 + 1) c3)).box.cells.2.2.2.2).trans (by rw [HTA.out])⟩ | exact ⟨HD5.out.box.cells.1, HD5.out.box.cells.2.1, HD5.out.box.cells.2.2.1, HD5.out.box.cells.2.2.2.1, (HD5.out.box.cells.2.2.2.2).trans (by rw [HTA.out])⟩ | exact ⟨HD4.out.box.cells.1, HD4.out.box.cells.2.1, HD4.out.box.cells.2.2.1, HD4.out.box.cells.2.2.2.1, (HD4.out.box.cells.2.2.2.2).trans (by rw [HTA.out])⟩ | exact ⟨(HD3.out.put (.slice (some ⟨g3, 0, none⟩) (n2 + 1) c3)).box.cells.1, (HD3.out.put (.slice (some ⟨g3, 0, none⟩) (n2 + 1) c3)).box.cells.2.1, (HD3.out.put (.slice (some ⟨g3, 0, none⟩) (n2 + 1) c3)).box.cells.2.2.1, (HD3.out.put (.slice (some ⟨g3, 0, none⟩) (n2 + 1) c3)).box.cells.2.2.2.1, ((HD3.out.put (.slice (some ⟨g3, 0, none⟩) (n2 + 1) c3)).box.cells.2.2.2.2).trans (by rw [HTA.out])⟩ | exact ⟨HD3.out.box.cells.1, HD3.out.box.cells.2.1, HD3.out.box.cells.2.2.1, HD3.out.box.cells.2.2.2.1, (HD3.out.box.cells.2.2.2.2).trans (by rw [HTA.out])⟩ | exact ⟨HDA.out.box.cells.1, HDA.out.box.cells.2.1, HDA.out.box.cells.2.2.1, HDA.out.box.cells.2.2.2.1, (HDA.out.box.cells.2.2.2.2).trans (by rw [HTA.out])⟩ | exact ⟨HD2.out.drew.box.cells.1, HD2.out.drew.box.cells.2.1, HD2.out.drew.box.cells.2.2.1, HD2.out.drew.box.cells.2.2.2.1, (HD2.out.drew.box.cells.2.2.2.2).trans (by rw [HTA.out])⟩)
        clear hK K
        (try simp only [Act.put])
        refine wpAnyH_done (by kernel_rfl) ?_ _
        go_wp2_with fail
        go_meet
        first | exact ⟨_, HD5.out⟩ | exact ⟨_, HD4.out.put _⟩
    case stZ15 =>
      go_simp
      refine hK.out _ _ ?_ (fun hHeld => ?_)
      · (first | exact ⟨(HD4.out.put (.slice (some ⟨g3, 0, none⟩) (n2 + 1) c3)).box.cells.1, (HD4.out.put (.slice (some ⟨g3, 0, none⟩) (n2 + 1) c3)).box.cells.2.1, (HD4.out.put (.slice (some ⟨g3, 0, none⟩) (n2 + 1) c3)).box.cells.2.2.1, (HD4.out.put (.slice (some ⟨g3, 0, none⟩) (n2 + 1) c3)).box.cells.2.2.2.1, ((HD4.out.put (.slice (some ⟨g3, 0, none⟩) (n2 + 1) c3)).box.cells.2.2.2.2).trans (by rw [HTA.out])⟩ | exact ⟨HD5.out.box.cells.1, HD5.out.box.cells.2.1, HD5.out.box.cells.2.2.1, HD5.out.box.cells.2.2.2.1, (HD5.out.box.cells.2.2.2.2).trans (by rw [HTA.out])⟩ | exact ⟨HD4.out.box.cells.1, HD4.out.box.cells.2.1, HD4.out.box.cells.2.2.1, HD4.out.box.cells.2.2.2.1, (HD4.out.box.cells.2.2.2.2).trans (by rw [HTA.out])⟩ | exact ⟨(HD3.out.put (.slice (some ⟨g3, 0, none⟩) (n2 + 1) c3)).box.cells.1, (HD3.out.put (.slice (some ⟨g3, 0, none⟩) (n2 + 1) c3)).box.cells.2.1, (HD3.out.put (.slice (some ⟨g3, 0, none⟩) (n2 + 1) c3)).box.cells.2.2.1, (HD3.out.put (.slice (some ⟨g3, 0, none⟩) (n2 + 1) c3)).box.cells.2.2.2.1, ((HD3.out.put (.slice (some ⟨g3, 0, none⟩) (n2 + 1) c3)).box.cells.2.2.2.2).trans (by rw [HTA.out])⟩ | exact ⟨HD3.out.box.cells.1, HD3.out.box.cells.2.1, HD3.out.box.cells.2.2.1, HD3.out.box.cells.2.2.2.1, (HD3.out.box.cells.2.2.2.2).trans (by rw [HTA.out])⟩ | exact ⟨HDA.out.box.cells.1, HDA.out.box.cells.2.1, HDA.out.box.cells.2.2.1, HDA.out.box.cells.2.2.2.1, (HDA.out.box.cells.2.2.2.2).trans (by rw [HTA.out])⟩ | exact ⟨HD2.out.drew.box.cells.1, HD2.out.drew.box.cells.2.1, HD2.out.drew.box.cells.2.2.1, HD2.out.drew.box.cells.2.2.2.1, (HD2.out.drew.box.cells.2.2.2.2).trans (by rw [HTA.out])⟩)
      clear hK K
      (try simp only [Act.put, List.setIfInBounds_toArray, List.set_cons_zero, List.set_cons_succ])
      refine wpAnyH_ready (rs := [0]) (by kernel_rfl) (by simp) ?_
      refine AllReadyH.cons (o := ?oZ24) ?hiZ24 (fun K hK => ?stZ24) AllReadyH.nil
      case hiZ24 => (simp only [List.getElem?_toArray, List.getElem?_cons_zero] <;> rfl)
      go_simp
      refine hK.out _ _ ?_ (fun hHeld => ?_)
      · (first | exact ⟨(HD4.out.put (.slice (some ⟨g3, 0, none⟩) (n2 + 1) c3)).box.cells.1, (HD4.out.put (.slice (some ⟨g3, 0, none⟩) (n2 + 1) c3)).box.cells.2.1, (HD4.out.put (.slice (some ⟨g3, 0, none⟩) (n2 + 1) c3)).box.cells.2.2.1, (HD4.out.put (.slice (some ⟨g3, 0, none⟩) (n2 + 1) c3)).box.cells.2.2.2.1, ((HD4.out.put (.slice (some ⟨g3, 0, none⟩) (n2 + 1) c3)).box.cells.2.2.2.2).trans (by rw [HTA.out])⟩ | exact ⟨HD5.out.box.cells.1, HD5.out.box.cells.2.1, HD5.out.box.cells.2.2.1, HD5.out.box.cells.2.2.2.1, (HD5.out.box.cells.2.2.2.2).trans (by rw [HTA.out])⟩ | exact ⟨HD4.out.box.cells.1, HD4.out.box.cells.2.1, HD4.out.box.cells.2.2.1, HD4.out.box.cells.2.2.2.1, (HD4.out.box.cells.2.2.2.2).trans (by rw [HTA.out])⟩ | exact ⟨(HD3.out.put (.slice (some ⟨g3, 0, none⟩) (n2 + 1) c3)).box.cells.1, (HD3.out.put (.slice (some ⟨g3, 0, none⟩) (n2 + 1) c3)).box.cells.2.1, (HD3.out.put (.slice (some ⟨g3, 0, none⟩) (n2 + 1) c3)).box.cells.2.2.1, (HD3.out.put (.slice (some ⟨g3, 0, none⟩) (n2 + 1) c3)).box.cells.2.2.2.1, ((HD3.out.put (.slice (some ⟨g3, 0, none⟩) (n2 + 1) c3)).box.cells.2.2.2.2).trans (by rw [HTA.out])⟩ | exact ⟨HD3.out.box.cells.1, HD3.out.box.cells.2.1, HD3.out.box.cells.2.2.1, HD3.out.box.cells.2.2.2.1, (HD3.out.box.cells.2.2.2.2).trans (by rw [HTA.out])⟩ | exact ⟨HDA.out.box.cells.1, HDA.out.box.cells.2.1, HDA.out.box.cells.2.2.1, HDA.out.box.cells.2.2.2.1, (HDA.out.box.cells.2.2.2.2).trans (by rw [HTA.out])⟩ | exact ⟨HD2.out.drew.box.cells.1, HD2.out.drew.box.cells.2.1, HD2.out.drew.box.cells.2.2.1, HD2.out.drew.box.cells.2.2.2.1, (HD2.out.drew.box.cells.2.2.2.2).trans (by rw [HTA.out])⟩)
      clear hK K
      (try simp only [Act.put, List.setIfInBounds_toArray, List.set_cons_zero, List.set_cons_succ])
      refine take_w (i := 2) (oi := ?oZ25) (v := ?vZ25) ?hiZ25 (by kernel_rfl) (by kernel_rfl) (by kernel_rfl) ?hQZ25 ?hwZ25 ?hyZ25 (by assumption) ?restZ25
      case hiZ25 => (simp only [List.getElem?_toArray, List.getElem?_cons_succ, List.getElem?_cons_zero] <;> rfl)
      case hQZ25 => exact (fun _ _ _ h => h)
      case hwZ25 => rfl
      case hyZ25 => (intro w hSw; (try dsimp only at hSw); go_simp; try with_reducible rfl)
      (try simp only [Act.put, List.setIfInBounds_toArray, List.set_cons_zero, List.set_cons_succ])
      refine wpAnyH_ready (rs := [4]) (by kernel_rfl) (by simp) ?_
      refine AllReadyH.cons (o := ?oZ26) ?hiZ26 (fun K hK => ?stZ26) AllReadyH.nil
      case hiZ26 => (simp only [List.getElem?_toArray, List.getElem?_cons_succ, List.getElem?_cons_zero] <;> rfl)
      refine step_append_trees _ rfl (.tmp 13) (.tmp 16) 31 rfl wb.heap.size 33 ti _ 104 Try.underlying31 hti hz0 hz1 hz2 rfl (.slice a2 n2 c2) (hs ++ hs2) rfl HDA.out.own w2.heap.size 1 [hZ] rfl HZB.out.row (by rw [HN2.out]; simp only [List.length_cons, List.length_nil]; omega) (by omega) HDA.out.b.size ?_
      intro v3 w3 ho3 hg3 hob3
      have hl3 : (hs ++ hs2 ++ [hZ]).length = n2 + 1 := by rw [List.length_append, HN2.out]; rfl
      rcases ho3.form with ⟨_, q1⟩ | ⟨g3, c3, q1, -, -, -, -, -⟩
      · exfalso
        rw [q1] at hl3
        simp at hl3
      rw [hl3] at q1
      subst q1
      clear hl3
      have hd3 := HDA.out.grown ho3 hg3 hob3
      have HD3 := Lib.hid hd3
      have cn3 := hd3.var.cell
      have cf3 := hd3.var.frozen 0
      clear ho3 hg3 hob3 hd3
      refine hK.out _ _ ?_ (fun hHeld => ?_)
      · (first | exact ⟨(HD4.out.put (.slice (some ⟨g3, 0, none⟩) (n2 + 1) c3)).box.cells.1, (HD4.out.put (.slice (some ⟨g3, 0, none⟩) (n2 + 1) c3)).box.cells.2.1, (HD4.out.put (.slice (some ⟨g3, 0, none⟩) (n2 + 1) c3)).box.cells.2.2.1, (HD4.out.put (.slice (some ⟨g3, 0, none⟩) (n2 + 1) c3)).box.cells.2.2.2.1, ((HD4.out.put (.slice (some ⟨g3, 0, none⟩) (n2 + 1) c3)).box.cells.2.2.2.2).trans (by rw [HTA.out])⟩ | exact ⟨HD5.out.box.cells.1, HD5.out.box.cells.2.1, HD5.out.box.cells.2.2.1, HD5.out.box.cells.2.2.2.1, (HD5.out.box.cells.2.2.2.2).trans (by rw [HTA.out])⟩ | exact ⟨HD4.out.box.cells.1, HD4.out.box.cells.2.1, HD4.out.box.cells.2.2.1, HD4.out.box.cells.2.2.2.1, (HD4.out.box.cells.2.2.2.2).trans (by rw [HTA.out])⟩ | exact ⟨(HD3.out.put (.slice (some ⟨g3, 0, none⟩) (n2 + 1) c3)).box.cells.1, (HD3.out.put (.slice (some ⟨g3, 0, none⟩) (n2 + 1) c3)).box.cells.2.1, (HD3.out.put (.slice (some ⟨g3, 0, none⟩) (n2 + 1) c3)).box.cells.2.2.1, (HD3.out.put (.slice (some ⟨g3, 0, none⟩) (n2 + 1) c3)).box.cells.2.2.2.1, ((HD3.out.put (.slice (some ⟨g3, 0, none⟩) (n2 + 1) c3)).box.cells.2.2.2.2).trans (by rw [HTA.out])⟩ | exact ⟨HD3.out.box.cells.1, HD3.out.box.cells.2.1, HD3.out.box.cells.2.2.1, HD3.out.box.cells.2.2.2.1, (HD3.out.box.cells.2.2.2.2).trans (by rw [HTA.out])⟩ | exact ⟨HDA.out.box.cells.1, HDA.out.box.cells.2.1, HDA.out.box.cells.2.2.1, HDA.out.box.cells.2.2.2.1, (HDA.out.box.cells.2.2.2.2).trans (by rw [HTA.out])⟩ | exact ⟨HD2.out.drew.box.cells.1, HD2.out.drew.box.cells.2.1, HD2.out.drew.box.cells.2.2.1, HD2.out.drew.box.cells.2.2.2.1, (HD2.out.drew.box.cells.2.2.2.2).trans (by rw [HTA.out])⟩)
      clear hK K
      (try simp only [Act.put, List.setIfInBounds_toArray, List.set_cons_zero, List.set_cons_succ])
      refine take_w (i := 5) (oi := ?oZ27) (v := ?vZ27) ?hiZ27 (by kernel_rfl) (by kernel_rfl) (by kernel_rfl) ?hQZ27 ?hwZ27 ?hyZ27 (by assumption) ?restZ27
      case hiZ27 => (simp only [List.getElem?_toArray, List.getElem?_cons_succ, List.getElem?_cons_zero] <;> rfl)
      case hQZ27 => exact (fun _ _ _ h => h)
      case hwZ27 => rfl
      case hyZ27 => (intro w hSw; (try dsimp only at hSw); go_simp; try with_reducible rfl)
      (try simp only [Act.put, List.setIfInBounds_toArray, List.set_cons_zero, List.set_cons_succ])
      refine wpAnyH_ready (rs := [6, 7]) (by kernel_rfl) (by simp) ?_
      refine AllReadyH.cons (o := ?oZ28) ?hiZ28 (fun K hK => ?stZ28) (AllReadyH.cons (o := ?oZ29) ?hiZ29 (fun K hK => ?stZ29) AllReadyH.nil)
      case hiZ28 => (simp only [List.getElem?_toArray, List.getElem?_cons_succ, List.getElem?_cons_zero] <;> rfl)
      case hiZ29 => (simp only [List.getElem?_toArray, List.getElem?_cons_succ, List.getElem?_cons_zero] <;> rfl)
      case stZ28 =>
        refine step_store_last _ rfl 33 (.tmp 18) (.tmp 14) rfl wb.heap.size 33 g3 n2 c3 (hs ++ hs2) hZ h HN2.out HD3.out.own rfl (by unfold TH.v; rw [HTA.out]; rfl) infoTree5 ?_
        intro w4 ho4 hg4
        have hd4 := HD3.out.grown ho4 hg4 (.inl rfl)
        have HD4 := Lib.hid hd4
        have cn4 := hd4.var.cell
        have cf4 := hd4.var.frozen 0
        clear ho4 hg4 hd4
        refine hK.out _ _ ?_ (fun hHeld => ?_)
        · (first | exact ⟨(HD4.out.put (.slice (some ⟨g3, 0, none⟩) (n2 + 1) c3)).box.cells.1, (HD4.out.put (.slice (some ⟨g3, 0, none⟩) (n2 + 1) c3)).box.cells.2.1, (HD4.out.put (.slice (some ⟨g3, 0, none⟩) (n2 + 1) c3)).box.cells.2.2.1, (HD4.out.put (.slice (some ⟨g3, 0, none⟩) (n2 + 1) c3)).box.cells.2.2.2.1, ((HD4.out.put (.slice (some ⟨g3, 0, none⟩) (n2 + 1) c3)).box.cells.2.2.2.2).trans (by rw [HTA.out])⟩ | exact ⟨HD5.out.box.cells.1, HD5.out.box.cells.2.1, HD5.out.box.cells.2.2.1, HD5.out.box.cells.2.2.2.1, (HD5.out.box.cells.2.2.2.2).trans (by rw [HTA.out])⟩ | exact ⟨HD4.out.box.cells.1, HD4.out.box.cells.2.1, HD4.out.box.cells.2.2.1, HD4.out.box.cells.2.2.2.1, (HD4.out.box.cells.2.2.2.2).trans (by rw [HTA.out])⟩ | exact ⟨(HD3.out.put (.slice (some ⟨g3, 0, none⟩) (n2 + 1) c3)).box.cells.1, (HD3.out.put (.slice (some ⟨g3, 0, none⟩) (n2 + 1) c3)).box.cells.2.1, (HD3.out.put (.slice (some ⟨g3, 0, none⟩) (n2 + 1) c3)).box.cells.2.2.1, (HD3.out.put (.slice (some ⟨g3, 0, none⟩) (n2 + 1) c3)).box.cells.2.2.2.1, ((HD3.out.put (.slice (some ⟨g3, 0, none⟩) (n2 + 1) c3)).box.cells.2.2.2.2).trans (by rw [HTA.out])⟩ | exact ⟨HD3.out.box.cells.1, HD3.out.box.cells.2.1, HD3.out.box.cells.2.2.1, HD3.out.box.cells.2.2.2.1, (HD3.out.box.cells.2.2.2.2).trans (by rw [HTA.out])⟩ | exact ⟨HDA.out.box.cells.1, HDA.out.box.cells.2.1, HDA.out.box.cells.2.2.1, HDA.out.box.cells.2.2.2.1, (HDA.out.box.cells.2.2.2.2).trans (by rw [HTA.out])⟩ | exact ⟨HD2.out.drew.box.cells.1, HD2.out.drew.box.cells.2.1, HD2.out.drew.box.cells.2.2.1, HD2.out.drew.box.cells.2.2.2.1, (HD2.out.drew.box.cells.2.2.2.2).trans (by rw [HTA.out])⟩)
        clear hK K
        (try simp only [Act.put])
        refine wpAnyH_ready (rs := [7]) (by kernel_rfl) (by simp) ?_
        refine AllReadyH.cons (o := ?oZ30) ?hiZ30 (fun K hK => ?stZ30) AllReadyH.nil
        case hiZ30 => (simp only [List.getElem?_toArray, List.getElem?_cons_succ, List.getElem?_cons_zero] <;> rfl)
        go_simp
        refine hK.out _ _ ?_ (fun hHeld => ?_)
        · (first | exact ⟨(HD4.out.put (.slice (some ⟨g3, 0, none⟩) (n2 + 1) c3)).box.cells.1, (HD4.out.put (.slice (some ⟨g3, 0, none⟩) (n2 + 1) c3)).box.cells.2.1, (HD4.out.put (.slice (some ⟨g3, 0, none⟩) (n2 + 1) c3)).box.cells.2.2.1, (HD4.out.put (.slice (some ⟨g3, 0, none⟩) (n2 + 1) c3)).box.cells.2.2.2.1, ((HD4.out.put (.slice (some ⟨g3, 0, none⟩) (n2 + 1) c3)).box.cells.2.2.2.2).trans (by rw [HTA.out])⟩ | exact ⟨HD5.out.box.cells.1, HD5.out.box.cells.2.1, HD5.out.box.cells.2.2.1, HD5.out.box.cells.2.2.2.1, (HD5.out.box.cells.2.2.2.2).trans (by rw [HTA.out])⟩ | exact ⟨HD4.out.box.cells.1, HD4.out.box.cells.2.1, HD4.out.box.cells.2.2.1, HD4.out.box.cells.2.2.2.1, (HD4.out.box.cells.2.2.2.2).trans (by rw [HTA.out])⟩ | exact ⟨(HD3.out.put (.slice (some ⟨g3, 0, none⟩) (n2 + 1) c3)).box.cells.1, (HD3.out.put (.slice (some ⟨g3, 0, none⟩) (n2 + 1) c3)).box.cells.2.1, (HD3.out.put (.slice (some ⟨g3, 0, none⟩) (n2 + 1) c3)).box.cells.2.2.1, (HD3.out.put (.slice (some ⟨g3, 0, none⟩) (n2 + 1) c3)).box.cells.2.2.2.1, ((HD3.out.put (.slice (some ⟨g3, 0, none⟩) (n2 + 1) c3)).box.cells.2.2.2.2).trans (by rw [HTA.out])⟩ | exact ⟨HD3.out.box.cells.1, HD3.out.box.cells.2.1, HD3.out.box.cells.2.2.1, HD3.out.box.cells.2.2.2.1, (HD3.out.box.cells.2.2.2.2).trans (by rw [HTA.out])⟩ | exact ⟨HDA.out.box.cells.1, HDA.out.box.cells.2.1, HDA.out.box.cells.2.2.1, HDA.out.box.cells.2.2.2.1, (HDA.out.box.cells.2.2.2.2).trans (by rw [HTA.out])⟩ | exact ⟨HD2.out.drew.box.cells.1, HD2.out.drew.box.cells.2.1, HD2.out.drew.box.cells.2.2.1, HD2.out.drew.box.cells.2.2.2.1, (HD2.out.drew.box.cells.2.2.2.2).trans (by rw [HTA.out])⟩)
        clear hK K
        (try simp only [Act.put])
        refine wpAnyH_done (by kernel_rfl) ?_ _
        go_wp2_with fail
        go_meet
        first | exact ⟨_, HD5.out⟩ | exact ⟨_, HD4.out.put _⟩
      case stZ29 =>
        go_simp
        refine hK.out _ _ ?_ (fun hHeld => ?_)
        · (first | exact ⟨(HD4.out.put (.slice (some ⟨g3, 0, none⟩) (n2 + 1) c3)).box.cells.1, (HD4.out.put (.slice (some ⟨g3, 0, none⟩) (n2 + 1) c3)).box.cells.2.1, (HD4.out.put (.slice (some ⟨g3, 0, none⟩) (n2 + 1) c3)).box.cells.2.2.1, (HD4.out.put (.slice (some ⟨g3, 0, none⟩) (n2 + 1) c3)).box.cells.2.2.2.1, ((HD4.out.put (.slice (some ⟨g3, 0, none⟩) (n2 + 1) c3)).box.cells.2.2.2.2).trans (by rw [HTA.out])⟩ | exact ⟨HD5.out.box.cells.1, HD5.out.box.cells.2.1, HD5.out.box.cells.2.2.1, HD5.out.box.cells.2.2.2.1, (HD5.out.box.cells.2.2.2.2).trans (by rw [HTA.out])⟩ | exact ⟨HD4.out.box.cells.1, HD4.out.box.cells.2.1, HD4.out.box.cells.2.2.1, HD4.out.box.cells.2.2.2.1, (HD4.out.box.cells.2.2.2.2).trans (by rw [HTA.out])⟩ | exact ⟨(HD3.out.put (.slice (some ⟨g3, 0, none⟩) (n2 + 1) c3)).box.cells.1, (HD3.out.put (.slice (some ⟨g3, 0, none⟩) (n2 + 1) c3)).box.cells.2.1, (HD3.out.put (.slice (some ⟨g3, 0, none⟩) (n2 + 1) c3)).box.cells.2.2.1, (HD3.out.put (.slice (some ⟨g3, 0, none⟩) (n2 + 1) c3)).box.cells.2.2.2.1, ((HD3.out.put (.slice (some ⟨g3, 0, none⟩) (n2 + 1) c3)).box.cells.2.2.2.2).trans (by rw [HTA.out])⟩ | exact ⟨HD3.out.box.cells.1, HD3.out.box.cells.2.1, HD3.out.box.cells.2.2.1, HD3.out.box.cells.2.2.2.1, (HD3.out.box.cells.2.2.2.2).trans (by rw [HTA.out])⟩ | exact ⟨HDA.out.box.cells.1, HDA.out.box.cells.2.1, HDA.out.box.cells.2.2.1, HDA.out.box.cells.2.2.2.1, (HDA.out.box.cells.2.2.2.2).trans (by rw [HTA.out])⟩ | exact ⟨HD2.out.drew.box.cells.1, HD2.out.drew.box.cells.2.1, HD2.out.drew.box.cells.2.2.1, HD2.out.drew.box.cells.2.2.2.1, (HD2.out.drew.box.cells.2.2.2.2).trans (by rw [HTA.out])⟩)
        clear hK K
        (try simp only [Act.put])
        refine wpAnyH_ready (rs := [6]) (by kernel_rfl) (by simp) ?_
        refine AllReadyH.cons (o := ?oZ31) ?hiZ31 (fun K hK => ?stZ31) AllReadyH.nil
        case hiZ31 => (simp only [List.getElem?_toArray, List.getElem?_cons_succ, List.getElem?_cons_zero] <;> rfl)
        refine step_store_last _ rfl 33 (.tmp 18) (.tmp 14) rfl wb.heap.size 33 g3 n2 c3 (hs ++ hs2) hZ h HN2.out (HD3.out.put (.slice (some ⟨g3, 0, none⟩) (n2 + 1) c3)).own rfl (by unfold TH.v; rw [HTA.out]; rfl) infoTree5 ?_
        intro w5 ho4 hg4
        have hd4 := (HD3.out.put (.slice (some ⟨g3, 0, none⟩) (n2 + 1) c3)).grown ho4 hg4 (.inl rfl)
        have HD5 := Lib.hid hd4
        have cn4 := hd4.var.cell
        have cf4 := hd4.var.frozen 0
        clear ho4 hg4 hd4
        refine hK.out _ _ ?_ (fun hHeld => ?_)
        · (first | exact ⟨(HD4.out.put (.slice (some ⟨g3, 0, none⟩) (n2 + 1) c3)).box.cells.1, (HD4.out.put (.slice (some ⟨g3, 0, none⟩) (n2 + 1) c3)).box.cells.2.1, (HD4.out.put (.slice (some ⟨g3, 0, none⟩) (n2 + 1) c3)).box.cells.2.2.1, (HD4.out.put (.slice (some ⟨g3, 0, none⟩) (n2 + 1) c3)).box.cells.2.2.2.1, ((HD4.out.put (.slice (some ⟨g3, 0, none⟩) (n2 + 1) c3)).box.cells.2.2.2.2).trans (by rw [HTA.out])⟩ | exact ⟨HD5.out.box.cells.1, HD5.out.box.cells.2.1, HD5.out.box.cells.2.2.1, HD5.out.box.cells.2.2.2.1, (HD5.out.box.cells.2.2.2.2).trans (by rw [HTA.out])⟩ | exact ⟨HD4.out.box.cells.1, HD4.out.box.cells.2.1, HD4.out.box.cells.2.2.1, HD4.out.box.cells.2.2.2.1, (HD4.out.box.cells.2.2.2.2).trans (by rw [HTA.out])⟩ | exact ⟨(HD3.out.put (.slice (some ⟨g3, 0, none⟩) (n2 + 1) c3)).box.cells.1, (HD3.out.put (.slice (some ⟨g3, 0, none⟩) (n2 + 1) c3)).box.cells.2.1, (HD3.out.put (.slice (some ⟨g3, 0, none⟩) (n2 + 1) c3)).box.cells.2.2.1, (HD3.out.put (.slice (some ⟨g3, 0, none⟩) (n2 + 1) c3)).box.cells.2.2.2.1, ((HD3.out.put (.slice (some ⟨g3, 0, none⟩) (n2 + 1) c3)).box.cells.2.2.2.2).trans (by rw [HTA.out])⟩ | exact ⟨HD3.out.box.cells.1, HD3.out.box.cells.2.1, HD3.out.box.cells.2.2.1, HD3.out.box.cells.2.2.2.1, (HD3.out.box.cells.2.2.2.2).trans (by rw [HTA.out])⟩ | exact ⟨HDA.out.box.cells.1, HDA.out.box.cells.2.1, HDA.out.box.cells.2.2.1, HDA.out.box.cells.2.2.2.1, (HDA.out.box.cells.2.2.2.2).trans (by rw [HTA.out])⟩ | exact ⟨HD2.out.drew.box.cells.1, HD2.out.drew.box.cells.2.1, HD2.out.drew.box.cells.2.2.1, HD2.out.drew.box.cells.2.2.2.1, (HD2.out.drew.box.cells.2.2.2.2).trans (by rw [HTA.out])⟩)
        clear hK K
        (try simp only [Act.put])
        refine wpAnyH_done (by kernel_rfl) ?_ _
        go_wp2_with fail
        go_meet
        first | exact ⟨_, HD5.out⟩ | exact ⟨_, HD4.out.put _⟩
  case rest =>
    obtain ⟨v3, hd3⟩ := hcut
    have HD3 := Lib.hid hd3
    clear hd3 HD2 HD1
    have hbd1 : (hs ++ hs2 ++ [h]).length + countT t.kids[1] ≤ 1000 := by rw [List.length_append, HN2.out]; simp only [List.length_cons, List.length_nil]; omega
    clear hbd3 hbd4
    go_upto_region 4 with fail
    refine wp_region_held_drew (S := (fun W => W.cell? ⟨gc, 0, none⟩ = some (.func (.func 39) #[] #[.pointer (some ⟨gc, 0, none⟩), .pointer (some ⟨gn, 0, none⟩)]) ∧ W.cell? ⟨w.heap.size, 4, none⟩ = some (.slice (some ⟨g, off, none⟩) h.tn h.tc) ∧ W.cell? ⟨g, off + 5, none⟩ = some (.int .i64 (H 1).k) ∧ W.cell? ⟨g, off + 5 + 1, none⟩ = some (.slice (H 1).ka (H 1).kn (H 1).kc) ∧ W.cell? ⟨g, off + 5 + 2, none⟩ = some (.slice (H 1).va (H 1).vn (H 1).vc) ∧ W.cell? ⟨g, off + 5 + 3, none⟩ = some (.slice (H 1).da (H 1).dn (H 1).dc) ∧ W.cell? ⟨g, off + 5 + 4, none⟩ = some (.slice (H 1).ta (H 1).tn (H 1).tc))) (by kernel_rfl) ⟨HD3.out.drew.clo.cell, (HD3.out.drew.box.cells.2.2.2.2).trans (by rw [HTA.out]), (HP.out.below HD3.out.drew.b).kid1 HTA.out (by omega)⟩ (fun hHeld => ?_)
    refine take_w (i := 0) (oi := ?oZ7) (v := ?vZ7) ?hiZ7 (by kernel_rfl) (by kernel_rfl) (by kernel_rfl) ?hQZ7 ?hwZ7 ?hyZ7 (by assumption) ?restZ7
    case hiZ7 => (simp only [List.getElem?_toArray, List.getElem?_cons_zero] <;> rfl)
    case hQZ7 => exact (fun _ _ _ h => h)
    case hwZ7 => rfl
    case hyZ7 => (intro w hSw; (try dsimp only at hSw); go_simp; try with_reducible rfl)
    (try simp only [Act.put, List.setIfInBounds_toArray, List.set_cons_zero, List.set_cons_succ])
    refine take_w (i := 1) (oi := ?oZ8) (v := ?vZ8) ?hiZ8 (by kernel_rfl) (by kernel_rfl) (by kernel_rfl) ?hQZ8 ?hwZ8 ?hyZ8 (by assumption) ?restZ8
    case hiZ8 => (simp only [List.getElem?_toArray, List.getElem?_cons_succ, List.getElem?_cons_zero] <;> rfl)
    case hQZ8 => exact (fun _ _ _ h => h)
    case hwZ8 => rfl
    case hyZ8 => (intro w hSw; (try dsimp only at hSw); go_simp; try with_reducible rfl)
    (try simp only [Act.put, List.setIfInBounds_toArray, List.set_cons_zero, List.set_cons_succ])
    refine take_w (i := 2) (oi := ?oZ9) (v := ?vZ9) ?hiZ9 (by kernel_rfl) (by kernel_rfl) (by kernel_rfl) ?hQZ9 ?hwZ9 ?hyZ9 (by assumption) ?restZ9
    case hiZ9 => (simp only [List.getElem?_toArray, List.getElem?_cons_succ, List.getElem?_cons_zero] <;> rfl)
    case hQZ9 => exact (fun _ _ _ h => h)
    case hwZ9 => rfl
    case hyZ9 => (intro w hSw; (try dsimp only at hSw); go_simp; try with_reducible rfl)
    (try simp only [Act.put, List.setIfInBounds_toArray, List.set_cons_zero, List.set_cons_succ])
    refine take_w (i := 3) (oi := ?oZ10) (v := ?vZ10) ?hiZ10 (by kernel_rfl) (by kernel_rfl) (by kernel_rfl) ?hQZ10 ?hwZ10 ?hyZ10 (by assumption) ?restZ10
    case hiZ10 => (simp only [List.getElem?_toArray, List.getElem?_cons_succ, List.getElem?_cons_zero] <;> rfl)
    case hQZ10 => exact (fun _ _ _ h => h)
    case hwZ10 => rfl
    case hyZ10 => (intro w hSw; (try dsimp only at hSw); go_simp; try with_reducible rfl)
    (try simp only [Act.put, List.setIfInBounds_toArray, List.set_cons_zero, List.set_cons_succ])
    refine take_w (i := 4) (oi := ?oZ11) (v := ?vZ11) ?hiZ11 (by kernel_rfl) (by kernel_rfl) (by kernel_rfl) ?hQZ11 ?hwZ11 ?hyZ11 (by assumption) ?restZ11
    case hiZ11 => (simp only [List.getElem?_toArray, List.getElem?_cons_succ, List.getElem?_cons_zero] <;> rfl)
    case hQZ11 => exact (fun _ _ _ h => h)
    case hwZ11 => rfl
    case hyZ11 => (intro w hSw; (try dsimp only at hSw); go_simp; try with_reducible rfl)
    (try simp only [Act.put, List.setIfInBounds_toArray, List.set_cons_zero, List.set_cons_succ])
    refine wpAnyH_ready (rs := [5]) (by kernel_rfl) (by simp) ?_
    refine AllReadyH.cons (o := ?oZ12) ?hiZ12 (fun K hK => ?stZ12) AllReadyH.nil
    case hiZ12 => (simp only [List.getElem?_toArray, List.getElem?_cons_succ, List.getElem?_cons_zero] <;> rfl)
    go_simp
    go_at_call 39
    refine (IH.out _ (List.getElem_mem l1) (H 1) _ gc gn _ _ (HP.out.kids 1 l1) (HF.out 1 l1) hbd1 HD3.out.drew.b HD3.out.drew.ge HD3.out.drew.clo HD3.out.drew.var HD3.out.drew.own).mono ?_
    rintro _ w4 ⟨v4, hs4, rfl, hv4, ho4, hh4, hk4⟩
    have HD4 := Lib.hid (HD3.out.drew.step hv4 ho4 hk4)
    have HH4 := Lib.hid hh4
    clear hv4 ho4 hh4 hk4
    go_simp
    refine hK.out _ _ ?_ (fun hHeld => ?_)
    · (first | exact ⟨HD4.out.clo.cell, (HD4.out.box.cells.2.2.2.2).trans (by rw [HTA.out]), (HP.out.below HD4.out.b).kid1 HTA.out (by omega)⟩ | exact ⟨HD3.out.drew.clo.cell, (HD3.out.drew.box.cells.2.2.2.2).trans (by rw [HTA.out]), (HP.out.below HD3.out.drew.b).kid1 HTA.out (by omega)⟩)
    clear hK K
    (try simp only [Act.put, List.setIfInBounds_toArray, List.set_cons_zero, List.set_cons_succ])
    refine wpAnyH_done (by kernel_rfl) ?_ _
    
    clear hHeld
    go_wp2_with fail
    first | go_end0 | refine bodyPost_ret (results_none rfl _ _ _) rfl ?_
    refine ⟨v4, hs2 ++ ([h] ++ hs4), rfl, HD4.out.var, ?_, ?_, HD4.out.k⟩
    · have := HD4.out.own
      rw [List.append_assoc, List.append_assoc] at this
      exact this
    · rw [HL.out]
      exact HH2.out.app ((Heads.one HTT.out).app HH4.out)

set_option maxRecDepth 100000 in
set_option maxHeartbeats 4000000 in
theorem list_any (t : Tr) (h : TH) (w : World) (ht : InTree w h t) (hcn : countT t ≤ 1000) : Calls Try.prog 28 #[h.v] w (fun e w' => ∃ v hs, e = .returned v ∧ OwnT w' w.heap.size 33 v hs ∧ (checkT t = 0 → Heads w hs (listT t)) ∧ (checkT t ≠ 0 → hs = []) ∧ Below w.heap.size w w') := by
  have hmf : ∀ (fn : Fn) (first cap : Array Value) (w : World), (Instr.makeFunc fn first cap).run Try.prog w = .ok (.func fn first cap) w := fun _ _ _ _ => rfl
  unfold TH.v
  have hbox := Box.new w 33 h
  have HX := Lib.hid hbox
  have HT := Lib.hid ht
  obtain ⟨x0, x1, x2, x3, x4⟩ := hbox.cells
  clear hbox ht
  go_enter Try.func28, Try.ntmps28
  go_upto_region 1 with fail
  by_cases hc : checkT t = 0
  · have HCZ := Lib.hid hc
    clear hc
    go_upto_region 3 with (first
      | (go_at_call 38
         refine (check_any t h _ ?_).mono ?_
         · exact HT.out.lower ((Below.refl _ _).alloc (Nat.le_refl _) _)
         rintro _ w1 ⟨rfl, hb1⟩
         have HB1 : Hid (Below w.heap.size w w1) := Lib.hid (((Below.refl w.heap.size w).alloc (Nat.le_refl _) _).trans (hb1.mono (by simp)))
         have HX1 := Lib.hid (HX.out.below hb1 HX.out.lt)
         have hcv : codeV (checkT t) = .nilIface := by rw [HCZ.out]; rfl
         rw [hcv]
         clear hcv
         clear hb1 x0 x1 x2 x3 x4))
    have hb2 : Below w1.heap.size w1 (w1.alloc (.cells #[.slice none 0 0] 31)) := (Below.refl _ _).alloc (Nat.le_refl _) _
    have hv2 := Var1.new w1 31 (.slice none 0 0)
    have hx2 := HX1.out.below hb2 HX1.out.lt
    have hs2 : (w1.alloc (.cells #[.slice none 0 0] 31)).heap.size = w1.heap.size + 1 := by simp
    have hb3 : Below w1.heap.size w1 ((w1.alloc (.cells #[.slice none 0 0] 31)).alloc (.cells #[.nilFunc] 60)) := hb2.alloc (by rw [hs2]; omega) _
    have hba : Below (w1.alloc (.cells #[.slice none 0 0] 31)).heap.size (w1.alloc (.cells #[.slice none 0 0] 31)) ((w1.alloc (.cells #[.slice none 0 0] 31)).alloc (.cells #[.nilFunc] 60)) := (Below.refl _ _).alloc (Nat.le_refl _) _
    have hv3 := hv2.below hba hv2.lt
    have hx3 := hx2.below hba hx2.lt
    have hn3 := Var1.new (w1.alloc (.cells #[.slice none 0 0] 31)) 60 .nilFunc
    rw [hs2] at hn3
    have hsz := HB1.out.size
    clear hb2 hv2 hx2 hs2 hba
    go_upto_region 5 with fail
    generalize ((w1.alloc (.cells #[.slice none 0 0] 31)).alloc (.cells #[.nilFunc] 60)) = w2 at *
    have c0 := hn3.cell
    have c1 := hn3.frozen 0
    have hn4 := hn3.set (.func (.func 39) #[] #[.pointer (some ⟨(w1.heap.size + 1), 0, none⟩), .pointer (some ⟨w1.heap.size, 0, none⟩)])
    have hne : w.heap.size ≠ w1.heap.size + 1 := by have := HX1.out.lt; omega
    have hx4 : Box (w2.setCell ⟨w1.heap.size + 1, 0, none⟩ (.func (.func 39) #[] #[.pointer (some ⟨(w1.heap.size + 1), 0, none⟩), .pointer (some ⟨w1.heap.size, 0, none⟩)])) 33 w.heap.size h := (Below.heap_setCell w2 ⟨w1.heap.size + 1, 0, none⟩ _ w.heap.size hne).trans hx3
    have hv4 := hv3.far (p := ⟨w1.heap.size + 1, 0, none⟩) (by simp) (.func (.func 39) #[] #[.pointer (some ⟨(w1.heap.size + 1), 0, none⟩), .pointer (some ⟨w1.heap.size, 0, none⟩)])
    have hb4 : Below w1.heap.size w1 (w2.setCell ⟨w1.heap.size + 1, 0, none⟩ (.func (.func 39) #[] #[.pointer (some ⟨(w1.heap.size + 1), 0, none⟩), .pointer (some ⟨w1.heap.size, 0, none⟩)])) := hb3.setCell (by simp) _
    clear hn3 hx3 hv3 hb3 hne
    go_upto_region 6 with fail
    generalize (w2.setCell ⟨w1.heap.size + 1, 0, none⟩ (.func (.func 39) #[] #[.pointer (some ⟨(w1.heap.size + 1), 0, none⟩), .pointer (some ⟨w1.heap.size, 0, none⟩)])) = w3 at *
    obtain ⟨x0, x1, x2, x3, x4⟩ := hx4.cells
    have c2 := hn4.cell
    have HN := Lib.hid hn4
    have HV := Lib.hid hv4
    have HB4 : Hid (Below w.heap.size w w3) := Lib.hid (HB1.out.trans (hb4.mono hsz))
    have HSZ := Lib.hid hsz
    clear c0 c1 hx4 hb4 hn4 hsz hv4
    go_upto_region 7 with (first
      | (go_at_call 39
         refine (listC_any w t h _ (w1.heap.size + 1) w1.heap.size (.slice none 0 0) [] HT.out (check_zero HCZ.out).1 (by simp only [List.length_nil]; omega) HB4.out HSZ.out HN.out HV.out (OwnT.nil _ _ _)).mono ?_
         rintro _ w4 ⟨v4, hs4, rfl, hv4, ho4, hh4, hk4⟩
         have HB5 : Hid (Below w.heap.size w w4) := Lib.hid (hk4.below HB4.out HB4.out.size HSZ.out (fun k e => by cases e))
         have HO4 : Hid (OwnT w4 w.heap.size 33 v4 hs4) := Lib.hid ho4
         have HH4 := Lib.hid hh4
         have c4 := hv4.cell
         clear hv4 ho4 hh4 hk4))
    go_wp2_with fail
    go_ret
    exact ⟨v4, hs4, rfl, HO4.out, fun _ => HH4.out, fun q => absurd HCZ.out q, HB5.out⟩
  · have HCZ := Lib.hid hc
    clear hc
    go_wp2_with (first
      | (go_at_call 38
         refine (check_any t h _ ?_).mono ?_
         · exact HT.out.lower ((Below.refl _ _).alloc (Nat.le_refl _) _)
         rintro _ w1 ⟨rfl, hb1⟩
         have HB1 : Hid (Below w.heap.size w w1) := Lib.hid (((Below.refl w.heap.size w).alloc (Nat.le_refl _) _).trans (hb1.mono (by simp)))
         rw [codeV_pos HCZ.out]
         clear hb1 x0 x1 x2 x3 x4))
    go_ret
    exact ⟨_, [], rfl, OwnT.nil _ _ _, fun q => absurd q HCZ.out, fun _ => rfl, HB1.out⟩
end Go.Proofs.Ytpjojhmdgeejmaa
