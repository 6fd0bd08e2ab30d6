/- The contract of the program's list of nodes. The empty tree. No program is named here. A partial tree does not lie in a box; leaves. No program is named here. Trees that stay where a variable, a row and some boxes alone are written. What stands in memory inside a closure over a tree. The contracts of the program's look at what tells its value, and at all parts of a tree for that. The contracts of the program's look at the widths of a tree's digests. Plain facts on a number's bytes: written, and read again. No program is named here. Plain facts on preimages. No program is named here. Plain facts on 32 bit words: turning to the right, the two sums of a round. No program is named here. Plain facts on the tail: its bytes as a list. No program is named here. Plain facts on a block's words. No program is named here. Plain facts on a step: 64 rounds and a sum; the tables as lists. No program is named here. Plain facts on steps one behind the other. No program is named here. Plain functions after the document's reckoning of roots by digits of 16 bits. No program is named here. Contracts of the program's and of the document's small functions on 32 bit words. The contract of a round: the document's. Arrays of eight words: what == and an index answer. Contracts of putBig, tail and Tail. Contracts of word and spread. The contract of schedule. The contract of rounds. The contract of step. Contracts of First and Step. The contract of steps. Contracts of withTail and stateBytes. The contract of stateBytes. The contract of Sum. Facts on a sum's bytes. The digest of a tree, as a function. No program is named here. -/
import Derived.Test.YtkcmohmfejmfoaaGreatDoorMAA
import Derived.WalkKit
import Derived.Test.YtkcmohmfejmfoaaGreatDoorProg
import Derived.WalkLawsBesides
import Derived.WalkSpells
import Derived.Outline
import Derived.Lib.Hide
import Derived.Deep.QuietTactic
import Derived.BigQuiet
import Derived.Below
import Derived.ChangeKeysEq
import Derived.LoopTactic
import Derived.Deep.RegionHeld3
import Derived.IntWalk
import Derived.OwnWalk
import Derived.Deep.AppendLies
import Derived.Deep.DeepCutAuto
import Derived.Deep.RegionWith
/- The contract of the program's list of nodes. -/
namespace Go.Proofs.YtkcmohmfejmfoaaGreatDoor
open Go.RowKit
set_option linter.unusedVariables false

/-- From w to w' block gn and the row v alone were written; the row is where it was, or in a new block. -/
structure Keeps (w w' : World) (gn : Nat) (v v' : Value) : Prop where
  os : w'.os = w.os
  tape : w'.tape = w.tape
  output : w'.output = w.output
  size : w.heap.size ≤ w'.heap.size
  block : ∀ j, j < w.heap.size → j ≠ gn → some j ≠ v.ownBlock → w'.heap[j]? = w.heap[j]?
  ob : v'.ownBlock = v.ownBlock ∨ ∃ g, v'.ownBlock = some g ∧ w.heap.size ≤ g
theorem Keeps.trans {a b c : World} {gn : Nat} {u v x : Value} (h : Keeps a b gn u v) (h' : Keeps b c gn v x) : Keeps a c gn u x :=
  ⟨h'.os.trans h.os, h'.tape.trans h.tape, h'.output.trans h.output, Nat.le_trans h.size h'.size, fun j hj hn ho => by
    rw [h'.block j (Nat.lt_of_lt_of_le hj h.size) hn ?_]
    · exact h.block j hj hn ho
    · rcases h.ob with e | ⟨g, e, hg⟩
      · rw [e]; exact ho
      · rw [e]
        intro q
        injection q with q
        omega, by
    rcases h'.ob with e | ⟨g, e, hg⟩
    · rw [e]; exact h.ob
    · exact .inr ⟨g, e, Nat.le_trans h.size hg⟩⟩
theorem Keeps.of_below {w w' : World} (gn : Nat) (v : Value) (hb : Below w.heap.size w w') : Keeps w w' gn v v :=
  ⟨hb.os, hb.tape, hb.output, hb.size, fun j hj _ _ => hb.block j hj, .inl rfl⟩
theorem Keeps.of_grown {w w' : World} (gn : Nat) {v v' : Value} (hg : w.grownBy w' v.ownBlock) (ho : v'.ownBlock = v.ownBlock ∨ v'.ownBlock = some w.heap.size) : Keeps w w' gn v v' :=
  ⟨hg.os, hg.tape, hg.output, hg.size, fun j hj _ h => hg.block j hj h, by
    rcases ho with h | h
    · exact .inl h
    · exact .inr ⟨_, h, Nat.le_refl _⟩⟩
theorem Keeps.of_set (w : World) (gn : Nat) (v u : Value) : Keeps w (w.setCell ⟨gn, 0, none⟩ u) gn v v :=
  ⟨rfl, rfl, rfl, by simp [World.setCell], fun j _ hn _ => Below.heap_setCell w ⟨gn, 0, none⟩ u j hn, .inl rfl⟩
theorem Keeps.below {wb w w' : World} {gn B : Nat} {v v' : Value} (h : Keeps w w' gn v v') (hb : Below B wb w) (hB : B ≤ w.heap.size) (hgn : B ≤ gn) (hv : ∀ k, v.ownBlock = some k → B ≤ k) : Below B wb w' :=
  ⟨h.os.trans hb.os, h.tape.trans hb.tape, h.output.trans hb.output, Nat.le_trans hb.size h.size, fun j hj => by
    rw [h.block j (by omega) (by omega) ?_]
    · exact hb.block j hj
    · intro q
      have := hv j q.symm
      omega⟩
/-- The world inside the closure of List: u is what the variable holds, v the row. -/
structure LW (wb w W : World) (gc gn : Nat) (h : TH) (v0 u v : Value) (hs : List TH) : Prop where
  box : Box W 25 w.heap.size h
  clo : Var1 W 80 gc (.func (.func 44) #[] #[.pointer (some ⟨gc, 0, none⟩), .pointer (some ⟨gn, 0, none⟩)])
  var : Var1 W 23 gn u
  own : OwnT W wb.heap.size 25 v hs
  b : Below wb.heap.size wb W
  nb : some w.heap.size ≠ v.ownBlock
  ge : wb.heap.size ≤ gn
  k : Keeps w W gn v0 v
section
variable {wb w W W' : World} {gc gn : Nat} {h : TH} {v0 u v u' v' : Value} {hs hs' : List TH}
theorem LW.step (d : LW wb w W gc gn h v0 u v hs) (hvar : Var1 W' 23 gn u') (hown : OwnT W' wb.heap.size 25 v' hs') (hk : Keeps W W' gn v v') : LW wb w W' gc gn h v0 u' v' hs' :=
  ⟨(hk.block _ d.box.lt (d.box.neV d.var (by decide)) d.nb).trans d.box, (hk.block _ d.clo.lt (d.clo.ne d.var (by decide)) (d.own.neV d.clo (by decide))).trans d.clo, hvar, hown,
    hk.below d.b d.b.size d.ge (fun k e => (d.own.lt k e).1), by
      rcases hk.ob with e | ⟨g, e, hg⟩
      · rw [e]; exact d.nb
      · rw [e]
        intro q
        injection q with q
        have := d.box.lt
        omega, d.ge, d.k.trans hk⟩
theorem LW.below (d : LW wb w W gc gn h v0 u v hs) (hb : Below W.heap.size W W') : LW wb w W' gc gn h v0 u v hs :=
  d.step (d.var.below hb d.var.lt) (d.own.keep hb) (Keeps.of_below gn v hb)
theorem LW.drew (d : LW wb w W gc gn h v0 u v hs) : LW wb w W.drew gc gn h v0 u v hs := d.below (Below.refl _ _).drew
/-- The row was written, or has grown. -/
theorem LW.grown (d : LW wb w W gc gn h v0 u v hs) (hown : OwnT W' wb.heap.size 25 v' hs') (hg : W.grownBy W' v.ownBlock) (ho : v'.ownBlock = v.ownBlock ∨ v'.ownBlock = some W.heap.size) : LW wb w W' gc gn h v0 u v' hs' :=
  d.step (d.var.grown hg (d.own.neV d.var (by decide))) hown (Keeps.of_grown gn hg ho)
/-- The variable was written. -/
theorem LW.put (d : LW wb w W gc gn h v0 u v hs) (x : Value) : LW wb w (W.setCell ⟨gn, 0, none⟩ x) gc gn h v0 x v hs :=
  d.step (d.var.set x) (d.own.far (p := ⟨gn, 0, none⟩) (d.own.neV d.var (by decide)) x) (Keeps.of_set W gn v x)
end
theorem LW.new {wb w : World} {gc gn : Nat} {v : Value} {hs : List TH} (h : TH) (hb : Below wb.heap.size wb w) (hge : wb.heap.size ≤ gn) (hc : Var1 w 80 gc (.func (.func 44) #[] #[.pointer (some ⟨gc, 0, none⟩), .pointer (some ⟨gn, 0, none⟩)])) (hv : Var1 w 23 gn v) (ho : OwnT w wb.heap.size 25 v hs) : LW wb w (w.alloc (.cells #[.int .i64 h.k, .slice h.ka h.kn h.kc, .slice h.va h.vn h.vc, .slice h.da h.dn h.dc, .slice h.ta h.tn h.tc] 25)) gc gn h v v v hs :=
  have h1 : Below w.heap.size w (w.alloc (.cells #[.int .i64 h.k, .slice h.ka h.kn h.kc, .slice h.va h.vn h.vc, .slice h.da h.dn h.dc, .slice h.ta h.tn h.tc] 25)) := (Below.refl _ _).alloc (Nat.le_refl _) _
  ⟨Box.new w _ h, hc.below h1 hc.lt, hv.below h1 hv.lt, ho.keep h1, hb.trans (h1.mono hb.size), fun q => by have := (ho.lt _ q.symm).2; omega, hge, Keeps.of_below gn v h1⟩

set_option maxRecDepth 100000 in
set_option maxHeartbeats 4000000 in
theorem listC_any (wb : World) : ∀ (t : Tr) (h : TH) (w : World) (gc gn : Nat) (v : Value) (hs : List TH), InTree wb h t → formedT t = true → hs.length + countT t ≤ 1000 → Below wb.heap.size wb w → wb.heap.size ≤ gn →
    Var1 w 80 gc (.func (.func 44) #[] #[.pointer (some ⟨gc, 0, none⟩), .pointer (some ⟨gn, 0, none⟩)]) → Var1 w 23 gn v → OwnT w wb.heap.size 25 v hs →
    Calls Tryz.prog 44 #[h.v, .pointer (some ⟨gc, 0, none⟩), .pointer (some ⟨gn, 0, none⟩)] w (fun e w' => ∃ v' hs', e = .returned (.tuple #[]) ∧ Var1 w' 23 gn v' ∧ OwnT w' wb.heap.size 25 v' (hs ++ hs') ∧ Heads wb hs' (listT t) ∧ Keeps w w' gn v v') := by
  intro t
  induction t using Tr.ind with
  | h t ih =>
  intro h w gc gn v hs ht hf hcn hbw hge hc hv ho
  obtain ⟨hpb, hfk⟩ := formed_kids hf
  unfold TH.v
  obtain ⟨H, hp⟩ := ht.parts
  have htl := hp.len
  have htm := Nat.le_trans hp.sl.le hp.sl.max
  have htc := hp.sl.le
  simp only [maxLen] at htm
  have HP := Lib.hid hp
  have HTT := Lib.hid ht
  have IH := Lib.hid ih
  have hd0 := LW.new h hbw hge hc hv ho
  have HD0 := Lib.hid hd0
  obtain ⟨x0, x1, x2, x3, x4⟩ := hd0.box.cells
  clear hp ht ih hbw hge hc hv ho hd0
  obtain ⟨ti, hti, htz⟩ := Option.map_eq_some_iff.1 infoTree2
  simp only [Prod.mk.injEq] at htz
  obtain ⟨hz0, hz1, hz2⟩ := htz
  go_enter Tryz.func44, Tryz.ntmps44
  go_upto_if 6 with (first
    | (go_at_call 45
       refine (isNode_any t h _ (HTT.out.lower HD0.out.b)).mono ?_
       rintro _ w1 ⟨rfl, hb1⟩
       have HD1 := Lib.hid (HD0.out.below hb1)
       clear hb1))
  clear x0 x1 x2 x3 x4 HD0
  rcases part_kids hpb with ⟨h0, hk⟩ | ⟨h2, hk⟩
  · have e1 : nodeK t = false := by unfold nodeK; rcases hk with hk | hk <;> rw [hk] <;> rfl
    rw [e1]
    clear e1 hk
    go_wp2_with fail
    first | go_end0 | refine bodyPost_ret (results_none rfl _ _ _) rfl ?_
    exact ⟨v, [], rfl, HD1.out.var, by rw [List.append_nil]; exact HD1.out.own, by rw [listT_0 h0]; exact Heads.nil wb, HD1.out.k⟩
  have e1 : nodeK t = true := by unfold nodeK; rcases hk with hk | hk <;> rw [hk] <;> rfl
  rw [e1]
  clear e1 hk
  simp only [Bool.not_true]
  have l0 : 0 < t.kids.length := by omega
  have l1 : 1 < t.kids.length := by omega
  have hct := count_two h2
  have ll0 := list_len _ (hfk 0 l0)
  have HL := Lib.hid (listT_2 h2)
  have HF := Lib.hid hfk
  have hbd0 : hs.length + countT t.kids[0] ≤ 1000 := by omega
  have hbd3 : hs.length + countT t.kids[0] + 1 + countT t.kids[1] ≤ 1000 := by omega
  clear hfk hf hct hcn
  go_upto_region 2 with fail
  obtain ⟨g, off, hta, hg, -⟩ := (HP.out.below HD1.out.b).place (by omega)
  have HTA := Lib.hid hta
  rw [hta]
  clear hta hg
  have ht1 : (1 : Int) < (h.tn : Int) := by omega
  have ht0 : 0 < h.tn := by omega
  refine wp_region_held_drew (S := (fun W => W.cell? ⟨gc, 0, none⟩ = some (.func (.func 44) #[] #[.pointer (some ⟨gc, 0, none⟩), .pointer (some ⟨gn, 0, none⟩)]) ∧ W.cell? ⟨w.heap.size, 4, none⟩ = some (.slice (some ⟨g, off, none⟩) h.tn h.tc) ∧ W.cell? ⟨g, off, none⟩ = some (.int .i64 (H 0).k) ∧ W.cell? ⟨g, off + 1, none⟩ = some (.slice (H 0).ka (H 0).kn (H 0).kc) ∧ W.cell? ⟨g, off + 2, none⟩ = some (.slice (H 0).va (H 0).vn (H 0).vc) ∧ W.cell? ⟨g, off + 3, none⟩ = some (.slice (H 0).da (H 0).dn (H 0).dc) ∧ W.cell? ⟨g, off + 4, none⟩ = some (.slice (H 0).ta (H 0).tn (H 0).tc))) (by kernel_rfl) ⟨HD1.out.drew.clo.cell, (HD1.out.drew.box.cells.2.2.2.2).trans (by rw [HTA.out]), (HP.out.below HD1.out.drew.b).kid0 HTA.out (by omega)⟩ (fun hHeld => ?_)
  refine take_w (i := 0) (oi := ?oZ1) (v := ?vZ1) ?hiZ1 (by kernel_rfl) (by kernel_rfl) (by kernel_rfl) ?hQZ1 ?hwZ1 ?hyZ1 (by assumption) ?restZ1
  case hiZ1 => (simp only [List.getElem?_toArray, List.getElem?_cons_zero] <;> rfl)
  case hQZ1 => exact (fun _ _ _ h => h)
  case hwZ1 => rfl
  case hyZ1 => (intro w hSw; (try dsimp only at hSw); go_simp; try with_reducible rfl)
  (try simp only [Act.put, List.setIfInBounds_toArray, List.set_cons_zero, List.set_cons_succ])
  refine take_w (i := 1) (oi := ?oZ2) (v := ?vZ2) ?hiZ2 (by kernel_rfl) (by kernel_rfl) (by kernel_rfl) ?hQZ2 ?hwZ2 ?hyZ2 (by assumption) ?restZ2
  case hiZ2 => (simp only [List.getElem?_toArray, List.getElem?_cons_succ, List.getElem?_cons_zero] <;> rfl)
  case hQZ2 => exact (fun _ _ _ h => h)
  case hwZ2 => rfl
  case hyZ2 => (intro w hSw; (try dsimp only at hSw); go_simp; try with_reducible rfl)
  (try simp only [Act.put, List.setIfInBounds_toArray, List.set_cons_zero, List.set_cons_succ])
  refine take_w (i := 2) (oi := ?oZ3) (v := ?vZ3) ?hiZ3 (by kernel_rfl) (by kernel_rfl) (by kernel_rfl) ?hQZ3 ?hwZ3 ?hyZ3 (by assumption) ?restZ3
  case hiZ3 => (simp only [List.getElem?_toArray, List.getElem?_cons_succ, List.getElem?_cons_zero] <;> rfl)
  case hQZ3 => exact (fun _ _ _ h => h)
  case hwZ3 => rfl
  case hyZ3 => (intro w hSw; (try dsimp only at hSw); go_simp; try with_reducible rfl)
  (try simp only [Act.put, List.setIfInBounds_toArray, List.set_cons_zero, List.set_cons_succ])
  refine take_w (i := 3) (oi := ?oZ4) (v := ?vZ4) ?hiZ4 (by kernel_rfl) (by kernel_rfl) (by kernel_rfl) ?hQZ4 ?hwZ4 ?hyZ4 (by assumption) ?restZ4
  case hiZ4 => (simp only [List.getElem?_toArray, List.getElem?_cons_succ, List.getElem?_cons_zero] <;> rfl)
  case hQZ4 => exact (fun _ _ _ h => h)
  case hwZ4 => rfl
  case hyZ4 => (intro w hSw; (try dsimp only at hSw); go_simp; try with_reducible rfl)
  (try simp only [Act.put, List.setIfInBounds_toArray, List.set_cons_zero, List.set_cons_succ])
  refine take_w (i := 4) (oi := ?oZ5) (v := ?vZ5) ?hiZ5 (by kernel_rfl) (by kernel_rfl) (by kernel_rfl) ?hQZ5 ?hwZ5 ?hyZ5 (by assumption) ?restZ5
  case hiZ5 => (simp only [List.getElem?_toArray, List.getElem?_cons_succ, List.getElem?_cons_zero] <;> rfl)
  case hQZ5 => exact (fun _ _ _ h => h)
  case hwZ5 => rfl
  case hyZ5 => (intro w hSw; (try dsimp only at hSw); go_simp; try with_reducible rfl)
  (try simp only [Act.put, List.setIfInBounds_toArray, List.set_cons_zero, List.set_cons_succ])
  refine wpAnyH_ready (rs := [5]) (by kernel_rfl) (by simp) ?_
  refine AllReadyH.cons (o := ?oZ6) ?hiZ6 (fun K hK => ?stZ6) AllReadyH.nil
  case hiZ6 => (simp only [List.getElem?_toArray, List.getElem?_cons_succ, List.getElem?_cons_zero] <;> rfl)
  go_simp
  go_at_call 44
  refine (IH.out _ (List.getElem_mem l0) (H 0) _ gc gn _ _ (HP.out.kids 0 l0) (HF.out 0 l0) hbd0 HD1.out.drew.b HD1.out.drew.ge HD1.out.drew.clo HD1.out.drew.var HD1.out.drew.own).mono ?_
  rintro _ w2 ⟨v2, hs2, rfl, hv2, ho2, hh2, hk2⟩
  have HD2 := Lib.hid (HD1.out.drew.step hv2 ho2 hk2)
  have HH2 := Lib.hid hh2
  clear hv2 ho2 hh2 hk2
  go_simp
  refine hK.out _ _ ?_ (fun hHeld => ?_)
  · (first | exact ⟨HD2.out.clo.cell, (HD2.out.box.cells.2.2.2.2).trans (by rw [HTA.out]), (HP.out.below HD2.out.b).kid0 HTA.out (by omega)⟩ | exact ⟨HD1.out.drew.clo.cell, (HD1.out.drew.box.cells.2.2.2.2).trans (by rw [HTA.out]), (HP.out.below HD1.out.drew.b).kid0 HTA.out (by omega)⟩)
  clear hK K
  (try simp only [Act.put, List.setIfInBounds_toArray, List.set_cons_zero, List.set_cons_succ])
  refine wpAnyH_done (by kernel_rfl) ?_ _
  
  clear hHeld
  have hhl := HH2.out.1
  obtain ⟨a2, c2, hv2⟩ := HD2.out.own.sl
  have hbd4 : (hs ++ hs2).length + 1 + countT t.kids[1] ≤ 1000 := by rw [List.length_append, hhl]; omega
  generalize hn2 : (hs ++ hs2).length = n2 at hv2 hbd4
  have HN2 := Lib.hid hn2
  subst hv2
  clear hhl hn2
  go_upto_region 3 with fail
  go_cut [] (fun wx => ∃ v3, LW wb w wx gc gn h v v3 v3 (hs ++ hs2 ++ [h]))
  case first =>
    have hba : Below w2.drew.heap.size w2.drew (w2.drew.alloc (.cells #[.int .i64 0, .slice none 0 0, .slice none 0 0, .slice none 0 0, .slice none 0 0] 25)) := (Below.refl _ _).alloc (Nat.le_refl _) _
    have HDA := Lib.hid (HD2.out.drew.below hba)
    have HZB : Hid (Box (w2.drew.alloc (.cells #[.int .i64 0, .slice none 0 0, .slice none 0 0, .slice none 0 0, .slice none 0 0] 25)) 25 w2.heap.size hZ) := Lib.hid (Box.new w2.drew 25 hZ)
    have cv2 := HD2.out.var.cell
    have cva : (w2.alloc (.cells #[.int .i64 0, .slice none 0 0, .slice none 0 0, .slice none 0 0, .slice none 0 0] 25)).cell? ⟨gn, 0, none⟩ = some (.slice a2 n2 c2) := HDA.out.var.cell
    have hlt2 : (n2 : Int) < (n2 : Int) + 1 := by omega
    clear hba
    refine wp_region_held_drew (S := (fun W => W.cell? ⟨w.heap.size, 0, none⟩ = some (.int .i64 h.k) ∧ W.cell? ⟨w.heap.size, 1, none⟩ = some (.slice h.ka h.kn h.kc) ∧ W.cell? ⟨w.heap.size, 2, none⟩ = some (.slice h.va h.vn h.vc) ∧ W.cell? ⟨w.heap.size, 3, none⟩ = some (.slice h.da h.dn h.dc) ∧ W.cell? ⟨w.heap.size, 4, none⟩ = some (.slice (some ⟨g, off, none⟩) h.tn h.tc))) (by kernel_rfl) ⟨HD2.out.drew.box.cells.1, HD2.out.drew.box.cells.2.1, HD2.out.drew.box.cells.2.2.1, HD2.out.drew.box.cells.2.2.2.1, (HD2.out.drew.box.cells.2.2.2.2).trans (by rw [HTA.out])⟩ (fun hHeld => ?_)
    refine take_w (i := 1) (oi := ?oZ13) (v := ?vZ13) ?hiZ13 (by kernel_rfl) (by kernel_rfl) (by kernel_rfl) ?hQZ13 ?hwZ13 ?hyZ13 (by assumption) ?restZ13
    case hiZ13 => (simp only [List.getElem?_toArray, List.getElem?_cons_succ, List.getElem?_cons_zero] <;> rfl)
    case hQZ13 => exact (fun _ _ _ h => h)
    case hwZ13 => rfl
    case hyZ13 => (intro w hSw; (try dsimp only at hSw); go_simp; try with_reducible rfl)
    (try simp only [Act.put, List.setIfInBounds_toArray, List.set_cons_zero, List.set_cons_succ])
    refine wpAnyH_ready (rs := [0, 3]) (by kernel_rfl) (by simp) ?_
    refine AllReadyH.cons (o := ?oZ14) ?hiZ14 (fun K hK => ?stZ14) (AllReadyH.cons (o := ?oZ15) ?hiZ15 (fun K hK => ?stZ15) AllReadyH.nil)
    case hiZ14 => (simp only [List.getElem?_toArray, List.getElem?_cons_zero] <;> rfl)
    case hiZ15 => (simp only [List.getElem?_toArray, List.getElem?_cons_succ, List.getElem?_cons_zero] <;> rfl)
    case stZ14 =>
      go_simp
      refine hK.out _ _ ?_ (fun hHeld => ?_)
      · (first | exact ⟨(HD4.out.put (.slice (some ⟨g3, 0, none⟩) (n2 + 1) c3)).box.cells.1, (HD4.out.put (.slice (some ⟨g3, 0, none⟩) (n2 + 1) c3)).box.cells.2.1, (HD4.out.put (.slice (some ⟨g3, 0, none⟩) (n2 + 1) c3)).box.cells.2.2.1, (HD4.out.put (.slice (some ⟨g3, 0, none⟩) (n2 + 1) c3)).box.cells.2.2.2.1, ((HD4.out.put (.slice (some ⟨g3, 0, none⟩) (n2 + 1) c3)).box.cells.2.2.2.2).trans (by rw [HTA.out])⟩ | exact ⟨HD5.out.box.cells.1, HD5.out.box.cells.2.1, HD5.out.box.cells.2.2.1, HD5.out.box.cells.2.2.2.1, (HD5.out.box.cells.2.2.2.2).trans (by rw [HTA.out])⟩ | exact ⟨HD4.out.box.cells.1, HD4.out.box.cells.2.1, HD4.out.box.cells.2.2.1, HD4.out.box.cells.2.2.2.1, (HD4.out.box.cells.2.2.2.2).trans (by rw [HTA.out])⟩ | exact ⟨(HD3.out.put (.slice (some ⟨g3, 0, none⟩) (n2 + 1) c3)).box.cells.1, (HD3.out.put (.slice (some ⟨g3, 0, none⟩) (n2 + 1) c3)).box.cells.2.1, (HD3.out.put (.slice (some ⟨g3, 0, none⟩) (n2 + 1) c3)).box.cells.2.2.1, (HD3.out.put (.slice (some ⟨g3, 0, none⟩) (n2 + 1) c3)).box.cells.2.2.2.1, ((HD3.out.put (.slice (some ⟨g3, 0, none⟩) (n2 + 1) c3)).box.cells.2.2.2.2).trans (by rw [HTA.out])⟩ | exact ⟨HD3.out.box.cells.1, HD3.out.box.cells.2.1, HD3.out.box.cells.2.2.1, HD3.out.box.cells.2.2.2.1, (HD3.out.box.cells.2.2.2.2).trans (by rw [HTA.out])⟩ | exact ⟨HDA.out.box.cells.1, HDA.out.box.cells.2.1, HDA.out.box.cells.2.2.1, HDA.out.box.cells.2.2.2.1, (HDA.out.box.cells.2.2.2.2).trans (by rw [HTA.out])⟩ | exact ⟨HD2.out.drew.box.cells.1, HD2.out.drew.box.cells.2.1, HD2.out.drew.box.cells.2.2.1, HD2.out.drew.box.cells.2.2.2.1, (HD2.out.drew.box.cells.2.2.2.2).trans (by rw [HTA.out])⟩)
      clear hK K
      (try simp only [Act.put, List.setIfInBounds_toArray, List.set_cons_zero, List.set_cons_succ])
      refine take_w (i := 2) (oi := ?oZ16) (v := ?vZ16) ?hiZ16 (by kernel_rfl) (by kernel_rfl) (by kernel_rfl) ?hQZ16 ?hwZ16 ?hyZ16 (by assumption) ?restZ16
      case hiZ16 => (simp only [List.getElem?_toArray, List.getElem?_cons_succ, List.getElem?_cons_zero] <;> rfl)
      case hQZ16 => exact (fun _ _ _ h => h)
      case hwZ16 => rfl
      case hyZ16 => (intro w hSw; (try dsimp only at hSw); go_simp; try with_reducible rfl)
      (try simp only [Act.put, List.setIfInBounds_toArray, List.set_cons_zero, List.set_cons_succ])
      refine wpAnyH_ready (rs := [3]) (by kernel_rfl) (by simp) ?_
      refine AllReadyH.cons (o := ?oZ17) ?hiZ17 (fun K hK => ?stZ17) AllReadyH.nil
      case hiZ17 => (simp only [List.getElem?_toArray, List.getElem?_cons_succ, List.getElem?_cons_zero] <;> rfl)
      go_simp
      refine hK.out _ _ ?_ (fun hHeld => ?_)
      · (first | exact ⟨(HD4.out.put (.slice (some ⟨g3, 0, none⟩) (n2 + 1) c3)).box.cells.1, (HD4.out.put (.slice (some ⟨g3, 0, none⟩) (n2 + 1) c3)).box.cells.2.1, (HD4.out.put (.slice (some ⟨g3, 0, none⟩) (n2 + 1) c3)).box.cells.2.2.1, (HD4.out.put (.slice (some ⟨g3, 0, none⟩) (n2 + 1) c3)).box.cells.2.2.2.1, ((HD4.out.put (.slice (some ⟨g3, 0, none⟩) (n2 + 1) c3)).box.cells.2.2.2.2).trans (by rw [HTA.out])⟩ | exact ⟨HD5.out.box.cells.1, HD5.out.box.cells.2.1, HD5.out.box.cells.2.2.1, HD5.out.box.cells.2.2.2.1, (HD5.out.box.cells.2.2.2.2).trans (by rw [HTA.out])⟩ | exact ⟨HD4.out.box.cells.1, HD4.out.box.cells.2.1, HD4.out.box.cells.2.2.1, HD4.out.box.cells.2.2.2.1, (HD4.out.box.cells.2.2.2.2).trans (by rw [HTA.out])⟩ | exact ⟨(HD3.out.put (.slice (some ⟨g3, 0, none⟩) (n2 + 1) c3)).box.cells.1, (HD3.out.put (.slice (some ⟨g3, 0, none⟩) (n2 + 1) c3)).box.cells.2.1, (HD3.out.put (.slice (some ⟨g3, 0, none⟩) (n2 + 1) c3)).box.cells.2.2.1, (HD3.out.put (.slice (some ⟨g3, 0, none⟩) (n2 + 1) c3)).box.cells.2.2.2.1, ((HD3.out.put (.slice (some ⟨g3, 0, none⟩) (n2 + 1) c3)).box.cells.2.2.2.2).trans (by rw [HTA.out])⟩ | exact ⟨HD3.out.box.cells.1, HD3.out.box.cells.2.1, HD3.out.box.cells.2.2.1, HD3.out.box.cells.2.2.2.1, (HD3.out.box.cells.2.2.2.2).trans (by rw [HTA.out])⟩ | exact ⟨HDA.out.box.cells.1, HDA.out.box.cells.2.1, HDA.out.box.cells.2.2.1, HDA.out.box.cells.2.2.2.1, (HDA.out.box.cells.2.2.2.2).trans (by rw [HTA.out])⟩ | exact ⟨HD2.out.drew.box.cells.1, HD2.out.drew.box.cells.2.1, HD2.out.drew.box.cells.2.2.1, HD2.out.drew.box.cells.2.2.2.1, (HD2.out.drew.box.cells.2.2.2.2).trans (by rw [HTA.out])⟩)
      clear hK K
      (try simp only [Act.put, List.setIfInBounds_toArray, List.set_cons_zero, List.set_cons_succ])
      refine wpAnyH_ready (rs := [4]) (by kernel_rfl) (by simp) ?_
      refine AllReadyH.cons (o := ?oZ18) ?hiZ18 (fun K hK => ?stZ18) AllReadyH.nil
      case hiZ18 => (simp only [List.getElem?_toArray, List.getElem?_cons_succ, List.getElem?_cons_zero] <;> rfl)
      refine step_append_trees _ rfl (.tmp 13) (.tmp 16) 23 rfl wb.heap.size 25 ti _ 104 Tryz.underlying23 hti hz0 hz1 hz2 rfl (.slice a2 n2 c2) (hs ++ hs2) rfl HDA.out.own w2.heap.size 1 [hZ] rfl HZB.out.row (by rw [HN2.out]; simp only [List.length_cons, List.length_nil]; omega) (by omega) HDA.out.b.size ?_
      intro v3 w3 ho3 hg3 hob3
      have hl3 : (hs ++ hs2 ++ [hZ]).length = n2 + 1 := by rw [List.length_append, HN2.out]; rfl
      rcases ho3.form with ⟨_, q1⟩ | ⟨g3, c3, q1, -, -, -, -, -⟩
      · exfalso
        rw [q1] at hl3
        simp at hl3
      rw [hl3] at q1
      subst q1
      clear hl3
      have hd3 := HDA.out.grown ho3 hg3 hob3
      have HD3 := Lib.hid hd3
      have cn3 := hd3.var.cell
      have cf3 := hd3.var.frozen 0
      clear ho3 hg3 hob3 hd3
      refine hK.out _ _ ?_ (fun hHeld => ?_)
      · (first | exact ⟨(HD4.out.put (.slice (some ⟨g3, 0, none⟩) (n2 + 1) c3)).box.cells.1, (HD4.out.put (.slice (some ⟨g3, 0, none⟩) (n2 + 1) c3)).box.cells.2.1, (HD4.out.put (.slice (some ⟨g3, 0, none⟩) (n2 + 1) c3)).box.cells.2.2.1, (HD4.out.put (.slice (some ⟨g3, 0, none⟩) (n2 + 1) c3)).box.cells.2.2.2.1, ((HD4.out.put (.slice (some ⟨g3, 0, none⟩) (n2 + 1) c3)).box.cells.2.2.2.2).trans (by rw [HTA.out])⟩ | exact ⟨HD5.out.box.cells.1, HD5.out.box.cells.2.1, HD5.out.box.cells.2.2.1, HD5.out.box.cells.2.2.2.1, (HD5.out.box.cells.2.2.2.2).trans (by rw [HTA.out])⟩ | exact ⟨HD4.out.box.cells.1, HD4.out.box.cells.2.1, HD4.out.box.cells.2.2.1, HD4.out.box.cells.2.2.2.1, (HD4.out.box.cells.2.2.2.2).trans (by rw [HTA.out])⟩ | exact ⟨(HD3.out.put (.slice (some ⟨g3, 0, none⟩) (n2 + 1) c3)).box.cells.1, (HD3.out.put (.slice (some ⟨g3, 0, none⟩) (n2 + 1) c3)).box.cells.2.1, (HD3.out.put (.slice (some ⟨g3, 0, none⟩) (n2 + 1) c3)).box.cells.2.2.1, (HD3.out.put (.slice (some ⟨g3, 0, none⟩) (n2 + 1) c3)).box.cells.2.2.2.1, ((HD3.out.put (.slice (some ⟨g3, 0, none⟩) (n2 + 1) c3)).box.cells.2.2.2.2).trans (by rw [HTA.out])⟩ | exact ⟨HD3.out.box.cells.1, HD3.out.box.cells.2.1, HD3.out.box.cells.2.2.1, HD3.out.box.cells.2.2.2.1, (HD3.out.box.cells.2.2.2.2).trans (by rw [HTA.out])⟩ | exact ⟨HDA.out.box.cells.1, HDA.out.box.cells.2.1, HDA.out.box.cells.2.2.1, HDA.out.box.cells.2.2.2.1, (HDA.out.box.cells.2.2.2.2).trans (by rw [HTA.out])⟩ | exact ⟨HD2.out.drew.box.cells.1, HD2.out.drew.box.cells.2.1, HD2.out.drew.box.cells.2.2.1, HD2.out.drew.box.cells.2.2.2.1, (HD2.out.drew.box.cells.2.2.2.2).trans (by rw [HTA.out])⟩)
      clear hK K
      (try simp only [Act.put, List.setIfInBounds_toArray, List.set_cons_zero, List.set_cons_succ])
      refine take_w (i := 5) (oi := ?oZ19) (v := ?vZ19) ?hiZ19 (by kernel_rfl) (by kernel_rfl) (by kernel_rfl) ?hQZ19 ?hwZ19 ?hyZ19 (by assumption) ?restZ19
      case hiZ19 => (simp only [List.getElem?_toArray, List.getElem?_cons_succ, List.getElem?_cons_zero] <;> rfl)
      case hQZ19 => exact (fun _ _ _ h => h)
      case hwZ19 => rfl
      case hyZ19 => (intro w hSw; (try dsimp only at hSw); go_simp; try with_reducible rfl)
      (try simp only [Act.put, List.setIfInBounds_toArray, List.set_cons_zero, List.set_cons_succ])
      refine wpAnyH_ready (rs := [6, 7]) (by kernel_rfl) (by simp) ?_
      refine AllReadyH.cons (o := ?oZ20) ?hiZ20 (fun K hK => ?stZ20) (AllReadyH.cons (o := ?oZ21) ?hiZ21 (fun K hK => ?stZ21) AllReadyH.nil)
      case hiZ20 => (simp only [List.getElem?_toArray, List.getElem?_cons_succ, List.getElem?_cons_zero] <;> rfl)
      case hiZ21 => (simp only [List.getElem?_toArray, List.getElem?_cons_succ, List.getElem?_cons_zero] <;> rfl)
      case stZ20 =>
        refine step_store_last _ rfl 25 (.tmp 18) (.tmp 14) rfl wb.heap.size 25 g3 n2 c3 (hs ++ hs2) hZ h HN2.out HD3.out.own rfl (by unfold TH.v; rw [HTA.out]; rfl) infoTree5 ?_
        intro w4 ho4 hg4
        have hd4 := HD3.out.grown ho4 hg4 (.inl rfl)
        have HD4 := Lib.hid hd4
        have cn4 := hd4.var.cell
        have cf4 := hd4.var.frozen 0
        clear ho4 hg4 hd4
        refine hK.out _ _ ?_ (fun hHeld => ?_)
        · (first | exact ⟨(HD4.out.put (.slice (some ⟨g3, 0, none⟩) (n2 + 1) c3)).box.cells.1, (HD4.out.put (.slice (some ⟨g3, 0, none⟩) (n2 + 1) c3)).box.cells.2.1, (HD4.out.put (.slice (some ⟨g3, 0, none⟩) (n2 + 1) c3)).box.cells.2.2.1, (HD4.out.put (.slice (some ⟨g3, 0, none⟩) (n2 + 1) c3)).box.cells.2.2.2.1, ((HD4.out.put (.slice (some ⟨g3, 0, none⟩) (n2 + 1) c3)).box.cells.2.2.2.2).trans (by rw [HTA.out])⟩ | exact ⟨HD5.out.box.cells.1, HD5.out.box.cells.2.1, HD5.out.box.cells.2.2.1, HD5.out.box.cells.2.2.2.1, (HD5.out.box.cells.2.2.2.2).trans (by rw [HTA.out])⟩ | exact ⟨HD4.out.box.cells.1, HD4.out.box.cells.2.1, HD4.out.box.cells.2.2.1, HD4.out.box.cells.2.2.2.1, (HD4.out.box.cells.2.2.2.2).trans (by rw [HTA.out])⟩ | exact ⟨(HD3.out.put (.slice (some ⟨g3, 0, none⟩) (n2 + 1) c3)).box.cells.1, (HD3.out.put (.slice (some ⟨g3, 0, none⟩) (n2 + 1) c3)).box.cells.2.1, (HD3.out.put (.slice (some ⟨g3, 0, none⟩) (n2 + 1) c3)).box.cells.2.2.1, (HD3.out.put (.slice (some ⟨g3, 0, none⟩) (n2 + 1) c3)).box.cells.2.2.2.1, ((HD3.out.put (.slice (some ⟨g3, 0, none⟩) (n2 + 1) c3)).box.cells.2.2.2.2).trans (by rw [HTA.out])⟩ | exact ⟨HD3.out.box.cells.1, HD3.out.box.cells.2.1, HD3.out.box.cells.2.2.1, HD3.out.box.cells.2.2.2.1, (HD3.out.box.cells.2.2.2.2).trans (by rw [HTA.out])⟩ | exact ⟨HDA.out.box.cells.1, HDA.out.box.cells.2.1, HDA.out.box.cells.2.2.1, HDA.out.box.cells.2.2.2.1, (HDA.out.box.cells.2.2.2.2).trans (by rw [HTA.out])⟩ | exact ⟨HD2.out.drew.box.cells.1, HD2.out.drew.box.cells.2.1, HD2.out.drew.box.cells.2.2.1, HD2.out.drew.box.cells.2.2.2.1, (HD2.out.drew.box.cells.2.2.2.2).trans (by rw [HTA.out])⟩)
        clear hK K
        (try simp only [Act.put])
        refine wpAnyH_ready (rs := [7]) (by kernel_rfl) (by simp) ?_
        refine AllReadyH.cons (o := ?oZ22) ?hiZ22 (fun K hK => ?stZ22) AllReadyH.nil
        case hiZ22 => (simp only [List.getElem?_toArray, List.getElem?_cons_succ, List.getElem?_cons_zero] <;> rfl)
        go_simp
        refine hK.out _ _ ?_ (fun hHeld => ?_)
        · (first | exact ⟨(HD4.out.put (.slice (some ⟨g3, 0, none⟩) (n2 + 1) c3)).box.cells.1, (HD4.out.put (.slice (some ⟨g3, 0, none⟩) (n2 + 1) c3)).box.cells.2.1, (HD4.out.put (.slice (some ⟨g3, 0, none⟩) (n2 + 1) c3)).box.cells.2.2.1, (HD4.out.put (.slice (some ⟨g3, 0, none⟩) (n2 + 1) c3)).box.cells.2.2.2.1, ((HD4.out.put (.slice (some ⟨g3, 0, none⟩) (n2 + 1) c3)).box.cells.2.2.2.2).trans (by rw [HTA.out])⟩ | exact ⟨HD5.out.box.cells.1, HD5.out.box.cells.2.1, HD5.out.box.cells.2.2.1, HD5.out.box.cells.2.2.2.1, (HD5.out.box.cells.2.2.2.2).trans (by rw [HTA.out])⟩ | exact ⟨HD4.out.box.cells.1, HD4.out.box.cells.2.1, HD4.out.box.cells.2.2.1, HD4.out.box.cells.2.2.2.1, (HD4.out.box.cells.2.2.2.2).trans (by rw [HTA.out])⟩ | exact ⟨(HD3.out.put (.slice (some ⟨g3, 0, none⟩) (n2 + 1) c3)).box.cells.1, (HD3.out.put (.slice (some ⟨g3, 0, none⟩) (n2 + 1) c3)).box.cells.2.1, (HD3.out.put (.slice (some ⟨g3, 0, none⟩) (n2 + 1) c3)).box.cells.2.2.1, (HD3.out.put (.slice (some ⟨g3, 0, none⟩) (n2 + 1) c3)).box.cells.2.2.2.1, ((HD3.out.put (.slice (some ⟨g3, 0, none⟩) (n2 + 1) c3)).box.cells.2.2.2.2).trans (by rw [HTA.out])⟩ | exact ⟨HD3.out.box.cells.1, HD3.out.box.cells.2.1, HD3.out.box.cells.2.2.1, HD3.out.box.cells.2.2.2.1, (HD3.out.box.cells.2.2.2.2).trans (by rw [HTA.out])⟩ | exact ⟨HDA.out.box.cells.1, HDA.out.box.cells.2.1, HDA.out.box.cells.2.2.1, HDA.out.box.cells.2.2.2.1, (HDA.out.box.cells.2.2.2.2).trans (by rw [HTA.out])⟩ | exact ⟨HD2.out.drew.box.cells.1, HD2.out.drew.box.cells.2.1, HD2.out.drew.box.cells.2.2.1, HD2.out.drew.box.cells.2.2.2.1, (HD2.out.drew.box.cells.2.2.2.2).trans (by rw [HTA.out])⟩)
        clear hK K
        (try simp only [Act.put])
        refine wpAnyH_done (by kernel_rfl) ?_ _
        go_wp2_with fail
        go_meet
        first | exact ⟨_, HD5.out⟩ | exact ⟨_, HD4.out.put _⟩
      case stZ21 =>
        go_simp
        refine hK.out _ _ ?_ (fun hHeld => ?_)
        · (first | exact ⟨(HD4.out.put (.slice (some ⟨g3, 0, none⟩) (n2 + 1) c3)).box.cells.1, (HD4.out.put (.slice (some ⟨g3, 0, none⟩) (n2 + 1) c3)).box.cells.2.1, (HD4.out.put (.slice (some ⟨g3, 0, none⟩) (n2 + 1) c3)).box.cells.2.2.1, (HD4.out.put (.slice (some ⟨g3, 0, none⟩) (n2 + 1) c3)).box.cells.2.2.2.1, ((HD4.out.put (.slice (some ⟨g3, 0, none⟩) (n2 + 1) c3)).box.cells.2.2.2.2).trans (by rw [HTA.out])⟩ | exact ⟨HD5.out.box.cells.1, HD5.out.box.cells.2.1, HD5.out.box.cells.2.2.1, HD5.out.box.cells.2.2.2.1, (HD5.out.box.cells.2.2.2.2).trans (by rw [HTA.out])⟩ | exact ⟨HD4.out.box.cells.1, HD4.out.box.cells.2.1, HD4.out.box.cells.2.2.1, HD4.out.box.cells.2.2.2.1, (HD4.out.box.cells.2.2.2.2).trans (by rw [HTA.out])⟩ | exact ⟨(HD3.out.put (.slice (some ⟨g3, 0, none⟩) (n2 + 1) c3)).box.cells.1, (HD3.out.put (.slice (some ⟨g3, 0, none⟩) (n2 + 1) c3)).box.cells.2.1, (HD3.out.put (.slice (some ⟨g3, 0, none⟩) (n2 + 1) c3)).box.cells.2.2.1, (HD3.out.put (.slice (some ⟨g3, 0, none⟩) (n2 + 1) c3)).box.cells.2.2.2.1, ((HD3.out.put (.slice (some ⟨g3, 0, none⟩) (n2 + 1) c3)).box.cells.2.2.2.2).trans (by rw [HTA.out])⟩ | exact ⟨HD3.out.box.cells.1, HD3.out.box.cells.2.1, HD3.out.box.cells.2.2.1, HD3.out.box.cells.2.2.2.1, (HD3.out.box.cells.2.2.2.2).trans (by rw [HTA.out])⟩ | exact ⟨HDA.out.box.cells.1, HDA.out.box.cells.2.1, HDA.out.box.cells.2.2.1, HDA.out.box.cells.2.2.2.1, (HDA.out.box.cells.2.2.2.2).trans (by rw [HTA.out])⟩ | exact ⟨HD2.out.drew.box.cells.1, HD2.out.drew.box.cells.2.1, HD2.out.drew.box.cells.2.2.1, HD2.out.drew.box.cells.2.2.2.1, (HD2.out.drew.box.cells.2.2.2.2).trans (by rw [HTA.out])⟩)
        clear hK K
        (try simp only [Act.put])
        refine wpAnyH_ready (rs := [6]) (by kernel_rfl) (by simp) ?_
        refine AllReadyH.cons (o := ?oZ23) ?hiZ23 (fun K hK => ?stZ23) AllReadyH.nil
        case hiZ23 => (simp only [List.getElem?_toArray, List.getElem?_cons_succ, List.getElem?_cons_zero] <;> rfl)
        refine step_store_last _ rfl 25 (.tmp 18) (.tmp 14) rfl wb.heap.size 25 g3 n2 c3 (hs ++ hs2) hZ h HN2.out (HD3.out.put (.slice (some ⟨g3, 0, none⟩) (n2 + 1) c3)).own rfl (by unfold TH.v; rw [HTA.out]; rfl) infoTree5 ?_
        intro w5 ho4 hg4
        have hd4 := (HD3.out.put (.slice (some ⟨g3, 0, none⟩) (n2 + 1) c3)).grown ho4 hg4 (.inl rfl)
        have HD5 := Lib.hid hd4
        have cn4 := hd4.var.cell
        have cf4 := hd4.var.frozen 0
        clear ho4 hg4 hd4
        refine hK.out _ _ ?_ (fun hHeld => ?_)
        · (first | exact ⟨(HD4.out.put (.slice (some ⟨g3, 0, none⟩) (n2 + 1) c3)).box.cells.1, (HD4.out.put (.slice (some ⟨g3, 0, none⟩) (n2 + 1) c3)).box.cells.2.1, (HD4.out.put (.slice (some ⟨g3, 0, none⟩) (n2 + 1) c3)).box.cells.2.2.1, (HD4.out.put (.slice (some ⟨g3, 0, none⟩) (n2 + 1) c3)).box.cells.2.2.2.1, ((HD4.out.put (.slice (some ⟨g3, 0, none⟩) (n2 + 1) c3)).box.cells.2.2.2.2).trans (by rw [HTA.out])⟩ | exact ⟨HD5.out.box.cells.1, HD5.out.box.cells.2.1, HD5.out.box.cells.2.2.1, HD5.out.box.cells.2.2.2.1, (HD5.out.box.cells.2.2.2.2).trans (by rw [HTA.out])⟩ | exact ⟨HD4.out.box.cells.1, HD4.out.box.cells.2.1, HD4.out.box.cells.2.2.1, HD4.out.box.cells.2.2.2.1, (HD4.out.box.cells.2.2.2.2).trans (by rw [HTA.out])⟩ | exact ⟨(HD3.out.put (.slice (some ⟨g3, 0, none⟩) (n2 + 1) c3)).box.cells.1, (HD3.out.put (.slice (some ⟨g3, 0, none⟩) (n2 + 1) c3)).box.cells.2.1, (HD3.out.put (.slice (some ⟨g3, 0, none⟩) (n2 + 1) c3)).box.cells.2.2.1, (HD3.out.put (.slice (some ⟨g3, 0, none⟩) (n2 + 1) c3)).box.cells.2.2.2.1, ((HD3.out.put (.slice (some ⟨g3, 0, none⟩) (n2 + 1) c3)).box.cells.2.2.2.2).trans (by rw [HTA.out])⟩ | exact ⟨HD3.out.box.cells.1, HD3.out.box.cells.2.1, HD3.out.box.cells.2.2.1, HD3.out.box.cells.2.2.2.1, (HD3.out.box.cells.2.2.2.2).trans (by rw [HTA.out])⟩ | exact ⟨HDA.out.box.cells.1, HDA.out.box.cells.2.1, HDA.out.box.cells.2.2.1, HDA.out.box.cells.2.2.2.1, (HDA.out.box.cells.2.2.2.2).trans (by rw [HTA.out])⟩ | exact ⟨HD2.out.drew.box.cells.1, HD2.out.drew.box.cells.2.1, HD2.out.drew.box.cells.2.2.1, HD2.out.drew.box.cells.2.2.2.1, (HD2.out.drew.box.cells.2.2.2.2).trans (by rw [HTA.out])⟩)
        clear hK K
        (try simp only [Act.put])
        refine wpAnyH_done (by kernel_rfl) ?_ _
        go_wp2_with fail
        go_meet
        first | exact ⟨_, HD5.out⟩ | exact ⟨_, HD4.out.put _⟩
    case stZ15 =>
      go_simp
      refine hK.out _ _ ?_ (fun hHeld => ?_)
      · (first | exact ⟨(HD4.out.put (.slice (some ⟨g3, 0, none⟩) (n2 + 1) c3)).box.cells.1, (HD4.out.put (.slice (some ⟨g3, 0, none⟩) (n2 + 1) c3)).box.cells.2.1, (HD4.out.put (.slice (some ⟨g3, 0, none⟩) (n2 + 1) c3)).box.cells.2.2.1, (HD4.out.put (.slice (some ⟨g3, 0, none⟩) (n2 + 1) c3)).box.cells.2.2.2.1, ((HD4.out.put (.slice (some ⟨g3, 0, none⟩) (n2 + 1) c3)).box.cells.2.2.2.2).trans (by rw [HTA.out])⟩ | exact ⟨HD5.out.box.cells.1, HD5.out.box.cells.2.1, HD5.out.box.cells.2.2.1, HD5.out.box.cells.2.2.2.1, (HD5.out.box.cells.2.2.2.2).trans (by rw [HTA.out])⟩ | exact ⟨HD4.out.box.cells.1, HD4.out.box.cells.2.1, HD4.out.box.cells.2.2.1, HD4.out.box.cells.2.2.2.1, (HD4.out.box.cells.2.2.2.2).trans (by rw [HTA.out])⟩ | exact ⟨(HD3.out.put (.slice (some ⟨g3, 0, none⟩) (n2 + 1) c3)).box.cells.1, (HD3.out.put (.slice (some ⟨g3, 0, none⟩) (n2 + 1) c3)).box.cells.2.1, (HD3.out.put (.slice (some ⟨g3, 0, none⟩) (n2 + 1) c3)).box.cells.2.2.1, (HD3.out.put (.slice (some ⟨g3, 0, none⟩) (n2 + 1) c3)).box.cells.2.2.2.1, ((HD3.out.put (.slice (some ⟨g3, 0, none⟩) (n2 + 1) c3)).box.cells.2.2.2.2).trans (by rw [HTA.out])⟩ | exact ⟨HD3.out.box.cells.1, HD3.out.box.cells.2.1, HD3.out.box.cells.2.2.1, HD3.out.box.cells.2.2.2.1, (HD3.out.box.cells.2.2.2.2).trans (by rw [HTA.out])⟩ | exact ⟨HDA.out.box.cells.1, HDA.out.box.cells.2.1, HDA.out.box.cells.2.2.1, HDA.out.box.cells.2.2.2.1, (HDA.out.box.cells.2.2.2.2).trans (by rw [HTA.out])⟩ | exact ⟨HD2.out.drew.box.cells.1, HD2.out.drew.box.cells.2.1, HD2.out.drew.box.cells.2.2.1, HD2.out.drew.box.cells.2.2.2.1, (HD2.out.drew.box.cells.2.2.2.2).trans (by rw [HTA.out])⟩)
      clear hK K
      (try simp only [Act.put, List.setIfInBounds_toArray, List.set_cons_zero, List.set_cons_succ])
      refine wpAnyH_ready (rs := [0]) (by kernel_rfl) (by simp) ?_
      refine AllReadyH.cons (o := ?oZ24) ?hiZ24 (fun K hK => ?stZ24) AllReadyH.nil
      case hiZ24 => (simp only [List.getElem?_toArray, List.getElem?_cons_zero] <;> rfl)
      go_simp
      refine hK.out _ _ ?_ (fun hHeld => ?_)
      · (first | exact ⟨(HD4.out.put (.slice (some ⟨g3, 0, none⟩) (n2 + 1) c3)).box.cells.1, (HD4.out.put (.slice (some ⟨g3, 0, none⟩) (n2 + 1) c3)).box.cells.2.1, (HD4.out.put (.slice (some ⟨g3, 0, none⟩) (n2 + 1) c3)).box.cells.2.2.1, (HD4.out.put (.slice (some ⟨g3, 0, none⟩) (n2 + 1) c3)).box.cells.2.2.2.1, ((HD4.out.put (.slice (some ⟨g3, 0, none⟩) (n2 + 1) c3)).box.cells.2.2.2.2).trans (by rw [HTA.out])⟩ | exact ⟨HD5.out.box.cells.1, HD5.out.box.cells.2.1, HD5.out.box.cells.2.2.1, HD5.out.box.cells.2.2.2.1, (HD5.out.box.cells.2.2.2.2).trans (by rw [HTA.out])⟩ | exact ⟨HD4.out.box.cells.1, HD4.out.box.cells.2.1, HD4.out.box.cells.2.2.1, HD4.out.box.cells.2.2.2.1, (HD4.out.box.cells.2.2.2.2).trans (by rw [HTA.out])⟩ | exact ⟨(HD3.out.put (.slice (some ⟨g3, 0, none⟩) (n2 + 1) c3)).box.cells.1, (HD3.out.put (.slice (some ⟨g3, 0, none⟩) (n2 + 1) c3)).box.cells.2.1, (HD3.out.put (.slice (some ⟨g3, 0, none⟩) (n2 + 1) c3)).box.cells.2.2.1, (HD3.out.put (.slice (some ⟨g3, 0, none⟩) (n2 + 1) c3)).box.cells.2.2.2.1, ((HD3.out.put (.slice (some ⟨g3, 0, none⟩) (n2 + 1) c3)).box.cells.2.2.2.2).trans (by rw [HTA.out])⟩ | exact ⟨HD3.out.box.cells.1, HD3.out.box.cells.2.1, HD3.out.box.cells.2.2.1, HD3.out.box.cells.2.2.2.1, (HD3.out.box.cells.2.2.2.2).trans (by rw [HTA.out])⟩ | exact ⟨HDA.out.box.cells.1, HDA.out.box.cells.2.1, HDA.out.box.cells.2.2.1, HDA.out.box.cells.2.2.2.1, (HDA.out.box.cells.2.2.2.2).trans (by rw [HTA.out])⟩ | exact ⟨HD2.out.drew.box.cells.1, HD2.out.drew.box.cells.2.1, HD2.out.drew.box.cells.2.2.1, HD2.out.drew.box.cells.2.2.2.1, (HD2.out.drew.box.cells.2.2.2.2).trans (by rw [HTA.out])⟩)
      clear hK K
      (try simp only [Act.put, List.setIfInBounds_toArray, List.set_cons_zero, List.set_cons_succ])
      refine take_w (i := 2) (oi := ?oZ25) (v := ?vZ25) ?hiZ25 (by kernel_rfl) (by kernel_rfl) (by kernel_rfl) ?hQZ25 ?hwZ25 ?hyZ25 (by assumption) ?restZ25
      case hiZ25 => (simp only [List.getElem?_toArray, List.getElem?_cons_succ, List.getElem?_cons_zero] <;> rfl)
      case hQZ25 => exact (fun _ _ _ h => h)
      case hwZ25 => rfl
      case hyZ25 => (intro w hSw; (try dsimp only at hSw); go_simp; try with_reducible rfl)
      (try simp only [Act.put, List.setIfInBounds_toArray, List.set_cons_zero, List.set_cons_succ])
      refine wpAnyH_ready (rs := [4]) (by kernel_rfl) (by simp) ?_
      refine AllReadyH.cons (o := ?oZ26) ?hiZ26 (fun K hK => ?stZ26) AllReadyH.nil
      case hiZ26 => (simp only [List.getElem?_toArray, List.getElem?_cons_succ, List.getElem?_cons_zero] <;> rfl)
      refine step_append_trees _ rfl (.tmp 13) (.tmp 16) 23 rfl wb.heap.size 25 ti _ 104 Tryz.underlying23 hti hz0 hz1 hz2 rfl (.slice a2 n2 c2) (hs ++ hs2) rfl HDA.out.own w2.heap.size 1 [hZ] rfl HZB.out.row (by rw [HN2.out]; simp only [List.length_cons, List.length_nil]; omega) (by omega) HDA.out.b.size ?_
      intro v3 w3 ho3 hg3 hob3
      have hl3 : (hs ++ hs2 ++ [hZ]).length = n2 + 1 := by rw [List.length_append, HN2.out]; rfl
      rcases ho3.form with ⟨_, q1⟩ | ⟨g3, c3, q1, -, -, -, -, -⟩
      · exfalso
        rw [q1] at hl3
        simp at hl3
      rw [hl3] at q1
      subst q1
      clear hl3
      have hd3 := HDA.out.grown ho3 hg3 hob3
      have HD3 := Lib.hid hd3
      have cn3 := hd3.var.cell
      have cf3 := hd3.var.frozen 0
      clear ho3 hg3 hob3 hd3
      refine hK.out _ _ ?_ (fun hHeld => ?_)
      · (first | exact ⟨(HD4.out.put (.slice (some ⟨g3, 0, none⟩) (n2 + 1) c3)).box.cells.1, (HD4.out.put (.slice (some ⟨g3, 0, none⟩) (n2 + 1) c3)).box.cells.2.1, (HD4.out.put (.slice (some ⟨g3, 0, none⟩) (n2 + 1) c3)).box.cells.2.2.1, (HD4.out.put (.slice (some ⟨g3, 0, none⟩) (n2 + 1) c3)).box.cells.2.2.2.1, ((HD4.out.put (.slice (some ⟨g3, 0, none⟩) (n2 + 1) c3)).box.cells.2.2.2.2).trans (by rw [HTA.out])⟩ | exact ⟨HD5.out.box.cells.1, HD5.out.box.cells.2.1, HD5.out.box.cells.2.2.1, HD5.out.box.cells.2.2.2.1, (HD5.out.box.cells.2.2.2.2).trans (by rw [HTA.out])⟩ | exact ⟨HD4.out.box.cells.1, HD4.out.box.cells.2.1, HD4.out.box.cells.2.2.1, HD4.out.box.cells.2.2.2.1, (HD4.out.box.cells.2.2.2.2).trans (by rw [HTA.out])⟩ | exact ⟨(HD3.out.put (.slice (some ⟨g3, 0, none⟩) (n2 + 1) c3)).box.cells.1, (HD3.out.put (.slice (some ⟨g3, 0, none⟩) (n2 + 1) c3)).box.cells.2.1, (HD3.out.put (.slice (some ⟨g3, 0, none⟩) (n2 + 1) c3)).box.cells.2.2.1, (HD3.out.put (.slice (some ⟨g3, 0, none⟩) (n2 + 1) c3)).box.cells.2.2.2.1, ((HD3.out.put (.slice (some ⟨g3, 0, none⟩) (n2 + 1) c3)).box.cells.2.2.2.2).trans (by rw [HTA.out])⟩ | exact ⟨HD3.out.box.cells.1, HD3.out.box.cells.2.1, HD3.out.box.cells.2.2.1, HD3.out.box.cells.2.2.2.1, (HD3.out.box.cells.2.2.2.2).trans (by rw [HTA.out])⟩ | exact ⟨HDA.out.box.cells.1, HDA.out.box.cells.2.1, HDA.out.box.cells.2.2.1, HDA.out.box.cells.2.2.2.1, (HDA.out.box.cells.2.2.2.2).trans (by rw [HTA.out])⟩ | exact ⟨HD2.out.drew.box.cells.1, HD2.out.drew.box.cells.2.1, HD2.out.drew.box.cells.2.2.1, HD2.out.drew.box.cells.2.2.2.1, (HD2.out.drew.box.cells.2.2.2.2).trans (by rw [HTA.out])⟩)
      clear hK K
      (try simp only [Act.put, List.setIfInBounds_toArray, List.set_cons_zero, List.set_cons_succ])
      refine take_w (i := 5) (oi := ?oZ27) (v := ?vZ27) ?hiZ27 (by kernel_rfl) (by kernel_rfl) (by kernel_rfl) ?hQZ27 ?hwZ27 ?hyZ27 (by assumption) ?restZ27
      case hiZ27 => (simp only [List.getElem?_toArray, List.getElem?_cons_succ, List.getElem?_cons_zero] <;> rfl)
      case hQZ27 => exact (fun _ _ _ h => h)
      case hwZ27 => rfl
      case hyZ27 => (intro w hSw; (try dsimp only at hSw); go_simp; try with_reducible rfl)
      (try simp only [Act.put, List.setIfInBounds_toArray, List.set_cons_zero, List.set_cons_succ])
      refine wpAnyH_ready (rs := [6, 7]) (by kernel_rfl) (by simp) ?_
      refine AllReadyH.cons (o := ?oZ28) ?hiZ28 (fun K hK => ?stZ28) (AllReadyH.cons (o := ?oZ29) ?hiZ29 (fun K hK => ?stZ29) AllReadyH.nil)
      case hiZ28 => (simp only [List.getElem?_toArray, List.getElem?_cons_succ, List.getElem?_cons_zero] <;> rfl)
      case hiZ29 => (simp only [List.getElem?_toArray, List.getElem?_cons_succ, List.getElem?_cons_zero] <;> rfl)
      case stZ28 =>
        refine step_store_last _ rfl 25 (.tmp 18) (.tmp 14) rfl wb.heap.size 25 g3 n2 c3 (hs ++ hs2) hZ h HN2.out HD3.out.own rfl (by unfold TH.v; rw [HTA.out]; rfl) infoTree5 ?_
        intro w4 ho4 hg4
        have hd4 := HD3.out.grown ho4 hg4 (.inl rfl)
        have HD4 := Lib.hid hd4
        have cn4 := hd4.var.cell
        have cf4 := hd4.var.frozen 0
        clear ho4 hg4 hd4
        refine hK.out _ _ ?_ (fun hHeld => ?_)
        · (first | exact ⟨(HD4.out.put (.slice (some ⟨g3, 0, none⟩) (n2 + 1) c3)).box.cells.1, (HD4.out.put (.slice (some ⟨g3, 0, none⟩) (n2 + 1) c3)).box.cells.2.1, (HD4.out.put (.slice (some ⟨g3, 0, none⟩) (n2 + 1) c3)).box.cells.2.2.1, (HD4.out.put (.slice (some ⟨g3, 0, none⟩) (n2 + 1) c3)).box.cells.2.2.2.1, ((HD4.out.put (.slice (some ⟨g3, 0, none⟩) (n2 + 1) c3)).box.cells.2.2.2.2).trans (by rw [HTA.out])⟩ | exact ⟨HD5.out.box.cells.1, HD5.out.box.cells.2.1, HD5.out.box.cells.2.2.1, HD5.out.box.cells.2.2.2.1, (HD5.out.box.cells.2.2.2.2).trans (by rw [HTA.out])⟩ | exact ⟨HD4.out.box.cells.1, HD4.out.box.cells.2.1, HD4.out.box.cells.2.2.1, HD4.out.box.cells.2.2.2.1, (HD4.out.box.cells.2.2.2.2).trans (by rw [HTA.out])⟩ | exact ⟨(HD3.out.put (.slice (some ⟨g3, 0, none⟩) (n2 + 1) c3)).box.cells.1, (HD3.out.put (.slice (some ⟨g3, 0, none⟩) (n2 + 1) c3)).box.cells.2.1, (HD3.out.put (.slice (some ⟨g3, 0, none⟩) (n2 + 1) c3)).box.cells.2.2.1, (HD3.out.put (.slice (some ⟨g3, 0, none⟩) (n2 + 1) c3)).box.cells.2.2.2.1, ((HD3.out.put (.slice (some ⟨g3, 0, none⟩) (n2 + 1) c3)).box.cells.2.2.2.2).trans (by rw [HTA.out])⟩ | exact ⟨HD3.out.box.cells.1, HD3.out.box.cells.2.1, HD3.out.box.cells.2.2.1, HD3.out.box.cells.2.2.2.1, (HD3.out.box.cells.2.2.2.2).trans (by rw [HTA.out])⟩ | exact ⟨HDA.out.box.cells.1, HDA.out.box.cells.2.1, HDA.out.box.cells.2.2.1, HDA.out.box.cells.2.2.2.1, (HDA.out.box.cells.2.2.2.2).trans (by rw [HTA.out])⟩ | exact ⟨HD2.out.drew.box.cells.1, HD2.out.drew.box.cells.2.1, HD2.out.drew.box.cells.2.2.1, HD2.out.drew.box.cells.2.2.2.1, (HD2.out.drew.box.cells.2.2.2.2).trans (by rw [HTA.out])⟩)
        clear hK K
        (try simp only [Act.put])
        refine wpAnyH_ready (rs := [7]) (by kernel_rfl) (by simp) ?_
        refine AllReadyH.cons (o := ?oZ30) ?hiZ30 (fun K hK => ?stZ30) AllReadyH.nil
        case hiZ30 => (simp only [List.getElem?_toArray, List.getElem?_cons_succ, List.getElem?_cons_zero] <;> rfl)
        go_simp
        refine hK.out _ _ ?_ (fun hHeld => ?_)
        · (first | exact ⟨(HD4.out.put (.slice (some ⟨g3, 0, none⟩) (n2 + 1) c3)).box.cells.1, (HD4.out.put (.slice (some ⟨g3, 0, none⟩) (n2 + 1) c3)).box.cells.2.1, (HD4.out.put (.slice (some ⟨g3, 0, none⟩) (n2 + 1) c3)).box.cells.2.2.1, (HD4.out.put (.slice (some ⟨g3, 0, none⟩) (n2 + 1) c3)).box.cells.2.2.2.1, ((HD4.out.put (.slice (some ⟨g3, 0, none⟩) (n2 + 1) c3)).box.cells.2.2.2.2).trans (by rw [HTA.out])⟩ | exact ⟨HD5.out.box.cells.1, HD5.out.box.cells.2.1, HD5.out.box.cells.2.2.1, HD5.out.box.cells.2.2.2.1, (HD5.out.box.cells.2.2.2.2).trans (by rw [HTA.out])⟩ | exact ⟨HD4.out.box.cells.1, HD4.out.box.cells.2.1, HD4.out.box.cells.2.2.1, HD4.out.box.cells.2.2.2.1, (HD4.out.box.cells.2.2.2.2).trans (by rw [HTA.out])⟩ | exact ⟨(HD3.out.put (.slice (some ⟨g3, 0, none⟩) (n2 + 1) c3)).box.cells.1, (HD3.out.put (.slice (some ⟨g3, 0, none⟩) (n2 + 1) c3)).box.cells.2.1, (HD3.out.put (.slice (some ⟨g3, 0, none⟩) (n2 + 1) c3)).box.cells.2.2.1, (HD3.out.put (.slice (some ⟨g3, 0, none⟩) (n2 + 1) c3)).box.cells.2.2.2.1, ((HD3.out.put (.slice (some ⟨g3, 0, none⟩) (n2 + 1) c3)).box.cells.2.2.2.2).trans (by rw [HTA.out])⟩ | exact ⟨HD3.out.box.cells.1, HD3.out.box.cells.2.1, HD3.out.box.cells.2.2.1, HD3.out.box.cells.2.2.2.1, (HD3.out.box.cells.2.2.2.2).trans (by rw [HTA.out])⟩ | exact ⟨HDA.out.box.cells.1, HDA.out.box.cells.2.1, HDA.out.box.cells.2.2.1, HDA.out.box.cells.2.2.2.1, (HDA.out.box.cells.2.2.2.2).trans (by rw [HTA.out])⟩ | exact ⟨HD2.out.drew.box.cells.1, HD2.out.drew.box.cells.2.1, HD2.out.drew.box.cells.2.2.1, HD2.out.drew.box.cells.2.2.2.1, (HD2.out.drew.box.cells.2.2.2.2).trans (by rw [HTA.out])⟩)
        clear hK K
        (try simp only [Act.put])
        refine wpAnyH_done (by kernel_rfl) ?_ _
        go_wp2_with fail
        go_meet
        first | exact ⟨_, HD5.out⟩ | exact ⟨_, HD4.out.put _⟩
      case stZ29 =>
        go_simp
        refine hK.out _ _ ?_ (fun hHeld => ?_)
        · (first | exact ⟨(HD4.out.put (.slice (some ⟨g3, 0, none⟩) (n2 + 1) c3)).box.cells.1, (HD4.out.put (.slice (some ⟨g3, 0, none⟩) (n2 + 1) c3)).box.cells.2.1, (HD4.out.put (.slice (some ⟨g3, 0, none⟩) (n2 + 1) c3)).box.cells.2.2.1, (HD4.out.put (.slice (some ⟨g3, 0, none⟩) (n2 + 1) c3)).box.cells.2.2.2.1, ((HD4.out.put (.slice (some ⟨g3, 0, none⟩) (n2 + 1) c3)).box.cells.2.2.2.2).trans (by rw [HTA.out])⟩ | exact ⟨HD5.out.box.cells.1, HD5.out.box.cells.2.1, HD5.out.box.cells.2.2.1, HD5.out.box.cells.2.2.2.1, (HD5.out.box.cells.2.2.2.2).trans (by rw [HTA.out])⟩ | exact ⟨HD4.out.box.cells.1, HD4.out.box.cells.2.1, HD4.out.box.cells.2.2.1, HD4.out.box.cells.2.2.2.1, (HD4.out.box.cells.2.2.2.2).trans (by rw [HTA.out])⟩ | exact ⟨(HD3.out.put (.slice (some ⟨g3, 0, none⟩) (n2 + 1) c3)).box.cells.1, (HD3.out.put (.slice (some ⟨g3, 0, none⟩) (n2 + 1) c3)).box.cells.2.1, (HD3.out.put (.slice (some ⟨g3, 0, none⟩) (n2 + 1) c3)).box.cells.2.2.1, (HD3.out.put (.slice (some ⟨g3, 0, none⟩) (n2 + 1) c3)).box.cells.2.2.2.1, ((HD3.out.put (.slice (some ⟨g3, 0, none⟩) (n2 + 1) c3)).box.cells.2.2.2.2).trans (by rw [HTA.out])⟩ | exact ⟨HD3.out.box.cells.1, HD3.out.box.cells.2.1, HD3.out.box.cells.2.2.1, HD3.out.box.cells.2.2.2.1, (HD3.out.box.cells.2.2.2.2).trans (by rw [HTA.out])⟩ | exact ⟨HDA.out.box.cells.1, HDA.out.box.cells.2.1, HDA.out.box.cells.2.2.1, HDA.out.box.cells.2.2.2.1, (HDA.out.box.cells.2.2.2.2).trans (by rw [HTA.out])⟩ | exact ⟨HD2.out.drew.box.cells.1, HD2.out.drew.box.cells.2.1, HD2.out.drew.box.cells.2.2.1, HD2.out.drew.box.cells.2.2.2.1, (HD2.out.drew.box.cells.2.2.2.2).trans (by rw [HTA.out])⟩)
        clear hK K
        (try simp only [Act.put])
        refine wpAnyH_ready (rs := [6]) (by kernel_rfl) (by simp) ?_
        refine AllReadyH.cons (o := ?oZ31) ?hiZ31 (fun K hK => ?stZ31) AllReadyH.nil
        case hiZ31 => (simp only [List.getElem?_toArray, List.getElem?_cons_succ, List.getElem?_cons_zero] <;> rfl)
        refine step_store_last _ rfl 25 (.tmp 18) (.tmp 14) rfl wb.heap.size 25 g3 n2 c3 (hs ++ hs2) hZ h HN2.out (HD3.out.put (.slice (some ⟨g3, 0, none⟩) (n2 + 1) c3)).own rfl (by unfold TH.v; rw [HTA.out]; rfl) infoTree5 ?_
        intro w5 ho4 hg4
        have hd4 := (HD3.out.put (.slice (some ⟨g3, 0, none⟩) (n2 + 1) c3)).grown ho4 hg4 (.inl rfl)
        have HD5 := Lib.hid hd4
        have cn4 := hd4.var.cell
        have cf4 := hd4.var.frozen 0
        clear ho4 hg4 hd4
        refine hK.out _ _ ?_ (fun hHeld => ?_)
        · (first | exact ⟨(HD4.out.put (.slice (some ⟨g3, 0, none⟩) (n2 + 1) c3)).box.cells.1, (HD4.out.put (.slice (some ⟨g3, 0, none⟩) (n2 + 1) c3)).box.cells.2.1, (HD4.out.put (.slice (some ⟨g3, 0, none⟩) (n2 + 1) c3)).box.cells.2.2.1, (HD4.out.put (.slice (some ⟨g3, 0, none⟩) (n2 + 1) c3)).box.cells.2.2.2.1, ((HD4.out.put (.slice (some ⟨g3, 0, none⟩) (n2 + 1) c3)).box.cells.2.2.2.2).trans (by rw [HTA.out])⟩ | exact ⟨HD5.out.box.cells.1, HD5.out.box.cells.2.1, HD5.out.box.cells.2.2.1, HD5.out.box.cells.2.2.2.1, (HD5.out.box.cells.2.2.2.2).trans (by rw [HTA.out])⟩ | exact ⟨HD4.out.box.cells.1, HD4.out.box.cells.2.1, HD4.out.box.cells.2.2.1, HD4.out.box.cells.2.2.2.1, (HD4.out.box.cells.2.2.2.2).trans (by rw [HTA.out])⟩ | exact ⟨(HD3.out.put (.slice (some ⟨g3, 0, none⟩) (n2 + 1) c3)).box.cells.1, (HD3.out.put (.slice (some ⟨g3, 0, none⟩) (n2 + 1) c3)).box.cells.2.1, (HD3.out.put (.slice (some ⟨g3, 0, none⟩) (n2 + 1) c3)).box.cells.2.2.1, (HD3.out.put (.slice (some ⟨g3, 0, none⟩) (n2 + 1) c3)).box.cells.2.2.2.1, ((HD3.out.put (.slice (some ⟨g3, 0, none⟩) (n2 + 1) c3)).box.cells.2.2.2.2).trans (by rw [HTA.out])⟩ | exact ⟨HD3.out.box.cells.1, HD3.out.box.cells.2.1, HD3.out.box.cells.2.2.1, HD3.out.box.cells.2.2.2.1, (HD3.out.box.cells.2.2.2.2).trans (by rw [HTA.out])⟩ | exact ⟨HDA.out.box.cells.1, HDA.out.box.cells.2.1, HDA.out.box.cells.2.2.1, HDA.out.box.cells.2.2.2.1, (HDA.out.box.cells.2.2.2.2).trans (by rw [HTA.out])⟩ | exact ⟨HD2.out.drew.box.cells.1, HD2.out.drew.box.cells.2.1, HD2.out.drew.box.cells.2.2.1, HD2.out.drew.box.cells.2.2.2.1, (HD2.out.drew.box.cells.2.2.2.2).trans (by rw [HTA.out])⟩)
        clear hK K
        (try simp only [Act.put])
        refine wpAnyH_done (by kernel_rfl) ?_ _
        go_wp2_with fail
        go_meet
        first | exact ⟨_, HD5.out⟩ | exact ⟨_, HD4.out.put _⟩
  case rest =>
    obtain ⟨v3, hd3⟩ := hcut
    have HD3 := Lib.hid hd3
    clear hd3 HD2 HD1
    have hbd1 : (hs ++ hs2 ++ [h]).length + countT t.kids[1] ≤ 1000 := by rw [List.length_append, HN2.out]; simp only [List.length_cons, List.length_nil]; omega
    clear hbd3 hbd4
    go_upto_region 4 with fail
    refine wp_region_held_drew (S := (fun W => W.cell? ⟨gc, 0, none⟩ = some (.func (.func 44) #[] #[.pointer (some ⟨gc, 0, none⟩), .pointer (some ⟨gn, 0, none⟩)]) ∧ W.cell? ⟨w.heap.size, 4, none⟩ = some (.slice (some ⟨g, off, none⟩) h.tn h.tc) ∧ W.cell? ⟨g, off + 5, none⟩ = some (.int .i64 (H 1).k) ∧ W.cell? ⟨g, off + 5 + 1, none⟩ = some (.slice (H 1).ka (H 1).kn (H 1).kc) ∧ W.cell? ⟨g, off + 5 + 2, none⟩ = some (.slice (H 1).va (H 1).vn (H 1).vc) ∧ W.cell? ⟨g, off + 5 + 3, none⟩ = some (.slice (H 1).da (H 1).dn (H 1).dc) ∧ W.cell? ⟨g, off + 5 + 4, none⟩ = some (.slice (H 1).ta (H 1).tn (H 1).tc))) (by kernel_rfl) ⟨HD3.out.drew.clo.cell, (HD3.out.drew.box.cells.2.2.2.2).trans (by rw [HTA.out]), (HP.out.below HD3.out.drew.b).kid1 HTA.out (by omega)⟩ (fun hHeld => ?_)
    refine take_w (i := 0) (oi := ?oZ7) (v := ?vZ7) ?hiZ7 (by kernel_rfl) (by kernel_rfl) (by kernel_rfl) ?hQZ7 ?hwZ7 ?hyZ7 (by assumption) ?restZ7
    case hiZ7 => (simp only [List.getElem?_toArray, List.getElem?_cons_zero] <;> rfl)
    case hQZ7 => exact (fun _ _ _ h => h)
    case hwZ7 => rfl
    case hyZ7 => (intro w hSw; (try dsimp only at hSw); go_simp; try with_reducible rfl)
    (try simp only [Act.put, List.setIfInBounds_toArray, List.set_cons_zero, List.set_cons_succ])
    refine take_w (i := 1) (oi := ?oZ8) (v := ?vZ8) ?hiZ8 (by kernel_rfl) (by kernel_rfl) (by kernel_rfl) ?hQZ8 ?hwZ8 ?hyZ8 (by assumption) ?restZ8
    case hiZ8 => (simp only [List.getElem?_toArray, List.getElem?_cons_succ, List.getElem?_cons_zero] <;> rfl)
    case hQZ8 => exact (fun _ _ _ h => h)
    case hwZ8 => rfl
    case hyZ8 => (intro w hSw; (try dsimp only at hSw); go_simp; try with_reducible rfl)
    (try simp only [Act.put, List.setIfInBounds_toArray, List.set_cons_zero, List.set_cons_succ])
    refine take_w (i := 2) (oi := ?oZ9) (v := ?vZ9) ?hiZ9 (by kernel_rfl) (by kernel_rfl) (by kernel_rfl) ?hQZ9 ?hwZ9 ?hyZ9 (by assumption) ?restZ9
    case hiZ9 => (simp only [List.getElem?_toArray, List.getElem?_cons_succ, List.getElem?_cons_zero] <;> rfl)
    case hQZ9 => exact (fun _ _ _ h => h)
    case hwZ9 => rfl
    case hyZ9 => (intro w hSw; (try dsimp only at hSw); go_simp; try with_reducible rfl)
    (try simp only [Act.put, List.setIfInBounds_toArray, List.set_cons_zero, List.set_cons_succ])
    refine take_w (i := 3) (oi := ?oZ10) (v := ?vZ10) ?hiZ10 (by kernel_rfl) (by kernel_rfl) (by kernel_rfl) ?hQZ10 ?hwZ10 ?hyZ10 (by assumption) ?restZ10
    case hiZ10 => (simp only [List.getElem?_toArray, List.getElem?_cons_succ, List.getElem?_cons_zero] <;> rfl)
    case hQZ10 => exact (fun _ _ _ h => h)
    case hwZ10 => rfl
    case hyZ10 => (intro w hSw; (try dsimp only at hSw); go_simp; try with_reducible rfl)
    (try simp only [Act.put, List.setIfInBounds_toArray, List.set_cons_zero, List.set_cons_succ])
    refine take_w (i := 4) (oi := ?oZ11) (v := ?vZ11) ?hiZ11 (by kernel_rfl) (by kernel_rfl) (by kernel_rfl) ?hQZ11 ?hwZ11 ?hyZ11 (by assumption) ?restZ11
    case hiZ11 => (simp only [List.getElem?_toArray, List.getElem?_cons_succ, List.getElem?_cons_zero] <;> rfl)
    case hQZ11 => exact (fun _ _ _ h => h)
    case hwZ11 => rfl
    case hyZ11 => (intro w hSw; (try dsimp only at hSw); go_simp; try with_reducible rfl)
    (try simp only [Act.put, List.setIfInBounds_toArray, List.set_cons_zero, List.set_cons_succ])
    refine wpAnyH_ready (rs := [5]) (by kernel_rfl) (by simp) ?_
    refine AllReadyH.cons (o := ?oZ12) ?hiZ12 (fun K hK => ?stZ12) AllReadyH.nil
    case hiZ12 => (simp only [List.getElem?_toArray, List.getElem?_cons_succ, List.getElem?_cons_zero] <;> rfl)
    go_simp
    go_at_call 44
    refine (IH.out _ (List.getElem_mem l1) (H 1) _ gc gn _ _ (HP.out.kids 1 l1) (HF.out 1 l1) hbd1 HD3.out.drew.b HD3.out.drew.ge HD3.out.drew.clo HD3.out.drew.var HD3.out.drew.own).mono ?_
    rintro _ w4 ⟨v4, hs4, rfl, hv4, ho4, hh4, hk4⟩
    have HD4 := Lib.hid (HD3.out.drew.step hv4 ho4 hk4)
    have HH4 := Lib.hid hh4
    clear hv4 ho4 hh4 hk4
    go_simp
    refine hK.out _ _ ?_ (fun hHeld => ?_)
    · (first | exact ⟨HD4.out.clo.cell, (HD4.out.box.cells.2.2.2.2).trans (by rw [HTA.out]), (HP.out.below HD4.out.b).kid1 HTA.out (by omega)⟩ | exact ⟨HD3.out.drew.clo.cell, (HD3.out.drew.box.cells.2.2.2.2).trans (by rw [HTA.out]), (HP.out.below HD3.out.drew.b).kid1 HTA.out (by omega)⟩)
    clear hK K
    (try simp only [Act.put, List.setIfInBounds_toArray, List.set_cons_zero, List.set_cons_succ])
    refine wpAnyH_done (by kernel_rfl) ?_ _
    
    clear hHeld
    go_wp2_with fail
    first | go_end0 | refine bodyPost_ret (results_none rfl _ _ _) rfl ?_
    refine ⟨v4, hs2 ++ ([h] ++ hs4), rfl, HD4.out.var, ?_, ?_, HD4.out.k⟩
    · have := HD4.out.own
      rw [List.append_assoc, List.append_assoc] at this
      exact this
    · rw [HL.out]
      exact HH2.out.app ((Heads.one HTT.out).app HH4.out)

set_option maxRecDepth 100000 in
set_option maxHeartbeats 4000000 in
theorem list_any (t : Tr) (h : TH) (w : World) (ht : InTree w h t) (hcn : countT t ≤ 1000) : Calls Tryz.prog 21 #[h.v] w (fun e w' => ∃ v hs, e = .returned v ∧ OwnT w' w.heap.size 25 v hs ∧ (checkT t = 0 → Heads w hs (listT t)) ∧ (checkT t ≠ 0 → hs = []) ∧ Below w.heap.size w w') := by
  have hmf : ∀ (fn : Fn) (first cap : Array Value) (w : World), (Instr.makeFunc fn first cap).run Tryz.prog w = .ok (.func fn first cap) w := fun _ _ _ _ => rfl
  unfold TH.v
  have hbox := Box.new w 25 h
  have HX := Lib.hid hbox
  have HT := Lib.hid ht
  obtain ⟨x0, x1, x2, x3, x4⟩ := hbox.cells
  clear hbox ht
  go_enter Tryz.func21, Tryz.ntmps21
  go_upto_region 1 with fail
  by_cases hc : checkT t = 0
  · have HCZ := Lib.hid hc
    clear hc
    go_upto_region 3 with (first
      | (go_at_call 18
         refine (check_any t h _ ?_).mono ?_
         · exact HT.out.lower ((Below.refl _ _).alloc (Nat.le_refl _) _)
         rintro _ w1 ⟨rfl, hb1⟩
         have HB1 : Hid (Below w.heap.size w w1) := Lib.hid (((Below.refl w.heap.size w).alloc (Nat.le_refl _) _).trans (hb1.mono (by simp)))
         have HX1 := Lib.hid (HX.out.below hb1 HX.out.lt)
         have hcv : codeV (checkT t) = .nilIface := by rw [HCZ.out]; rfl
         rw [hcv]
         clear hcv
         clear hb1 x0 x1 x2 x3 x4))
    have hb2 : Below w1.heap.size w1 (w1.alloc (.cells #[.slice none 0 0] 23)) := (Below.refl _ _).alloc (Nat.le_refl _) _
    have hv2 := Var1.new w1 23 (.slice none 0 0)
    have hx2 := HX1.out.below hb2 HX1.out.lt
    have hs2 : (w1.alloc (.cells #[.slice none 0 0] 23)).heap.size = w1.heap.size + 1 := by simp
    have hb3 : Below w1.heap.size w1 ((w1.alloc (.cells #[.slice none 0 0] 23)).alloc (.cells #[.nilFunc] 80)) := hb2.alloc (by rw [hs2]; omega) _
    have hba : Below (w1.alloc (.cells #[.slice none 0 0] 23)).heap.size (w1.alloc (.cells #[.slice none 0 0] 23)) ((w1.alloc (.cells #[.slice none 0 0] 23)).alloc (.cells #[.nilFunc] 80)) := (Below.refl _ _).alloc (Nat.le_refl _) _
    have hv3 := hv2.below hba hv2.lt
    have hx3 := hx2.below hba hx2.lt
    have hn3 := Var1.new (w1.alloc (.cells #[.slice none 0 0] 23)) 80 .nilFunc
    rw [hs2] at hn3
    have hsz := HB1.out.size
    clear hb2 hv2 hx2 hs2 hba
    go_upto_region 5 with fail
    generalize ((w1.alloc (.cells #[.slice none 0 0] 23)).alloc (.cells #[.nilFunc] 80)) = w2 at *
    have c0 := hn3.cell
    have c1 := hn3.frozen 0
    have hn4 := hn3.set (.func (.func 44) #[] #[.pointer (some ⟨(w1.heap.size + 1), 0, none⟩), .pointer (some ⟨w1.heap.size, 0, none⟩)])
    have hne : w.heap.size ≠ w1.heap.size + 1 := by have := HX1.out.lt; omega
    have hx4 : Box (w2.setCell ⟨w1.heap.size + 1, 0, none⟩ (.func (.func 44) #[] #[.pointer (some ⟨(w1.heap.size + 1), 0, none⟩), .pointer (some ⟨w1.heap.size, 0, none⟩)])) 25 w.heap.size h := (Below.heap_setCell w2 ⟨w1.heap.size + 1, 0, none⟩ _ w.heap.size hne).trans hx3
    have hv4 := hv3.far (p := ⟨w1.heap.size + 1, 0, none⟩) (by simp) (.func (.func 44) #[] #[.pointer (some ⟨(w1.heap.size + 1), 0, none⟩), .pointer (some ⟨w1.heap.size, 0, none⟩)])
    have hb4 : Below w1.heap.size w1 (w2.setCell ⟨w1.heap.size + 1, 0, none⟩ (.func (.func 44) #[] #[.pointer (some ⟨(w1.heap.size + 1), 0, none⟩), .pointer (some ⟨w1.heap.size, 0, none⟩)])) := hb3.setCell (by simp) _
    clear hn3 hx3 hv3 hb3 hne
    go_upto_region 6 with fail
    generalize (w2.setCell ⟨w1.heap.size + 1, 0, none⟩ (.func (.func 44) #[] #[.pointer (some ⟨(w1.heap.size + 1), 0, none⟩), .pointer (some ⟨w1.heap.size, 0, none⟩)])) = w3 at *
    obtain ⟨x0, x1, x2, x3, x4⟩ := hx4.cells
    have c2 := hn4.cell
    have HN := Lib.hid hn4
    have HV := Lib.hid hv4
    have HB4 : Hid (Below w.heap.size w w3) := Lib.hid (HB1.out.trans (hb4.mono hsz))
    have HSZ := Lib.hid hsz
    clear c0 c1 hx4 hb4 hn4 hsz hv4
    go_upto_region 7 with (first
      | (go_at_call 44
         refine (listC_any w t h _ (w1.heap.size + 1) w1.heap.size (.slice none 0 0) [] HT.out (check_zero HCZ.out).1 (by simp only [List.length_nil]; omega) HB4.out HSZ.out HN.out HV.out (OwnT.nil _ _ _)).mono ?_
         rintro _ w4 ⟨v4, hs4, rfl, hv4, ho4, hh4, hk4⟩
         have HB5 : Hid (Below w.heap.size w w4) := Lib.hid (hk4.below HB4.out HB4.out.size HSZ.out (fun k e => by cases e))
         have HO4 : Hid (OwnT w4 w.heap.size 25 v4 hs4) := Lib.hid ho4
         have HH4 := Lib.hid hh4
         have c4 := hv4.cell
         clear hv4 ho4 hh4 hk4))
    go_wp2_with fail
    go_ret
    exact ⟨v4, hs4, rfl, HO4.out, fun _ => HH4.out, fun q => absurd HCZ.out q, HB5.out⟩
  · have HCZ := Lib.hid hc
    clear hc
    go_wp2_with (first
      | (go_at_call 18
         refine (check_any t h _ ?_).mono ?_
         · exact HT.out.lower ((Below.refl _ _).alloc (Nat.le_refl _) _)
         rintro _ w1 ⟨rfl, hb1⟩
         have HB1 : Hid (Below w.heap.size w w1) := Lib.hid (((Below.refl w.heap.size w).alloc (Nat.le_refl _) _).trans (hb1.mono (by simp)))
         rw [codeV_pos HCZ.out]
         clear hb1 x0 x1 x2 x3 x4))
    go_ret
    exact ⟨_, [], rfl, OwnT.nil _ _ _, fun q => absurd q HCZ.out, fun _ => rfl, HB1.out⟩
end Go.Proofs.YtkcmohmfejmfoaaGreatDoor

/- The empty tree. No program is named here. -/
namespace Go.Proofs.YtkcmohmfejmfoaaGreatDoor
open Go.RowKit
set_option linter.unusedVariables false

/-- The empty tree, and its head. -/
def tNil : Tr := .mk 0 [] [] [] []
def hNil : TH := ⟨0, none, 0, 0, none, 0, 0, none, 0, 0, none, 0, 0⟩
theorem in_nil (w : World) : InBytes w none 0 0 [] := ⟨rfl, (fun z hz => by cases hz), Nat.le_refl _, by simp [maxLen], fun _ => rfl, fun h => by omega⟩
theorem inTree_nil (w : World) : InTree w hNil tNil :=
  .mk hNil tNil (fun _ => hNil) rfl (by decide) (by decide) (in_nil w) (in_nil w) (in_nil w) ⟨Nat.le_refl _, by simp [maxLen, hNil], fun _ => rfl, fun h => absurd h (by decide)⟩ rfl (fun i hi => absurd hi (by simp [tNil, Tr.kids]))
end Go.Proofs.YtkcmohmfejmfoaaGreatDoor

/- A partial tree does not lie in a box; leaves. No program is named here. -/
namespace Go.Proofs.YtkcmohmfejmfoaaGreatDoor
open Go.RowKit
set_option linter.unusedVariables false

theorem InTree.outBox {W W' : World} {ty : TypeId} {g : Nat} {hh : TH} (hb : Box W ty g hh) (hg : W.grownBy W' (some g)) : ∀ (t : Tr) (h : TH), formedT t = true → InTree W h t → InTree W' h t := by
  intro t
  induction t using Tr.ind with
  | h t ih =>
  intro h hf ht
  obtain ⟨hp, hk⟩ := formed_kids hf
  obtain ⟨H, hp2⟩ := ht.parts
  have hl := hp2.len
  refine .mk h _ H hp2.hk hp2.hk1 hp2.hk2 (hp2.key.outBox hb hg) (hp2.val.outBox hb hg) (hp2.dig.outBox hb hg) ⟨hp2.sl.le, hp2.sl.max, hp2.sl.nil, fun q => ?_⟩ hp2.len (fun i hi => ih _ (List.getElem_mem hi) (H i) (hk i hi) (hp2.kids i hi))
  rcases part_kids hp with ⟨h0, _⟩ | ⟨h2, _⟩
  · omega
  · obtain ⟨g', off, e, hlt, hc⟩ := hp2.sl.place q
    have hne : some g' ≠ some g := fun q => by
      injection q with q
      subst q
      have h9 := hc 9 (by omega)
      rw [cell_of_row W g' (off + 9) _ _ (0, 0) hb, Array.getElem?_eq_none (by simp)] at h9
      cases h9
    exact ⟨g', off, e, Nat.lt_of_lt_of_le hlt hg.size, fun i hi => (World.cell?_of_block (a := ⟨g', off + i, none⟩) (hg.block g' hlt hne)).trans (hc i hi)⟩
/-- A part that its digest alone tells. -/
theorem inTree_leaf {w : World} {k : Int} (hk1 : -9223372036854775808 ≤ k) (hk2 : k ≤ 9223372036854775807) {da : Option Addr} {dn dc : Nat} {dig : List Int} (h : InBytes w da dn dc dig) : InTree w ⟨k, none, 0, 0, none, 0, 0, da, dn, dc, none, 0, 0⟩ (.mk k [] [] dig []) :=
  .mk _ _ (fun _ => hNil) rfl hk1 hk2 (none_in w) (none_in w) h ⟨Nat.le_refl _, by simp [maxLen], fun _ => rfl, fun h => absurd h (by simp)⟩ rfl (fun i hi => absurd hi (by simp [Tr.kids]))
end Go.Proofs.YtkcmohmfejmfoaaGreatDoor

/- Trees that stay where a variable, a row and some boxes alone are written. -/
namespace Go.Proofs.YtkcmohmfejmfoaaGreatDoor
open Go.RowKit
set_option linter.unusedVariables false

/-- From w to W nothing was written but the variable gn, the row v, and blocks from B up to lo. -/
structure Away (B lo : Nat) (w W : World) (gn : Nat) (v : Value) : Prop where
  os : W.os = w.os
  tape : W.tape = w.tape
  output : W.output = w.output
  size : w.heap.size ≤ W.heap.size
  block : ∀ j, j < w.heap.size → j ≠ gn → some j ≠ v.ownBlock → (j < B ∨ lo ≤ j) → W.heap[j]? = w.heap[j]?
section
variable {B lo lo' : Nat} {wb w w' W : World} {gn x : Nat} {v v' : Value} {a : Option Addr} {n c : Nat} {zs : List Int} {h : TH} {t : Tr}
theorem Away.refl (w : World) (gn : Nat) (v : Value) : Away B lo w w gn v := ⟨rfl, rfl, rfl, Nat.le_refl _, fun _ _ _ _ _ => rfl⟩
theorem Away.keeps (k : Keeps w w' gn v v') (q : Away B lo w' W gn v') : Away B lo w W gn v :=
  ⟨q.os.trans k.os, q.tape.trans k.tape, q.output.trans k.output, Nat.le_trans k.size q.size, fun j h1 h2 h3 h4 => by
    rw [q.block j (Nat.lt_of_lt_of_le h1 k.size) h2 ?_ h4]
    · exact k.block j h1 h2 h3
    · rcases k.ob with e | ⟨g, e, hg⟩
      · rw [e]; exact h3
      · rw [e]
        intro q
        injection q with q
        omega⟩
theorem Away.box (hg : w.grownBy w' (some x)) (h1 : B ≤ x) (h2 : x < lo) (q : Away B lo w' W gn v) : Away B lo w W gn v :=
  ⟨q.os.trans hg.os, q.tape.trans hg.tape, q.output.trans hg.output, Nat.le_trans hg.size q.size, fun j j1 j2 j3 j4 => (q.block j (Nat.lt_of_lt_of_le j1 hg.size) j2 j3 j4).trans (hg.block j j1 (fun e => by injection e; omega))⟩
theorem Away.wide (q : Away B lo' w W gn v) (h : lo' ≤ lo) : Away B lo w W gn v :=
  ⟨q.os, q.tape, q.output, q.size, fun j j1 j2 j3 j4 => q.block j j1 j2 j3 (j4.imp id (Nat.le_trans h))⟩
theorem Away.base (q : Away wb.heap.size lo w W gn v) (hb : Below wb.heap.size wb w) (hge : wb.heap.size ≤ gn) (hv : ∀ k, v.ownBlock = some k → wb.heap.size ≤ k) : Below wb.heap.size wb W :=
  ⟨q.os.trans hb.os, q.tape.trans hb.tape, q.output.trans hb.output, Nat.le_trans hb.size q.size, fun j hj => by
    rw [q.block j (Nat.lt_of_lt_of_le hj hb.size) (by omega) ?_ (.inl hj)]
    · exact hb.block j hj
    · intro e
      have := hv j e.symm
      omega⟩
/-- Bytes that stay, whatever is written there. -/
def StayB (B lo : Nat) (w : World) (gn : Nat) (v : Value) (a : Option Addr) (n c : Nat) (zs : List Int) : Prop := ∀ W, Away B lo w W gn v → InBytes W a n c zs
/-- A tree that stays so. -/
def StayT (B lo : Nat) (w : World) (gn : Nat) (v : Value) (h : TH) (t : Tr) : Prop := ∀ W, Away B lo w W gn v → InTree W h t
theorem StayB.low (hi : InBytes wb a n c zs) (hb : Below wb.heap.size wb w) (hge : wb.heap.size ≤ gn) (hv : ∀ k, v.ownBlock = some k → wb.heap.size ≤ k) : StayB wb.heap.size lo w gn v a n c zs := fun W q => hi.below (q.base hb hge hv)
theorem StayB.new (hi : InBytes w a n c zs) (hn : ∀ y, a = some y → lo ≤ y.block ∧ y.block ≠ gn ∧ some y.block ≠ v.ownBlock) : StayB B lo w gn v a n c zs := fun W q => ⟨hi.len, hi.bytes, hi.le, hi.max, hi.nil, fun h0 => by
  obtain ⟨g, off, e, hlt, hc⟩ := hi.place h0
  obtain ⟨n0, n1, n2⟩ := hn _ e
  exact ⟨g, off, e, Nat.lt_of_lt_of_le hlt q.size, hc.keep fun o => World.cell?_of_block (a := ⟨g, o, none⟩) (q.block g hlt n1 n2 (.inr n0))⟩⟩
theorem StayT.step (f : StayT B lo w gn v h t) (k : Keeps w w' gn v v') : StayT B lo w' gn v' h t := fun W q => f W (q.keeps k)
theorem StayT.below (f : StayT B lo w gn v h t) (hb : Below w.heap.size w w') : StayT B lo w' gn v h t := f.step (Keeps.of_below gn v hb)
theorem StayT.box (f : StayT B lo w gn v h t) (hg : w.grownBy w' (some x)) (h1 : B ≤ x) (h2 : x < lo) : StayT B lo w' gn v h t := fun W q => f W (q.box hg h1 h2)
theorem StayB.box (f : StayB B lo w gn v a n c zs) (hg : w.grownBy w' (some x)) (h1 : B ≤ x) (h2 : x < lo) : StayB B lo w' gn v a n c zs := fun W q => f W (q.box hg h1 h2)
theorem StayT.wide (f : StayT B lo w gn v h t) (h1 : lo' ≤ lo) : StayT B lo' w gn v h t := fun W q => f W (q.wide h1)
theorem StayT.self (f : StayT B lo w gn v h t) : InTree w h t := f w (Away.refl w gn v)
theorem StayT.low (hi : InTree wb h t) (hb : Below wb.heap.size wb w) (hge : wb.heap.size ≤ gn) (hv : ∀ k, v.ownBlock = some k → wb.heap.size ≤ k) : StayT wb.heap.size lo w gn v h t := fun W q => hi.lower (q.base hb hge hv)
theorem StayT.leaf {k : Int} (hk1 : -9223372036854775808 ≤ k) (hk2 : k ≤ 9223372036854775807) (d : StayB B lo w gn v a n c zs) : StayT B lo w gn v ⟨k, none, 0, 0, none, 0, 0, a, n, c, none, 0, 0⟩ (.mk k [] [] zs []) := fun W q => inTree_leaf hk1 hk2 (d W q)
/-- A node over two such trees, that lie side by side in block g. -/
theorem StayT.node {g : Nat} {ty : TypeId} {h1 h2 : TH} {c1 c2 : Tr} (hx : Two5 w ty g h1 h2) (n0 : lo ≤ g) (n1 : g ≠ gn) (n2 : some g ≠ v.ownBlock) (f1 : StayT B lo w gn v h1 c1) (f2 : StayT B lo w gn v h2 c2) {k : Int} (hk1 : -9223372036854775808 ≤ k) (hk2 : k ≤ 9223372036854775807)
    {ka va da : Option Addr} {kn kc vn vc dn dc : Nat} {key val dig : List Int} (bk : StayB B lo w gn v ka kn kc key) (bv : StayB B lo w gn v va vn vc val) (bd : StayB B lo w gn v da dn dc dig) :
    StayT B lo w gn v ⟨k, ka, kn, kc, va, vn, vc, da, dn, dc, some ⟨g, 0, none⟩, 2, 2⟩ (.mk k key val dig [c1, c2]) := fun W q =>
  inTree_pair (ty := ty) ((q.block g hx.lt n1 n2 (.inr n0)).trans hx) (f1 W q) (f2 W q) hk1 hk2 (bk W q) (bv W q) (bd W q)
/-- A box that is no part of the row nor the variable. -/
structure BN (W : World) (gn : Nat) (v : Value) (x : Nat) (h : TH) : Prop where
  box : Box W 25 x h
  ne : x ≠ gn
  nb : some x ≠ v.ownBlock
theorem BN.step (f : BN w gn v x h) (k : Keeps w w' gn v v') : BN w' gn v' x h :=
  ⟨(k.block x f.box.lt f.ne f.nb).trans f.box, f.ne, by
    rcases k.ob with e | ⟨g, e, hg⟩
    · rw [e]; exact f.nb
    · rw [e]
      intro q
      injection q with q
      have := f.box.lt
      omega⟩
theorem BN.below (f : BN w gn v x h) (hb : Below w.heap.size w w') : BN w' gn v x h := f.step (Keeps.of_below gn v hb)
/-- Behind a first world a new block was written. -/
theorem Keeps.tail {w0 : World} (k : Keeps w0 w gn v v') (hg : w.grownBy w' (some x)) (hx : w0.heap.size ≤ x) : Keeps w0 w' gn v v' :=
  ⟨hg.os.trans k.os, hg.tape.trans k.tape, hg.output.trans k.output, Nat.le_trans k.size hg.size, fun j h1 h2 h3 => (hg.block j (Nat.lt_of_lt_of_le h1 k.size) (fun e => by injection e; omega)).trans (k.block j h1 h2 h3), k.ob⟩
end
end Go.Proofs.YtkcmohmfejmfoaaGreatDoor

/- What stands in memory inside a closure over a tree. -/
namespace Go.Proofs.YtkcmohmfejmfoaaGreatDoor
open Go.RowKit
set_option linter.unusedVariables false
/-- What the world is like inside a closure: its own box of a tree, the closure's variable. -/
structure KW (ty : TypeId) (v : Value) (gc : Nat) (w W : World) (h : TH) : Prop where
  box : Box W 25 w.heap.size h
  clo : Var1 W ty gc v
  b : Below w.heap.size w W
end Go.Proofs.YtkcmohmfejmfoaaGreatDoor

/- The contracts of the program's look at what tells its value, and at all parts of a tree for that. -/
namespace Go.Proofs.YtkcmohmfejmfoaaGreatDoor
open Go.RowKit
set_option linter.unusedVariables false

set_option maxRecDepth 100000 in
set_option maxHeartbeats 4000000 in
theorem isTold_any (t : Tr) (h : TH) (w : World) (ht : InTree w h t) : Calls Tryz.prog 61 #[h.v] w (Says w (.bool (toldK t))) := by
  unfold TH.v
  obtain ⟨H, hp⟩ := ht.parts
  have HK := Lib.hid hp.hk
  have hk1 := hp.hk1
  have hk2 := hp.hk2
  clear hp ht
  have hbox := Box.new w 25 h
  obtain ⟨x0, x1, x2, x3, x4⟩ := hbox.cells
  clear hbox
  have hw1 : Below w.heap.size w (w.alloc (.cells #[.int .i64 h.k, .slice h.ka h.kn h.kc, .slice h.va h.vn h.vc, .slice h.da h.dn h.dc, .slice h.ta h.tn h.tc] 25)) := (Below.refl _ _).alloc (Nat.le_refl _) _
  have HB := Lib.hid hw1
  clear hw1
  go_enter Tryz.func61, Tryz.ntmps61
  cases f1 : (h.k == 2)
  · have f2 : (h.k != 2) = true := by rw [bne, f1]; rfl
    go_wp2_with fail
    go_ret
    refine ⟨?_, HB.out⟩
    unfold toldK
    rw [← HK.out, f2]
    rfl
  · have f2 : (h.k != 2) = false := by rw [bne, f1]; rfl
    go_wp2_with fail
    go_ret
    refine ⟨?_, HB.out⟩
    unfold toldK
    rw [← HK.out, f2]
    rfl

set_option maxRecDepth 100000 in
set_option maxHeartbeats 4000000 in
theorem everyToldC : ∀ (t : Tr) (h : TH) (w : World) (gp ga : Nat), InTree w h t → Var1 w 27 gp (.func (.func 61) #[] #[]) → Var1 w 27 ga (.func (.func 69) #[] #[.pointer (some ⟨gp, 0, none⟩), .pointer (some ⟨ga, 0, none⟩)]) →
    Calls Tryz.prog 69 #[h.v, .pointer (some ⟨gp, 0, none⟩), .pointer (some ⟨ga, 0, none⟩)] w (Says w (.bool (allT toldK t))) := by
  intro t
  induction t using Tr.ind with
  | h t ih =>
  intro h w gp ga ht hpv hcl
  unfold TH.v
  obtain ⟨H, hp⟩ := ht.parts
  have htl := hp.len
  have htc := hp.sl.le
  have htm := Nat.le_trans hp.sl.le hp.sl.max
  simp only [maxLen] at htm
  have HP := Lib.hid hp
  have HTT := Lib.hid ht
  have IH := Lib.hid ih
  have hbox := Box.new w 25 h
  have HX := Lib.hid hbox
  obtain ⟨x0, x1, x2, x3, x4⟩ := hbox.cells
  have hw1 : Below w.heap.size w (w.alloc (.cells #[.int .i64 h.k, .slice h.ka h.kn h.kc, .slice h.va h.vn h.vc, .slice h.da h.dn h.dc, .slice h.ta h.tn h.tc] 25)) := (Below.refl _ _).alloc (Nat.le_refl _) _
  have HB := Lib.hid hw1
  have hpv1 := hpv.below hw1 hpv.lt
  have HCL1 := Lib.hid (hcl.below hw1 hcl.lt)
  have HPV1 := Lib.hid hpv1
  have xp := hpv1.cell
  skip
  clear hp ht ih hcl hpv hpv1 hw1 hbox
  go_enter Tryz.func69, Tryz.ntmps69
  go_upto_if 10 with (first
    | (go_at_call 61
       refine (isTold_any t h _ (HTT.out.lower HB.out)).mono ?_
       rintro _ w1 ⟨rfl, hb1⟩
       have HB1 : Hid (Below w.heap.size w w1) := Lib.hid (HB.out.trans (hb1.mono HB.out.size))
       have HX1 := Lib.hid (HX.out.below hb1 HX.out.lt)
       have HCL2 := Lib.hid (HCL1.out.below hb1 HCL1.out.lt)
       have HPV2 := Lib.hid (HPV1.out.below hb1 HPV1.out.lt)
       skip
       generalize hr : toldK t = r
       have HR := Lib.hid hr
       clear hb1 hr))
  clear x0 x1 x2 x3 x4 xp HX HB HCL1 HPV1
  cases r
  · go_wp2_with fail
    go_ret
    have e : allT toldK t = false := by rw [allT_eq, HR.out]; rfl
    exact ⟨by rw [e]; rfl, HB1.out⟩
  simp only [Bool.not_true]
  have x4 := HX1.out.cells.2.2.2.2
  go_wp2_with fail
  clear x4 HX1
  go_loopw [14] (fun s14 wx => ∃ i : Nat, i ≤ h.tn ∧ s14 = .int .i64 i ∧ Var1 wx 27 gp (.func (.func 61) #[] #[]) ∧ Var1 wx 27 ga (.func (.func 69) #[] #[.pointer (some ⟨gp, 0, none⟩), .pointer (some ⟨ga, 0, none⟩)]) ∧ Below w.heap.size w wx ∧ (t.kids.take i).all (allT toldK) = true) (fun s14 _ => h.tn - (intOf s14).toNat)
  case atStart => exact ⟨0, by omega, rfl, HPV2.out, HCL2.out, HB1.out, by simp⟩
  case round =>
    clear HCL2 HB1 HPV2
    obtain ⟨i, hi, rfl, hpv, hcl, hbw, hall⟩ := hrel
    have hcc := hcl.cell
    have HC := Lib.hid hcl
    have HV := Lib.hid hpv
    have HBW := Lib.hid hbw
    have HA := Lib.hid hall
    skip
    clear hcl hbw hall hpv
    by_cases hlt : i < h.tn
    · have q1 : (i : Int) < (h.tn : Int) := by omega
      obtain ⟨g, off, hta, hg, hcs⟩ := (HP.out.below HBW.out).place (by omega)
      obtain ⟨k0, k1, k2, k3, k4⟩ := hcs i hlt
      have him : i < t.kids.length := by omega
      clear hcs
      rw [hta]
      go_upto_region 6 with fail
      have b2 : Below wr.heap.size wr (wr.alloc (.cells #[.int .i64 (H i).k, .slice (H i).ka (H i).kn (H i).kc, .slice (H i).va (H i).vn (H i).vc, .slice (H i).da (H i).dn (H i).dc, .slice (H i).ta (H i).tn (H i).tc] 25)) := (Below.refl _ _).alloc (Nat.le_refl _) _
      have bx := Box.new wr 25 (H i)
      generalize (wr.alloc (.cells #[.int .i64 (H i).k, .slice (H i).ka (H i).kn (H i).kc, .slice (H i).va (H i).vn (H i).vc, .slice (H i).da (H i).dn (H i).dc, .slice (H i).ta (H i).tn (H i).tc] 25)) = w2 at *
      have HB2 : Hid (Below w.heap.size w w2) := Lib.hid (HBW.out.trans (b2.mono HBW.out.size))
      have HC2 := Lib.hid (HC.out.below b2 HC.out.lt)
      have HV2 := Lib.hid (HV.out.below b2 HV.out.lt)
      skip
      have hc2 := HC2.out.cell
      obtain ⟨y0, y1, y2, y3, y4⟩ := bx.cells
      clear b2 bx k0 k1 k2 k3 k4 hcc
      go_upto_if 21 with (first
        | (go_at_call 69
           refine (IH.out _ (List.getElem_mem him) (H i) _ gp ga ((HP.out.below HB2.out).kids i him) HV2.out HC2.out).mono ?_
           rintro _ w3 ⟨rfl, hb3⟩
           have HB3 : Hid (Below w.heap.size w w3) := Lib.hid (HB2.out.trans (hb3.mono HB2.out.size))
           have HC3 := Lib.hid (HC2.out.below hb3 HC2.out.lt)
           have HV3 := Lib.hid (HV2.out.below hb3 HV2.out.lt)
           skip
           generalize hr : allT toldK t.kids[i] = q
           have HQ := Lib.hid hr
           clear hb3 hr))
      clear y0 y1 y2 y3 y4 hc2
      cases q
      · go_wp2_with fail
        go_ret
        have e : allT toldK t = false := by rw [allT_eq, all_not i him HQ.out, Bool.and_false]
        exact ⟨by rw [e]; rfl, HB3.out⟩
      · clear hta
        go_wp2_with fail
        exact ⟨⟨i + 1, by omega, by go_num, HV3.out, HC3.out, HB3.out, by rw [all_take _ _ i him, HA.out, HQ.out]; rfl⟩, by simp [intOf]; omega⟩
    · obtain rfl : i = h.tn := by omega
      have q1 : ¬ (h.tn : Int) < (h.tn : Int) := by omega
      go_wp2_with fail
      go_ret
      have hA := HA.out
      rw [List.take_of_length_le (by omega)] at hA
      have e : allT toldK t = true := by rw [allT_eq, HR.out, hA]; rfl
      exact ⟨by rw [e]; rfl, HBW.out⟩
set_option maxRecDepth 100000 in
set_option maxHeartbeats 4000000 in
theorem everyTold (t : Tr) (h : TH) (w : World) (ht : InTree w h t) : Calls Tryz.prog 40 #[h.v, .func (.func 61) #[] #[]] w (Says w (.bool (allT toldK t))) := by
  have hmf : ∀ (fn : Fn) (first cap : Array Value) (w : World), (Instr.makeFunc fn first cap).run Tryz.prog w = .ok (.func fn first cap) w := fun _ _ _ _ => rfl
  unfold TH.v
  have HTT := Lib.hid ht
  clear ht
  go_enter Tryz.func40, Tryz.ntmps40
  have hbw1 : Below w.heap.size w (w.alloc (.cells #[.int .i64 h.k, .slice h.ka h.kn h.kc, .slice h.va h.vn h.vc, .slice h.da h.dn h.dc, .slice h.ta h.tn h.tc] 25)) := (Below.refl _ _).alloc (Nat.le_refl _) _
  have hbx1 := Box.new w 25 h
  have e1 : (w.alloc (.cells #[.int .i64 h.k, .slice h.ka h.kn h.kc, .slice h.va h.vn h.vc, .slice h.da h.dn h.dc, .slice h.ta h.tn h.tc] 25)).heap.size = w.heap.size + 1 := by simp
  have hbw2 : Below w.heap.size w ((w.alloc (.cells #[.int .i64 h.k, .slice h.ka h.kn h.kc, .slice h.va h.vn h.vc, .slice h.da h.dn h.dc, .slice h.ta h.tn h.tc] 25)).alloc (.cells #[.func (.func 61) #[] #[]] 27)) := hbw1.alloc (by rw [e1]; omega) _
  have hbx2 := hbx1.below ((Below.refl _ _).alloc (Nat.le_refl _) (.cells #[.func (.func 61) #[] #[]] 27)) hbx1.lt
  have hpv2 := Var1.new (w.alloc (.cells #[.int .i64 h.k, .slice h.ka h.kn h.kc, .slice h.va h.vn h.vc, .slice h.da h.dn h.dc, .slice h.ta h.tn h.tc] 25)) 27 (.func (.func 61) #[] #[])
  have e2 : ((w.alloc (.cells #[.int .i64 h.k, .slice h.ka h.kn h.kc, .slice h.va h.vn h.vc, .slice h.da h.dn h.dc, .slice h.ta h.tn h.tc] 25)).alloc (.cells #[.func (.func 61) #[] #[]] 27)).heap.size = w.heap.size + 2 := by simp
  have hbw3 : Below w.heap.size w (((w.alloc (.cells #[.int .i64 h.k, .slice h.ka h.kn h.kc, .slice h.va h.vn h.vc, .slice h.da h.dn h.dc, .slice h.ta h.tn h.tc] 25)).alloc (.cells #[.func (.func 61) #[] #[]] 27)).alloc (.cells #[.nilFunc] 27)) := hbw2.alloc (by rw [e2]; omega) _
  have hbx3 := hbx2.below ((Below.refl _ _).alloc (Nat.le_refl _) (.cells #[.nilFunc] 27)) hbx2.lt
  have hpv3 := hpv2.below ((Below.refl _ _).alloc (Nat.le_refl _) (.cells #[.nilFunc] 27)) hpv2.lt
  have hnf := Var1.new ((w.alloc (.cells #[.int .i64 h.k, .slice h.ka h.kn h.kc, .slice h.va h.vn h.vc, .slice h.da h.dn h.dc, .slice h.ta h.tn h.tc] 25)).alloc (.cells #[.func (.func 61) #[] #[]] 27)) 27 .nilFunc
  rw [e2] at hnf
  rw [e1] at hpv3
  clear hbw1 hbx1 e1 hbw2 hbx2 hpv2 e2
  go_upto_region 2 with fail
  generalize (((w.alloc (.cells #[.int .i64 h.k, .slice h.ka h.kn h.kc, .slice h.va h.vn h.vc, .slice h.da h.dn h.dc, .slice h.ta h.tn h.tc] 25)).alloc (.cells #[.func (.func 61) #[] #[]] 27)).alloc (.cells #[.nilFunc] 27)) = w2 at *
  have c0 := hnf.cell
  have c1 := hnf.frozen 0
  have hn4 := hnf.set (.func (.func 69) #[] #[.pointer (some ⟨w.heap.size + 1, 0, none⟩), .pointer (some ⟨w.heap.size + 2, 0, none⟩)])
  have hbx4 : Box (w2.setCell ⟨w.heap.size + 2, 0, none⟩ (.func (.func 69) #[] #[.pointer (some ⟨w.heap.size + 1, 0, none⟩), .pointer (some ⟨w.heap.size + 2, 0, none⟩)])) 25 w.heap.size h := (Below.heap_setCell w2 ⟨w.heap.size + 2, 0, none⟩ _ w.heap.size (by simp)).trans hbx3
  have hpv4 := hpv3.far (p := ⟨w.heap.size + 2, 0, none⟩) (by simp) (.func (.func 69) #[] #[.pointer (some ⟨w.heap.size + 1, 0, none⟩), .pointer (some ⟨w.heap.size + 2, 0, none⟩)])
  have hb4 : Below w.heap.size w (w2.setCell ⟨w.heap.size + 2, 0, none⟩ (.func (.func 69) #[] #[.pointer (some ⟨w.heap.size + 1, 0, none⟩), .pointer (some ⟨w.heap.size + 2, 0, none⟩)])) := hbw3.setCell (by simp) _
  clear hnf hbx3 hpv3 hbw3
  go_upto_region 3 with fail
  generalize (w2.setCell ⟨w.heap.size + 2, 0, none⟩ (.func (.func 69) #[] #[.pointer (some ⟨w.heap.size + 1, 0, none⟩), .pointer (some ⟨w.heap.size + 2, 0, none⟩)])) = w3 at *
  obtain ⟨x0, x1, x2, x3, x4⟩ := hbx4.cells
  have c2 := hn4.cell
  have HN := Lib.hid hn4
  have HPV := Lib.hid hpv4
  have HB3 := Lib.hid hb4
  skip
  clear c0 c1 hbx4 hb4 hpv4 hn4
  go_wp2_with (first
    | (go_at_call 69
       refine (everyToldC t h _ (w.heap.size + 1) (w.heap.size + 2) (HTT.out.lower HB3.out) HPV.out HN.out).mono ?_
       rintro _ w4 ⟨rfl, hb4⟩
       have HB4 : Hid (Below w.heap.size w w4) := Lib.hid (HB3.out.trans (hb4.mono HB3.out.size))
       clear hb4))
  go_ret
  exact ⟨rfl, HB4.out⟩
end Go.Proofs.YtkcmohmfejmfoaaGreatDoor

/- The contracts of the program's look at the widths of a tree's digests. -/
namespace Go.Proofs.YtkcmohmfejmfoaaGreatDoor
open Go.RowKit
set_option linter.unusedVariables false

set_option maxRecDepth 100000 in
set_option maxHeartbeats 4000000 in
theorem fits_any (k : Nat) (t : Tr) (h : TH) (w : World) (gw : Nat) (ht : InTree w h t) (hv : Var1 w 3 gw (.int .i64 k)) : Calls Tryz.prog 60 #[h.v, .pointer (some ⟨gw, 0, none⟩)] w (Says w (.bool (fitsK k t))) := by
  unfold TH.v
  obtain ⟨H, hp⟩ := ht.parts
  have HDL := Lib.hid hp.dig.len
  have HTT := Lib.hid ht
  clear hp ht
  have hbox := Box.new w 25 h
  have HX := Lib.hid hbox
  obtain ⟨x0, x1, x2, x3, x4⟩ := hbox.cells
  clear hbox
  have hw1 : Below w.heap.size w (w.alloc (.cells #[.int .i64 h.k, .slice h.ka h.kn h.kc, .slice h.va h.vn h.vc, .slice h.da h.dn h.dc, .slice h.ta h.tn h.tc] 25)) := (Below.refl _ _).alloc (Nat.le_refl _) _
  have HV1 := Lib.hid (hv.below hw1 hv.lt)
  have HB := Lib.hid hw1
  clear hw1 hv
  go_enter Tryz.func60, Tryz.ntmps60
  cases hr : toldK t
  all_goals
    have HR := Lib.hid hr
    clear hr
    go_wp2_with (first
      | (go_at_call 61
         refine (isTold_any t h _ (HTT.out.lower HB.out)).mono ?_
         rintro _ w1 ⟨rfl, hb1⟩
         rw [HR.out]
         have HB1 : Hid (Below w.heap.size w w1) := Lib.hid (HB.out.trans (hb1.mono HB.out.size))
         have hx1 := HX.out.below hb1 HX.out.lt
         obtain ⟨y0, y1, y2, y3, y4⟩ := hx1.cells
         have yv := (HV1.out.below hb1 HV1.out.lt).cell
         clear hb1 hx1 x0 x1 x2 x3 x4))
    go_ret
    refine ⟨?_, HB1.out⟩
    unfold fitsK
    rw [HR.out]
  · have e : decide (t.dig.length = k) = ((h.dn : Int) == (k : Int)) := by rw [HDL.out, Bool.eq_iff_iff]; simp; omega
    rw [e]
    rfl
  · rfl

set_option maxRecDepth 100000 in
set_option maxHeartbeats 4000000 in
theorem everyFitsC (k : Nat) (gw : Nat) : ∀ (t : Tr) (h : TH) (w : World) (gp ga : Nat), InTree w h t → Var1 w 3 gw (.int .i64 k) → Var1 w 27 gp (.func (.func 60) #[] #[.pointer (some ⟨gw, 0, none⟩)]) → Var1 w 27 ga (.func (.func 69) #[] #[.pointer (some ⟨gp, 0, none⟩), .pointer (some ⟨ga, 0, none⟩)]) →
    Calls Tryz.prog 69 #[h.v, .pointer (some ⟨gp, 0, none⟩), .pointer (some ⟨ga, 0, none⟩)] w (Says w (.bool (allT (fitsK k) t))) := by
  intro t
  induction t using Tr.ind with
  | h t ih =>
  intro h w gp ga ht hR hpv hcl
  unfold TH.v
  obtain ⟨H, hp⟩ := ht.parts
  have htl := hp.len
  have htc := hp.sl.le
  have htm := Nat.le_trans hp.sl.le hp.sl.max
  simp only [maxLen] at htm
  have HP := Lib.hid hp
  have HTT := Lib.hid ht
  have IH := Lib.hid ih
  have hbox := Box.new w 25 h
  have HX := Lib.hid hbox
  obtain ⟨x0, x1, x2, x3, x4⟩ := hbox.cells
  have hw1 : Below w.heap.size w (w.alloc (.cells #[.int .i64 h.k, .slice h.ka h.kn h.kc, .slice h.va h.vn h.vc, .slice h.da h.dn h.dc, .slice h.ta h.tn h.tc] 25)) := (Below.refl _ _).alloc (Nat.le_refl _) _
  have HB := Lib.hid hw1
  have hpv1 := hpv.below hw1 hpv.lt
  have HCL1 := Lib.hid (hcl.below hw1 hcl.lt)
  have HPV1 := Lib.hid hpv1
  have xp := hpv1.cell
  have HR1 := Lib.hid (hR.below hw1 hR.lt)
  clear hp ht ih hcl hpv hpv1 hw1 hbox hR
  go_enter Tryz.func69, Tryz.ntmps69
  go_upto_if 10 with (first
    | (go_at_call 60
       refine (fits_any k t h _ gw (HTT.out.lower HB.out) HR1.out).mono ?_
       rintro _ w1 ⟨rfl, hb1⟩
       have HB1 : Hid (Below w.heap.size w w1) := Lib.hid (HB.out.trans (hb1.mono HB.out.size))
       have HX1 := Lib.hid (HX.out.below hb1 HX.out.lt)
       have HCL2 := Lib.hid (HCL1.out.below hb1 HCL1.out.lt)
       have HPV2 := Lib.hid (HPV1.out.below hb1 HPV1.out.lt)
       have HR2 := Lib.hid (HR1.out.below hb1 HR1.out.lt)
       generalize hr : (fitsK k) t = r
       have HR := Lib.hid hr
       clear hb1 hr))
  clear x0 x1 x2 x3 x4 xp HX HB HCL1 HPV1 HR1
  cases r
  · go_wp2_with fail
    go_ret
    have e : allT (fitsK k) t = false := by rw [allT_eq, HR.out]; rfl
    exact ⟨by rw [e]; rfl, HB1.out⟩
  simp only [Bool.not_true]
  have x4 := HX1.out.cells.2.2.2.2
  go_wp2_with fail
  clear x4 HX1
  go_loopw [14] (fun s14 wx => ∃ i : Nat, i ≤ h.tn ∧ s14 = .int .i64 i ∧ Var1 wx 3 gw (.int .i64 k) ∧ Var1 wx 27 gp (.func (.func 60) #[] #[.pointer (some ⟨gw, 0, none⟩)]) ∧ Var1 wx 27 ga (.func (.func 69) #[] #[.pointer (some ⟨gp, 0, none⟩), .pointer (some ⟨ga, 0, none⟩)]) ∧ Below w.heap.size w wx ∧ (t.kids.take i).all (allT (fitsK k)) = true) (fun s14 _ => h.tn - (intOf s14).toNat)
  case atStart => exact ⟨0, by omega, rfl, HR2.out, HPV2.out, HCL2.out, HB1.out, by simp⟩
  case round =>
    clear HCL2 HB1 HPV2 HR2
    obtain ⟨i, hi, rfl, hR, hpv, hcl, hbw, hall⟩ := hrel
    have hcc := hcl.cell
    have HC := Lib.hid hcl
    have HV := Lib.hid hpv
    have HBW := Lib.hid hbw
    have HA := Lib.hid hall
    have HRR := Lib.hid hR
    clear hcl hbw hall hpv hR
    by_cases hlt : i < h.tn
    · have q1 : (i : Int) < (h.tn : Int) := by omega
      obtain ⟨g, off, hta, hg, hcs⟩ := (HP.out.below HBW.out).place (by omega)
      obtain ⟨k0, k1, k2, k3, k4⟩ := hcs i hlt
      have him : i < t.kids.length := by omega
      clear hcs
      rw [hta]
      go_upto_region 6 with fail
      have b2 : Below wr.heap.size wr (wr.alloc (.cells #[.int .i64 (H i).k, .slice (H i).ka (H i).kn (H i).kc, .slice (H i).va (H i).vn (H i).vc, .slice (H i).da (H i).dn (H i).dc, .slice (H i).ta (H i).tn (H i).tc] 25)) := (Below.refl _ _).alloc (Nat.le_refl _) _
      have bx := Box.new wr 25 (H i)
      generalize (wr.alloc (.cells #[.int .i64 (H i).k, .slice (H i).ka (H i).kn (H i).kc, .slice (H i).va (H i).vn (H i).vc, .slice (H i).da (H i).dn (H i).dc, .slice (H i).ta (H i).tn (H i).tc] 25)) = w2 at *
      have HB2 : Hid (Below w.heap.size w w2) := Lib.hid (HBW.out.trans (b2.mono HBW.out.size))
      have HC2 := Lib.hid (HC.out.below b2 HC.out.lt)
      have HV2 := Lib.hid (HV.out.below b2 HV.out.lt)
      have HRR2 := Lib.hid (HRR.out.below b2 HRR.out.lt)
      have hc2 := HC2.out.cell
      obtain ⟨y0, y1, y2, y3, y4⟩ := bx.cells
      clear b2 bx k0 k1 k2 k3 k4 hcc
      go_upto_if 21 with (first
        | (go_at_call 69
           refine (IH.out _ (List.getElem_mem him) (H i) _ gp ga ((HP.out.below HB2.out).kids i him) HRR2.out HV2.out HC2.out).mono ?_
           rintro _ w3 ⟨rfl, hb3⟩
           have HB3 : Hid (Below w.heap.size w w3) := Lib.hid (HB2.out.trans (hb3.mono HB2.out.size))
           have HC3 := Lib.hid (HC2.out.below hb3 HC2.out.lt)
           have HV3 := Lib.hid (HV2.out.below hb3 HV2.out.lt)
           have HRR3 := Lib.hid (HRR2.out.below hb3 HRR2.out.lt)
           generalize hr : allT (fitsK k) t.kids[i] = q
           have HQ := Lib.hid hr
           clear hb3 hr))
      clear y0 y1 y2 y3 y4 hc2
      cases q
      · go_wp2_with fail
        go_ret
        have e : allT (fitsK k) t = false := by rw [allT_eq, all_not i him HQ.out, Bool.and_false]
        exact ⟨by rw [e]; rfl, HB3.out⟩
      · clear hta
        go_wp2_with fail
        exact ⟨⟨i + 1, by omega, by go_num, HRR3.out, HV3.out, HC3.out, HB3.out, by rw [all_take _ _ i him, HA.out, HQ.out]; rfl⟩, by simp [intOf]; omega⟩
    · obtain rfl : i = h.tn := by omega
      have q1 : ¬ (h.tn : Int) < (h.tn : Int) := by omega
      go_wp2_with fail
      go_ret
      have hA := HA.out
      rw [List.take_of_length_le (by omega)] at hA
      have e : allT (fitsK k) t = true := by rw [allT_eq, HR.out, hA]; rfl
      exact ⟨by rw [e]; rfl, HBW.out⟩
set_option maxRecDepth 100000 in
set_option maxHeartbeats 4000000 in
theorem everyFits (k : Nat) (gw : Nat) (t : Tr) (h : TH) (w : World) (ht : InTree w h t) (hR : Var1 w 3 gw (.int .i64 k)) : Calls Tryz.prog 40 #[h.v, .func (.func 60) #[] #[.pointer (some ⟨gw, 0, none⟩)]] w (Says w (.bool (allT (fitsK k) t))) := by
  have hmf : ∀ (fn : Fn) (first cap : Array Value) (w : World), (Instr.makeFunc fn first cap).run Tryz.prog w = .ok (.func fn first cap) w := fun _ _ _ _ => rfl
  unfold TH.v
  have HTT := Lib.hid ht
  clear ht
  go_enter Tryz.func40, Tryz.ntmps40
  have hbw1 : Below w.heap.size w (w.alloc (.cells #[.int .i64 h.k, .slice h.ka h.kn h.kc, .slice h.va h.vn h.vc, .slice h.da h.dn h.dc, .slice h.ta h.tn h.tc] 25)) := (Below.refl _ _).alloc (Nat.le_refl _) _
  have hbx1 := Box.new w 25 h
  have e1 : (w.alloc (.cells #[.int .i64 h.k, .slice h.ka h.kn h.kc, .slice h.va h.vn h.vc, .slice h.da h.dn h.dc, .slice h.ta h.tn h.tc] 25)).heap.size = w.heap.size + 1 := by simp
  have hbw2 : Below w.heap.size w ((w.alloc (.cells #[.int .i64 h.k, .slice h.ka h.kn h.kc, .slice h.va h.vn h.vc, .slice h.da h.dn h.dc, .slice h.ta h.tn h.tc] 25)).alloc (.cells #[.func (.func 60) #[] #[.pointer (some ⟨gw, 0, none⟩)]] 27)) := hbw1.alloc (by rw [e1]; omega) _
  have hbx2 := hbx1.below ((Below.refl _ _).alloc (Nat.le_refl _) (.cells #[.func (.func 60) #[] #[.pointer (some ⟨gw, 0, none⟩)]] 27)) hbx1.lt
  have hpv2 := Var1.new (w.alloc (.cells #[.int .i64 h.k, .slice h.ka h.kn h.kc, .slice h.va h.vn h.vc, .slice h.da h.dn h.dc, .slice h.ta h.tn h.tc] 25)) 27 (.func (.func 60) #[] #[.pointer (some ⟨gw, 0, none⟩)])
  have e2 : ((w.alloc (.cells #[.int .i64 h.k, .slice h.ka h.kn h.kc, .slice h.va h.vn h.vc, .slice h.da h.dn h.dc, .slice h.ta h.tn h.tc] 25)).alloc (.cells #[.func (.func 60) #[] #[.pointer (some ⟨gw, 0, none⟩)]] 27)).heap.size = w.heap.size + 2 := by simp
  have hbw3 : Below w.heap.size w (((w.alloc (.cells #[.int .i64 h.k, .slice h.ka h.kn h.kc, .slice h.va h.vn h.vc, .slice h.da h.dn h.dc, .slice h.ta h.tn h.tc] 25)).alloc (.cells #[.func (.func 60) #[] #[.pointer (some ⟨gw, 0, none⟩)]] 27)).alloc (.cells #[.nilFunc] 27)) := hbw2.alloc (by rw [e2]; omega) _
  have hbx3 := hbx2.below ((Below.refl _ _).alloc (Nat.le_refl _) (.cells #[.nilFunc] 27)) hbx2.lt
  have hpv3 := hpv2.below ((Below.refl _ _).alloc (Nat.le_refl _) (.cells #[.nilFunc] 27)) hpv2.lt
  have hnf := Var1.new ((w.alloc (.cells #[.int .i64 h.k, .slice h.ka h.kn h.kc, .slice h.va h.vn h.vc, .slice h.da h.dn h.dc, .slice h.ta h.tn h.tc] 25)).alloc (.cells #[.func (.func 60) #[] #[.pointer (some ⟨gw, 0, none⟩)]] 27)) 27 .nilFunc
  rw [e2] at hnf
  rw [e1] at hpv3
  clear hbw1 hbx1 e1 hbw2 hbx2 hpv2 e2
  go_upto_region 2 with fail
  generalize (((w.alloc (.cells #[.int .i64 h.k, .slice h.ka h.kn h.kc, .slice h.va h.vn h.vc, .slice h.da h.dn h.dc, .slice h.ta h.tn h.tc] 25)).alloc (.cells #[.func (.func 60) #[] #[.pointer (some ⟨gw, 0, none⟩)]] 27)).alloc (.cells #[.nilFunc] 27)) = w2 at *
  have c0 := hnf.cell
  have c1 := hnf.frozen 0
  have hn4 := hnf.set (.func (.func 69) #[] #[.pointer (some ⟨w.heap.size + 1, 0, none⟩), .pointer (some ⟨w.heap.size + 2, 0, none⟩)])
  have hbx4 : Box (w2.setCell ⟨w.heap.size + 2, 0, none⟩ (.func (.func 69) #[] #[.pointer (some ⟨w.heap.size + 1, 0, none⟩), .pointer (some ⟨w.heap.size + 2, 0, none⟩)])) 25 w.heap.size h := (Below.heap_setCell w2 ⟨w.heap.size + 2, 0, none⟩ _ w.heap.size (by simp)).trans hbx3
  have hpv4 := hpv3.far (p := ⟨w.heap.size + 2, 0, none⟩) (by simp) (.func (.func 69) #[] #[.pointer (some ⟨w.heap.size + 1, 0, none⟩), .pointer (some ⟨w.heap.size + 2, 0, none⟩)])
  have hb4 : Below w.heap.size w (w2.setCell ⟨w.heap.size + 2, 0, none⟩ (.func (.func 69) #[] #[.pointer (some ⟨w.heap.size + 1, 0, none⟩), .pointer (some ⟨w.heap.size + 2, 0, none⟩)])) := hbw3.setCell (by simp) _
  clear hnf hbx3 hpv3 hbw3
  go_upto_region 3 with fail
  generalize (w2.setCell ⟨w.heap.size + 2, 0, none⟩ (.func (.func 69) #[] #[.pointer (some ⟨w.heap.size + 1, 0, none⟩), .pointer (some ⟨w.heap.size + 2, 0, none⟩)])) = w3 at *
  obtain ⟨x0, x1, x2, x3, x4⟩ := hbx4.cells
  have c2 := hn4.cell
  have HN := Lib.hid hn4
  have HPV := Lib.hid hpv4
  have HB3 := Lib.hid hb4
  have HR := Lib.hid (hR.below hb4 hR.lt)
  clear c0 c1 hbx4 hb4 hpv4 hn4 hR
  go_wp2_with (first
    | (go_at_call 69
       refine (everyFitsC k gw t h _ (w.heap.size + 1) (w.heap.size + 2) (HTT.out.lower HB3.out) HR.out HPV.out HN.out).mono ?_
       rintro _ w4 ⟨rfl, hb4⟩
       have HB4 : Hid (Below w.heap.size w w4) := Lib.hid (HB3.out.trans (hb4.mono HB3.out.size))
       clear hb4))
  go_ret
  exact ⟨rfl, HB4.out⟩
end Go.Proofs.YtkcmohmfejmfoaaGreatDoor

/- Plain facts on a number's bytes: written, and read again. No program is named here. -/
namespace Go.Proofs.YtkcmohmfejmfoaaGreatDoor
set_option linter.unusedVariables false

/-- How many bytes a number has. -/
def nd (v : Nat) : Nat := if h : v = 0 then 0 else nd (v / 256) + 1
termination_by v
decreasing_by omega
/-- The k lowest bytes of a number, the highest first. -/
def be : Nat → Nat → List Int
  | 0, _ => []
  | k + 1, v => ((v / 256 ^ k % 256 : Nat) : Int) :: be k v
/-- A number's bytes, by the document. -/
def numL (v : Nat) : List Int := if v < 248 then [(v : Int)] else ((247 + nd v : Nat) : Int) :: be (nd v) v
/-- The number that bytes tell. -/
def val (l : List Int) : Nat := l.foldl (fun a x => 256 * a + x.toNat) 0
/-- Bytes with their length in front, by the document. -/
def bytL (bs : List Int) : List Int := numL bs.length ++ bs

theorem nd_zero : nd 0 = 0 := by unfold nd; simp
theorem nd_pos {v : Nat} (h : 0 < v) : nd v = nd (v / 256) + 1 := by
  rw [nd, dif_neg (by omega)]
theorem nd_lt (v : Nat) : v < 256 ^ nd v := by
  induction v using Nat.strongRecOn with
  | ind v ih =>
    by_cases h : v = 0
    · subst h; simp [nd_zero]
    · rw [nd_pos (by omega), Nat.pow_succ]
      have := ih (v / 256) (by omega)
      omega
theorem nd_ge {v : Nat} (h : 0 < v) : 256 ^ (nd v - 1) ≤ v := by
  induction v using Nat.strongRecOn with
  | ind v ih =>
    rw [nd_pos h]
    by_cases h1 : v / 256 = 0
    · rw [h1, nd_zero]; simp; omega
    · have h2 := ih (v / 256) (by omega) (by omega)
      have h3 : nd (v / 256) = nd (v / 256) - 1 + 1 := by rw [nd_pos (by omega)]; rfl
      rw [Nat.add_sub_cancel, h3, Nat.pow_succ]
      omega
theorem nd_le {v k : Nat} (h : v < 256 ^ k) : nd v ≤ k := by
  rcases Nat.eq_zero_or_pos v with rfl | hp
  · simp [nd_zero]
  · have h2 := nd_ge hp
    rcases Nat.lt_or_ge k (nd v) with h3 | h3
    · have h4 : 256 ^ k ≤ 256 ^ (nd v - 1) := Nat.pow_le_pow_right (by omega) (by omega)
      omega
    · exact h3
/-- What a loop that divides finds: it ends at the number of bytes. -/
theorem nd_unique {v k : Nat} (h : v / 256 ^ k = 0) (h2 : k = 0 ∨ v / 256 ^ (k - 1) ≠ 0) : k = nd v := by
  have hp : 0 < 256 ^ k := Nat.pow_pos (by omega)
  have h3 : v < 256 ^ k := by
    rcases Nat.lt_or_ge v (256 ^ k) with h4 | h4
    · exact h4
    · have := Nat.div_pos h4 hp; omega
  have h5 := nd_le h3
  rcases h2 with rfl | h2
  · omega
  · rcases Nat.lt_or_ge (nd v) k with h6 | h6
    · exfalso
      apply h2
      apply Nat.div_eq_of_lt
      exact Nat.lt_of_lt_of_le (nd_lt v) (Nat.pow_le_pow_right (by omega) (by omega))
    · omega
theorem nd_64 {v : Nat} (h : v < 18446744073709551616) : nd v ≤ 8 := nd_le (by simpa using h)
theorem nd_one {v : Nat} (h : 0 < v) : 1 ≤ nd v := by rw [nd_pos h]; omega
theorem div_step (v k : Nat) : v / 256 ^ k / 256 = v / 256 ^ (k + 1) := by rw [Nat.div_div_eq_div_mul, Nat.pow_succ]

theorem be_length : ∀ k v, (be k v).length = k
  | 0, _ => rfl
  | k + 1, v => by simp [be, be_length k v]
theorem be_bytes : ∀ k v, Bytes8 (be k v)
  | 0, _ => fun z hz => by cases hz
  | k + 1, v => fun z hz => by
    rcases List.mem_cons.1 hz with rfl | hz
    · omega
    · exact be_bytes k v z hz
theorem numL_bytes {v : Nat} (h : v < 18446744073709551616) : Bytes8 (numL v) := by
  unfold numL
  split
  · intro z hz
    simp only [List.mem_cons, List.not_mem_nil, or_false] at hz
    omega
  · intro z hz
    rcases List.mem_cons.1 hz with rfl | hz
    · have := nd_64 h; omega
    · exact be_bytes _ _ z hz
theorem numL_length (v : Nat) : (numL v).length = if v < 248 then 1 else nd v + 1 := by
  unfold numL
  split <;> simp [be_length]
theorem numL_le {v : Nat} (h : v < 18446744073709551616) : (numL v).length ≤ 9 := by
  have := nd_64 h
  rw [numL_length]; split <;> omega
theorem bytL_bytes {bs : List Int} (h : Bytes8 bs) (hl : bs.length < 18446744073709551616) : Bytes8 (bytL bs) := by
  intro z hz
  rcases List.mem_append.1 hz with hz | hz
  · exact numL_bytes hl z hz
  · exact h z hz

/-- The number at the front, and what stands behind it. -/
def getNum : List Int → Option (Nat × List Int)
  | [] => none
  | c :: r =>
    if c < 248 then some (c.toNat, r)
    else if r.length < (c - 247).toNat then none
    else if r.getD 0 0 = 0 ∨ val (r.take (c - 247).toNat) < 248 then none
    else some (val (r.take (c - 247).toNat), r.drop (c - 247).toNat)
/-- What a reader tells of a number, a byte, bytes; and what is left. No list: the flag is set. -/
def rdNum : Option (List Int) → Nat × Option (List Int)
  | none => (0, none)
  | some r => match getNum r with
    | none => (0, none)
    | some (v, r') => (v, some r')
def rdByte : Option (List Int) → Int × Option (List Int)
  | none => (0, none)
  | some [] => (0, none)
  | some (c :: r) => (c, some r)
def rdBytes (most : Int) (s : Option (List Int)) : List Int × Option (List Int) :=
  match (rdNum s).2 with
  | none => ([], none)
  | some r => if most < 0 ∨ most < ((rdNum s).1 : Int) ∨ r.length < (rdNum s).1 then ([], none) else (r.take (rdNum s).1, some (r.drop (rdNum s).1))
def rdEnd : Option (List Int) → Int
  | none => 3
  | some [] => 0
  | some _ => 4

end Go.Proofs.YtkcmohmfejmfoaaGreatDoor

/- Plain facts on preimages. No program is named here. -/
namespace Go.Proofs.YtkcmohmfejmfoaaGreatDoor
set_option linter.unusedVariables false

def valL (v : List Int) : List Int := 0 :: v
def pairL (k d : List Int) : List Int := 1 :: (bytL k ++ d)
def nodeL (l p r : List Int) : List Int := 2 :: (l ++ (p ++ r))
theorem bytes_cons {x : Int} {l : List Int} (h0 : 0 ≤ x) (h1 : x ≤ 255) (h : Bytes8 l) : Bytes8 (x :: l) := fun z hz => by
  rcases List.mem_cons.1 hz with rfl | hz
  · exact ⟨h0, h1⟩
  · exact h z hz
theorem bytes_app {k l : List Int} (hk : Bytes8 k) (hl : Bytes8 l) : Bytes8 (k ++ l) := fun z hz => (List.mem_append.1 hz).elim (hk z) (hl z)
theorem valL_bytes {v : List Int} (h : Bytes8 v) : Bytes8 (valL v) := bytes_cons (by omega) (by omega) h
theorem pairL_bytes {k d : List Int} (hk : Bytes8 k) (hn : k.length < 18446744073709551616) (hd : Bytes8 d) : Bytes8 (pairL k d) := bytes_cons (by omega) (by omega) (bytes_app (bytL_bytes hk hn) hd)
theorem nodeL_bytes {l p r : List Int} (hl : Bytes8 l) (hp : Bytes8 p) (hr : Bytes8 r) : Bytes8 (nodeL l p r) := bytes_cons (by omega) (by omega) (bytes_app hl (bytes_app hp hr))
end Go.Proofs.YtkcmohmfejmfoaaGreatDoor

/- Plain facts on 32 bit words: turning to the right, the two sums of a round. No program is named here. Plain facts on the tail: its bytes as a list. No program is named here. Plain facts on a block's words. No program is named here. Plain facts on a step: 64 rounds and a sum; the tables as lists. No program is named here. Plain facts on steps one behind the other. No program is named here. Plain functions after the document's reckoning of roots by digits of 16 bits. No program is named here. -/
/- Plain facts on 32 bit words: turning to the right, the two sums of a round. No program is named here. -/
namespace Go.Proofs.YtkcmohmfejmfoaaGreatDoor
set_option linter.unusedVariables false

/-- x turned to the right by k, 1 ≤ k ≤ 31. -/
def rotr (x k : Int) : Int := bits .or .u32 (x / 2 ^ k.toNat) (x * 2 ^ (32 - k).toNat % 4294967296)
def rot3 (x i j k : Int) : Int := bits .xor .u32 (bits .xor .u32 (rotr x i) (rotr x j)) (rotr x k)
def lowS (e f g h k v : Int) : Int :=
  (h + rot3 e 6 11 25 + bits .xor .u32 (bits .and .u32 e f) (bits .and .u32 (bits .xor .u32 IntKind.u32.max e) g) + k + v) % 4294967296
def upS (a b c : Int) : Int :=
  (rot3 a 2 13 22 + bits .xor .u32 (bits .xor .u32 (bits .and .u32 a b) (bits .and .u32 a c)) (bits .and .u32 b c)) % 4294967296

/-- The eight words as the model holds an array of them. -/
def agg8 (a b c d e f g h : Int) : Value := .agg #[.int .u32 a, .int .u32 b, .int .u32 c, .int .u32 d, .int .u32 e, .int .u32 f, .int .u32 g, .int .u32 h]
/-- The words behind a round. -/
def rndV (a b c d e f g h k v : Int) : Value :=
  agg8 ((lowS e f g h k v + upS a b c) % 4294967296) a b c ((d + lowS e f g h k v) % 4294967296) e f g

theorem bits_bd (op : BinOp) (a b : Int) : 0 ≤ bits op .u32 a b ∧ bits op .u32 a b ≤ 4294967295 := by
  unfold bits
  dsimp only
  rw [IntKind.wrap_u32']
  omega
theorem bits_or_comm (a b : Int) : bits .or .u32 a b = bits .or .u32 b a := by
  simp [bits, BitVec.or_comm]
theorem mask_neg (k : Int) (h1 : 1 ≤ k) (h2 : k ≤ 31) : bits .and .u64 (IntKind.u64.wrap (-k)) 31 = 32 - k := by
  rw [IntKind.wrap_u64, u64_and _ _ (by omega) (by omega) (by omega) (by omega)]
  rw [show (31 : Int).toNat = 31 from rfl, nat_mask5]
  omega
theorem rotr_other (x k : Int) : bits .or .u32 (x * 2 ^ (32 - k).toNat % 4294967296) (x / 2 ^ (32 - (32 - k)).toNat) = rotr x k := by
  rw [bits_or_comm, show (32 - (32 - k)) = k by omega]
  rfl
theorem rot3_bd (x i j k : Int) : 0 ≤ rot3 x i j k ∧ rot3 x i j k ≤ 4294967295 := bits_bd _ _ _
theorem lowS_bd (e f g h k v : Int) : 0 ≤ lowS e f g h k v ∧ lowS e f g h k v ≤ 4294967295 := by unfold lowS; omega
theorem upS_bd (a b c : Int) : 0 ≤ upS a b c ∧ upS a b c ≤ 4294967295 := by unfold upS; omega
theorem ret_int {k : IntKind} {a b : Int} (h : a = b) : Ending.returned (.int k a) = .returned (.int k b) := by rw [h]
end Go.Proofs.YtkcmohmfejmfoaaGreatDoor

/- Plain facts on the tail: its bytes as a list. No program is named here. -/
namespace Go.Proofs.YtkcmohmfejmfoaaGreatDoor
set_option linter.unusedVariables false

/-- zs, the first k of n bytes of x, the greatest first, laid at the place off. -/
def putB (zs : List Int) (off n : Nat) (x : Int) : Nat → List Int
  | 0 => zs
  | k + 1 => (putB zs off n x k).set (off + k) (x / 2 ^ (8 * (n - 1 - k)) % 256)
theorem putB_length (zs : List Int) (off n : Nat) (x : Int) : ∀ k, (putB zs off n x k).length = zs.length
  | 0 => rfl
  | k + 1 => by simp [putB, putB_length zs off n x k]
theorem putB_append (pre l : List Int) (n : Nat) (x : Int) : ∀ k, putB (pre ++ l) pre.length n x k = pre ++ putB l 0 n x k
  | 0 => rfl
  | k + 1 => by
    simp only [putB]
    rw [putB_append pre l n x k, List.set_append_right _ _ (by omega)]
    simp
def nils (n : Nat) : Nat := (119 - n % 64) % 64
def be8 (x : Int) : List Int := [x / 72057594037927936 % 256, x / 281474976710656 % 256, x / 1099511627776 % 256, x / 4294967296 % 256, x / 16777216 % 256, x / 65536 % 256, x / 256 % 256, x % 256]
/-- What stands behind n bytes. -/
def tailL (n : Nat) : List Int := 128 :: (List.replicate (nils n) 0 ++ be8 (8 * n))
theorem tailL_length (n : Nat) : (tailL n).length = nils n + 9 := by simp [tailL, be8]
theorem rep_snoc (j : Nat) : (128 :: List.replicate j (0 : Int)).map (Value.int .u8) ++ [.int .u8 0] = (128 :: List.replicate (j + 1) (0 : Int)).map (Value.int .u8) := by
  simp [List.replicate_succ']
/-- The bytes of x, of which the last 8 - m are laid. -/
def bitsAt (x : Int) (m : Nat) : List Int := List.replicate m 0 ++ (be8 x).drop m
theorem bitsAt_length (x : Int) (m : Nat) (h : m ≤ 8) : (bitsAt x m).length = 8 := by simp [bitsAt, be8]; omega
theorem bitsAt_step (x : Int) (m : Nat) (h : m < 8) : (bitsAt x (m + 1)).set m (x / 256 ^ (7 - m) % 256) = bitsAt x m := by
  have : m = 0 ∨ m = 1 ∨ m = 2 ∨ m = 3 ∨ m = 4 ∨ m = 5 ∨ m = 6 ∨ m = 7 := by omega
  rcases this with rfl | rfl | rfl | rfl | rfl | rfl | rfl | rfl <;> simp [bitsAt, be8, List.replicate]
theorem pow_step (x : Int) (m : Nat) (h : m < 8) : x / 256 ^ (7 - m) / 256 = x / 256 ^ (8 - m) := by
  rw [Int.ediv_ediv_of_nonneg (Int.pow_nonneg (by omega)), ← Int.pow_succ, show (7 - m).succ = 8 - m by omega]
theorem nils_lt (n : Nat) : nils n < 64 := by unfold nils; omega
theorem set_first (z : Nat) : (List.replicate (z + 9) (0 : Int)).set 0 128 = 128 :: (List.replicate z 0 ++ List.replicate 8 0) := by
  rw [show z + 9 = (z + 8) + 1 from rfl, List.replicate_succ, List.set_cons_zero, List.replicate_append_replicate]
theorem putB_tail (n : Nat) : putB (128 :: (List.replicate (nils n) 0 ++ List.replicate 8 0)) (1 + nils n) 8 (8 * n) 8 = tailL n := by
  have h := putB_append (128 :: List.replicate (nils n) 0) (List.replicate 8 0) 8 (8 * n) 8
  simp only [List.length_cons, List.length_replicate, List.cons_append] at h
  rw [Nat.add_comm 1, h]
  simp [tailL, be8, putB, List.replicate]
end Go.Proofs.YtkcmohmfejmfoaaGreatDoor

/- Plain facts on a block's words. No program is named here. -/
namespace Go.Proofs.YtkcmohmfejmfoaaGreatDoor
set_option linter.unusedVariables false

def wordOf (a b c d : Int) : Int := 16777216 * a + 65536 * b + 256 * c + d
def sp3 (x i j s : Int) : Int := bits .xor .u32 (bits .xor .u32 (rotr x i) (rotr x j)) (x / 2 ^ s.toNat)
def wordAt (bs : List Int) (i : Nat) : Int := wordOf (bs.getD (4 * i) 0) (bs.getD (4 * i + 1) 0) (bs.getD (4 * i + 2) 0) (bs.getD (4 * i + 3) 0)
def first16 (bs : List Int) (k : Nat) : List Int := (List.range k).map (wordAt bs)
/-- The word behind the words m, 16 ≤ m.length. -/
def nextW (m : List Int) : Int := (m.getD (m.length - 16) 0 + sp3 (m.getD (m.length - 15) 0) 7 18 3 + m.getD (m.length - 7) 0 + sp3 (m.getD (m.length - 2) 0) 17 19 10) % 4294967296
def extW (l : List Int) : Nat → List Int
  | 0 => l
  | k + 1 => extW l k ++ [nextW (extW l k)]
/-- The 64 words of a block. -/
def sched (bs : List Int) : List Int := extW (first16 bs 16) 48

theorem first16_length (bs : List Int) (k : Nat) : (first16 bs k).length = k := by simp [first16]
theorem extW_length (l : List Int) : ∀ k, (extW l k).length = l.length + k
  | 0 => rfl
  | k + 1 => by simp [extW, extW_length l k]; omega
theorem sched_length (bs : List Int) : (sched bs).length = 64 := by simp [sched, extW_length, first16_length]
theorem first16_succ (bs : List Int) (k : Nat) : first16 bs (k + 1) = first16 bs k ++ [wordAt bs k] := by simp [first16, List.range_succ]
theorem or_bytes (a b c d : Int) (ha : 0 ≤ a) (ha2 : a ≤ 255) (hb : 0 ≤ b) (hb2 : b ≤ 255) (hc : 0 ≤ c) (hc2 : c ≤ 255) (hd : 0 ≤ d) (hd2 : d ≤ 255) :
    bits .or .u32 (bits .or .u32 (bits .or .u32 (a * 16777216) (b * 65536)) (c * 256)) d = wordOf a b c d := by
  obtain ⟨a, rfl⟩ := Int.eq_ofNat_of_zero_le ha
  obtain ⟨b, rfl⟩ := Int.eq_ofNat_of_zero_le hb
  obtain ⟨c, rfl⟩ := Int.eq_ofNat_of_zero_le hc
  obtain ⟨d, rfl⟩ := Int.eq_ofNat_of_zero_le hd
  have e1 : (a : Int) * 16777216 = ((a * 16777216 : Nat) : Int) := by omega
  have e2 : (b : Int) * 65536 = ((b * 65536 : Nat) : Int) := by omega
  have e3 : (c : Int) * 256 = ((c * 256 : Nat) : Int) := by omega
  have j1 := nat_join 24 (a * 16777216) (b * 65536) (by omega) (by omega)
  have j2 := nat_join 16 (a * 16777216 + b * 65536) (c * 256) (by omega) (by omega)
  have j3 := nat_join 8 (a * 16777216 + b * 65536 + c * 256) d (by omega) (by omega)
  rw [e1, e2, e3, u32_or_nat _ _ (by omega) (by omega), j1, u32_or_nat _ _ (by omega) (by omega), j2, u32_or_nat _ _ (by omega) (by omega), j3]
  unfold wordOf
  omega
def Words32 (l : List Int) : Prop := ∀ z ∈ l, 0 ≤ z ∧ z ≤ 4294967295
theorem word_at {l : List Int} (h : Words32 l) (i : Nat) : 0 ≤ l.getD i 0 ∧ l.getD i 0 ≤ 4294967295 := by
  by_cases hi : i < l.length
  · have := h l[i] (List.getElem_mem hi)
    simpa [List.getD, hi] using this
  · simp [List.getD, List.getElem?_eq_none (by omega : l.length ≤ i)]
theorem wordAt_bd {bs : List Int} (h : Bytes8 bs) (i : Nat) : 0 ≤ wordAt bs i ∧ wordAt bs i ≤ 4294967295 := by
  have h0 := byte_at h (4 * i)
  have h1 := byte_at h (4 * i + 1)
  have h2 := byte_at h (4 * i + 2)
  have h3 := byte_at h (4 * i + 3)
  unfold wordAt wordOf
  omega
theorem first16_bd {bs : List Int} (h : Bytes8 bs) (k : Nat) : Words32 (first16 bs k) := by
  intro z hz
  simp only [first16, List.mem_map] at hz
  obtain ⟨i, _, rfl⟩ := hz
  exact wordAt_bd h i
theorem extW_bd {l : List Int} (h : Words32 l) : ∀ k, Words32 (extW l k)
  | 0 => h
  | k + 1 => by
    intro z hz
    simp only [extW, List.mem_append, List.mem_singleton] at hz
    rcases hz with hz | rfl
    · exact extW_bd h k z hz
    · unfold nextW; omega
theorem sched_bd {bs : List Int} (h : Bytes8 bs) : Words32 (sched bs) := extW_bd (first16_bd h 16) 48
theorem sp3_bd (x i j s : Int) : 0 ≤ sp3 x i j s ∧ sp3 x i j s ≤ 4294967295 := bits_bd _ _ _
theorem wrap_sum (a b c d : Int) : IntKind.u32.wrap (IntKind.u32.wrap (IntKind.u32.wrap (a + b) + c) + d) = (a + b + c + d) % 4294967296 := by
  simp only [IntKind.wrap_u32']
  omega
theorem mod_sum (a b c d : Int) : (((a + b) % 4294967296 + c) % 4294967296 + d) % 4294967296 = (a + b + c + d) % 4294967296 := by
  omega
theorem set_at (l : List Int) (n : Nat) (z : Int) : (l ++ List.replicate (n + 1) (0 : Int)).set l.length z = (l ++ [z]) ++ List.replicate n 0 := by
  rw [List.set_append_right _ _ (Nat.le_refl _), Nat.sub_self, List.replicate_succ, List.set_cons_zero, List.append_assoc]
  rfl
theorem getD_app (l r : List Int) (i : Nat) (h : i < l.length) : (l ++ r).getD i 0 = l.getD i 0 := by
  simp [List.getD, List.getElem?_append_left h]
end Go.Proofs.YtkcmohmfejmfoaaGreatDoor

/- Plain facts on a step: 64 rounds and a sum; the tables as lists. No program is named here. -/
namespace Go.Proofs.YtkcmohmfejmfoaaGreatDoor
set_option linter.unusedVariables false

/-- The 64 constants. -/
def kTab : List Int := [1116352408, 1899447441, 3049323471, 3921009573, 961987163, 1508970993, 2453635748, 2870763221, 3624381080, 310598401, 607225278, 1426881987, 1925078388, 2162078206, 2614888103, 3248222580, 3835390401, 4022224774, 264347078, 604807628, 770255983, 1249150122, 1555081692, 1996064986, 2554220882, 2821834349, 2952996808, 3210313671, 3336571891, 3584528711, 113926993, 338241895, 666307205, 773529912, 1294757372, 1396182291, 1695183700, 1986661051, 2177026350, 2456956037, 2730485921, 2820302411, 3259730800, 3345764771, 3516065817, 3600352804, 4094571909, 275423344, 430227734, 506948616, 659060556, 883997877, 958139571, 1322822218, 1537002063, 1747873779, 1955562222, 2024104815, 2227730452, 2361852424, 2428436474, 2756734187, 3204031479, 3329325298]
/-- The eight words at first. -/
def hTab : List Int := [1779033703, 3144134277, 1013904242, 2773480762, 1359893119, 2600822924, 528734635, 1541459225]
theorem kTab_length : kTab.length = 64 := rfl
theorem kTab_bd : Words32 kTab := by
  have h : ∀ z ∈ kTab, decide (0 ≤ z ∧ z ≤ 4294967295) = true := by decide +kernel
  exact fun z hz => of_decide_eq_true (h z hz)
theorem hTab_bd : Words32 hTab := by
  have h : ∀ z ∈ hTab, decide (0 ≤ z ∧ z ≤ 4294967295) = true := by decide +kernel
  exact fun z hz => of_decide_eq_true (h z hz)

def rnd (s : List Int) (k v : Int) : List Int :=
  match s with
  | [a, b, c, d, e, f, g, h] => [(lowS e f g h k v + upS a b c) % 4294967296, a, b, c, (d + lowS e f g h k v) % 4294967296, e, f, g]
  | _ => s
/-- The words behind the first n rounds. -/
def rnds (ws s : List Int) : Nat → List Int
  | 0 => s
  | n + 1 => rnd (rnds ws s n) (kTab.getD n 0) (ws.getD n 0)
def addW (x s : List Int) : List Int := List.zipWith (fun a b => (a + b) % 4294967296) x s
/-- A block's step. -/
def stepL (s bs : List Int) : List Int := addW (rnds (sched bs) s 64) s
/-- All the blocks' steps: n blocks. -/
def stepsL (s bs : List Int) : Nat → List Int
  | 0 => s
  | n + 1 => stepL (stepsL s bs n) ((bs.drop (64 * n)).take 64)
def be4 (x : Int) : List Int := [x / 16777216 % 256, x / 65536 % 256, x / 256 % 256, x % 256]
def bytesL (s : List Int) : List Int := s.flatMap be4
/-- The digest of bytes. -/
def sumL (bs : List Int) : List Int := bytesL (stepsL hTab (bs ++ tailL bs.length) ((bs.length + nils bs.length + 9) / 64))

theorem rnd_length {s : List Int} (h : s.length = 8) (k v : Int) : (rnd s k v).length = 8 := by
  match s, h with
  | [a, b, c, d, e, f, g, z], _ => rfl
theorem rnd_bd {s : List Int} (h : s.length = 8) (hs : Words32 s) (k v : Int) : Words32 (rnd s k v) := by
  match s, h with
  | [a, b, c, d, e, f, g, z], _ =>
    intro y hy
    simp only [rnd, List.mem_cons, List.not_mem_nil, or_false] at hy
    rcases hy with rfl | rfl | rfl | rfl | rfl | rfl | rfl | rfl
    · omega
    · exact hs _ (by simp)
    · exact hs _ (by simp)
    · exact hs _ (by simp)
    · omega
    · exact hs _ (by simp)
    · exact hs _ (by simp)
    · exact hs _ (by simp)
theorem rnds_length {ws s : List Int} (h : s.length = 8) : ∀ n, (rnds ws s n).length = 8
  | 0 => h
  | n + 1 => rnd_length (rnds_length h n) _ _
theorem rnds_bd {ws s : List Int} (h : s.length = 8) (hs : Words32 s) : ∀ n, Words32 (rnds ws s n)
  | 0 => hs
  | n + 1 => rnd_bd (rnds_length h n) (rnds_bd h hs n) _ _
theorem addW_length {x s : List Int} (hx : x.length = 8) (h : s.length = 8) : (addW x s).length = 8 := by simp [addW, hx, h]
theorem addW_bd (x s : List Int) : Words32 (addW x s) := by
  intro y hy
  unfold addW at hy
  obtain ⟨i, hi, rfl⟩ := List.getElem_of_mem hy
  rw [List.getElem_zipWith]
  omega
theorem stepL_length {s : List Int} (h : s.length = 8) (bs : List Int) : (stepL s bs).length = 8 := addW_length (rnds_length h 64) h
theorem stepL_bd (s bs : List Int) : Words32 (stepL s bs) := addW_bd _ _
theorem stepsL_length {s : List Int} (h : s.length = 8) (bs : List Int) : ∀ n, (stepsL s bs n).length = 8
  | 0 => h
  | n + 1 => stepL_length (stepsL_length h bs n) _
theorem stepsL_bd {s : List Int} (hs : Words32 s) (bs : List Int) : ∀ n, Words32 (stepsL s bs n)
  | 0 => hs
  | n + 1 => stepL_bd _ _
theorem list_8 {α : Type} : ∀ (l : List α), l.length = 8 → ∃ a b c d e f g h : α, l = [a, b, c, d, e, f, g, h]
  | [a, b, c, d, e, f, g, h], _ => ⟨a, b, c, d, e, f, g, h, rfl⟩
/-- x, to the first n words of which those of s are added. -/
def addN (x s : List Int) : Nat → List Int
  | 0 => x
  | n + 1 => (addN x s n).set n ((x.getD n 0 + s.getD n 0) % 4294967296)
theorem addN_length (x s : List Int) : ∀ n, (addN x s n).length = x.length
  | 0 => rfl
  | n + 1 => by simp [addN, addN_length x s n]
theorem addN_get (x s : List Int) (m : Nat) : ∀ n, n ≤ m → (addN x s n).getD m 0 = x.getD m 0
  | 0, _ => rfl
  | n + 1, h => by
    have ih := addN_get x s m n (by omega)
    simp only [List.getD] at ih ⊢
    simp only [addN]
    rw [List.getElem?_set_ne (by omega)]
    exact ih
theorem addN_all {x s : List Int} (hx : x.length = 8) (hs : s.length = 8) : addN x s 8 = addW x s := by
  obtain ⟨a, b, c, d, e, f, g, z, rfl⟩ := list_8 x hx
  obtain ⟨a', b', c', d', e', f', g', z', rfl⟩ := list_8 s hs
  simp [addN, addW]
/-- The words as the model holds an array of them. -/
def stV (s : List Int) : Value := .agg (s.map (Value.int .u32)).toArray
end Go.Proofs.YtkcmohmfejmfoaaGreatDoor

/- Plain facts on steps one behind the other. No program is named here. -/
namespace Go.Proofs.YtkcmohmfejmfoaaGreatDoor
set_option linter.unusedVariables false

theorem stepsL_head (s x y : List Int) : ∀ k, 64 * k ≤ x.length → stepsL s (x ++ y) k = stepsL s x k
  | 0, _ => rfl
  | k + 1, h => by
    simp only [stepsL]
    rw [stepsL_head s x y k (by omega)]
    congr 1
    rw [List.drop_append_of_le_length (by omega), List.take_append_of_le_length (by simp; omega)]
theorem stepsL_append (s x y : List Int) (m : Nat) (h : x.length = 64 * m) : ∀ q, stepsL s (x ++ y) (m + q) = stepsL (stepsL s x m) y q
  | 0 => stepsL_head s x y m (by omega)
  | q + 1 => by
    show stepL (stepsL s (x ++ y) (m + q)) (((x ++ y).drop (64 * (m + q))).take 64) = stepL (stepsL (stepsL s x m) y q) ((y.drop (64 * q)).take 64)
    rw [stepsL_append s x y m h q]
    congr 2
    rw [List.drop_append, List.drop_eq_nil_of_le (by omega), List.nil_append, h]
    congr 1
    omega
theorem whole_blocks (n m r : Nat) (hr : r < 64) (h : n = 64 * m + r) : ∃ q, 1 ≤ q ∧ q ≤ 2 ∧ r + (nils n + 9) = 64 * q ∧ (n + nils n + 9) / 64 = m + q := by
  subst h
  unfold nils
  by_cases h : r ≤ 55
  · refine ⟨1, by omega, by omega, ?_, ?_⟩ <;> omega
  · refine ⟨2, by omega, by omega, ?_, ?_⟩ <;> omega
theorem sumL_parts (bs : List Int) (m q r : Nat) (hr : r < 64) (h : bs.length = 64 * m + r) (hq : (bs.length + nils bs.length + 9) / 64 = m + q) :
    sumL bs = bytesL (stepsL (stepsL hTab (bs.take (64 * m)) m) (bs.drop (64 * m) ++ tailL bs.length) q) := by
  unfold sumL
  rw [hq, ← stepsL_append hTab (bs.take (64 * m)) (bs.drop (64 * m) ++ tailL bs.length) m (by simp; omega) q, ← List.append_assoc, List.take_append_drop]
theorem be8_bytes (x : Int) : Bytes8 (be8 x) := by
  intro z hz
  simp only [be8, List.mem_cons, List.not_mem_nil, or_false] at hz
  omega
theorem tailL_bytes (n : Nat) : Bytes8 (tailL n) := by
  intro z hz
  simp only [tailL, List.mem_cons, List.mem_append] at hz
  rcases hz with rfl | hz | hz
  · omega
  · rw [List.mem_replicate] at hz; omega
  · exact be8_bytes _ z hz
theorem bytesL_bytes (s : List Int) : Bytes8 (bytesL s) := by
  intro z hz
  simp only [bytesL, List.mem_flatMap] at hz
  obtain ⟨x, _, hx⟩ := hz
  simp only [be4, List.mem_cons, List.not_mem_nil, or_false] at hx
  omega
theorem app_bytes {x y : List Int} (hx : Bytes8 x) (hy : Bytes8 y) : Bytes8 (x ++ y) := by
  intro z hz
  rcases List.mem_append.1 hz with h | h
  · exact hx z h
  · exact hy z h
end Go.Proofs.YtkcmohmfejmfoaaGreatDoor

/- Plain functions after the document's reckoning of roots by digits of 16 bits. No program is named here. -/
namespace Go.Proofs.YtkcmohmfejmfoaaGreatDoor
set_option linter.unusedVariables false

def mulCol (out : List Int) (x : Int) (b : List Int) (i : Nat) : Nat → List Int
  | 0 => out
  | k + 1 => (mulCol out x b i k).set (i + k) (((mulCol out x b i k).getD (i + k) 0 + x * b.getD k 0) % 18446744073709551616)
def mulRow (a b : List Int) : Nat → List Int
  | 0 => List.replicate (a.length + b.length + 1) 0
  | i + 1 => mulCol (mulRow a b i) (a.getD i 0) b i b.length
def carry (o : List Int) : Nat → List Int
  | 0 => o
  | i + 1 => ((carry o i).set (i + 1) (((carry o i).getD (i + 1) 0 + (carry o i).getD i 0 / 65536) % 18446744073709551616)).set i ((carry o i).getD i 0 % 65536)
def timesL (a b : List Int) : List Int := carry (mulRow a b a.length) (a.length + b.length)
/-- From the place n - 1 down: is z below limit, or the same? -/
def cmpL (z limit : List Int) : Nat → Bool
  | 0 => true
  | n + 1 => if z.getD n 0 != limit.getD n 0 then decide (z.getD n 0 < limit.getD n 0) else cmpL z limit n
def digs (y : Int) : List Int := [y % 65536, y / 65536 % 65536, y / 4294967296]
def belowL (y p : Int) (cube : Bool) : Bool :=
  match cube with
  | true => cmpL (timesL (timesL (digs y) (digs y)) (digs y)) ((List.replicate 11 0).set 6 p) 11
  | false => cmpL (timesL (digs y) (digs y)) ((List.replicate 7 0).set 4 p) 7
/-- The search, n bits done: 36 bits, the greatest first. -/
def rootAt (p : Int) (cube : Bool) : Nat → Int
  | 0 => 0
  | n + 1 => if belowL (rootAt p cube n + 2 ^ (35 - n)) p cube then rootAt p cube n + 2 ^ (35 - n) else rootAt p cube n
def rootL (p : Int) (cube : Bool) : Int := rootAt p cube 36 % 4294967296
end Go.Proofs.YtkcmohmfejmfoaaGreatDoor

/- Contracts of the program's and of the document's small functions on 32 bit words. The contract of a round: the document's. Arrays of eight words: what == and an index answer. Contracts of putBig, tail and Tail. Contracts of word and spread. The contract of schedule. The contract of rounds. The contract of step. Contracts of First and Step. The contract of steps. Contracts of withTail and stateBytes. The contract of stateBytes. The contract of Sum. Facts on a sum's bytes. -/
/- Contracts of the program's and of the document's small functions on 32 bit words. -/
namespace Go.Proofs.YtkcmohmfejmfoaaGreatDoor
open Go.RowKit
set_option linter.unusedVariables false

theorem rot_any (x k : Int) (w : World) (hx : 0 ≤ x) (hx2 : x ≤ 4294967295) (hk : 1 ≤ k) (hk2 : k ≤ 31) :
    Calls Tryz.prog 109 #[.int .u32 x, .int .i64 (-k)] w fun e w' => e = .returned (.int .u32 (rotr x k)) ∧ w = w' := by
  have hm := mask_neg k hk hk2
  go_enter Tryz.func109, Tryz.ntmps109
  go_wp2
  go_ret
  exact ⟨ret_int (rotr_other x k), rfl⟩

theorem turn_any (x k : Int) (w : World) (hx : 0 ≤ x) (hx2 : x ≤ 4294967295) (hk : 1 ≤ k) (hk2 : k ≤ 31) :
    Calls Tryz.prog 104 #[.int .u32 x, .int .i64 k] w fun e w' => e = .returned (.int .u32 (rotr x k)) ∧ ∃ n, w' = w.drewN n := by
  go_enter Tryz.func104, Tryz.ntmps104
  go_wp2
  go_quiet (fail)
  go_wp2
  go_ret
  exact ⟨rfl, _, rfl⟩

theorem rots_any (x i j k : Int) (w : World) (hx : 0 ≤ x) (hx2 : x ≤ 4294967295) (hi : 1 ≤ i) (hi2 : i ≤ 31) (hj : 1 ≤ j) (hj2 : j ≤ 31) (hk : 1 ≤ k) (hk2 : k ≤ 31) :
    Calls Tryz.prog 110 #[.int .u32 x, .int .i64 i, .int .i64 j, .int .i64 k] w fun e w' => e = .returned (.int .u32 (rot3 x i j k)) ∧ w = w' := by
  go_enter Tryz.func110, Tryz.ntmps110
  go_wp2_with (go_at_call 109; (with_reducible refine (rot_any _ _ _ hx hx2 (by omega) (by omega)).mono ?_); rintro e w' ⟨rfl, rfl⟩)
  go_ret
  exact ⟨rfl, rfl⟩

theorem low_any (e f g z k v : Int) (w : World) (he : 0 ≤ e) (he2 : e ≤ 4294967295) (hh : 0 ≤ z) (hh2 : z ≤ 4294967295) (hk : 0 ≤ k) (hk2 : k ≤ 4294967295) (hv : 0 ≤ v) (hv2 : v ≤ 4294967295) :
    Calls Tryz.prog 107 #[.int .u32 e, .int .u32 f, .int .u32 g, .int .u32 z, .int .u32 k, .int .u32 v] w fun e' w' => e' = .returned (.int .u32 (lowS e f g z k v)) ∧ w = w' := by
  have hr := rot3_bd e 6 11 25
  have hq := bits_bd .xor (bits .and .u32 e f) (bits .and .u32 (bits .xor .u32 IntKind.u32.max e) g)
  go_enter Tryz.func107, Tryz.ntmps107
  go_wp2_with (go_at_call 110; (with_reducible refine (rots_any _ _ _ _ _ he he2 (by omega) (by omega) (by omega) (by omega) (by omega) (by omega)).mono ?_); rintro e' w' ⟨rfl, rfl⟩)
  go_ret
  exact ⟨rfl, rfl⟩

theorem up_any (a b c : Int) (w : World) (he : 0 ≤ a) (he2 : a ≤ 4294967295) :
    Calls Tryz.prog 108 #[.int .u32 a, .int .u32 b, .int .u32 c] w fun e' w' => e' = .returned (.int .u32 (upS a b c)) ∧ w = w' := by
  have hr := rot3_bd a 2 13 22
  have hq := bits_bd .xor (bits .xor .u32 (bits .and .u32 a b) (bits .and .u32 a c)) (bits .and .u32 b c)
  go_enter Tryz.func108, Tryz.ntmps108
  go_wp2_with (go_at_call 110; (with_reducible refine (rots_any _ _ _ _ _ he he2 (by omega) (by omega) (by omega) (by omega) (by omega) (by omega)).mono ?_); rintro e' w' ⟨rfl, rfl⟩)
  go_ret
  exact ⟨rfl, rfl⟩
end Go.Proofs.YtkcmohmfejmfoaaGreatDoor

/- The contract of a round: the document's. -/
namespace Go.Proofs.YtkcmohmfejmfoaaGreatDoor
open Go.RowKit
set_option linter.unusedVariables false

theorem quiet_add {P : Program} {f : FuncId} {args : Array Value} {w : World} {a n : Nat} {v : Value}
    (h : Calls P f args (w.drewN (a + n)) fun e w' => e = .returned v ∧ ∃ m, w' = (w.drewN (a + n)).drewN m) :
    Calls P f args (w.drewN (a + n)) fun e w'' => e = .returned v ∧ ∃ m, w'' = w.drewN (a + m) :=
  h.mono fun _ _ ⟨he, m, hm⟩ => ⟨he, n + m, by rw [hm, World.drewN_drewN, Nat.add_assoc]⟩

set_option maxHeartbeats 1000000 in
theorem refRound_any (a b c d e f g z k v : Int) (w : World)
    (ha : 0 ≤ a) (ha2 : a ≤ 4294967295) (hd : 0 ≤ d) (hd2 : d ≤ 4294967295) (he : 0 ≤ e) (he2 : e ≤ 4294967295)
    (hh : 0 ≤ z) (hh2 : z ≤ 4294967295) (hk : 0 ≤ k) (hk2 : k ≤ 4294967295) (hv : 0 ≤ v) (hv2 : v ≤ 4294967295) :
    Calls Tryz.prog 100 #[agg8 a b c d e f g z, .int .u32 k, .int .u32 v] w fun r w' => r = .returned (rndV a b c d e f g z k v) ∧ Below w.heap.size w w' := by
  unfold agg8
  go_enter Tryz.func100, Tryz.ntmps100
  go_wp2
  go_quiet ((go_at_call 104; exact Calls.quiet_of (turn_any _ _ _ he he2 (by omega) (by omega))))
  go_wp2
  go_quiet ((go_at_call 104; exact quiet_add (turn_any _ _ _ ha ha2 (by omega) (by omega))))
  go_wp2
  refine bodyPost_ret (v := rndV a b c d e f g z k v) (by simp [results, Tryz.results100, go_sem, rndV, agg8, lowS, upS, rot3]) rfl ⟨rfl, ?_⟩
  have h2 : Below w.heap.size w ((w.alloc (.cells #[.int .u32 a, .int .u32 b, .int .u32 c, .int .u32 d, .int .u32 e, .int .u32 f, .int .u32 g, .int .u32 z] 37)).alloc (.cells #[.int .u32 0, .int .u32 0, .int .u32 0, .int .u32 0, .int .u32 0, .int .u32 0, .int .u32 0, .int .u32 0] 37)) :=
    ((Below.refl _ _).alloc (Nat.le_refl _) _).alloc (by simp) _
  exact (((((((((below_drewN h2 _).setCell (by simp) _).setCell (by simp) _).setCell (by simp) _).setCell (by simp) _).setCell (by simp) _).setCell (by simp) _).setCell (by simp) _).setCell (by simp) _)
end Go.Proofs.YtkcmohmfejmfoaaGreatDoor

/- Arrays of eight words: what == and an index answer. -/
namespace Go.Proofs.YtkcmohmfejmfoaaGreatDoor
open Go.RowKit
set_option linter.unusedVariables false

end Go.Proofs.YtkcmohmfejmfoaaGreatDoor

/- Contracts of putBig, tail and Tail. -/
namespace Go.Proofs.YtkcmohmfejmfoaaGreatDoor
open Go.RowKit
set_option linter.unusedVariables false

def PutPost (w : World) (g off n : Nat) (zs : List Int) (x : Int) (e : Ending) (w' : World) : Prop :=
  e = .returned (.tuple #[]) ∧ Row .u8 w' 5 g (putB zs off n x n) ∧ w'.heap.size = w.heap.size ∧ w.grownBy w' (some g)

set_option maxHeartbeats 1000000 in
theorem putBig_any (g off n cap : Nat) (zs : List Int) (x : Int) (w : World) (hr : Row .u8 w 5 g zs) (hl : off + n ≤ zs.length) (hn : n ≤ 8) (hx : 0 ≤ x) (hx2 : x ≤ 18446744073709551615) :
    Calls Tryz.prog 97 #[.slice (some ⟨g, off, none⟩) n cap, .int .u64 x] w (PutPost w g off n zs x) := by
  have HR := Lib.hid hr
  clear hr
  go_enter Tryz.func97, Tryz.ntmps97
  go_wp2
  go_loopw [7] (fun i wx => ∃ k : Nat, k ≤ n ∧ i = .int .i64 k ∧ Row .u8 wx 5 g (putB zs off n x k) ∧ wx.heap.size = w.heap.size ∧ w.grownBy wx (some g)) (fun i _ => n - (intOf i).toNat)
  case atStart => exact ⟨0, Nat.zero_le _, rfl, HR.out, rfl, only_refl _ _⟩
  case round =>
    obtain ⟨k, hk, rfl, hr, hs, hg⟩ := hrel
    have hlen := putB_length zs off n x k
    have hf := hr.frozen (off + k)
    have HR2 := Lib.hid hr
    have HS := Lib.hid hs
    have HL := Lib.hid hlen
    by_cases hlt : k < n
    · obtain ⟨z0, hc⟩ := hr.has (off + k) (by omega)
      have HG := Lib.hid hg
      clear hr hs hlen hg
      go_wp2
      go_roundw
      case rel => exact ⟨k + 1, by omega, by go_num, HR2.out.set _ _, by simpa [World.setCell] using HS.out, only_set HG.out _ _⟩
      case measure => simp [intOf]; omega
    · obtain rfl : k = n := by omega
      clear hr hs hlen hf
      go_wp2
      go_end0
      exact ⟨rfl, HR2.out, HS.out, hg⟩

def TailPost (w : World) (n : Nat) (e : Ending) (w' : World) : Prop :=
  e = .returned (.slice (some ⟨w.heap.size, 0, none⟩) (nils n + 9) (nils n + 9)) ∧ Row .u8 w' 5 w.heap.size (tailL n) ∧ Below w.heap.size w w' ∧ w'.heap.size = w.heap.size + 1


set_option maxHeartbeats 1000000 in
theorem tail_any (n : Nat) (w : World) (hn : (n : Int) ≤ 1125899906842624) :
    Calls Tryz.prog 96 #[.int .i64 n] w (TailPost w n) := by
  obtain ⟨i0, hi0, hz0, hz1, hz2⟩ := info_parts infoU8
  have hnl := nils_lt n
  have hnz : (128 - ((n : Int) % 64 + 1 + 8)) % 64 = (nils n : Int) := by unfold nils; omega
  go_enter Tryz.func96, Tryz.ntmps96
  go_wp2_with (at_make; refine wpList_make_ints w rfl (.tmp 15) (.tmp 15) 22 rfl 5 i0 .u8 Tryz.underlying22 hi0 hz0 hz1 .i64 .i64 _ _ (nils n + 9) rfl rfl (by push_cast; omega) (by push_cast; omega) (by rw [hz2]; omega) (by simp only [maxLen]; omega) ?_; intro w1 hr1 hb1 hs1; obtain ⟨z0, hc0⟩ := hr1.has 0 (by simp); have hf0 := hr1.frozen 0; have HR1 := Lib.hid hr1; have HS1 := Lib.hid hs1; clear hr1 hs1)
  rw [show nils n + 9 - (1 + nils n) = 8 by omega]
  refine (putBig_any w.heap.size (1 + nils n) 8 8 ((List.replicate (nils n + 9) (0 : Int)).set 0 128) (8 * n) _ (HR1.out.set 0 128) (by simp; omega) (by omega) (by omega) (by omega)).mono ?_
  rintro e w2 ⟨rfl, hr2, hs2, hg2⟩
  rw [set_first, putB_tail] at hr2
  have hb2 : Below w.heap.size w w2 := below_only (hb1.setCell (Nat.le_refl _) _) hg2 (by simp [World.setCell, HS1.out]) (Nat.le_refl _)
  have hs3 : w2.heap.size = w.heap.size + 1 := by rw [hs2]; simp [World.setCell, HS1.out]
  have H := Lib.hid (And.intro hr2 (And.intro hb2 hs3))
  clear hr2 hs2 hg2 hb2 hs3
  go_wp2
  go_ret
  exact ⟨rfl, H.out⟩
end Go.Proofs.YtkcmohmfejmfoaaGreatDoor

/- Contracts of word and spread. -/
namespace Go.Proofs.YtkcmohmfejmfoaaGreatDoor
open Go.RowKit
set_option linter.unusedVariables false

theorem word_any (g off n cap : Nat) (a b c d : Int) (w : World) (hn : 4 ≤ n)
    (h0 : w.cell? ⟨g, off, none⟩ = some (.int .u8 a)) (h1 : w.cell? ⟨g, off + 1, none⟩ = some (.int .u8 b)) (h2 : w.cell? ⟨g, off + 2, none⟩ = some (.int .u8 c)) (h3 : w.cell? ⟨g, off + 3, none⟩ = some (.int .u8 d))
    (ha : 0 ≤ a) (ha2 : a ≤ 255) (hb : 0 ≤ b) (hb2 : b ≤ 255) (hc : 0 ≤ c) (hc2 : c ≤ 255) (hd : 0 ≤ d) (hd2 : d ≤ 255) :
    Calls Tryz.prog 105 #[.slice (some ⟨g, off, none⟩) n cap] w fun e w' => e = .returned (.int .u32 (wordOf a b c d)) ∧ ∃ m, w' = w.drewN m := by
  have i0 : (0 : Int) < (n : Int) := by omega
  have i1 : (1 : Int) < (n : Int) := by omega
  have i2 : (2 : Int) < (n : Int) := by omega
  have i3 : (3 : Int) < (n : Int) := by omega
  go_enter Tryz.func105, Tryz.ntmps105
  go_wp2
  go_quiet (fail)
  go_wp2
  go_ret
  exact ⟨ret_int (or_bytes a b c d ha ha2 hb hb2 hc hc2 hd hd2), _, rfl⟩

theorem spread_any (x i j s : Int) (w : World) (hx : 0 ≤ x) (hx2 : x ≤ 4294967295) (hi : 1 ≤ i) (hi2 : i ≤ 31) (hj : 1 ≤ j) (hj2 : j ≤ 31) (hs : 0 ≤ s) (hs2 : s ≤ 31) :
    Calls Tryz.prog 106 #[.int .u32 x, .int .i64 i, .int .i64 j, .int .i64 s] w fun e w' => e = .returned (.int .u32 (sp3 x i j s)) ∧ ∃ m, w' = w.drewN m := by
  have h1 := fun W => rot_any x i W hx hx2 hi hi2
  have h2 := fun W => rot_any x j W hx hx2 hj hj2
  have H1 := Lib.hid h1
  have H2 := Lib.hid h2
  clear h1 h2
  go_enter Tryz.func106, Tryz.ntmps106
  go_wp2
  go_quiet (first
    | (go_at_call 109; exact (rot_any _ _ _ hx hx2 (by omega) (by omega)).mono fun _ _ ⟨a, b⟩ => ⟨a, _, b.symm⟩))
  go_wp2
  go_ret
  exact ⟨rfl, _, rfl⟩
end Go.Proofs.YtkcmohmfejmfoaaGreatDoor

/- The contract of schedule. -/
namespace Go.Proofs.YtkcmohmfejmfoaaGreatDoor
open Go.RowKit
set_option linter.unusedVariables false

def SchedPost (w : World) (bs : List Int) (e : Ending) (w' : World) : Prop :=
  e = .returned (.agg ((sched bs).map (Value.int .u32)).toArray) ∧ Below w.heap.size w w' ∧ w'.heap.size = w.heap.size + 2

theorem size64 : (Tryz.prog.info? 137).map (·.size) = some 64 := by kernel_rfl

set_option maxRecDepth 100000 in
set_option maxHeartbeats 2000000 in
theorem sched_any (g off cap : Nat) (bs : List Int) (w : World) (hl : bs.length = 64) (hb8 : Bytes8 bs) (hseg : Seg .u8 w g off bs) (hcap : 64 ≤ cap) (hg : g < w.heap.size) :
    Calls Tryz.prog 101 #[.slice (some ⟨g, off, none⟩) 64 cap] w (SchedPost w bs) := by
  have HL := Lib.hid hl
  have HB8 := Lib.hid hb8
  have HSEG := Lib.hid hseg
  clear hl hb8 hseg
  go_enter Tryz.func101, Tryz.ntmps101
  go_wp2_with fail
  go_loopw [6] (fun i wx => ∃ k : Nat, k ≤ 16 ∧ i = .int .i64 k ∧ Row .u32 wx 137 (w.heap.size + 1) (first16 bs k ++ List.replicate (64 - k) 0) ∧ Row .u32 wx 137 w.heap.size (List.replicate 64 0) ∧ Below w.heap.size w wx ∧ wx.heap.size = w.heap.size + 2) (fun i _ => 16 - (intOf i).toNat)
  case atStart =>
    refine ⟨0, by omega, rfl, ?_, ?_, ?_, by simp⟩
    · have h := heap_alloc2_new w (.cells ((List.replicate 64 (0 : Int)).map (Value.int .u32)).toArray 137) (.cells ((List.replicate 64 (0 : Int)).map (Value.int .u32)).toArray 137)
      exact h
    · have h := heap_alloc2_old w (.cells ((List.replicate 64 (0 : Int)).map (Value.int .u32)).toArray 137) (.cells ((List.replicate 64 (0 : Int)).map (Value.int .u32)).toArray 137)
      exact h
    · exact ((Below.refl _ _).alloc (Nat.le_refl _) _).alloc (by simp) _
  case round =>
    obtain ⟨k, hk, rfl, hr, hr0, hb, hs⟩ := hrel
    have HR := Lib.hid hr
    have HR0 := Lib.hid hr0
    have HB := Lib.hid hb
    have HS := Lib.hid hs
    clear hr hr0 hb hs
    by_cases hlt : k < 16
    · have hsg : Seg .u8 wr g off bs := HSEG.out.below HB.out hg
      have hl := HL.out
      have c0 := hsg.cellD (4 * k) (by omega)
      have c1 := hsg.cellD (4 * k + 1) (by omega)
      have c2 := hsg.cellD (4 * k + 2) (by omega)
      have c3 := hsg.cellD (4 * k + 3) (by omega)
      have hw := fun W (hW : wr = W) => word_any g (off + 4 * k) (64 - 4 * k) (cap - 4 * k) _ _ _ _ wr (by omega) c0 c1 c2 c3 (byte_at HB8.out _).1 (byte_at HB8.out _).2 (byte_at HB8.out _).1 (byte_at HB8.out _).2 (byte_at HB8.out _).1 (byte_at HB8.out _).2 (byte_at HB8.out _).1 (byte_at HB8.out _).2
      have HW := Lib.hid (hw wr rfl)
      have hlen : (first16 bs k ++ List.replicate (64 - k) (0 : Int)).length = 64 := by simp [first16_length]; omega
      have HLEN := Lib.hid hlen
      obtain ⟨z0, hc⟩ := HR.out.has k (by omega)
      have hf := HR.out.frozen k
      clear hsg hl c0 c1 c2 c3 hw hlen
      go_wp2_with fail
      refine HW.out.mono ?_
      rintro e w' ⟨rfl, m, rfl⟩
      go_wp2_with fail
      go_roundw
      case rel =>
        refine ⟨k + 1, by omega, by go_num, ?_, HR0.out.far (by simp) _, ?_, ?_⟩
        · have h := (HR.out.drewN m).set k (wordAt bs k)
          have e := set_at (first16 bs k) (63 - k) (wordAt bs k)
          rw [first16_length, show 63 - k + 1 = 64 - k by omega, ← first16_succ] at e
          rw [e, show 63 - k = 64 - (k + 1) by omega] at h
          exact h
        · exact (below_drewN HB.out m).setCell (by simp) _
        · simpa [World.setCell] using HS.out
      case measure => simp [intOf]; omega
    · obtain rfl : k = 16 := by omega
      rw [show ((16 : Nat) : Int) = 16 from rfl]
      go_wp2_with fail
      go_loopw [5] (fun i wx => ∃ n : Nat, 16 ≤ n ∧ n ≤ 64 ∧ i = .int .i64 n ∧ Row .u32 wx 137 (w.heap.size + 1) (extW (first16 bs 16) (n - 16) ++ List.replicate (64 - n) 0) ∧ Row .u32 wx 137 w.heap.size (List.replicate 64 0) ∧ Below w.heap.size w wx ∧ wx.heap.size = w.heap.size + 2) (fun i _ => 64 - (intOf i).toNat)
      case atStart => exact ⟨16, by omega, by omega, rfl, HR.out, HR0.out, HB.out, HS.out⟩
      case round =>
        obtain ⟨n, hn, hn2, rfl, hr, hr0, hb, hs⟩ := hrel
        clear HR HR0 HB HS
        have HR := Lib.hid hr
        have HR0 := Lib.hid hr0
        have HB := Lib.hid hb
        have HS := Lib.hid hs
        clear hr hr0 hb hs
        by_cases hlt : n < 64
        · have hlm : (extW (first16 bs 16) (n - 16)).length = n := by rw [extW_length, first16_length]; omega
          have hlen : (extW (first16 bs 16) (n - 16) ++ List.replicate (64 - n) (0 : Int)).length = 64 := by simp [hlm]; omega
          have hbd := extW_bd (first16_bd HB8.out 16) (n - 16)
          have cell : ∀ j, 2 ≤ j → j ≤ 16 → wr.cell? ⟨w.heap.size + 1, n - j, none⟩ = some (.int .u32 ((extW (first16 bs 16) (n - 16)).getD (n - j) 0)) := fun j h1 h2 => by
            rw [HR.out.cellD (n - j) (by omega), getD_app _ _ _ (by omega)]
          have c16 := cell 16 (by omega) (by omega)
          have c15 := cell 15 (by omega) (by omega)
          have c7 := cell 7 (by omega) (by omega)
          have c2 := cell 2 (by omega) (by omega)
          obtain ⟨z0, hc⟩ := HR.out.has n (by omega)
          have hf := HR.out.frozen n
          have b16 := word_at hbd (n - 16)
          have b15 := word_at hbd (n - 15)
          have b7 := word_at hbd (n - 7)
          have b2 := word_at hbd (n - 2)
          have hnext : nextW (extW (first16 bs 16) (n - 16)) = ((extW (first16 bs 16) (n - 16)).getD (n - 16) 0 + sp3 ((extW (first16 bs 16) (n - 16)).getD (n - 15) 0) 7 18 3 + (extW (first16 bs 16) (n - 16)).getD (n - 7) 0 + sp3 ((extW (first16 bs 16) (n - 16)).getD (n - 2) 0) 17 19 10) % 4294967296 := by
            unfold nextW; rw [hlm]
          generalize (extW (first16 bs 16) (n - 16)).getD (n - 16) 0 = x16 at *
          generalize (extW (first16 bs 16) (n - 16)).getD (n - 15) 0 = x15 at *
          generalize (extW (first16 bs 16) (n - 16)).getD (n - 7) 0 = x7 at *
          generalize (extW (first16 bs 16) (n - 16)).getD (n - 2) 0 = x2 at *
          have HN := Lib.hid hnext
          have hst : ∀ q, Row .u32 ((wr.drewN q).setCell ⟨w.heap.size + 1, n, none⟩ (.int .u32 (nextW (extW (first16 bs 16) (n - 16))))) 137 (w.heap.size + 1) (extW (first16 bs 16) (n + 1 - 16) ++ List.replicate (64 - (n + 1)) 0) := fun q => by
            have h := (HR.out.drewN q).set n (nextW (extW (first16 bs 16) (n - 16)))
            have e := set_at (extW (first16 bs 16) (n - 16)) (63 - n) (nextW (extW (first16 bs 16) (n - 16)))
            rw [hlm, show 63 - n + 1 = 64 - n by omega] at e
            rw [e, show 63 - n = 64 - (n + 1) by omega] at h
            rw [show n + 1 - 16 = (n - 16) + 1 by omega]
            exact h
          have HST := Lib.hid hst
          clear hst
          have HLM := Lib.hid hlm
          have s15 := sp3_bd x15 7 18 3
          have s2 := sp3_bd x2 17 19 10
          clear hlm hlen hbd cell hnext
          go_wp2_with fail
          have wr16 : IntKind.i64.wrap ((n : Int) - 16) = (n : Int) - 16 := IntWalk.i64_in _ (by omega)
          have nn16 : (0 : Int) ≤ (n : Int) - 16 := by omega
          have ni16 : (16 : Int) ≤ (n : Int) := by omega
          have ub16 : (n : Int) - 16 < 64 := by omega
          have tn16 : ((n : Int) - 16).toNat = n - 16 := by omega
          have wr15 : IntKind.i64.wrap ((n : Int) - 15) = (n : Int) - 15 := IntWalk.i64_in _ (by omega)
          have nn15 : (0 : Int) ≤ (n : Int) - 15 := by omega
          have ni15 : (15 : Int) ≤ (n : Int) := by omega
          have ub15 : (n : Int) - 15 < 64 := by omega
          have tn15 : ((n : Int) - 15).toNat = n - 15 := by omega
          have wr7 : IntKind.i64.wrap ((n : Int) - 7) = (n : Int) - 7 := IntWalk.i64_in _ (by omega)
          have nn7 : (0 : Int) ≤ (n : Int) - 7 := by omega
          have ni7 : (7 : Int) ≤ (n : Int) := by omega
          have ub7 : (n : Int) - 7 < 64 := by omega
          have tn7 : ((n : Int) - 7).toNat = n - 7 := by omega
          have wr2 : IntKind.i64.wrap ((n : Int) - 2) = (n : Int) - 2 := IntWalk.i64_in _ (by omega)
          have nn2 : (0 : Int) ≤ (n : Int) - 2 := by omega
          have ni2 : (2 : Int) ≤ (n : Int) := by omega
          have ub2 : (n : Int) - 2 < 64 := by omega
          have tn2 : ((n : Int) - 2).toNat = n - 2 := by omega
          have nn0 : (0 : Int) ≤ (n : Int) := by omega
          have ub0 : (n : Int) < 64 := by omega
          go_region_held3 (fun w' => w'.cell? ⟨w.heap.size + 1, n - 16, none⟩ = some (.int .u32 x16) ∧ w'.cell? ⟨w.heap.size + 1, n - 15, none⟩ = some (.int .u32 x15) ∧ w'.cell? ⟨w.heap.size + 1, n - 7, none⟩ = some (.int .u32 x7) ∧ w'.cell? ⟨w.heap.size + 1, n - 2, none⟩ = some (.int .u32 x2))
            (first
              | (go_keep; done)
              | (refine ⟨?_, ?_, ?_, ?_⟩ <;> (rw [World.cell?_setCell_other _ _ _ _ (by first | (simp; done) | (simp; omega))]; simp [*]; done)))
            (first
              | (go_at_call 106; (with_reducible refine (spread_any _ _ _ _ _ (by omega) (by omega) (by omega) (by omega) (by omega) (by omega) (by omega) (by omega)).mono ?_); rintro _ wx ⟨rfl, mx, rfl⟩))
          clear wr16 nn16 ni16 ub16 tn16 wr15 nn15 ni15 ub15 tn15 wr7 nn7 ni7 ub7 tn7 wr2 nn2 ni2 ub2 tn2 nn0 ub0 c16 c15 c7 c2 b16 b15 b7 b2 s15 s2
          go_wp2_with fail
          go_roundw
          case rel =>
            refine ⟨n + 1, by omega, by omega, by go_num, ?_, ?_, ?_, ?_⟩
            · rw [mod_sum, ← HN.out]
              exact HST.out _
            · exact (HR0.out.drewN _).far (by simp) _
            · exact (below_drewN HB.out _).setCell (by simp) _
            · simpa [World.setCell] using HS.out
          case measure => simp [intOf]; omega
        · obtain rfl : n = 64 := by omega
          have hr64 : Row .u32 wr 137 (w.heap.size + 1) (sched bs) := by
            have h := HR.out
            simp only [Nat.sub_self, List.replicate_zero, List.append_nil] at h
            exact h
          have hl64 := sched_length bs
          have HR64 := Lib.hid hr64
          have hi64 : (Tryz.prog.info? 137).map (·.size) = some (sched bs).length := by rw [hl64]; exact size64
          have HI64 := Lib.hid hi64
          have HL64 := Lib.hid hl64
          clear hr64 hi64 hl64
          go_wp2_with (first
            | (refine wpList_load_ints rfl 137 (.tmp 3) rfl (w.heap.size + 1) rfl 137 .u32 (sched bs) HR64.out 64 36 Tryz.underlying137 HI64.out ?_)
            | (refine wpList_store_ints rfl 137 (.tmp 2) (.tmp 44) rfl w.heap.size .u32 (sched bs) rfl rfl 137 (List.replicate 64 0) HR0.out HI64.out (by rw [HL64.out]; simp) ?_
               intro w5 hr5 hg5 hs5
               have HR5 := Lib.hid hr5
               have HG5 := Lib.hid hg5
               have HS5 := Lib.hid hs5
               clear hr5 hg5 hs5))
          refine bodyPost_ret (v := .agg ((sched bs).map (Value.int .u32)).toArray) (results_cell_row Tryz.results101 _ _ w.heap.size 137 _ _ _ rfl HR5.out Tryz.underlying137 rfl (by rw [ints_size]; exact HI64.out)) rfl ⟨rfl, ?_, ?_⟩
          · exact below_only HB.out HG5.out (by rw [HS.out]; omega) (Nat.le_refl _)
          · rw [HS5.out, HS.out]
end Go.Proofs.YtkcmohmfejmfoaaGreatDoor

/- The contract of rounds. -/
namespace Go.Proofs.YtkcmohmfejmfoaaGreatDoor
open Go.RowKit
set_option linter.unusedVariables false

/-- The table of constants lies where the program has it. -/
structure KLies (w : World) : Prop where
  seg : Seg .u32 w 2 0 kTab
  lt : 2 < w.heap.size
theorem KLies.below {w w' : World} (h : KLies w) {B : Nat} (hb : Below B w w') (hB : 2 < B) : KLies w' := ⟨h.seg.below hb hB, Nat.lt_of_lt_of_le h.lt hb.size⟩

theorem infoW : (Tryz.prog.info? 36).map (fun i => (i.zero, i.size, i.bytes)) = some (some (.int .u32 0), 1, 4) := by kernel_rfl
theorem sizeA8 : (Tryz.prog.info? 37).map (·.size) = some 8 := by kernel_rfl
theorem sizeA64 : (Tryz.prog.info? 137).map (·.size) = some 64 := by kernel_rfl
theorem run_index_ints (t : TypeId) (zs : List Int) (ht : Tryz.prog.underlying t = some (.array zs.length 36)) (i : Nat) (hi : i < zs.length) (w : World) :
    (Instr.index t (.agg (zs.map (Value.int .u32)).toArray) (.int .i64 i)).run Tryz.prog w = .ok (.int .u32 (zs.getD i 0)) w := by
  obtain ⟨i0, hi0, hz0, hz1, hz2⟩ := info_parts infoW
  simp [Instr.index, asIntOf, run_underlying ht, sizeOf, typeInfo, hi0, hz1, part, hi, List.getD]

def RoundsPost (w : World) (ws s : List Int) (e : Ending) (w' : World) : Prop :=
  e = .returned (stV (rnds ws s 64)) ∧ Below w.heap.size w w' ∧ w'.heap.size = w.heap.size + 3

set_option maxRecDepth 100000 in
set_option maxHeartbeats 2000000 in
theorem rounds_any (ws s : List Int) (w : World) (hw : ws.length = 64) (hwb : Words32 ws) (hs : s.length = 8) (hsb : Words32 s) (hK : KLies w) :
    Calls Tryz.prog 102 #[stV s, .agg (ws.map (Value.int .u32)).toArray] w (RoundsPost w ws s) := by
  have hix : ∀ (i : Nat), i < 64 → ∀ W, (Instr.index 137 (.agg (ws.map (Value.int .u32)).toArray) (.int .i64 i)).run Tryz.prog W = .ok (.int .u32 (ws.getD i 0)) W :=
    fun i hi W => run_index_ints 137 ws (by rw [hw]; exact Tryz.underlying137) i (by omega) W
  have HIX := Lib.hid hix
  have HW := Lib.hid hw
  have HWB := Lib.hid hwb
  have HK := Lib.hid hK
  have hi64 : (Tryz.prog.info? 137).map (·.size) = some ws.length := by rw [hw]; exact sizeA64
  have HI64 := Lib.hid hi64
  obtain ⟨a, b, c, d, e, f, g, z, rfl⟩ := list_8 s hs
  have HSB := Lib.hid hsb
  clear hix hw hwb hs hsb hi64 hK
  have hrow : ∀ o1 o3, Row .u32 (((w.alloc o1).alloc (.cells (ws.map (Value.int .u32)).toArray 137)).alloc o3) 137 (w.heap.size + 1) ws := fun o1 o3 => by
    have h := (Row.new (k := .u32) (w.alloc o1) 137 ws).alloc o3
    have e : (w.alloc o1).heap.size = w.heap.size + 1 := by simp
    rw [e] at h
    exact h
  have HROW := Lib.hid hrow
  clear hrow
  simp only [stV, List.map_cons, List.map_nil]
  go_enter Tryz.func102, Tryz.ntmps102
  go_wp2_with fail
  go_quiet (fail)
  go_wp2_with (refine wpList_load_ints rfl 137 (.tmp 3) rfl (w.heap.size + 1) rfl 137 .u32 ws (HROW.out _ _) 64 36 Tryz.underlying137 HI64.out ?_)
  go_loopw [5, 6, 7, 8, 9, 10, 11, 12, 34] (fun x0 x1 x2 x3 x4 x5 x6 x7 i wx => ∃ (n : Nat) (a' b' c' d' e' f' g' z' : Int), n ≤ 64 ∧ i = .int .i64 n ∧ x0 = .int .u32 a' ∧ x1 = .int .u32 b' ∧ x2 = .int .u32 c' ∧ x3 = .int .u32 d' ∧ x4 = .int .u32 e' ∧ x5 = .int .u32 f' ∧ x6 = .int .u32 g' ∧ x7 = .int .u32 z' ∧
      rnds ws [a, b, c, d, e, f, g, z] n = [a', b', c', d', e', f', g', z'] ∧ KLies wx ∧ Row .u32 wx 37 (w.heap.size + 2) [0, 0, 0, 0, 0, 0, 0, 0] ∧ Below w.heap.size w wx ∧ wx.heap.size = w.heap.size + 3) (fun _ _ _ _ _ _ _ _ i _ => 64 - (intOf i).toNat)
  case atStart =>
    have b3 : ∀ o1 o2 o3, Below w.heap.size w (((w.alloc o1).alloc o2).alloc o3) := fun o1 o2 o3 => (((Below.refl _ _).alloc (Nat.le_refl _) _).alloc (by simp) _).alloc (by simp; omega) _
    refine ⟨0, a, b, c, d, e, f, g, z, by omega, rfl, rfl, rfl, rfl, rfl, rfl, rfl, rfl, rfl, rfl, ?_, ?_, ?_, ?_⟩
    · exact HK.out.below (below_drewN (b3 _ _ _) _) HK.out.lt
    · have h : ∀ o1 o2, Row .u32 (((w.alloc o1).alloc o2).alloc (.cells (([0, 0, 0, 0, 0, 0, 0, 0] : List Int).map (Value.int .u32)).toArray 37)) 37 (w.heap.size + 2) [0, 0, 0, 0, 0, 0, 0, 0] := fun o1 o2 => by
        have h := Row.new (k := .u32) ((w.alloc o1).alloc o2) 37 [0, 0, 0, 0, 0, 0, 0, 0]
        have e : ((w.alloc o1).alloc o2).heap.size = w.heap.size + 2 := by simp
        rw [e] at h
        exact h
      exact (h _ _).drewN _
    · exact below_drewN (b3 _ _ _) _
    · simp
  case round =>
    obtain ⟨n, a', b', c', d', e', f', g', z', hn, rfl, rfl, rfl, rfl, rfl, rfl, rfl, rfl, rfl, hrn, hK, hr0, hb, hs⟩ := hrel
    have hbd : Words32 (rnds ws [a, b, c, d, e, f, g, z] n) := rnds_bd rfl HSB.out n
    rw [hrn] at hbd
    have HRN := Lib.hid hrn
    have HK2 := Lib.hid hK
    have HR0 := Lib.hid hr0
    have HB := Lib.hid hb
    have HS := Lib.hid hs
    have ba := hbd a' (by simp)
    have bd := hbd d' (by simp)
    have be := hbd e' (by simp)
    have bz := hbd z' (by simp)
    clear hrn hK hr0 hb hs hbd
    by_cases hlt : n < 64
    · have hx := HIX.out n hlt
      have hk := HK2.out.seg.cellD n (by rw [kTab_length]; exact hlt)
      have bw := word_at HWB.out n
      have bk := word_at kTab_bd n
      have hnext : rnds ws [a, b, c, d, e, f, g, z] (n + 1) = rnd [a', b', c', d', e', f', g', z'] (kTab.getD n 0) (ws.getD n 0) := by rw [← HRN.out]; rfl
      simp only [rnd] at hnext
      rw [Nat.zero_add] at hk
      generalize ws.getD n 0 = v at *
      generalize kTab.getD n 0 = kk at *
      have HN := Lib.hid hnext
      clear hnext
      have bl := lowS_bd e' f' g' z' kk v
      have bu := upS_bd a' b' c'
      have nb : (n : Int) < 64 := by omega
      go_wp2_with (first
        | (go_at_call 107; (with_reducible refine (low_any _ _ _ _ _ _ _ be.1 be.2 bz.1 bz.2 bk.1 bk.2 bw.1 bw.2).mono ?_); rintro e' w' ⟨rfl, rfl⟩)
        | (go_at_call 108; (with_reducible refine (up_any _ _ _ _ ba.1 ba.2).mono ?_); rintro e' w' ⟨rfl, rfl⟩))
      go_roundw
      case rel =>
        exact ⟨n + 1, _, _, _, _, _, _, _, _, by omega, by go_num, rfl, rfl, rfl, rfl, rfl, rfl, rfl, rfl, HN.out, HK2.out, HR0.out, HB.out, HS.out⟩
      case measure => simp [intOf]; omega
    · obtain rfl : n = 64 := by omega
      go_wp2_with (first
        | (refine wpList_store_ints rfl 37 (.tmp 4) (.tmp 72) rfl (w.heap.size + 2) .u32 [a', b', c', d', e', f', g', z'] rfl rfl 37 [0, 0, 0, 0, 0, 0, 0, 0] HR0.out sizeA8 rfl ?_
           intro w5 hr5 hg5 hs5
           have HR5 := Lib.hid hr5
           have HG5 := Lib.hid hg5
           have HS5 := Lib.hid hs5
           clear hr5 hg5 hs5))
      refine bodyPost_ret (v := stV [a', b', c', d', e', f', g', z']) (results_cell_row Tryz.results102 _ _ (w.heap.size + 2) 37 _ _ _ rfl HR5.out Tryz.underlying37 rfl sizeA8) rfl ⟨by rw [HRN.out], ?_, ?_⟩
      · exact below_only HB.out HG5.out (by rw [HS.out]; omega) (by omega)
      · rw [HS5.out, HS.out]
end Go.Proofs.YtkcmohmfejmfoaaGreatDoor

/- The contract of step. -/
namespace Go.Proofs.YtkcmohmfejmfoaaGreatDoor
open Go.RowKit
set_option linter.unusedVariables false

def StepPost (w : World) (s bs : List Int) (e : Ending) (w' : World) : Prop :=
  e = .returned (stV (stepL s bs)) ∧ Below w.heap.size w w'

set_option maxRecDepth 100000 in
set_option maxHeartbeats 2000000 in
theorem step_any (g off cap : Nat) (s bs : List Int) (w : World) (hs : s.length = 8) (hsb : Words32 s) (hl : bs.length = 64) (hb8 : Bytes8 bs) (hseg : Seg .u8 w g off bs) (hcap : 64 ≤ cap) (hg : g < w.heap.size) (hK : KLies w) :
    Calls Tryz.prog 95 #[stV s, .slice (some ⟨g, off, none⟩) 64 cap] w (StepPost w s bs) := by
  have hlen := sched_length bs
  have hwb := sched_bd hb8
  have hi64 : (Tryz.prog.info? 137).map (·.size) = some (sched bs).length := by rw [hlen]; exact sizeA64
  have hi8 : (Tryz.prog.info? 37).map (·.size) = some s.length := by rw [hs]; exact sizeA8
  have HI64 := Lib.hid hi64
  have HI8 := Lib.hid hi8
  have HL := Lib.hid hlen
  have HWB := Lib.hid hwb
  have HS := Lib.hid hs
  have HSB := Lib.hid hsb
  have HK := Lib.hid hK
  have HBS := Lib.hid (And.intro hl (And.intro hb8 hseg))
  clear hlen hwb hi64 hi8 hs hsb hK hl hb8 hseg
  have b2 : ∀ o1 o2, Below w.heap.size w ((w.alloc o1).alloc o2) := fun o1 o2 => ((Below.refl _ _).alloc (Nat.le_refl _) _).alloc (by simp) _
  have B2 := Lib.hid b2
  have r0 : ∀ o2, Row .u32 ((w.alloc (.cells (s.map (Value.int .u32)).toArray 37)).alloc o2) 37 w.heap.size s := fun o2 => (Row.new w 37 s).alloc o2
  have R0 := Lib.hid r0
  have r1 : ∀ o1, Row .u32 ((w.alloc o1).alloc (.cells (([0, 0, 0, 0, 0, 0, 0, 0] : List Int).map (Value.int .u32)).toArray 37)) 37 (w.heap.size + 1) [0, 0, 0, 0, 0, 0, 0, 0] := fun o1 => by
    have h := Row.new (k := .u32) (w.alloc o1) 37 [0, 0, 0, 0, 0, 0, 0, 0]
    have e : (w.alloc o1).heap.size = w.heap.size + 1 := by simp
    rw [e] at h
    exact h
  have R1 := Lib.hid r1
  clear b2 r0 r1
  unfold stV
  go_enter Tryz.func95, Tryz.ntmps95
  go_wp2_with fail
  refine (sched_any g off cap bs _ HBS.out.1 HBS.out.2.1 (by exact HBS.out.2.2.below (B2.out _ _) hg) hcap (by simp; omega)).mono ?_
  rintro e w1 ⟨rfl, hb1, hs1⟩
  have HB1 : Hid (Below w.heap.size w w1) := Lib.hid ((B2.out _ _).trans (hb1.mono (by simp; omega)))
  have HR1 : Hid (Row .u32 w1 37 w.heap.size s) := Lib.hid ((R0.out _).below hb1 (by simp; omega))
  have HZ1 : Hid (Row .u32 w1 37 (w.heap.size + 1) [0, 0, 0, 0, 0, 0, 0, 0]) := Lib.hid ((R1.out _).below hb1 (by simp))
  have HS1 : Hid (w1.heap.size = w.heap.size + 4) := Lib.hid (by rw [hs1]; simp)
  clear hb1 hs1
  go_wp2_with (first
    | (refine wpList_store_ints rfl 137 (.tmp 5) (.tmp 9) rfl w1.heap.size .u32 (sched bs) rfl rfl 137 (List.replicate 64 0) (Row.new w1 137 (List.replicate 64 0)) HI64.out (by rw [HL.out]; simp) ?_
       intro w2 hr2 hg2 hs2
       have HW2 := Lib.hid hr2
       have HB2 : Hid (Below w.heap.size w w2) := Lib.hid (below_only (HB1.out.alloc HB1.out.size _) hg2 (by have := HB1.out.size; simp; omega) HB1.out.size)
       have HR2 : Hid (Row .u32 w2 37 w.heap.size s) := Lib.hid ((HR1.out.alloc _).grown hg2 (by have := HR1.out.lt; simp; omega))
       have HZ2 : Hid (Row .u32 w2 37 (w.heap.size + 1) [0, 0, 0, 0, 0, 0, 0, 0]) := Lib.hid ((HZ1.out.alloc _).grown hg2 (by have := HZ1.out.lt; simp; omega))
       have HS2 : Hid (w2.heap.size = w.heap.size + 5) := Lib.hid (by rw [hs2]; simp [HS1.out])
       clear hr2 hg2 hs2)
    | (refine wpList_load_ints rfl 37 (.tmp 2) rfl w.heap.size rfl 37 .u32 s HR2.out 8 36 Tryz.underlying37 HI8.out ?_)
    | (refine wpList_load_ints rfl 137 (.tmp 5) rfl w1.heap.size rfl 137 .u32 (sched bs) HW2.out 64 36 Tryz.underlying137 HI64.out ?_))
  refine (rounds_any (sched bs) s w2 HL.out HWB.out HS.out HSB.out (HK.out.below HB2.out HK.out.lt)).mono ?_
  rintro e w3 ⟨rfl, hb3, hs3⟩
  have hxl : (rnds (sched bs) s 64).length = 8 := rnds_length HS.out 64
  have hfin : stepL s bs = addN (rnds (sched bs) s 64) s 8 := (addN_all hxl HS.out).symm
  have hxb : Words32 (rnds (sched bs) s 64) := rnds_bd HS.out HSB.out 64
  generalize rnds (sched bs) s 64 = x at *
  have HXL := Lib.hid hxl
  have HFIN := Lib.hid hfin
  have HXB := Lib.hid hxb
  have HB3 : Hid (Below w.heap.size w w3) := Lib.hid (HB2.out.trans (hb3.mono HB2.out.size))
  have HR3 : Hid (Row .u32 w3 37 w.heap.size s) := Lib.hid (HR2.out.below hb3 HR2.out.lt)
  have HZ3 : Hid (Row .u32 w3 37 (w.heap.size + 1) [0, 0, 0, 0, 0, 0, 0, 0]) := Lib.hid (HZ2.out.below hb3 HZ2.out.lt)
  have HS3 : Hid (w3.heap.size = w.heap.size + 8) := Lib.hid (by rw [hs3, HS2.out])
  have hi8x : (Tryz.prog.info? 37).map (·.size) = some x.length := by rw [hxl]; exact sizeA8
  have HI8X := Lib.hid hi8x
  clear hxl hfin hxb hb3 hs3 hi8x
  go_wp2_with (first
    | (refine wpList_store_ints rfl 37 (.tmp 6) (.tmp 12) rfl w3.heap.size .u32 x rfl rfl 37 [0, 0, 0, 0, 0, 0, 0, 0] (Row.new w3 37 [0, 0, 0, 0, 0, 0, 0, 0]) HI8X.out (by rw [HXL.out]; rfl) ?_
       intro w4 hr4 hg4 hs4
       have HX4 := Lib.hid hr4
       have HB4 : Hid (Below w.heap.size w w4) := Lib.hid (below_only (HB3.out.alloc HB3.out.size _) hg4 (by have := HB3.out.size; simp; omega) HB3.out.size)
       have HR4 : Hid (Row .u32 w4 37 w.heap.size s) := Lib.hid ((HR3.out.alloc _).grown hg4 (by have := HR3.out.lt; simp; omega))
       have HZ4 : Hid (Row .u32 w4 37 (w.heap.size + 1) [0, 0, 0, 0, 0, 0, 0, 0]) := Lib.hid ((HZ3.out.alloc _).grown hg4 (by have := HZ3.out.lt; simp; omega))
       have HS4 : Hid (w4.heap.size = w.heap.size + 9) := Lib.hid (by rw [hs4]; simp [HS3.out])
       clear hr4 hg4 hs4))
  go_loopw [13] (fun i wx => ∃ n : Nat, n ≤ 8 ∧ i = .int .i64 n ∧ Row .u32 wx 37 w3.heap.size (addN x s n) ∧ Row .u32 wx 37 w.heap.size s ∧ Row .u32 wx 37 (w.heap.size + 1) [0, 0, 0, 0, 0, 0, 0, 0] ∧ Below w.heap.size w wx) (fun i _ => 8 - (intOf i).toNat)
  case atStart => exact ⟨0, by omega, rfl, HX4.out, HR4.out, HZ4.out, HB4.out⟩
  case round =>
    obtain ⟨n, hn, rfl, hx, hr, hz, hb⟩ := hrel
    have HX := Lib.hid hx
    have HR := Lib.hid hr
    have HZ := Lib.hid hz
    have HB := Lib.hid hb
    clear hx hr hz hb
    by_cases hlt : n < 8
    · have c1 := HX.out.cellD n (by rw [addN_length, HXL.out]; exact hlt)
      have c2 := HR.out.cellD n (by rw [HS.out]; exact hlt)
      have f1 := HX.out.frozen n
      rw [addN_get x s n n (Nat.le_refl _)] at c1
      have b1 := word_at HXB.out n
      have b2 := word_at HSB.out n
      have hst : ∀ q, Row .u32 ((wr.drewN q).setCell ⟨w3.heap.size, n, none⟩ (.int .u32 ((x.getD n 0 + s.getD n 0) % 4294967296))) 37 w3.heap.size (addN x s (n + 1)) := fun q => (HX.out.drewN q).set n _
      generalize x.getD n 0 = y at *
      generalize s.getD n 0 = v at *
      have HST := Lib.hid hst
      have nb : (n : Int) < 8 := by omega
      clear hst
      go_wp2_with fail
      go_region
      go_wp2_with fail
      go_roundw
      case rel =>
        refine ⟨n + 1, by omega, by go_num, ?_, ?_, ?_, ?_⟩
        · first
            | exact HST.out _
            | exact HST.out 1
        · exact HR.out.drew.far (by have := HR4.out.lt; have := HS3.out; simp; omega) _
        · exact HZ.out.drew.far (by have := HS3.out; simp; omega) _
        · exact HB.out.drew.setCell (by have := HS3.out; simp; omega) _
      case measure => simp [intOf]; omega
    · obtain rfl : n = 8 := by omega
      have hi8y : (Tryz.prog.info? 37).map (·.size) = some (addN x s 8).length := by rw [addN_length]; exact HI8X.out
      have HI8Y := Lib.hid hi8y
      clear hi8y
      go_wp2_with (first
        | (refine wpList_load_ints rfl 37 (.tmp 6) rfl w3.heap.size rfl 37 .u32 (addN x s 8) HX.out 8 36 Tryz.underlying37 HI8Y.out ?_)
        | (refine wpList_store_ints rfl 37 (.tmp 4) (.tmp 25) rfl (w.heap.size + 1) .u32 (addN x s 8) rfl rfl 37 [0, 0, 0, 0, 0, 0, 0, 0] HZ.out HI8Y.out (by rw [addN_length, HXL.out]; rfl) ?_
           intro w5 hr5 hg5 hs5
           have HR5 := Lib.hid hr5
           have HG5 := Lib.hid hg5
           clear hr5 hg5 hs5))
      refine bodyPost_ret (v := stV (addN x s 8)) (results_cell_row Tryz.results95 _ _ (w.heap.size + 1) 37 _ _ _ rfl HR5.out Tryz.underlying37 rfl (by rw [ints_size]; exact HI8Y.out)) rfl ⟨by rw [HFIN.out], ?_⟩
      exact below_only HB.out HG5.out HB.out.size (by omega)
end Go.Proofs.YtkcmohmfejmfoaaGreatDoor

/- Contracts of First and Step. -/
namespace Go.Proofs.YtkcmohmfejmfoaaGreatDoor
open Go.RowKit
set_option linter.unusedVariables false

/-- Both tables lie where the program has them. -/
structure TabLies (w : World) : Prop where
  k : ∃ t fr, w.heap[2]? = some (.cells (kTab.map (Value.int .u32)).toArray t fr)
  h : ∃ t fr, w.heap[1]? = some (.cells (hTab.map (Value.int .u32)).toArray t fr)
theorem heap_lt {w : World} {g : Nat} {o : Obj} (h : w.heap[g]? = some o) : g < w.heap.size := by
  rcases Nat.lt_or_ge g w.heap.size with hlt | hge
  · exact hlt
  · rw [Array.getElem?_eq_none hge] at h; cases h
theorem TabLies.kl {w : World} (h : TabLies w) : KLies w := by
  obtain ⟨t, fr, hk⟩ := h.k
  refine ⟨fun i hi => ?_, heap_lt hk⟩
  rw [Nat.zero_add, cell_of_row w _ i _ t fr hk]
  simp [hi]
theorem TabLies.below {w w' : World} (h : TabLies w) {B : Nat} (hb : Below B w w') (hB : w.heap.size ≤ B) : TabLies w' := by
  obtain ⟨t, fr, hk⟩ := h.k
  obtain ⟨t', fr', hh⟩ := h.h
  exact ⟨⟨t, fr, (hb.block _ (Nat.lt_of_lt_of_le (heap_lt hk) hB)).trans hk⟩, ⟨t', fr', (hb.block _ (Nat.lt_of_lt_of_le (heap_lt hh) hB)).trans hh⟩⟩

def FirstPost (w : World) (e : Ending) (w' : World) : Prop := e = .returned (stV hTab) ∧ Below w.heap.size w w'
set_option maxRecDepth 100000 in
theorem First_any (w : World) (hT : TabLies w) : Calls Tryz.prog 88 #[] w (FirstPost w) := by
  obtain ⟨t, fr, hh⟩ := hT.h
  have HH : ∀ o, Hid ((w.alloc o).heap[1]? = some (.cells (hTab.map (Value.int .u32)).toArray t fr)) := fun o => Lib.hid ((Below.heap_alloc w o _ (heap_lt hh)).trans hh)
  clear hh hT
  go_enter Tryz.func88, Tryz.ntmps88
  go_wp2_with (first
    | (refine wpList_load_row rfl 37 (.global 1) rfl 1 rfl t _ fr _ (HH _).out Tryz.underlying37 rfl sizeA8 ?_)
    | (refine wpList_store_ints rfl 37 (.tmp 0) (.tmp 1) rfl w.heap.size .u32 hTab rfl rfl 37 [0, 0, 0, 0, 0, 0, 0, 0] (Row.new w 37 [0, 0, 0, 0, 0, 0, 0, 0]) sizeA8 rfl ?_
       intro w5 hr5 hg5 hs5
       have HR5 := Lib.hid hr5
       have HG5 := Lib.hid hg5
       clear hr5 hg5 hs5))
  refine bodyPost_ret (v := stV hTab) (results_cell_row Tryz.results88 _ _ w.heap.size 37 _ _ _ rfl HR5.out Tryz.underlying37 rfl sizeA8) rfl ⟨rfl, ?_⟩
  exact below_only ((Below.refl _ _).alloc (Nat.le_refl _) _) HG5.out (by simp) (Nat.le_refl _)
end Go.Proofs.YtkcmohmfejmfoaaGreatDoor

/- The contract of steps. -/
namespace Go.Proofs.YtkcmohmfejmfoaaGreatDoor
open Go.RowKit
set_option linter.unusedVariables false

def StepsPost (w : World) (s bs : List Int) (m : Nat) (e : Ending) (w' : World) : Prop := e = .returned (stV (stepsL s bs m)) ∧ Below w.heap.size w w'

set_option maxRecDepth 100000 in
set_option maxHeartbeats 2000000 in
theorem steps_any (a : Option Addr) (n cap m : Nat) (s bs : List Int) (w : World) (hs : s.length = 8) (hsb : Words32 s) (hin : InBytes w a n cap bs) (hm : n = 64 * m) (hK : KLies w) :
    Calls Tryz.prog 87 #[stV s, .slice a n cap] w (StepsPost w s bs m) := by
  have hmax := hin.max
  have hle := hin.le
  simp only [maxLen] at hmax
  have b2 : ∀ o1 o2, Below w.heap.size w ((w.alloc o1).alloc o2) := fun o1 o2 => ((Below.refl _ _).alloc (Nat.le_refl _) _).alloc (by simp) _
  have r0 : ∀ o2, Row .u32 ((w.alloc (.cells (s.map (Value.int .u32)).toArray 37)).alloc o2) 37 w.heap.size s := fun o2 => (Row.new w 37 s).alloc o2
  have r1 : ∀ o1, Row .u32 ((w.alloc o1).alloc (.cells (([0, 0, 0, 0, 0, 0, 0, 0] : List Int).map (Value.int .u32)).toArray 37)) 37 (w.heap.size + 1) [0, 0, 0, 0, 0, 0, 0, 0] := fun o1 => by
    have h := Row.new (k := .u32) (w.alloc o1) 37 [0, 0, 0, 0, 0, 0, 0, 0]
    have e : (w.alloc o1).heap.size = w.heap.size + 1 := by simp
    rw [e] at h
    exact h
  have B2 := Lib.hid b2
  have R0 := Lib.hid r0
  have R1 := Lib.hid r1
  have HS := Lib.hid hs
  have HSB := Lib.hid hsb
  have HIN := Lib.hid hin
  have HK := Lib.hid hK
  have HM := Lib.hid hm
  clear b2 r0 r1 hs hsb hin hK hm
  unfold stV
  go_enter Tryz.func87, Tryz.ntmps87
  go_wp2_with fail
  go_loopw [5] (fun i wx => ∃ q : Nat, q ≤ m ∧ i = .int .i64 (64 * (q : Int)) ∧ Row .u32 wx 37 w.heap.size (stepsL s bs q) ∧ Row .u32 wx 37 (w.heap.size + 1) [0, 0, 0, 0, 0, 0, 0, 0] ∧ Below w.heap.size w wx ∧ w.heap.size + 2 ≤ wx.heap.size) (fun i _ => 64 * m - (intOf i).toNat)
  case atStart => exact ⟨0, by omega, rfl, R0.out _, R1.out _, B2.out _ _, by simp⟩
  case round =>
    obtain ⟨q, hq, rfl, hr, hz, hb, hsz⟩ := hrel
    have HR := Lib.hid hr
    have HZ := Lib.hid hz
    have HB := Lib.hid hb
    clear hr hz hb
    have hn := HM.out
    by_cases hlt : q < m
    · obtain ⟨g, off, rfl, hg, hseg⟩ := HIN.out.place (by omega)
      have hl8 : (stepsL s bs q).length = 8 := stepsL_length HS.out bs q
      have hc : ∀ W, Below wr.heap.size wr W → Calls Tryz.prog 95 #[stV (stepsL s bs q), .slice (some ⟨g, off + 64 * q, none⟩) 64 (cap - 64 * q)] W (StepPost W (stepsL s bs q) ((bs.drop (64 * q)).take 64)) := fun W hW => by
        have hbW : Below w.heap.size w W := HB.out.trans (hW.mono HB.out.size)
        refine step_any g (off + 64 * q) (cap - 64 * q) _ _ W hl8 (stepsL_bd HSB.out bs q) ?_ ?_ ?_ (by omega) (Nat.lt_of_lt_of_le hg hbW.size) (HK.out.below hbW HK.out.lt)
        · have := HIN.out.len
          simp; omega
        · exact fun z hz => HIN.out.bytes z (List.mem_of_mem_drop (List.mem_of_mem_take hz))
        · exact ((hseg.below hbW hg).drop (64 * q)).take 64
      obtain ⟨y0, y1, y2, y3, y4, y5, y6, y7, hy⟩ := list_8 (stepL (stepsL s bs q) ((bs.drop (64 * q)).take 64)) (stepL_length hl8 _)
      have hnx : stepsL s bs (q + 1) = [y0, y1, y2, y3, y4, y5, y6, y7] := hy
      obtain ⟨x0, x1, x2, x3, x4, x5, x6, x7, hx⟩ := list_8 (stepsL s bs q) hl8
      have hc2 : ∀ W, Below wr.heap.size wr W → Calls Tryz.prog 95 #[.agg #[.int .u32 x0, .int .u32 x1, .int .u32 x2, .int .u32 x3, .int .u32 x4, .int .u32 x5, .int .u32 x6, .int .u32 x7], .slice (some ⟨g, off + 64 * q, none⟩) 64 (cap - 64 * q)] W (fun e w' => e = .returned (.agg #[.int .u32 y0, .int .u32 y1, .int .u32 y2, .int .u32 y3, .int .u32 y4, .int .u32 y5, .int .u32 y6, .int .u32 y7]) ∧ Below W.heap.size W w') := fun W hW => by
        have h := hc W hW
        unfold StepPost at h
        rw [hy, hx] at h
        exact h
      have hr := HR.out
      rw [hx] at hr
      have HC := Lib.hid hc2
      have HNX := Lib.hid hnx
      have HR2 := Lib.hid hr
      have c0 := hr.cell 0 (by simp)
      have c1 := hr.cell 1 (by simp)
      have c2 := hr.cell 2 (by simp)
      have c3 := hr.cell 3 (by simp)
      have c4 := hr.cell 4 (by simp)
      have c5 := hr.cell 5 (by simp)
      have c6 := hr.cell 6 (by simp)
      have c7 := hr.cell 7 (by simp)
      simp only [List.getElem_cons_zero, List.getElem_cons_succ] at c0 c1 c2 c3 c4 c5 c6 c7
      have k1 : 64 * (q : Int) < (n : Int) := by omega
      have k2 : (64 * (q : Int) + 64).toNat = 64 * q + 64 := by omega
      have k3 : IntKind.i64.wrap (64 * (q : Int) + 64) = 64 * (q : Int) + 64 := IntWalk.i64_in _ (by omega)
      have k4 : (0 : Int) ≤ 64 * (q : Int) := by omega
      have k5 : 64 * (q : Int) + 64 ≤ (cap : Int) := by omega
      have k6 : (64 * (q : Int)).toNat = 64 * q := by omega
      have k8 : ¬ cap = 64 * q := by omega
      have k7 : 64 * (q : Int) ≤ 64 * (q : Int) + 64 := by omega
      clear hl8 hc hn hseg hy hnx hx hc2 hr
      go_wp2_with fail
      go_region_with (go_at_call 95; (with_reducible refine (HC.out _ (Below.refl _ _).drew).mono ?_); rintro _ w3 ⟨rfl, hb3⟩; have HR3 : Hid (Row .u32 w3 37 w.heap.size [x0, x1, x2, x3, x4, x5, x6, x7]) := Lib.hid (HR2.out.drew.below hb3 HR2.out.lt); have HZ3 : Hid (Row .u32 w3 37 (w.heap.size + 1) [0, 0, 0, 0, 0, 0, 0, 0]) := Lib.hid (HZ.out.drew.below hb3 HZ.out.lt); have hcc := fun o => hb3.cell (p := ⟨w.heap.size, o, none⟩) HR2.out.lt; have hff := fun o => HR3.out.frozen o; have HB3 : Hid (Below w.heap.size w w3) := Lib.hid (HB.out.drew.trans (hb3.mono HB.out.size)); clear hb3)
      clear k1 k2 k3 k4 k5 k6 k7 k8 hcc hff c0 c1 c2 c3 c4 c5 c6 c7
      have hn := HM.out
      have k9 : 64 * (q : Int) + 64 ≤ 9223372036854775807 := by omega
      clear hn
      go_wp2_with fail
      go_roundw
      case rel =>
        have hlt2 := HR2.out.lt
        refine ⟨q + 1, by omega, by congr 1, ?_, ?_, ?_, ?_⟩
        · rw [HNX.out]
          exact ((((((((HR3.out.set 0 y0).set 1 y1).set 2 y2).set 3 y3).set 4 y4).set 5 y5).set 6 y6).set 7 y7)
        · exact ((((((((HZ3.out.far (by simp) _).far (by simp) _).far (by simp) _).far (by simp) _).far (by simp) _).far (by simp) _).far (by simp) _).far (by simp) _)
        · exact ((((((((HB3.out.setCell (Nat.le_refl _) _).setCell (Nat.le_refl _) _).setCell (Nat.le_refl _) _).setCell (Nat.le_refl _) _).setCell (Nat.le_refl _) _).setCell (Nat.le_refl _) _).setCell (Nat.le_refl _) _).setCell (Nat.le_refl _) _)
        · have := HZ3.out.lt
          simp [World.setCell]; omega
      case measure => simp [intOf]; omega
    · obtain rfl : q = m := by omega
      have hi8 : (Tryz.prog.info? 37).map (·.size) = some (stepsL s bs q).length := by rw [stepsL_length HS.out]; exact sizeA8
      have HI8 := Lib.hid hi8
      have k1 : ¬ 64 * (q : Int) < (n : Int) := by omega
      clear hi8 hn
      go_wp2_with (first
        | (refine wpList_load_ints rfl 37 (.tmp 2) rfl w.heap.size rfl 37 .u32 (stepsL s bs q) HR.out 8 36 Tryz.underlying37 HI8.out ?_)
        | (refine wpList_store_ints rfl 37 (.tmp 4) (.tmp 19) rfl (w.heap.size + 1) .u32 (stepsL s bs q) rfl rfl 37 [0, 0, 0, 0, 0, 0, 0, 0] HZ.out HI8.out (by rw [stepsL_length HS.out]; rfl) ?_
           intro w5 hr5 hg5 hs5
           have HR5 := Lib.hid hr5
           have HG5 := Lib.hid hg5
           clear hr5 hg5 hs5))
      refine bodyPost_ret (v := stV (stepsL s bs q)) (results_cell_row Tryz.results87 _ _ (w.heap.size + 1) 37 _ _ _ rfl HR5.out Tryz.underlying37 rfl (by rw [ints_size]; exact HI8.out)) rfl ⟨rfl, ?_⟩
      exact below_only HB.out HG5.out HB.out.size (by omega)
end Go.Proofs.YtkcmohmfejmfoaaGreatDoor

/- Contracts of withTail and stateBytes. -/
namespace Go.Proofs.YtkcmohmfejmfoaaGreatDoor
open Go.RowKit
set_option linter.unusedVariables false

def WithTailPost (w : World) (r : List Int) (n : Nat) (e : Ending) (w' : World) : Prop :=
  ∃ g cap, e = .returned (.slice (some ⟨g, 0, none⟩) (r.length + (nils n + 9)) cap) ∧ w'.ownsRow w.heap.size 5 1 (.slice (some ⟨g, 0, none⟩) (r.length + (nils n + 9)) cap) (r.length + (nils n + 9)) ((r ++ tailL n).map (Value.int .u8)) ∧ Below w.heap.size w w'

set_option maxRecDepth 100000 in
set_option maxHeartbeats 1000000 in
theorem withTail_any (a : Option Addr) (k cap n : Nat) (r : List Int) (w : World) (hin : InBytes w a k cap r) (hk : k < 64) (hn : (n : Int) ≤ 1125899906842624) :
    Calls Tryz.prog 89 #[.slice a k cap, .int .i64 n] w (WithTailPost w r n) := by
  obtain ⟨i0, hi0, hz0, hz1, hz2⟩ := info_parts infoU8
  have hnl := nils_lt n
  have hlen := tailL_length n
  have hrl := hin.len
  have HIN := Lib.hid hin
  have HLEN := Lib.hid hlen
  have HRL := Lib.hid hrl
  clear hin hlen hrl
  go_enter Tryz.func89, Tryz.ntmps89
  go_wp2_with (first
    | (at_make
       refine wpList_make_own _ rfl (.const (.int .i64 0)) (.const (.int .i64 128)) 22 rfl w.heap.size 5 i0 _ 1 Tryz.underlying22 hi0 hz0 hz1 .i64 .i64 _ 128 rfl rfl rfl (by rw [hz2]; omega) (by simp only [maxLen]; omega) (Nat.le_refl _) ?_
       intro w1 hown1 hg1
       have HO1 := Lib.hid hown1
       have HB1 : Hid (Below w.heap.size w w1) := Lib.hid ((Below.refl _ _).grown hg1 (Nat.le_refl _) (by simp))
       clear hown1 hg1)
    | (at_builtin
       refine wpList_append_bytes _ rfl (.tmp 7) (.tmp 8) 22 rfl w.heap.size 5 i0 _ 1 Tryz.underlying22 hi0 hz0 hz1 hz2 rfl (.slice (some ⟨w.heap.size, 0, none⟩) 0 128) 0 [] rfl HO1.out a k cap r rfl (HIN.out.below HB1.out) (by simp only [maxLen]; omega) (by omega) HB1.out.size ?_
       intro v2 w2 hown2 hg2
       have HO2 := Lib.hid hown2
       have HB2 : Hid (Below w.heap.size w w2) := Lib.hid (HB1.out.grown hg2 HB1.out.size (fun j hj => (HO1.out.lt j hj).1))
       clear hown2 hg2)
    | (go_at_call 96
       (with_reducible refine (tail_any n _ hn).mono ?_)
       rintro e w3 ⟨rfl, hr3, hb3, hs3⟩
       have HO3 : Hid (w3.ownsRow w.heap.size 5 1 v2 (0 + k) ([] ++ r.map (Value.int .u8))) := Lib.hid (HO2.out.kept (only_below hb3 none) (by cases v2.ownBlock <;> simp))
       have HB3 : Hid (Below w.heap.size w w3) := Lib.hid (HB2.out.trans (hb3.mono HB2.out.size))
       have HR3 := Lib.hid hr3
       clear hr3 hb3 hs3)
    | (at_builtin
       refine wpList_append_own _ rfl (.tmp 10) (.tmp 12) 22 rfl w.heap.size 5 i0 _ 1 1 Tryz.underlying22 hi0 hz0 hz1 hz2 rfl (by omega) v2 (0 + k) ([] ++ r.map (Value.int .u8)) rfl HO3.out ⟨w2.heap.size, 0, none⟩ (nils n + 9) (nils n + 9) ((tailL n).map (Value.int .u8)) rfl (by simp [HLEN.out]) (by exact HR3.out.seg.news) (by simp [Value.oneCell']) (by simp only [maxLen]; omega) (by omega) HB3.out.size ?_
       intro v4 w4 hown4 hg4 hat4
       obtain ⟨g4, cap4, hv4, hgg4, hlt4⟩ := hown4.form (by omega)
       rw [hv4]
       rw [hv4] at hown4
       have HO4 := Lib.hid hown4
       have HB4 : Hid (Below w.heap.size w w4) := Lib.hid (HB3.out.grown hg4 HB3.out.size (fun j hj => (HO3.out.lt j hj).1))
       clear hown4 hg4 hat4 hv4))
  go_ret
  refine ⟨g4, cap4, ?_, ?_, HB4.out⟩
  · rw [HRL.out]; simp
  · have h := HO4.out
    rw [List.nil_append, Nat.zero_add, ← List.map_append, ← HRL.out] at h
    exact h
end Go.Proofs.YtkcmohmfejmfoaaGreatDoor

/- The contract of stateBytes. -/
namespace Go.Proofs.YtkcmohmfejmfoaaGreatDoor
open Go.RowKit
set_option linter.unusedVariables false

theorem putB_be4 (pre : List Int) (k : Nat) (x : Int) : putB (pre ++ List.replicate (k + 4) 0) pre.length 4 x 4 = (pre ++ be4 x) ++ List.replicate k 0 := by
  rw [putB_append, List.append_assoc]
  congr 1
  simp [putB, be4, List.replicate_succ]
theorem bytesL_take (s : List Int) (i : Nat) (h : i < s.length) : bytesL (s.take (i + 1)) = bytesL (s.take i) ++ be4 (s.getD i 0) := by
  rw [List.take_succ_eq_append_getElem h]
  simp only [bytesL, List.flatMap_append, List.flatMap_cons, List.flatMap_nil, List.append_nil]
  simp [List.getD, h]
theorem bytesL_length (s : List Int) : (bytesL s).length = 4 * s.length := by
  induction s with
  | nil => rfl
  | cons a r ih => simp only [bytesL, List.flatMap_cons, List.length_append, List.length_cons] at ih ⊢; rw [ih]; simp [be4]; omega

def StateBytesPost (w : World) (s : List Int) (e : Ending) (w' : World) : Prop :=
  e = .returned (.slice (some ⟨w.heap.size + 1, 0, none⟩) 32 32) ∧ Row .u8 w' 5 (w.heap.size + 1) (bytesL s) ∧ Below w.heap.size w w'

set_option maxRecDepth 100000 in
set_option maxHeartbeats 1000000 in
theorem stateBytes_any (s : List Int) (w : World) (hs : s.length = 8) (hsb : Words32 s) :
    Calls Tryz.prog 90 #[stV s] w (StateBytesPost w s) := by
  obtain ⟨i0, hi0, hz0, hz1, hz2⟩ := info_parts infoU8
  have hix : ∀ (i : Nat), i < 8 → ∀ W, (Instr.index 37 (.agg (s.map (Value.int .u32)).toArray) (.int .i64 i)).run Tryz.prog W = .ok (.int .u32 (s.getD i 0)) W :=
    fun i hi W => run_index_ints 37 s (by rw [hs]; exact Tryz.underlying37) i (by omega) W
  have hi8 : (Tryz.prog.info? 37).map (·.size) = some s.length := by rw [hs]; exact sizeA8
  have HI8 := Lib.hid hi8
  have HIX := Lib.hid hix
  have HS := Lib.hid hs
  have HSB := Lib.hid hsb
  clear hix hi8 hs hsb
  unfold stV
  go_enter Tryz.func90, Tryz.ntmps90
  go_wp2_with (first
    | (at_make
       refine wpList_make_ints _ rfl (.const (.int .i64 32)) (.const (.int .i64 32)) 22 rfl 5 i0 .u8 Tryz.underlying22 hi0 hz0 hz1 .i64 .i64 _ _ 32 rfl rfl (by omega) (by omega) (by rw [hz2]; omega) (by simp only [maxLen]; omega) ?_
       intro w1 hr1 hb1 hs1
       have HR1 : Hid (Row .u8 w1 5 (w.heap.size + 1) (List.replicate 32 0)) := Lib.hid (by have h := hr1; simp only [World.size_alloc] at h; exact h)
       have HV1 : Hid (Row .u32 w1 37 w.heap.size s) := Lib.hid ((Row.new w 37 s).below hb1 (by simp))
       have HB1 : Hid (Below w.heap.size w w1) := Lib.hid (((Below.refl _ _).alloc (Nat.le_refl _) _).trans (hb1.mono (by simp)))
       clear hr1 hb1 hs1)
    | (refine wpList_load_ints rfl 37 (.tmp 1) rfl w.heap.size rfl 37 .u32 s HV1.out 8 36 Tryz.underlying37 HI8.out ?_))
  go_loopw [8] (fun i wx => ∃ n : Nat, n ≤ 8 ∧ i = .int .i64 n ∧ Row .u8 wx 5 (w.heap.size + 1) (bytesL (s.take n) ++ List.replicate (32 - 4 * n) 0) ∧ Below w.heap.size w wx) (fun i _ => 8 - (intOf i).toNat)
  case atStart => exact ⟨0, by omega, rfl, HR1.out, HB1.out⟩
  case round =>
    obtain ⟨n, hn, rfl, hr, hb⟩ := hrel
    have HR := Lib.hid hr
    have HB := Lib.hid hb
    clear hr hb
    by_cases hlt : n < 8
    · have hx := HIX.out n hlt
      have bx := word_at HSB.out n
      have hnx := bytesL_take s n (by rw [HS.out]; exact hlt)
      generalize s.getD n 0 = x at *
      have HNX := Lib.hid hnx
      clear hnx
      have hpl : (bytesL (s.take n)).length = 4 * n := by rw [bytesL_length, List.length_take, HS.out]; omega
      have hput := putB_be4 (bytesL (s.take n)) (28 - 4 * n) x
      rw [hpl, show 28 - 4 * n + 4 = 32 - 4 * n by omega] at hput
      have HPUT := Lib.hid hput
      have HPL := Lib.hid hpl
      clear hput hpl
      go_wp2_with fail
      rw [show 4 * (n + 1) - 4 * n = 4 by omega]
      refine (putBig_any (w.heap.size + 1) (4 * n) 4 (32 - 4 * n) _ x wr HR.out (by rw [List.length_append, HPL.out, List.length_replicate]; omega) (by omega) bx.1 (by omega)).mono ?_
      rintro e w2 ⟨rfl, hr2, hs2, hg2⟩
      rw [HPUT.out, ← HNX.out] at hr2
      have HR2 := Lib.hid hr2
      have HB2 : Hid (Below w.heap.size w w2) := Lib.hid (below_only HB.out hg2 HB.out.size (by omega))
      clear hr2 hs2 hg2
      go_wp2_with fail
      go_roundw
      case rel => exact ⟨n + 1, by omega, by go_num, by rw [show 32 - 4 * (n + 1) = 28 - 4 * n by omega]; exact HR2.out, HB2.out⟩
      case measure => simp [intOf]; omega
    · obtain rfl : n = 8 := by omega
      have hfin : bytesL (s.take 8) ++ List.replicate (32 - 4 * 8) 0 = bytesL s := by
        rw [List.take_of_length_le (by rw [HS.out]; omega)]
        simp
      have hr := HR.out
      rw [hfin] at hr
      have HR2 := Lib.hid hr
      clear hr hfin
      go_wp2_with fail
      go_ret
      exact ⟨rfl, HR2.out, HB.out⟩
end Go.Proofs.YtkcmohmfejmfoaaGreatDoor

/- The contract of Sum. -/
namespace Go.Proofs.YtkcmohmfejmfoaaGreatDoor
open Go.RowKit
set_option linter.unusedVariables false

def SumPost (w : World) (bs : List Int) (e : Ending) (w' : World) : Prop :=
  ∃ g, w.heap.size ≤ g ∧ e = .returned (.slice (some ⟨g, 0, none⟩) 32 32) ∧ Row .u8 w' 5 g (sumL bs) ∧ Below w.heap.size w w'

set_option maxRecDepth 100000 in
set_option maxHeartbeats 2000000 in
theorem Sum_any (a : Option Addr) (n cap : Nat) (bs : List Int) (w : World) (hin : InBytes w a n cap bs) (hn : (n : Int) ≤ 1125899906842624) (hT : TabLies w) :
    Calls Tryz.prog 81 #[.slice a n cap] w (SumPost w bs) := by
  obtain ⟨m, r, hr, hnm⟩ : ∃ m r, r < 64 ∧ n = 64 * m + r := ⟨n / 64, n % 64, by omega, by omega⟩
  have hle := hin.le
  have hmax := hin.max
  simp only [maxLen] at hmax
  have hwh : (n : Int) - (n : Int) % 64 = 64 * (m : Int) := by omega
  have HIN := Lib.hid hin
  have HT := Lib.hid hT
  have HNM := Lib.hid hnm
  have k1 : (64 * (m : Int)).toNat = 64 * m := by omega
  have k2 : (0 : Int) ≤ 64 * (m : Int) := by omega
  have k3 : 64 * (m : Int) ≤ (cap : Int) := by omega
  have k4 : 64 * (m : Int) ≤ (n : Int) := by omega
  clear hin hT hnm
  go_enter Tryz.func81, Tryz.ntmps81
  go_upto_region 2 with fail
  have hstep : ∀ W, Below w.heap.size w W → Calls Tryz.prog 87 #[stV hTab, .slice a (64 * m) cap] W (StepsPost W hTab (bs.take (64 * m)) m) := fun W hW =>
    steps_any a (64 * m) cap m hTab _ W rfl hTab_bd ((HIN.out.below hW).upto (64 * m) (by have := HNM.out; omega)) rfl (HT.out.below hW (Nat.le_refl _)).kl
  have hfirst : ∀ W, Below w.heap.size w W → Calls Tryz.prog 88 #[] W (FirstPost W) := fun W hW => First_any W (HT.out.below hW (Nat.le_refl _))
  obtain ⟨y0, y1, y2, y3, y4, y5, y6, y7, hy⟩ := list_8 (stepsL hTab (bs.take (64 * m)) m) (stepsL_length rfl _ m)
  have hstep2 : ∀ W, Below w.heap.size w W → Calls Tryz.prog 87 #[stV hTab, .slice a (64 * m) cap] W (fun e w' => e = .returned (.agg #[.int .u32 y0, .int .u32 y1, .int .u32 y2, .int .u32 y3, .int .u32 y4, .int .u32 y5, .int .u32 y6, .int .u32 y7]) ∧ Below W.heap.size W w') := fun W hW => by
    have h := hstep W hW
    unfold StepsPost at h
    rw [hy] at h
    exact h
  have HSTEP := Lib.hid hstep2
  have HFIRST := Lib.hid hfirst
  have HY := Lib.hid hy
  clear hstep hstep2 hfirst hy
  go_cut [4] (fun s4 wx => ∃ g : Nat, s4 = .pointer (some ⟨g, 0, none⟩) ∧ w.heap.size ≤ g ∧ Row .u32 wx 37 g [y0, y1, y2, y3, y4, y5, y6, y7] ∧ Below w.heap.size w wx)
  case first =>
    go_region_with (first
      | (go_at_call 88
         (with_reducible refine (HFIRST.out _ ?_).mono ?_)
         · exact (Below.refl _ _).drew
         rintro _ w1 ⟨rfl, hb1⟩
         have HW1 : Hid (Below w.heap.size w w1) := Lib.hid ((Below.refl _ _).drew.trans (hb1.mono (Nat.le_refl _)))
         clear hb1)
      | (go_at_call 88
         (with_reducible refine (HFIRST.out _ ?_).mono ?_)
         · exact ((Below.refl _ _).alloc (Nat.le_refl _) _).drew
         rintro _ w1 ⟨rfl, hb1⟩
         have HW1 : Hid (Below w.heap.size w w1) := Lib.hid (((Below.refl _ _).alloc (Nat.le_refl _) _).drew.trans (hb1.mono (by simp)))
         have HZ1 : Hid (Row .u32 w1 37 w.heap.size [0, 0, 0, 0, 0, 0, 0, 0]) := Lib.hid ((Row.new w 37 [0, 0, 0, 0, 0, 0, 0, 0]).drew.below hb1 (by simp))
         clear hb1)
      | (go_at_call 88
         (with_reducible refine (HFIRST.out _ ?_).mono ?_)
         · exact ((Below.refl _ _).drew.alloc (Nat.le_refl _) _)
         rintro _ w1 ⟨rfl, hb1⟩
         have HW1 : Hid (Below w.heap.size w w1) := Lib.hid (((Below.refl _ _).drew.alloc (Nat.le_refl _) _).trans (hb1.mono (by simp)))
         have HZ1 : Hid (Row .u32 w1 37 w.heap.size [0, 0, 0, 0, 0, 0, 0, 0]) := Lib.hid ((Row.new w.drew 37 [0, 0, 0, 0, 0, 0, 0, 0]).below hb1 (by simp))
         clear hb1)
      | (go_at_call 87
         (with_reducible refine (HSTEP.out _ ?_).mono ?_)
         · exact HW1.out
         rintro _ w2 ⟨rfl, hb2⟩
         have HW2 : Hid (Below w.heap.size w w2) := Lib.hid (HW1.out.trans (hb2.mono HW1.out.size))
         have HZ2 : Hid (Row .u32 w2 37 w.heap.size [0, 0, 0, 0, 0, 0, 0, 0]) := Lib.hid (HZ1.out.below hb2 HZ1.out.lt)
         have q0 := HZ2.out.cell 0 (by simp)
         have q1 := HZ2.out.cell 1 (by simp)
         have q2 := HZ2.out.cell 2 (by simp)
         have q3 := HZ2.out.cell 3 (by simp)
         have q4 := HZ2.out.cell 4 (by simp)
         have q5 := HZ2.out.cell 5 (by simp)
         have q6 := HZ2.out.cell 6 (by simp)
         have q7 := HZ2.out.cell 7 (by simp)
         simp only [List.getElem_cons_zero, List.getElem_cons_succ] at q0 q1 q2 q3 q4 q5 q6 q7
         have qf := fun o => HZ2.out.frozen o
         clear hb2)
      | (go_at_call 87
         (with_reducible refine (HSTEP.out _ ?_).mono ?_)
         · exact HW1.out.alloc HW1.out.size _
         rintro _ w2 ⟨rfl, hb2⟩
         have HW2 : Hid (Below w.heap.size w w2) := Lib.hid ((HW1.out.alloc HW1.out.size _).trans (hb2.mono (by have := HW1.out.size; simp; omega)))
         have HZ2 : Hid (Row .u32 w2 37 w1.heap.size [0, 0, 0, 0, 0, 0, 0, 0]) := Lib.hid ((Row.new w1 37 [0, 0, 0, 0, 0, 0, 0, 0]).below hb2 (by simp))
         have q0 := HZ2.out.cell 0 (by simp)
         have q1 := HZ2.out.cell 1 (by simp)
         have q2 := HZ2.out.cell 2 (by simp)
         have q3 := HZ2.out.cell 3 (by simp)
         have q4 := HZ2.out.cell 4 (by simp)
         have q5 := HZ2.out.cell 5 (by simp)
         have q6 := HZ2.out.cell 6 (by simp)
         have q7 := HZ2.out.cell 7 (by simp)
         simp only [List.getElem_cons_zero, List.getElem_cons_succ] at q0 q1 q2 q3 q4 q5 q6 q7
         have qf := fun o => HZ2.out.frozen o
         clear hb2)
      | (go_at_call 87
         (with_reducible refine (HSTEP.out _ ?_).mono ?_)
         · exact HW1.out
         rintro _ w2 ⟨rfl, hb2⟩
         have HW2 : Hid (Below w.heap.size w w2) := Lib.hid (HW1.out.trans (hb2.mono HW1.out.size))
         clear hb2))
    · go_wp2_with fail
      go_meet
      exact ⟨w2.heap.size, rfl, HW2.out.size, Row.new w2 37 [y0, y1, y2, y3, y4, y5, y6, y7], HW2.out.alloc HW2.out.size _⟩
    · go_wp2_with fail
      go_meet
      exact ⟨w1.heap.size, rfl, HW1.out.size, ((((((((HZ2.out.set 0 y0).set 1 y1).set 2 y2).set 3 y3).set 4 y4).set 5 y5).set 6 y6).set 7 y7), ((((((((HW2.out.setCell HW1.out.size _).setCell HW1.out.size _).setCell HW1.out.size _).setCell HW1.out.size _).setCell HW1.out.size _).setCell HW1.out.size _).setCell HW1.out.size _).setCell HW1.out.size _)⟩
    · go_wp2_with fail
      go_meet
      exact ⟨w.heap.size, rfl, Nat.le_refl _, ((((((((HZ2.out.set 0 y0).set 1 y1).set 2 y2).set 3 y3).set 4 y4).set 5 y5).set 6 y6).set 7 y7), ((((((((HW2.out.setCell (Nat.le_refl _) _).setCell (Nat.le_refl _) _).setCell (Nat.le_refl _) _).setCell (Nat.le_refl _) _).setCell (Nat.le_refl _) _).setCell (Nat.le_refl _) _).setCell (Nat.le_refl _) _).setCell (Nat.le_refl _) _)⟩
  case rest =>
    obtain ⟨gv, rfl, hgv, hrv, hbv⟩ := hcut
    have HRV := Lib.hid hrv
    have HBV := Lib.hid hbv
    clear hrv hbv HSTEP HFIRST
    go_upto_region 3 with fail
    have hn2 := HNM.out
    obtain ⟨qn, hq1, hq2, hq3, hq4⟩ := whole_blocks n m r hr hn2
    obtain ⟨a2, hif⟩ : ∃ a2, (if cap = 64 * m then a else a.map (fun x => x.add (64 * m))) = a2 := ⟨_, rfl⟩
    have hwt : ∀ W, Below wc.heap.size wc W → Calls Tryz.prog 89 #[.slice a2 (n - 64 * m) (cap - 64 * m), .int .i64 n] W (WithTailPost W (bs.drop (64 * m)) n) := fun W hW => by
      rw [← hif]
      exact withTail_any _ (n - 64 * m) (cap - 64 * m) n (bs.drop (64 * m)) W ((HIN.out.below (HBV.out.trans (hW.mono HBV.out.size))).behind (64 * m) (by omega)) (by omega) hn
    have hrl : (bs.drop (64 * m)).length = r := by rw [List.length_drop, HIN.out.len]; omega
    obtain ⟨z0, z1, z2, z3, z4, z5, z6, z7, hz⟩ := list_8 (stepsL [y0, y1, y2, y3, y4, y5, y6, y7] (bs.drop (64 * m) ++ tailL n) qn) (stepsL_length rfl _ qn)
    have hyb : Words32 [y0, y1, y2, y3, y4, y5, y6, y7] := by
      rw [← HY.out]
      exact stepsL_bd hTab_bd _ _
    have hst : ∀ W g4 cap4, Below wc.heap.size wc W → W.ownsRow wc.heap.size 5 1 (.slice (some ⟨g4, 0, none⟩) (r + (nils n + 9)) cap4) (r + (nils n + 9)) ((bs.drop (64 * m) ++ tailL n).map (Value.int .u8)) →
        Calls Tryz.prog 87 #[.agg #[.int .u32 y0, .int .u32 y1, .int .u32 y2, .int .u32 y3, .int .u32 y4, .int .u32 y5, .int .u32 y6, .int .u32 y7], .slice (some ⟨g4, 0, none⟩) (r + (nils n + 9)) cap4] W
          (fun e w' => e = .returned (.agg #[.int .u32 z0, .int .u32 z1, .int .u32 z2, .int .u32 z3, .int .u32 z4, .int .u32 z5, .int .u32 z6, .int .u32 z7]) ∧ Below W.heap.size W w') := fun W g4 cap4 hW ho => by
      have hbW : Below w.heap.size w W := HBV.out.trans (hW.mono HBV.out.size)
      have h := steps_any (some ⟨g4, 0, none⟩) (r + (nils n + 9)) cap4 qn [y0, y1, y2, y3, y4, y5, y6, y7] (bs.drop (64 * m) ++ tailL n) W rfl hyb (InBytes.of_own ho (app_bytes (fun z h => HIN.out.bytes z (List.mem_of_mem_drop h)) (tailL_bytes n))) hq3 (HT.out.below hbW (Nat.le_refl _)).kl
      unfold StepsPost at h
      rw [hz] at h
      exact h
    have hfin : sumL bs = bytesL [z0, z1, z2, z3, z4, z5, z6, z7] := by
      rw [← hz, sumL_parts bs m qn r hr (by rw [HIN.out.len]; exact hn2) (by rw [HIN.out.len]; exact hq4), HIN.out.len, HY.out]
    have hzb : Words32 [z0, z1, z2, z3, z4, z5, z6, z7] := by
      rw [← hz]
      exact stepsL_bd hyb _ _
    have HWT := Lib.hid hwt
    have HST := Lib.hid hst
    have HFIN := Lib.hid hfin
    have HZB := Lib.hid hzb
    have HRL := Lib.hid hrl
    have p0 := HRV.out.cell 0 (by simp)
    have p1 := HRV.out.cell 1 (by simp)
    have p2 := HRV.out.cell 2 (by simp)
    have p3 := HRV.out.cell 3 (by simp)
    have p4 := HRV.out.cell 4 (by simp)
    have p5 := HRV.out.cell 5 (by simp)
    have p6 := HRV.out.cell 6 (by simp)
    have p7 := HRV.out.cell 7 (by simp)
    simp only [List.getElem_cons_zero, List.getElem_cons_succ] at p0 p1 p2 p3 p4 p5 p6 p7
    have k5 : 64 * m ≤ n := by omega
    clear hwt hst hfin hzb hyb hrl hz hn2 hq1 hq2 hq3 hq4
    go_cut [4] (fun s4 wx => s4 = .pointer (some ⟨gv, 0, none⟩) ∧ Row .u32 wx 37 gv [z0, z1, z2, z3, z4, z5, z6, z7] ∧ Below w.heap.size w wx)
    case first =>
      go_region_with (first
        | (go_at_call 89
           (with_reducible refine (HWT.out _ ?_).mono ?_)
           · exact (Below.refl _ _).drew
           rintro _ w3 ⟨g4, cap4, rfl, ho4, hb3⟩
           rw [HRL.out] at ho4
           rw [HRL.out]
           have HO4 := Lib.hid ho4
           have HRX : Hid (Row .u32 w3 37 gv [y0, y1, y2, y3, y4, y5, y6, y7]) := Lib.hid (HRV.out.drew.below hb3 HRV.out.lt)
           have HW3 : Hid (Below wc.heap.size wc w3) := Lib.hid ((Below.refl _ _).drew.trans (hb3.mono (Nat.le_refl _)))
           have q0 := HRX.out.cell 0 (by simp); have q1 := HRX.out.cell 1 (by simp); have q2 := HRX.out.cell 2 (by simp); have q3 := HRX.out.cell 3 (by simp); have q4 := HRX.out.cell 4 (by simp); have q5 := HRX.out.cell 5 (by simp); have q6 := HRX.out.cell 6 (by simp); have q7 := HRX.out.cell 7 (by simp)
           simp only [List.getElem_cons_zero, List.getElem_cons_succ] at q0 q1 q2 q3 q4 q5 q6 q7
           clear ho4 hb3)
        | (go_at_call 87
           (with_reducible refine (HST.out _ _ _ ?_ ?_).mono ?_)
           · exact HW3.out
           · exact HO4.out
           rintro _ w4 ⟨rfl, hb4⟩
           have HR4 : Hid (Row .u32 w4 37 gv [y0, y1, y2, y3, y4, y5, y6, y7]) := Lib.hid (HRX.out.below hb4 HRX.out.lt)
           have HW4 : Hid (Below w.heap.size w w4) := Lib.hid ((HBV.out.trans (HW3.out.mono HBV.out.size)).trans (hb4.mono (Nat.le_trans HBV.out.size HW3.out.size)))
           have t0 := HR4.out.cell 0 (by simp)
           have t1 := HR4.out.cell 1 (by simp)
           have t2 := HR4.out.cell 2 (by simp)
           have t3 := HR4.out.cell 3 (by simp)
           have t4 := HR4.out.cell 4 (by simp)
           have t5 := HR4.out.cell 5 (by simp)
           have t6 := HR4.out.cell 6 (by simp)
           have t7 := HR4.out.cell 7 (by simp)
           have tf := fun o => HR4.out.frozen o
           clear hb4))
      all_goals
        go_wp2_with fail
        go_meet
        exact ⟨rfl, ((((((((HR4.out.set 0 z0).set 1 z1).set 2 z2).set 3 z3).set 4 z4).set 5 z5).set 6 z6).set 7 z7), ((((((((HW4.out.setCell hgv _).setCell hgv _).setCell hgv _).setCell hgv _).setCell hgv _).setCell hgv _).setCell hgv _).setCell hgv _)⟩
    case rest =>
      obtain ⟨rfl, hrz, hbz⟩ := hcut
      have HRZ := Lib.hid hrz
      have HBZ := Lib.hid hbz
      clear hrz hbz HWT HST p0 p1 p2 p3 p4 p5 p6 p7 hif
      have hsb : ∀ W, Calls Tryz.prog 90 #[.agg #[.int .u32 z0, .int .u32 z1, .int .u32 z2, .int .u32 z3, .int .u32 z4, .int .u32 z5, .int .u32 z6, .int .u32 z7]] W (StateBytesPost W [z0, z1, z2, z3, z4, z5, z6, z7]) := fun W => stateBytes_any [z0, z1, z2, z3, z4, z5, z6, z7] W rfl HZB.out
      have HSBY := Lib.hid hsb
      clear hsb
      go_wp2_with (first
        | (refine wpList_load_ints rfl 37 (.tmp 4) rfl gv rfl 37 .u32 [z0, z1, z2, z3, z4, z5, z6, z7] HRZ.out 8 36 Tryz.underlying37 sizeA8 ?_)
        | (go_at_call 90
           refine (HSBY.out _).mono ?_
           rintro _ w6 ⟨rfl, hr6, hb6⟩
           have HR6 := Lib.hid hr6
           have HB6 := Lib.hid hb6
           clear hr6 hb6))
      go_ret
      refine ⟨_, ?_, rfl, ?_, HBZ.out.trans (HB6.out.mono HBZ.out.size)⟩
      · have := HBZ.out.size
        omega
      · rw [HFIN.out]
        exact HR6.out
end Go.Proofs.YtkcmohmfejmfoaaGreatDoor

/- Facts on a sum's bytes. -/
namespace Go.Proofs.YtkcmohmfejmfoaaGreatDoor
open Go.RowKit
set_option linter.unusedVariables false

theorem bytesL_at (s : List Int) (i : Nat) (h : i < 4 * s.length) : (bytesL s).getD i 0 = s.getD (i / 4) 0 / 2 ^ (24 - 8 * (i % 4)) % 256 := by
  induction s generalizing i with
  | nil => simp at h
  | cons x r ih =>
    have hb : bytesL (x :: r) = be4 x ++ bytesL r := by simp [bytesL]
    rw [hb]
    by_cases hi : i < 4
    · have hd : i / 4 = 0 := by omega
      have hm : i % 4 = i := by omega
      rw [hd, hm]
      have : i = 0 ∨ i = 1 ∨ i = 2 ∨ i = 3 := by omega
      rcases this with rfl | rfl | rfl | rfl <;> simp [be4]
    · obtain ⟨j, rfl⟩ : ∃ j, i = 4 + j := ⟨i - 4, by omega⟩
      have ih2 := ih j (by simp at h; omega)
      rw [show (4 + j) / 4 = j / 4 + 1 by omega, show (4 + j) % 4 = j % 4 by omega]
      simp only [List.getD, List.getElem?_cons_succ] at ih2 ⊢
      rw [← ih2]
      rw [List.getElem?_append_right (by simp [be4])]
      simp [be4]

theorem sumL_length (bs : List Int) : (sumL bs).length = 32 := by
  unfold sumL
  rw [bytesL_length, stepsL_length rfl]
theorem sumL_bytes (bs : List Int) : Bytes8 (sumL bs) := bytesL_bytes _
end Go.Proofs.YtkcmohmfejmfoaaGreatDoor

/- The digest of a tree, as a function. No program is named here. -/
namespace Go.Proofs.YtkcmohmfejmfoaaGreatDoor
set_option linter.unusedVariables false

/-- The digest of a value: of a node's, or a dark node's own. -/
def valT (k : Nat) (t : Tr) : List Int := if t.k = 1 then (sumL (valL t.val)).take k else t.dig
/-- The digest of a tree by the width k; none: a digest in it has another width. -/
def digT (k : Nat) (t : Tr) : Option (List Int) := t.fold fun t rs =>
  if t.k = 0 then some ((sumL [3]).take k)
  else if t.k = 3 then (if t.dig.length = k then some t.dig else none)
  else if (valT k t).length ≠ k then none
  else match rs.getD 0 none, rs.getD 1 none with
    | some l, some r => some ((sumL (nodeL l ((sumL (pairL t.key (valT k t))).take k) r)).take k)
    | _, _ => none
theorem digT_0 {k : Nat} {t : Tr} (h : t.k = 0) : digT k t = some ((sumL [3]).take k) := by
  unfold digT
  rw [Tr.fold_eq, if_pos h]
theorem digT_3 {k : Nat} {t : Tr} (h : t.k = 3) : digT k t = if t.dig.length = k then some t.dig else none := by
  unfold digT
  rw [Tr.fold_eq, if_neg (by omega), if_pos h]
theorem digT_bad {k : Nat} {t : Tr} (h0 : t.k ≠ 0) (h3 : t.k ≠ 3) (hv : (valT k t).length ≠ k) : digT k t = none := by
  unfold digT
  rw [Tr.fold_eq, if_neg h0, if_neg h3, if_pos hv]
theorem digT_node {k : Nat} {t : Tr} (h0 : t.k ≠ 0) (h3 : t.k ≠ 3) (hv : (valT k t).length = k) (h2 : t.kids.length = 2) :
    digT k t = match digT k (t.kids[0]'(by omega)), digT k (t.kids[1]'(by omega)) with
    | some l, some r => some ((sumL (nodeL l ((sumL (pairL t.key (valT k t))).take k) r)).take k)
    | _, _ => none := by
  have e : digT k t = match (t.kids.map (digT k)).getD 0 none, (t.kids.map (digT k)).getD 1 none with
      | some l, some r => some ((sumL (nodeL l ((sumL (pairL t.key (valT k t))).take k) r)).take k)
      | _, _ => none := by
    conv => lhs; unfold digT
    rw [Tr.fold_eq, if_neg h0, if_neg h3, if_neg (by omega)]
    rfl
  rw [e]
  simp [List.getD, h2]
theorem take_sum_len {k : Nat} (hk : k ≤ 32) (bs : List Int) : ((sumL bs).take k).length = k := by
  rw [List.length_take, sumL_length]
  omega
theorem digT_len {k : Nat} (hk : k ≤ 32) {t : Tr} {zs : List Int} (h : digT k t = some zs) : zs.length = k := by
  unfold digT at h
  rw [Tr.fold_eq] at h
  split at h
  · injection h with h
    rw [← h]
    exact take_sum_len hk _
  · split at h
    · split at h
      · injection h with h
        rw [← h]
        assumption
      · cases h
    · split at h
      · cases h
      · split at h
        · injection h with h
          rw [← h]
          exact take_sum_len hk _
        · cases h
theorem valL_len (bs : List Int) : (valL bs).length = 1 + bs.length := by simp [valL]; omega
theorem nodeL_len (a b c : List Int) : (nodeL a b c).length = 1 + a.length + b.length + c.length := by simp [nodeL]; omega
theorem pairL_len {a b : List Int} (h : a.length ≤ 1000) : (pairL a b).length ≤ 10 + a.length + b.length := by
  have := numL_le (v := a.length) (by omega)
  simp only [pairL, bytL, List.length_cons, List.length_append]
  omega
end Go.Proofs.YtkcmohmfejmfoaaGreatDoor
