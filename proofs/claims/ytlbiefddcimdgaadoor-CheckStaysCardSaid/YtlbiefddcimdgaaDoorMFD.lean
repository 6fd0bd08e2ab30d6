/- The contract of the program's list of the parts without kids. One byte in a block of its own. No program is named here. The contracts of the program's Point and Empty of spans. The contract of whether no key of a span lies between two nodes. The contract of the document's items of a proof. The contracts of the document's Number and Bytes. The contracts of the document's preimages. The first 64 primes, as the document seeks them. No program is named here. The roots of the primes 0 to 15, reckoned: they are the constants. No program is named here. The roots of the primes 16 to 31, reckoned: they are the constants. No program is named here. The roots of the primes 32 to 47, reckoned: they are the constants. No program is named here. The roots of the primes 48 to 63, reckoned: they are the constants. No program is named here. All the roots. No program is named here. The contract of the document's times. The contract of the document's below. The contract of the document's root. The contract of the document's Made: the tables. The contract of the document's Tail. The contract of the document's Words. The contract of the document's step of a block. Facts on states and tables that the laws ask. The contract of the document's digest. The contract of the document's digest. The contracts of the program's Number and Bytes. The contracts of the program's preimages. The contract of the program's digest. The contract of the document's digest of a tree. The contract of the document's Empty of spans. The contract of the document's Check of proofs. The contract of the document's Check of proofs, the whole. The contract of whether a proof covers a span. The contract of the pairs that a proof shows. What stands in memory inside a closure over a tree. The contracts of the program's look at the widths of a tree's digests. The contracts of the program's digests of a tree's parts. The contracts of the program's trees: Digest. The program's digest of any tree by any width: bytes in new memory, or an error. The contracts of the program's Check and Bytes of proofs. The document's measure of a tree: has it few enough parts? The empty tree. No program is named here. Trees that lie in new blocks alone; what the program's proofs tell, as their contracts say it. A partial tree does not lie in a box; leaves. No program is named here. -/
import Derived.Test.YtlbiefddcimdgaaDoorMAC
import Derived.Test.YtlbiefddcimdgaaDoorMAA
import Derived.Test.YtlbiefddcimdgaaDoorMAB
import Derived.Test.YtlbiefddcimdgaaDoorProg
import Derived.WalkLawsBesides
import Derived.WalkSpells
import Derived.Outline
import Derived.Lib.Hide
import Derived.LoopTactic
import Derived.IntWalk
import Derived.RegionTactic
import Derived.BigRegion
import Derived.Deep.QuietTactic
import Derived.BigQuiet
import Derived.OwnWalk
import Derived.Maps.AppendAt
import Derived.Deep.AppendLies
import Derived.Deep.RegionLaw
import Derived.Deep.RegionWith
import Derived.Lib.IfaceEq
import Derived.Deep.DeepCutAuto
import Derived.Test.YtlbiefddcimdgaaDoorPrLen
import Derived.Lib.SliceRun
/- The contract of the program's list of the parts without kids. -/
namespace Go.Proofs.YtlbiefddcimdgaaDoor
open Go.RowKit
set_option linter.unusedVariables false

/-- The world inside the closure of ends: u is what the variable holds, v the row. -/
structure LE (wb w W : World) (gc gn : Nat) (h : TH) (v0 u v : Value) (hs : List TH) : Prop where
  box : Box W 27 w.heap.size h
  clo : Var1 W 96 gc (.func (.func 82) #[] #[.pointer (some ⟨gn, 0, none⟩), .pointer (some ⟨gc, 0, none⟩)])
  var : Var1 W 25 gn u
  own : OwnT W wb.heap.size 27 v hs
  b : Below wb.heap.size wb W
  nb : some w.heap.size ≠ v.ownBlock
  ge : wb.heap.size ≤ gn
  k : Keeps w W gn v0 v
section
variable {wb w W W' : World} {gc gn : Nat} {h : TH} {v0 u v u' v' : Value} {hs hs' : List TH}
theorem LE.step (d : LE wb w W gc gn h v0 u v hs) (hvar : Var1 W' 25 gn u') (hown : OwnT W' wb.heap.size 27 v' hs') (hk : Keeps W W' gn v v') : LE wb w W' gc gn h v0 u' v' hs' :=
  ⟨(hk.block _ d.box.lt (d.box.neV d.var (by decide)) d.nb).trans d.box, (hk.block _ d.clo.lt (d.clo.ne d.var (by decide)) (d.own.neV d.clo (by decide))).trans d.clo, hvar, hown,
    hk.below d.b d.b.size d.ge (fun k e => (d.own.lt k e).1), by
      rcases hk.ob with e | ⟨g, e, hg⟩
      · rw [e]; exact d.nb
      · rw [e]
        intro q
        injection q with q
        have := d.box.lt
        omega, d.ge, d.k.trans hk⟩
theorem LE.below (d : LE wb w W gc gn h v0 u v hs) (hb : Below W.heap.size W W') : LE wb w W' gc gn h v0 u v hs :=
  d.step (d.var.below hb d.var.lt) (d.own.keep hb) (Keeps.of_below gn v hb)
theorem LE.drew (d : LE wb w W gc gn h v0 u v hs) : LE wb w W.drew gc gn h v0 u v hs := d.below (Below.refl _ _).drew
/-- The row was written, or has grown. -/
theorem LE.grown (d : LE wb w W gc gn h v0 u v hs) (hown : OwnT W' wb.heap.size 27 v' hs') (hg : W.grownBy W' v.ownBlock) (ho : v'.ownBlock = v.ownBlock ∨ v'.ownBlock = some W.heap.size) : LE wb w W' gc gn h v0 u v' hs' :=
  d.step (d.var.grown hg (d.own.neV d.var (by decide))) hown (Keeps.of_grown gn hg ho)
/-- The variable was written. -/
theorem LE.put (d : LE wb w W gc gn h v0 u v hs) (x : Value) : LE wb w (W.setCell ⟨gn, 0, none⟩ x) gc gn h v0 x v hs :=
  d.step (d.var.set x) (d.own.far (p := ⟨gn, 0, none⟩) (d.own.neV d.var (by decide)) x) (Keeps.of_set W gn v x)
end
theorem LE.new {wb w : World} {gc gn : Nat} {v : Value} {hs : List TH} (h : TH) (hb : Below wb.heap.size wb w) (hge : wb.heap.size ≤ gn) (hc : Var1 w 96 gc (.func (.func 82) #[] #[.pointer (some ⟨gn, 0, none⟩), .pointer (some ⟨gc, 0, none⟩)])) (hv : Var1 w 25 gn v) (ho : OwnT w wb.heap.size 27 v hs) : LE wb w (w.alloc (.cells #[.int .i64 h.k, .slice h.ka h.kn h.kc, .slice h.va h.vn h.vc, .slice h.da h.dn h.dc, .slice h.ta h.tn h.tc] 27)) gc gn h v v v hs :=
  have h1 : Below w.heap.size w (w.alloc (.cells #[.int .i64 h.k, .slice h.ka h.kn h.kc, .slice h.va h.vn h.vc, .slice h.da h.dn h.dc, .slice h.ta h.tn h.tc] 27)) := (Below.refl _ _).alloc (Nat.le_refl _) _
  ⟨Box.new w _ h, hc.below h1 hc.lt, hv.below h1 hv.lt, ho.keep h1, hb.trans (h1.mono hb.size), fun q => by have := (ho.lt _ q.symm).2; omega, hge, Keeps.of_below gn v h1⟩
/-- What ends tells. -/
def Ends (w : World) (t : Tr) (e : Ending) (w' : World) : Prop := ∃ v hs, e = .returned v ∧ OwnT w' w.heap.size 27 v hs ∧ Heads w hs (endsT t) ∧ Below w.heap.size w w'
/-- What the closure of ends does. -/
def EndsPost (wb w : World) (gn : Nat) (v : Value) (hs : List TH) (t : Tr) (e : Ending) (w' : World) : Prop := ∃ v' hs', e = .returned (.tuple #[]) ∧ Var1 w' 25 gn v' ∧ OwnT w' wb.heap.size 27 v' (hs ++ hs') ∧ Heads wb hs' (endsT t) ∧ Keeps w w' gn v v'
theorem flat_take (l : List Tr) (i : Nat) (hi : i < l.length) : ((l.take (i + 1)).map endsT).flatten = ((l.take i).map endsT).flatten ++ endsT l[i] := by
  rw [List.take_add_one, List.getElem?_eq_getElem hi, List.map_append, List.flatten_append]
  simp only [Option.toList, List.map_cons, List.map_nil, List.flatten_cons, List.flatten_nil, List.append_nil]
theorem ends_sum (l : List Tr) : (l.map endsT).flatten.length ≤ (l.map countT).sum := by
  induction l with
  | nil => simp
  | cons a l ih =>
    have h1 := ends_len a
    simp only [List.map_cons, List.flatten_cons, List.length_append, List.sum_cons]
    omega
theorem count_take (t : Tr) (i : Nat) (hi : i < t.kids.length) : ((t.kids.take i).map endsT).flatten.length + countT t.kids[i] < countT t := by
  have h1 := ends_sum (t.kids.take i)
  have e : t.kids = t.kids.take i ++ (t.kids[i] :: t.kids.drop (i + 1)) := by rw [← List.drop_eq_getElem_cons hi, List.take_append_drop]
  have h2 : (t.kids.map countT).sum = ((t.kids.take i).map countT ++ (countT t.kids[i] :: (t.kids.drop (i + 1)).map countT)).sum := by
    conv => lhs; rw [e, List.map_append, List.map_cons]
  rw [List.sum_append, List.sum_cons] at h2
  have h3 := countT_eq t
  omega

set_option maxRecDepth 100000 in
set_option maxHeartbeats 4000000 in
theorem endsC_any (wb : World) : ∀ (t : Tr) (h : TH) (w : World) (gc gn : Nat) (v : Value) (hs : List TH), InTree wb h t → hs.length + countT t ≤ 1000 → Below wb.heap.size wb w → wb.heap.size ≤ gn →
    Var1 w 96 gc (.func (.func 82) #[] #[.pointer (some ⟨gn, 0, none⟩), .pointer (some ⟨gc, 0, none⟩)]) → Var1 w 25 gn v → OwnT w wb.heap.size 27 v hs →
    Calls Tryd.prog 82 #[h.v, .pointer (some ⟨gn, 0, none⟩), .pointer (some ⟨gc, 0, none⟩)] w (EndsPost wb w gn v hs t) := by
  intro t
  induction t using Tr.ind with
  | h t ih =>
  intro h w gc gn v hs ht hcn hbw hge hc hv ho
  unfold TH.v
  obtain ⟨H, hp⟩ := ht.parts
  have htl := hp.len
  have htm := Nat.le_trans hp.sl.le hp.sl.max
  have htc := hp.sl.le
  simp only [maxLen] at htm
  have hcp : 1 ≤ countT t := by rw [countT_eq]; omega
  have HP := Lib.hid hp
  have HTT := Lib.hid ht
  have IH := Lib.hid ih
  have hd0 := LE.new h hbw hge hc hv ho
  obtain ⟨a2, c2, hv2⟩ := ho.sl
  have HD0 := Lib.hid hd0
  obtain ⟨x0, x1, x2, x3, x4⟩ := hd0.box.cells
  clear hp ht ih hbw hge hc hv ho hd0
  obtain ⟨ti, hti, htz⟩ := Option.map_eq_some_iff.1 infoTree2
  simp only [Prod.mk.injEq] at htz
  obtain ⟨hz0, hz1, hz2⟩ := htz
  have HEN : Hid (endsT t = (if h.tn = 0 then [t] else []) ++ (t.kids.map endsT).flatten) := Lib.hid (by
    rw [endsT_eq]
    by_cases q : h.tn = 0
    · have q2 : t.kids = [] := List.eq_nil_of_length_eq_zero (by omega)
      rw [if_pos (by omega), if_pos q, q2]
      rfl
    · rw [if_neg (by omega), if_neg q, List.nil_append])
  have HCT := Lib.hid (count_take t)
  go_enter Tryd.func82, Tryd.ntmps82
  go_upto_if 9 with fail
  generalize (w.alloc (.cells #[.int .i64 h.k, .slice h.ka h.kn h.kc, .slice h.va h.vn h.vc, .slice h.da h.dn h.dc, .slice h.ta h.tn h.tc] 27)) = w0 at *
  clear x0 x1 x2 x3 x4
  go_cut [] (fun wx => ∃ v2 hs0, LE wb w wx gc gn h v v2 v2 (hs ++ hs0) ∧ Heads wb hs0 (if h.tn = 0 then [t] else []))
  case first =>
    by_cases hk0 : h.tn = 0
    · have HK0 : Hid ((if h.tn = 0 then [t] else []) = [t]) := Lib.hid (if_pos hk0)
      have hb0 : ((h.tn : Int) == 0) = true := by rw [hk0]; rfl
      generalize hn2 : hs.length = n2 at hv2 hcn
      have HN2 := Lib.hid hn2
      subst hv2
      obtain ⟨x0, x1, x2, x3, x4⟩ := HD0.out.box.cells
      clear hn2 hk0
      go_upto_region 2 with fail
      clear x0 x1 x2 x3 x4 hb0
      have hba : Below w0.drew.heap.size w0.drew (w0.drew.alloc (.cells #[.int .i64 0, .slice none 0 0, .slice none 0 0, .slice none 0 0, .slice none 0 0] 27)) := (Below.refl _ _).alloc (Nat.le_refl _) _
      have HDA := Lib.hid (HD0.out.drew.below hba)
      have HZB : Hid (Box (w0.drew.alloc (.cells #[.int .i64 0, .slice none 0 0, .slice none 0 0, .slice none 0 0, .slice none 0 0] 27)) 27 w0.heap.size hZ) := Lib.hid (Box.new w0.drew 27 hZ)
      have cv2 := HD0.out.var.cell
      have cva : (w0.alloc (.cells #[.int .i64 0, .slice none 0 0, .slice none 0 0, .slice none 0 0, .slice none 0 0] 27)).cell? ⟨gn, 0, none⟩ = some (.slice a2 n2 c2) := HDA.out.var.cell
      have hlt2 : (n2 : Int) < (n2 : Int) + 1 := by omega
      clear hba
      refine wp_region_held_drew (S := (fun W => W.cell? ⟨w.heap.size, 0, none⟩ = some (.int .i64 h.k) ∧ W.cell? ⟨w.heap.size, 1, none⟩ = some (.slice h.ka h.kn h.kc) ∧ W.cell? ⟨w.heap.size, 2, none⟩ = some (.slice h.va h.vn h.vc) ∧ W.cell? ⟨w.heap.size, 3, none⟩ = some (.slice h.da h.dn h.dc) ∧ W.cell? ⟨w.heap.size, 4, none⟩ = some (.slice h.ta h.tn h.tc))) (by kernel_rfl) HD0.out.drew.box.cells (fun hHeld => ?_)
      refine take_w (i := 1) (oi := ?oZ40) (v := ?vZ40) ?hiZ40 (by kernel_rfl) (by kernel_rfl) (by kernel_rfl) ?hQZ40 ?hwZ40 ?hyZ40 (by assumption) ?restZ40
      case hiZ40 => (simp only [List.getElem?_toArray, List.getElem?_cons_succ, List.getElem?_cons_zero] <;> rfl)
      case hQZ40 => exact (fun _ _ _ h => h)
      case hwZ40 => rfl
      case hyZ40 => (intro w hSw; (try dsimp only at hSw); go_simp; try with_reducible rfl)
      (try simp only [Act.put, List.setIfInBounds_toArray, List.set_cons_zero, List.set_cons_succ])
      refine wpAnyH_ready (rs := [0, 3]) (by kernel_rfl) (by simp) ?_
      refine AllReadyH.cons (o := ?oZ41) ?hiZ41 (fun K hK => ?stZ41) (AllReadyH.cons (o := ?oZ42) ?hiZ42 (fun K hK => ?stZ42) AllReadyH.nil)
      case hiZ41 => (simp only [List.getElem?_toArray, List.getElem?_cons_zero] <;> rfl)
      case hiZ42 => (simp only [List.getElem?_toArray, List.getElem?_cons_succ, List.getElem?_cons_zero] <;> rfl)
      case stZ41 =>
        go_simp
        refine hK.out _ _ ?_ (fun hHeld => ?_)
        · (first | exact (HD4.out.put (.slice (some ⟨g3, 0, none⟩) (n2 + 1) c3)).box.cells | exact HD5.out.box.cells | exact HD4.out.box.cells | exact (HD3.out.put (.slice (some ⟨g3, 0, none⟩) (n2 + 1) c3)).box.cells | exact HD3.out.box.cells | exact HDA.out.box.cells | exact HD0.out.drew.box.cells)
        clear hK K
        (try simp only [Act.put, List.setIfInBounds_toArray, List.set_cons_zero, List.set_cons_succ])
        refine take_w (i := 2) (oi := ?oZ43) (v := ?vZ43) ?hiZ43 (by kernel_rfl) (by kernel_rfl) (by kernel_rfl) ?hQZ43 ?hwZ43 ?hyZ43 (by assumption) ?restZ43
        case hiZ43 => (simp only [List.getElem?_toArray, List.getElem?_cons_succ, List.getElem?_cons_zero] <;> rfl)
        case hQZ43 => exact (fun _ _ _ h => h)
        case hwZ43 => rfl
        case hyZ43 => (intro w hSw; (try dsimp only at hSw); go_simp; try with_reducible rfl)
        (try simp only [Act.put, List.setIfInBounds_toArray, List.set_cons_zero, List.set_cons_succ])
        refine wpAnyH_ready (rs := [3]) (by kernel_rfl) (by simp) ?_
        refine AllReadyH.cons (o := ?oZ44) ?hiZ44 (fun K hK => ?stZ44) AllReadyH.nil
        case hiZ44 => (simp only [List.getElem?_toArray, List.getElem?_cons_succ, List.getElem?_cons_zero] <;> rfl)
        go_simp
        refine hK.out _ _ ?_ (fun hHeld => ?_)
        · (first | exact (HD4.out.put (.slice (some ⟨g3, 0, none⟩) (n2 + 1) c3)).box.cells | exact HD5.out.box.cells | exact HD4.out.box.cells | exact (HD3.out.put (.slice (some ⟨g3, 0, none⟩) (n2 + 1) c3)).box.cells | exact HD3.out.box.cells | exact HDA.out.box.cells | exact HD0.out.drew.box.cells)
        clear hK K
        (try simp only [Act.put, List.setIfInBounds_toArray, List.set_cons_zero, List.set_cons_succ])
        refine wpAnyH_ready (rs := [4]) (by kernel_rfl) (by simp) ?_
        refine AllReadyH.cons (o := ?oZ45) ?hiZ45 (fun K hK => ?stZ45) AllReadyH.nil
        case hiZ45 => (simp only [List.getElem?_toArray, List.getElem?_cons_succ, List.getElem?_cons_zero] <;> rfl)
        refine step_append_trees _ rfl (.tmp 10) (.tmp 13) 25 rfl wb.heap.size 27 ti _ 104 Tryd.underlying25 hti hz0 hz1 hz2 rfl (.slice a2 n2 c2) hs rfl HDA.out.own w0.heap.size 1 [hZ] rfl HZB.out.row (by rw [HN2.out]; simp only [List.length_cons, List.length_nil]; omega) (by omega) HDA.out.b.size ?_
        intro v3 w3 ho3 hg3 hob3
        have hl3 : (hs ++ [hZ]).length = n2 + 1 := by rw [List.length_append, HN2.out]; rfl
        rcases ho3.form with ⟨_, q1⟩ | ⟨g3, c3, q1, -, -, -, -, -⟩
        · exfalso
          rw [q1] at hl3
          simp at hl3
        rw [hl3] at q1
        subst q1
        clear hl3
        have hd3 := HDA.out.grown ho3 hg3 hob3
        have HD3 := Lib.hid hd3
        have cn3 := hd3.var.cell
        have cf3 := hd3.var.frozen 0
        clear ho3 hg3 hob3 hd3
        refine hK.out _ _ ?_ (fun hHeld => ?_)
        · (first | exact (HD4.out.put (.slice (some ⟨g3, 0, none⟩) (n2 + 1) c3)).box.cells | exact HD5.out.box.cells | exact HD4.out.box.cells | exact (HD3.out.put (.slice (some ⟨g3, 0, none⟩) (n2 + 1) c3)).box.cells | exact HD3.out.box.cells | exact HDA.out.box.cells | exact HD0.out.drew.box.cells)
        clear hK K
        (try simp only [Act.put, List.setIfInBounds_toArray, List.set_cons_zero, List.set_cons_succ])
        refine take_w (i := 5) (oi := ?oZ46) (v := ?vZ46) ?hiZ46 (by kernel_rfl) (by kernel_rfl) (by kernel_rfl) ?hQZ46 ?hwZ46 ?hyZ46 (by assumption) ?restZ46
        case hiZ46 => (simp only [List.getElem?_toArray, List.getElem?_cons_succ, List.getElem?_cons_zero] <;> rfl)
        case hQZ46 => exact (fun _ _ _ h => h)
        case hwZ46 => rfl
        case hyZ46 => (intro w hSw; (try dsimp only at hSw); go_simp; try with_reducible rfl)
        (try simp only [Act.put, List.setIfInBounds_toArray, List.set_cons_zero, List.set_cons_succ])
        refine wpAnyH_ready (rs := [6, 7]) (by kernel_rfl) (by simp) ?_
        refine AllReadyH.cons (o := ?oZ47) ?hiZ47 (fun K hK => ?stZ47) (AllReadyH.cons (o := ?oZ48) ?hiZ48 (fun K hK => ?stZ48) AllReadyH.nil)
        case hiZ47 => (simp only [List.getElem?_toArray, List.getElem?_cons_succ, List.getElem?_cons_zero] <;> rfl)
        case hiZ48 => (simp only [List.getElem?_toArray, List.getElem?_cons_succ, List.getElem?_cons_zero] <;> rfl)
        case stZ47 =>
          refine step_store_last _ rfl 27 (.tmp 15) (.tmp 11) rfl wb.heap.size 27 g3 n2 c3 hs hZ h HN2.out HD3.out.own rfl (by unfold TH.v; rfl) infoTree5 ?_
          intro w4 ho4 hg4
          have hd4 := HD3.out.grown ho4 hg4 (.inl rfl)
          have HD4 := Lib.hid hd4
          have cn4 := hd4.var.cell
          have cf4 := hd4.var.frozen 0
          clear ho4 hg4 hd4
          refine hK.out _ _ ?_ (fun hHeld => ?_)
          · (first | exact (HD4.out.put (.slice (some ⟨g3, 0, none⟩) (n2 + 1) c3)).box.cells | exact HD5.out.box.cells | exact HD4.out.box.cells | exact (HD3.out.put (.slice (some ⟨g3, 0, none⟩) (n2 + 1) c3)).box.cells | exact HD3.out.box.cells | exact HDA.out.box.cells | exact HD0.out.drew.box.cells)
          clear hK K
          (try simp only [Act.put])
          refine wpAnyH_ready (rs := [7]) (by kernel_rfl) (by simp) ?_
          refine AllReadyH.cons (o := ?oZ49) ?hiZ49 (fun K hK => ?stZ49) AllReadyH.nil
          case hiZ49 => (simp only [List.getElem?_toArray, List.getElem?_cons_succ, List.getElem?_cons_zero] <;> rfl)
          go_simp
          refine hK.out _ _ ?_ (fun hHeld => ?_)
          · (first | exact (HD4.out.put (.slice (some ⟨g3, 0, none⟩) (n2 + 1) c3)).box.cells | exact HD5.out.box.cells | exact HD4.out.box.cells | exact (HD3.out.put (.slice (some ⟨g3, 0, none⟩) (n2 + 1) c3)).box.cells | exact HD3.out.box.cells | exact HDA.out.box.cells | exact HD0.out.drew.box.cells)
          clear hK K
          (try simp only [Act.put])
          refine wpAnyH_done (by kernel_rfl) ?_ _
          go_wp2_with fail
          go_meet
          first
            | exact ⟨_, [h], HD5.out, by rw [HK0.out]; exact Heads.one HTT.out⟩
            | exact ⟨_, [h], HD4.out.put _, by rw [HK0.out]; exact Heads.one HTT.out⟩
        case stZ48 =>
          go_simp
          refine hK.out _ _ ?_ (fun hHeld => ?_)
          · (first | exact (HD4.out.put (.slice (some ⟨g3, 0, none⟩) (n2 + 1) c3)).box.cells | exact HD5.out.box.cells | exact HD4.out.box.cells | exact (HD3.out.put (.slice (some ⟨g3, 0, none⟩) (n2 + 1) c3)).box.cells | exact HD3.out.box.cells | exact HDA.out.box.cells | exact HD0.out.drew.box.cells)
          clear hK K
          (try simp only [Act.put])
          refine wpAnyH_ready (rs := [6]) (by kernel_rfl) (by simp) ?_
          refine AllReadyH.cons (o := ?oZ50) ?hiZ50 (fun K hK => ?stZ50) AllReadyH.nil
          case hiZ50 => (simp only [List.getElem?_toArray, List.getElem?_cons_succ, List.getElem?_cons_zero] <;> rfl)
          refine step_store_last _ rfl 27 (.tmp 15) (.tmp 11) rfl wb.heap.size 27 g3 n2 c3 hs hZ h HN2.out (HD3.out.put (.slice (some ⟨g3, 0, none⟩) (n2 + 1) c3)).own rfl (by unfold TH.v; rfl) infoTree5 ?_
          intro w5 ho4 hg4
          have hd4 := (HD3.out.put (.slice (some ⟨g3, 0, none⟩) (n2 + 1) c3)).grown ho4 hg4 (.inl rfl)
          have HD5 := Lib.hid hd4
          have cn4 := hd4.var.cell
          have cf4 := hd4.var.frozen 0
          clear ho4 hg4 hd4
          refine hK.out _ _ ?_ (fun hHeld => ?_)
          · (first | exact (HD4.out.put (.slice (some ⟨g3, 0, none⟩) (n2 + 1) c3)).box.cells | exact HD5.out.box.cells | exact HD4.out.box.cells | exact (HD3.out.put (.slice (some ⟨g3, 0, none⟩) (n2 + 1) c3)).box.cells | exact HD3.out.box.cells | exact HDA.out.box.cells | exact HD0.out.drew.box.cells)
          clear hK K
          (try simp only [Act.put])
          refine wpAnyH_done (by kernel_rfl) ?_ _
          go_wp2_with fail
          go_meet
          first
            | exact ⟨_, [h], HD5.out, by rw [HK0.out]; exact Heads.one HTT.out⟩
            | exact ⟨_, [h], HD4.out.put _, by rw [HK0.out]; exact Heads.one HTT.out⟩
      case stZ42 =>
        go_simp
        refine hK.out _ _ ?_ (fun hHeld => ?_)
        · (first | exact (HD4.out.put (.slice (some ⟨g3, 0, none⟩) (n2 + 1) c3)).box.cells | exact HD5.out.box.cells | exact HD4.out.box.cells | exact (HD3.out.put (.slice (some ⟨g3, 0, none⟩) (n2 + 1) c3)).box.cells | exact HD3.out.box.cells | exact HDA.out.box.cells | exact HD0.out.drew.box.cells)
        clear hK K
        (try simp only [Act.put, List.setIfInBounds_toArray, List.set_cons_zero, List.set_cons_succ])
        refine wpAnyH_ready (rs := [0]) (by kernel_rfl) (by simp) ?_
        refine AllReadyH.cons (o := ?oZ51) ?hiZ51 (fun K hK => ?stZ51) AllReadyH.nil
        case hiZ51 => (simp only [List.getElem?_toArray, List.getElem?_cons_zero] <;> rfl)
        go_simp
        refine hK.out _ _ ?_ (fun hHeld => ?_)
        · (first | exact (HD4.out.put (.slice (some ⟨g3, 0, none⟩) (n2 + 1) c3)).box.cells | exact HD5.out.box.cells | exact HD4.out.box.cells | exact (HD3.out.put (.slice (some ⟨g3, 0, none⟩) (n2 + 1) c3)).box.cells | exact HD3.out.box.cells | exact HDA.out.box.cells | exact HD0.out.drew.box.cells)
        clear hK K
        (try simp only [Act.put, List.setIfInBounds_toArray, List.set_cons_zero, List.set_cons_succ])
        refine take_w (i := 2) (oi := ?oZ52) (v := ?vZ52) ?hiZ52 (by kernel_rfl) (by kernel_rfl) (by kernel_rfl) ?hQZ52 ?hwZ52 ?hyZ52 (by assumption) ?restZ52
        case hiZ52 => (simp only [List.getElem?_toArray, List.getElem?_cons_succ, List.getElem?_cons_zero] <;> rfl)
        case hQZ52 => exact (fun _ _ _ h => h)
        case hwZ52 => rfl
        case hyZ52 => (intro w hSw; (try dsimp only at hSw); go_simp; try with_reducible rfl)
        (try simp only [Act.put, List.setIfInBounds_toArray, List.set_cons_zero, List.set_cons_succ])
        refine wpAnyH_ready (rs := [4]) (by kernel_rfl) (by simp) ?_
        refine AllReadyH.cons (o := ?oZ53) ?hiZ53 (fun K hK => ?stZ53) AllReadyH.nil
        case hiZ53 => (simp only [List.getElem?_toArray, List.getElem?_cons_succ, List.getElem?_cons_zero] <;> rfl)
        refine step_append_trees _ rfl (.tmp 10) (.tmp 13) 25 rfl wb.heap.size 27 ti _ 104 Tryd.underlying25 hti hz0 hz1 hz2 rfl (.slice a2 n2 c2) hs rfl HDA.out.own w0.heap.size 1 [hZ] rfl HZB.out.row (by rw [HN2.out]; simp only [List.length_cons, List.length_nil]; omega) (by omega) HDA.out.b.size ?_
        intro v3 w3 ho3 hg3 hob3
        have hl3 : (hs ++ [hZ]).length = n2 + 1 := by rw [List.length_append, HN2.out]; rfl
        rcases ho3.form with ⟨_, q1⟩ | ⟨g3, c3, q1, -, -, -, -, -⟩
        · exfalso
          rw [q1] at hl3
          simp at hl3
        rw [hl3] at q1
        subst q1
        clear hl3
        have hd3 := HDA.out.grown ho3 hg3 hob3
        have HD3 := Lib.hid hd3
        have cn3 := hd3.var.cell
        have cf3 := hd3.var.frozen 0
        clear ho3 hg3 hob3 hd3
        refine hK.out _ _ ?_ (fun hHeld => ?_)
        · (first | exact (HD4.out.put (.slice (some ⟨g3, 0, none⟩) (n2 + 1) c3)).box.cells | exact HD5.out.box.cells | exact HD4.out.box.cells | exact (HD3.out.put (.slice (some ⟨g3, 0, none⟩) (n2 + 1) c3)).box.cells | exact HD3.out.box.cells | exact HDA.out.box.cells | exact HD0.out.drew.box.cells)
        clear hK K
        (try simp only [Act.put, List.setIfInBounds_toArray, List.set_cons_zero, List.set_cons_succ])
        refine take_w (i := 5) (oi := ?oZ54) (v := ?vZ54) ?hiZ54 (by kernel_rfl) (by kernel_rfl) (by kernel_rfl) ?hQZ54 ?hwZ54 ?hyZ54 (by assumption) ?restZ54
        case hiZ54 => (simp only [List.getElem?_toArray, List.getElem?_cons_succ, List.getElem?_cons_zero] <;> rfl)
        case hQZ54 => exact (fun _ _ _ h => h)
        case hwZ54 => rfl
        case hyZ54 => (intro w hSw; (try dsimp only at hSw); go_simp; try with_reducible rfl)
        (try simp only [Act.put, List.setIfInBounds_toArray, List.set_cons_zero, List.set_cons_succ])
        refine wpAnyH_ready (rs := [6, 7]) (by kernel_rfl) (by simp) ?_
        refine AllReadyH.cons (o := ?oZ55) ?hiZ55 (fun K hK => ?stZ55) (AllReadyH.cons (o := ?oZ56) ?hiZ56 (fun K hK => ?stZ56) AllReadyH.nil)
        case hiZ55 => (simp only [List.getElem?_toArray, List.getElem?_cons_succ, List.getElem?_cons_zero] <;> rfl)
        case hiZ56 => (simp only [List.getElem?_toArray, List.getElem?_cons_succ, List.getElem?_cons_zero] <;> rfl)
        case stZ55 =>
          refine step_store_last _ rfl 27 (.tmp 15) (.tmp 11) rfl wb.heap.size 27 g3 n2 c3 hs hZ h HN2.out HD3.out.own rfl (by unfold TH.v; rfl) infoTree5 ?_
          intro w4 ho4 hg4
          have hd4 := HD3.out.grown ho4 hg4 (.inl rfl)
          have HD4 := Lib.hid hd4
          have cn4 := hd4.var.cell
          have cf4 := hd4.var.frozen 0
          clear ho4 hg4 hd4
          refine hK.out _ _ ?_ (fun hHeld => ?_)
          · (first | exact (HD4.out.put (.slice (some ⟨g3, 0, none⟩) (n2 + 1) c3)).box.cells | exact HD5.out.box.cells | exact HD4.out.box.cells | exact (HD3.out.put (.slice (some ⟨g3, 0, none⟩) (n2 + 1) c3)).box.cells | exact HD3.out.box.cells | exact HDA.out.box.cells | exact HD0.out.drew.box.cells)
          clear hK K
          (try simp only [Act.put])
          refine wpAnyH_ready (rs := [7]) (by kernel_rfl) (by simp) ?_
          refine AllReadyH.cons (o := ?oZ57) ?hiZ57 (fun K hK => ?stZ57) AllReadyH.nil
          case hiZ57 => (simp only [List.getElem?_toArray, List.getElem?_cons_succ, List.getElem?_cons_zero] <;> rfl)
          go_simp
          refine hK.out _ _ ?_ (fun hHeld => ?_)
          · (first | exact (HD4.out.put (.slice (some ⟨g3, 0, none⟩) (n2 + 1) c3)).box.cells | exact HD5.out.box.cells | exact HD4.out.box.cells | exact (HD3.out.put (.slice (some ⟨g3, 0, none⟩) (n2 + 1) c3)).box.cells | exact HD3.out.box.cells | exact HDA.out.box.cells | exact HD0.out.drew.box.cells)
          clear hK K
          (try simp only [Act.put])
          refine wpAnyH_done (by kernel_rfl) ?_ _
          go_wp2_with fail
          go_meet
          first
            | exact ⟨_, [h], HD5.out, by rw [HK0.out]; exact Heads.one HTT.out⟩
            | exact ⟨_, [h], HD4.out.put _, by rw [HK0.out]; exact Heads.one HTT.out⟩
        case stZ56 =>
          go_simp
          refine hK.out _ _ ?_ (fun hHeld => ?_)
          · (first | exact (HD4.out.put (.slice (some ⟨g3, 0, none⟩) (n2 + 1) c3)).box.cells | exact HD5.out.box.cells | exact HD4.out.box.cells | exact (HD3.out.put (.slice (some ⟨g3, 0, none⟩) (n2 + 1) c3)).box.cells | exact HD3.out.box.cells | exact HDA.out.box.cells | exact HD0.out.drew.box.cells)
          clear hK K
          (try simp only [Act.put])
          refine wpAnyH_ready (rs := [6]) (by kernel_rfl) (by simp) ?_
          refine AllReadyH.cons (o := ?oZ58) ?hiZ58 (fun K hK => ?stZ58) AllReadyH.nil
          case hiZ58 => (simp only [List.getElem?_toArray, List.getElem?_cons_succ, List.getElem?_cons_zero] <;> rfl)
          refine step_store_last _ rfl 27 (.tmp 15) (.tmp 11) rfl wb.heap.size 27 g3 n2 c3 hs hZ h HN2.out (HD3.out.put (.slice (some ⟨g3, 0, none⟩) (n2 + 1) c3)).own rfl (by unfold TH.v; rfl) infoTree5 ?_
          intro w5 ho4 hg4
          have hd4 := (HD3.out.put (.slice (some ⟨g3, 0, none⟩) (n2 + 1) c3)).grown ho4 hg4 (.inl rfl)
          have HD5 := Lib.hid hd4
          have cn4 := hd4.var.cell
          have cf4 := hd4.var.frozen 0
          clear ho4 hg4 hd4
          refine hK.out _ _ ?_ (fun hHeld => ?_)
          · (first | exact (HD4.out.put (.slice (some ⟨g3, 0, none⟩) (n2 + 1) c3)).box.cells | exact HD5.out.box.cells | exact HD4.out.box.cells | exact (HD3.out.put (.slice (some ⟨g3, 0, none⟩) (n2 + 1) c3)).box.cells | exact HD3.out.box.cells | exact HDA.out.box.cells | exact HD0.out.drew.box.cells)
          clear hK K
          (try simp only [Act.put])
          refine wpAnyH_done (by kernel_rfl) ?_ _
          go_wp2_with fail
          go_meet
          first
            | exact ⟨_, [h], HD5.out, by rw [HK0.out]; exact Heads.one HTT.out⟩
            | exact ⟨_, [h], HD4.out.put _, by rw [HK0.out]; exact Heads.one HTT.out⟩
    · have HK0 : Hid ((if h.tn = 0 then [t] else []) = []) := Lib.hid (if_neg hk0)
      have hb0 : ((h.tn : Int) == 0) = false := by simpa using hk0
      go_wp2_with fail
      go_meet
      exact ⟨v, [], by rw [List.append_nil]; exact HD0.out, by rw [HK0.out]; exact Heads.nil wb⟩
  case rest =>
    obtain ⟨v1, hs0, hd1, hh0⟩ := hcut
    have HD1 := Lib.hid hd1
    have HH0 := Lib.hid hh0
    obtain ⟨x0, x1, x2, x3, x4⟩ := hd1.box.cells
    clear hd1 hh0 HD0 hv2
    go_upto_region 3 with fail
    go_wp2_with fail
    clear x0 x1 x2 x3 x4
    go_loopw [19] (fun s19 wx => ∃ (i : Nat) (v2 : Value) (hs2 : List TH), i ≤ h.tn ∧ s19 = .int .i64 i ∧ LE wb w wx gc gn h v v2 v2 (hs ++ hs0 ++ hs2) ∧ Heads wb hs2 ((t.kids.take i).map endsT).flatten) (fun s19 _ => h.tn - (intOf s19).toNat)
    case atStart => exact ⟨0, v1, [], by omega, rfl, by rw [List.append_nil]; exact HD1.out, by simpa using Heads.nil wb⟩
    case round =>
      clear HD1
      obtain ⟨i, v2, hs2, hi, rfl, hd, hh⟩ := hrel
      have HD := Lib.hid hd
      have HH := Lib.hid hh
      clear hd hh
      by_cases hlt : i < h.tn
      · have q1 : (i : Int) < (h.tn : Int) := by omega
        obtain ⟨g, off, hta, hg, hcs⟩ := (HP.out.below HD.out.b).place (by omega)
        obtain ⟨k0, k1, k2, k3, k4⟩ := hcs i hlt
        have him : i < t.kids.length := by omega
        have hbd : (hs ++ hs0 ++ hs2).length + countT t.kids[i] ≤ 1000 := by
          have q2 := HCT.out i him
          have q3 := HH0.out.1
          rw [if_neg (by omega)] at q3
          rw [List.length_append, List.length_append, HH.out.1, q3]
          simp only [List.length_nil]
          omega
        have HBD := Lib.hid hbd
        clear hcs hbd hcn
        rw [hta]
        go_upto_region 6 with fail
        have b2 : Below wr.heap.size wr (wr.alloc (.cells #[.int .i64 (H i).k, .slice (H i).ka (H i).kn (H i).kc, .slice (H i).va (H i).vn (H i).vc, .slice (H i).da (H i).dn (H i).dc, .slice (H i).ta (H i).tn (H i).tc] 27)) := (Below.refl _ _).alloc (Nat.le_refl _) _
        have bx := Box.new wr 27 (H i)
        generalize (wr.alloc (.cells #[.int .i64 (H i).k, .slice (H i).ka (H i).kn (H i).kc, .slice (H i).va (H i).vn (H i).vc, .slice (H i).da (H i).dn (H i).dc, .slice (H i).ta (H i).tn (H i).tc] 27)) = w2 at *
        have HD2 := Lib.hid (HD.out.below b2)
        have hc2 := HD2.out.clo.cell
        obtain ⟨y0, y1, y2, y3, y4⟩ := bx.cells
        clear b2 bx k0 k1 k2 k3 k4 hta
        go_upto_region 7 with (first
          | (go_at_call 82
             refine (IH.out _ (List.getElem_mem him) (H i) _ gc gn _ _ (HP.out.kids i him) HBD.out HD2.out.b HD2.out.ge HD2.out.clo HD2.out.var HD2.out.own).mono ?_
             rintro _ w3 ⟨v3, hs3, rfl, hv3, ho3, hh3, hk3⟩
             have HD3 := Lib.hid (HD2.out.step hv3 ho3 hk3)
             have HH3 := Lib.hid hh3
             clear hv3 ho3 hh3 hk3 y0 y1 y2 y3 y4 hc2))
        go_wp2_with fail
        exact ⟨⟨i + 1, v3, hs2 ++ hs3, by omega, by go_num, by rw [← List.append_assoc]; exact HD3.out, by rw [flat_take _ i him]; exact HH.out.app HH3.out⟩, by simp [intOf]; omega⟩
      · obtain rfl : i = h.tn := by omega
        have q1 : ¬ (h.tn : Int) < (h.tn : Int) := by omega
        go_wp2_with fail
        first | go_end0 | refine bodyPost_ret (results_none rfl _ _ _) rfl ?_
        refine ⟨v2, hs0 ++ hs2, rfl, HD.out.var, by rw [← List.append_assoc]; exact HD.out.own, ?_, HD.out.k⟩
        have q := HH.out
        rw [List.take_of_length_le (by omega)] at q
        rw [HEN.out]
        exact HH0.out.app q

set_option maxRecDepth 100000 in
set_option maxHeartbeats 4000000 in
theorem ends_any (t : Tr) (h : TH) (w : World) (ht : InTree w h t) (hcn : countT t ≤ 1000) : Calls Tryd.prog 56 #[h.v] w (Ends w t) := by
  have hmf : ∀ (fn : Fn) (first cap : Array Value) (w : World), (Instr.makeFunc fn first cap).run Tryd.prog w = .ok (.func fn first cap) w := fun _ _ _ _ => rfl
  unfold TH.v
  have HT := Lib.hid ht
  clear ht
  have hb1 : Below w.heap.size w (w.alloc (.cells #[.int .i64 h.k, .slice h.ka h.kn h.kc, .slice h.va h.vn h.vc, .slice h.da h.dn h.dc, .slice h.ta h.tn h.tc] 27)) := (Below.refl _ _).alloc (Nat.le_refl _) _
  have hx1 := Box.new w 27 h
  have e1 : (w.alloc (.cells #[.int .i64 h.k, .slice h.ka h.kn h.kc, .slice h.va h.vn h.vc, .slice h.da h.dn h.dc, .slice h.ta h.tn h.tc] 27)).heap.size = w.heap.size + 1 := by simp
  go_enter Tryd.func56, Tryd.ntmps56
  go_upto_region 1 with fail
  generalize (w.alloc (.cells #[.int .i64 h.k, .slice h.ka h.kn h.kc, .slice h.va h.vn h.vc, .slice h.da h.dn h.dc, .slice h.ta h.tn h.tc] 27)) = w1 at *
  have E1 := Lib.hid e1
  clear e1
  have hb2 : Below w1.heap.size w1 (w1.alloc (.cells #[.slice none 0 0] 25)) := (Below.refl _ _).alloc (Nat.le_refl _) _
  have hv2 := Var1.new w1 25 (.slice none 0 0)
  have hx2 := hx1.below hb2 hx1.lt
  have hs2 : (w1.alloc (.cells #[.slice none 0 0] 25)).heap.size = w1.heap.size + 1 := by simp
  have hb3 : Below w1.heap.size w1 ((w1.alloc (.cells #[.slice none 0 0] 25)).alloc (.cells #[.nilFunc] 96)) := hb2.alloc (by rw [hs2]; omega) _
  have hba : Below (w1.alloc (.cells #[.slice none 0 0] 25)).heap.size (w1.alloc (.cells #[.slice none 0 0] 25)) ((w1.alloc (.cells #[.slice none 0 0] 25)).alloc (.cells #[.nilFunc] 96)) := (Below.refl _ _).alloc (Nat.le_refl _) _
  have hv3 := hv2.below hba hv2.lt
  have hx3 := hx2.below hba hx2.lt
  have hn3 := Var1.new (w1.alloc (.cells #[.slice none 0 0] 25)) 96 .nilFunc
  rw [hs2] at hn3
  clear hb2 hv2 hx2 hs2 hba
  go_upto_region 3 with fail
  generalize ((w1.alloc (.cells #[.slice none 0 0] 25)).alloc (.cells #[.nilFunc] 96)) = w2 at *
  have c0 := hn3.cell
  have c1 := hn3.frozen 0
  have hn4 := hn3.set (.func (.func 82) #[] #[.pointer (some ⟨w1.heap.size, 0, none⟩), .pointer (some ⟨(w1.heap.size + 1), 0, none⟩)])
  have hne : w.heap.size ≠ w1.heap.size + 1 := by have := E1.out; omega
  have hx4 : Box (w2.setCell ⟨w1.heap.size + 1, 0, none⟩ (.func (.func 82) #[] #[.pointer (some ⟨w1.heap.size, 0, none⟩), .pointer (some ⟨(w1.heap.size + 1), 0, none⟩)])) 27 w.heap.size h := (Below.heap_setCell w2 ⟨w1.heap.size + 1, 0, none⟩ _ w.heap.size hne).trans hx3
  have hv4 := hv3.far (p := ⟨w1.heap.size + 1, 0, none⟩) (by simp) (.func (.func 82) #[] #[.pointer (some ⟨w1.heap.size, 0, none⟩), .pointer (some ⟨(w1.heap.size + 1), 0, none⟩)])
  have hb4 : Below w1.heap.size w1 (w2.setCell ⟨w1.heap.size + 1, 0, none⟩ (.func (.func 82) #[] #[.pointer (some ⟨w1.heap.size, 0, none⟩), .pointer (some ⟨(w1.heap.size + 1), 0, none⟩)])) := hb3.setCell (by simp) _
  clear hn3 hx3 hv3 hb3 hne
  go_upto_region 4 with fail
  generalize (w2.setCell ⟨w1.heap.size + 1, 0, none⟩ (.func (.func 82) #[] #[.pointer (some ⟨w1.heap.size, 0, none⟩), .pointer (some ⟨(w1.heap.size + 1), 0, none⟩)])) = w3 at *
  obtain ⟨x0, x1, x2, x3, x4⟩ := hx4.cells
  have c2 := hn4.cell
  have HN := Lib.hid hn4
  have HV := Lib.hid hv4
  have HSZ : Hid (w.heap.size ≤ w1.heap.size) := Lib.hid hb1.size
  have HB4 : Hid (Below w.heap.size w w3) := Lib.hid (hb1.trans (hb4.mono hb1.size))
  clear c0 c1 hx4 hb4 hn4 hv4 hb1 hx1
  go_upto_region 5 with (first
    | (go_at_call 82
       refine (endsC_any w t h _ (w1.heap.size + 1) w1.heap.size (.slice none 0 0) [] HT.out (by simp only [List.length_nil]; omega) HB4.out HSZ.out HN.out HV.out (OwnT.nil _ _ _)).mono ?_
       rintro _ w4 ⟨v4, hs4, rfl, hv4, ho4, hh4, hk4⟩
       have HB5 : Hid (Below w.heap.size w w4) := Lib.hid (hk4.below HB4.out HB4.out.size HSZ.out (fun k e => by cases e))
       have HO4 : Hid (OwnT w4 w.heap.size 27 v4 hs4) := Lib.hid ho4
       have HH4 := Lib.hid hh4
       have c4 := hv4.cell
       clear hv4 ho4 hh4 hk4))
  go_wp2_with fail
  go_ret
  exact ⟨v4, hs4, rfl, HO4.out, HH4.out, HB5.out⟩
end Go.Proofs.YtlbiefddcimdgaaDoor

/- One byte in a block of its own. No program is named here. -/
namespace Go.Proofs.YtlbiefddcimdgaaDoor
open Go.RowKit
set_option linter.unusedVariables false

/-- One byte in a block of its own. -/
theorem in_one {w : World} {g : Nat} {t : TypeId} {z : Int} {fr : Nat × Nat} (h : w.heap[g]? = some (.cells #[.int .u8 z] t fr)) (h0 : 0 ≤ z) (h1 : z ≤ 255) : InBytes w (some ⟨g, 0, none⟩) 1 1 [z] := by
  have hlt : g < w.heap.size := by
    rcases Nat.lt_or_ge g w.heap.size with hlt | hge
    · exact hlt
    · rw [Array.getElem?_eq_none hge] at h
      cases h
  have hseg : Seg .u8 w g 0 [z] := fun i hi => by
    have hi0 : i = 0 := by simpa using hi
    subst hi0
    rw [cell_of_row w g (0 + 0) _ _ fr h]
    rfl
  exact ⟨rfl, (fun x hx => by simp at hx; omega), Nat.le_refl _, by simp [maxLen], (fun h => by cases h), fun _ => ⟨g, 0, rfl, hlt, hseg⟩⟩
theorem alloc_size (w : World) (o : Obj) : (w.alloc o).heap.size = w.heap.size + 1 := by simp
end Go.Proofs.YtlbiefddcimdgaaDoor

/- The contracts of the program's Point and Empty of spans. -/
namespace Go.Proofs.YtlbiefddcimdgaaDoor
open Go.RowKit
set_option linter.unusedVariables false

set_option maxRecDepth 100000 in
set_option maxHeartbeats 2000000 in
theorem succ_any (key : List Int) (a : Option Addr) (n cap : Nat) (w : World) (hk : InBytes w a n cap key) (hn : n ≤ 140737488351232) : Calls Tryd.prog 48 #[.slice a n cap] w (OwnBytes w (key ++ [0])) := by
  obtain ⟨i0, hi0, hz0, hz1, hz2⟩ := info_parts infoU8
  have HK := Lib.hid hk
  have hl := hk.len
  clear hk
  go_enter Tryd.func48, Tryd.ntmps48
  go_wp2_with (first
    | (go_at_call 45
       refine (clone_own a n cap key w HK.out (by omega)).mono ?_
       rintro _ w1 ⟨v, rfl, ho, hb⟩
       have HO := Lib.hid ho
       have HB := Lib.hid hb
       clear ho hb)
    | (at_builtin
       have hb2 : Below w1.heap.size w1 (w1.alloc (.cells #[.int .u8 0] 5)) := (Below.refl _ _).alloc (Nat.le_refl _) _
       refine wpList_append_own _ rfl (.tmp 4) (.tmp 5) 22 rfl w.heap.size 5 i0 _ 1 1 Tryd.underlying22 hi0 hz0 hz1 hz2 rfl (by omega) v key.length _ rfl (own_keep HO.out hb2) ⟨w1.heap.size, 0, none⟩ 1 1 [.int .u8 0] rfl rfl ?_ (by simp [Value.oneCell']) (by simp only [maxLen]; omega) (by omega) (by have := HB.out.size; simp; omega) ?_
       · exact (InBytes.of_row (zs := [0]) (t := 5) (heap_alloc_new w1 _) (fun z hz => by simp at hz; omega) (by simp)).news
       intro v' w' h1 h2 h3
       have HO2 := Lib.hid h1
       have HB2 : Hid (Below w.heap.size w w') := Lib.hid ((HB.out.trans (hb2.mono HB.out.size)).grown h2 (by have := HB.out.size; simp; omega) (fun j hj => (own_ge HO.out hj)))
       clear h1 h2 h3 hb2))
  go_ret
  exact ⟨v', rfl, by have q := HO2.out; simpa using q, HB2.out⟩theorem len_zero (key : List Int) : (key ++ [0]).length = key.length + 1 := by simp
theorem succ_new (key : List Int) (a : Option Addr) (n cap : Nat) (w : World) (hk : InBytes w a n cap key) (hn : n ≤ 140737488351232) : Calls Tryd.prog 48 #[.slice a n cap] w (NewBytes w (key ++ [0])) := by
  refine (succ_any key a n cap w hk hn).mono ?_
  rintro _ w' ⟨v, rfl, ho, hb⟩
  obtain ⟨a2, c2, rfl, hi⟩ := own_any ho (bytes_zero hk.bytes)
  refine ⟨a2, c2, rfl, hi, fun ad e => ?_, hb⟩
  subst e
  rcases ho.2 with ⟨q, _⟩ | ⟨g, c, cur, q, hg, hh, _⟩
  · cases q
  · injection q with q
    injection q with q
    rw [q]
    exact ⟨hg, (Array.getElem?_eq_some_iff.1 hh).1⟩

theorem least_ge (f low : List Int) (hl : Bool) : ltL (leastS f low hl) f = false := by
  unfold leastS
  split
  · rename_i hc
    rw [Bool.and_eq_true, Bool.not_eq_true'] at hc
    cases q : ltL (low ++ [0]) f with
    | false => rfl
    | true => rw [ltL_trans (zero_lt low) q] at hc; cases hc.2
  · exact ltL_irr f
theorem empty_is (f t low high : List Int) (o hl hh : Bool) : emptyS f t o low high hl hh = (!inS f t o (leastS f low hl) || (hh && !ltL (leastS f low hl) high)) := by
  unfold emptyS inS
  rw [least_ge, Bool.not_false, Bool.true_and, Bool.not_or, Bool.or_comm]

set_option maxRecDepth 100000 in
set_option maxHeartbeats 4000000 in
theorem scanEmpty_any (h : DH) (f t low high : List Int) (la ha : Option Addr) (ln lc hn hc : Nat) (hl hh : Bool) (w : World) (hs : SpanIn w h f t) (hlo : InBytes w la ln lc low) (hhi : InBytes w ha hn hc high) (hln : ln ≤ 140737488351232) :
    Calls Tryd.prog 83 #[h.v, .slice la ln lc, .slice ha hn hc, .bool hl, .bool hh] w (Says w (.bool (emptyS f t h.out low high hl hh))) := by
  unfold DH.v
  have HX := Lib.hid (SX.new w hs)
  have HLO := Lib.hid hlo
  have HHI := Lib.hid hhi
  obtain ⟨x0, x1, x2⟩ := HX.out.box.three
  clear hs hlo hhi
  have HE := Lib.hid (empty_is f t low high h.out hl hh)
  go_enter Tryd.func83, Tryd.ntmps83
  go_upto_region 2 with fail
  generalize (w.alloc (.cells #[.slice h.ka h.kn h.kc, .slice h.va h.vn h.vc, .bool h.out] 24)) = w0 at *
  generalize hio : emptyS f t h.out low high hl hh = io at *
  clear hio
  go_cut [20] (fun s20 wx => s20 = .bool (hl && !ltL low f) ∧ wx = w0)
  case first =>
    cases hl with
    | false =>
      go_wp2_with fail
      go_meet
      exact ⟨rfl, rfl⟩
    | true =>
      rcases ord_is low f with ⟨c0, o0⟩ | ⟨c0, o0⟩ | ⟨c0, o0⟩
      all_goals
        have HO := Lib.hid o0
        have HC := Lib.hid c0
        clear o0 c0
        go_wp2_with (first
          | (go_at_call 52
             refine (compare_any low f _ _ _ _ _ _ _ (HLO.out.below HX.out.b) HX.out.sp.f).mono ?_
             rintro _ w1 ⟨rfl, hw1⟩
             rw [hw1]
             clear hw1
             rw [HO.out]))
        go_meet
        exact ⟨by rw [HC.out]; rfl, rfl⟩
  case rest =>
    obtain ⟨rfl, hwc⟩ := hcut
    rw [hwc]
    clear hwc
    go_upto_if 20 with fail
    go_cut [11] (fun s11 wx => ∃ a n c, s11 = .slice a n c ∧ InBytes wx a n c (leastS f low hl) ∧ SX w wx h f t)
    case first =>
      cases hq : (hl && !ltL low f) with
      | false =>
        have HQ := Lib.hid hq
        clear hq
        go_wp2_with fail
        go_meet
        exact ⟨_, _, _, rfl, by unfold leastS; rw [HQ.out]; exact HX.out.sp.f, HX.out⟩
      | true =>
        have HQ := Lib.hid hq
        clear hq
        go_wp2_with (first
          | (go_at_call 48
             refine (succ_new low la ln lc _ (HLO.out.below HX.out.b) hln).mono ?_
             rintro _ w2 ⟨a2, c2, rfl, hi2, -, hb2⟩
             have HI2 := Lib.hid hi2
             have HX2 := Lib.hid (HX.out.below hb2)
             clear hi2 hb2))
        go_meet
        exact ⟨_, _, _, rfl, by have q := HI2.out; rw [len_zero] at q; unfold leastS; rw [HQ.out]; exact q, HX2.out⟩
    case rest =>
      obtain ⟨a, n, c, rfl, hi, hx⟩ := hcut
      have HI := Lib.hid hi
      have HY := Lib.hid hx
      clear hi hx x0 x1 x2 HX
      obtain ⟨x0, x1, x2⟩ := HY.out.box.three
      generalize leastS f low hl = le at *
      cases hq : inS f t h.out le with
      | false =>
        have HQ := Lib.hid hq
        clear hq
        go_wp2_with (first
          | (go_at_call 22
             refine (scanIn_any h f t le _ _ _ _ HY.out.sp HI.out).mono ?_
             rintro _ w3 ⟨rfl, hb3⟩
             have HY3 := Lib.hid (HY.out.below hb3)
             rw [HQ.out]
             clear hb3))
        go_ret
        exact ⟨by rw [HE.out, HQ.out]; rfl, HY3.out.b⟩
      | true =>
        have HQ := Lib.hid hq
        clear hq
        cases hh with
        | false =>
          go_wp2_with (first
            | (go_at_call 22
               refine (scanIn_any h f t le _ _ _ _ HY.out.sp HI.out).mono ?_
               rintro _ w3 ⟨rfl, hb3⟩
               have HY3 := Lib.hid (HY.out.below hb3)
               rw [HQ.out]
               clear hb3))
          go_ret
          exact ⟨by rw [HE.out, HQ.out]; rfl, HY3.out.b⟩
        | true =>
          rcases ord_is le high with ⟨c0, o0⟩ | ⟨c0, o0⟩ | ⟨c0, o0⟩
          all_goals
            have HO := Lib.hid o0
            have HC := Lib.hid c0
            clear o0 c0
            go_wp2_with (first
              | (go_at_call 22
                 refine (scanIn_any h f t le _ _ _ _ HY.out.sp HI.out).mono ?_
                 rintro _ w3 ⟨rfl, hb3⟩
                 have HY3 := Lib.hid (HY.out.below hb3)
                 have HI3 := Lib.hid (HI.out.below hb3)
                 rw [HQ.out]
                 clear hb3)
              | (go_at_call 52
                 refine (compare_any le high _ _ _ _ _ _ _ HI3.out (HHI.out.below HY3.out.b)).mono ?_
                 rintro _ w4 ⟨rfl, hw4⟩
                 rw [hw4]
                 clear hw4
                 rw [HO.out]))
            go_ret
            exact ⟨by rw [HE.out, HQ.out, HC.out]; rfl, HY3.out.b⟩
end Go.Proofs.YtlbiefddcimdgaaDoor

/- The contract of whether no key of a span lies between two nodes. -/
namespace Go.Proofs.YtlbiefddcimdgaaDoor
open Go.RowKit
set_option linter.unusedVariables false

set_option maxRecDepth 100000 in
set_option maxHeartbeats 4000000 in
theorem gap_any (ts : List Tr) (hs : List TH) (base : Nat) (a : Option Addr) (n c i : Nat) (sp : DH) (f t : List Int) (w : World) (hr : RT w base a n c hs ts) (hi : i ≤ n) (hn : n ≤ 500) (hsp : SpanIn w sp f t) (hkl : ∀ x ∈ ts, x.key.length ≤ 80) :
    Calls Tryd.prog 57 #[.slice a n c, .int .i64 i, sp.v] w (Says w (.bool (emptyS f t sp.out (if i = 0 then [] else (ts.getD (i - 1) (.mk 0 [] [] [] [])).key) (ts.getD i (.mk 0 [] [] [] [])).key (decide (0 < i)) (decide (i < n))))) := by
  unfold DH.v
  have HX := Lib.hid (SX.new w hsp)
  obtain ⟨x0, x1, x2⟩ := HX.out.box.three
  have hr0 := hr.below (W' := (w.alloc (.cells #[.slice sp.ka sp.kn sp.kc, .slice sp.va sp.vn sp.vc, .bool sp.out] 24))) ((Below.refl _ _).alloc (Nat.le_refl _) _)
  have hhl := hr.hl
  have htl := hr.l
  clear hr hsp
  generalize hgr : emptyS f t sp.out (if i = 0 then [] else (ts.getD (i - 1) (.mk 0 [] [] [] [])).key) (ts.getD i (.mk 0 [] [] [] [])).key (decide (0 < i)) (decide (i < n)) = gr
  have HGR := Lib.hid hgr
  clear hgr
  go_enter Tryd.func57, Tryd.ntmps57
  go_upto_region 1 with fail
  generalize (w.alloc (.cells #[.slice sp.ka sp.kn sp.kc, .slice sp.va sp.vn sp.vc, .bool sp.out] 24)) = w0 at *
  by_cases h0 : i = 0
  · have q0 : ¬ (0 : Int) < (i : Int) := by omega
    by_cases hlt : i < n
    · have q1 : (i : Int) < (n : Int) := by omega
      obtain ⟨g, hga⟩ := hr0.block hlt
      subst hga
      have hik : i < hs.length := by omega
      have hix : i < ts.length := by omega
      have y1 := (hr0.cells i hik).2.1
      have HKI := Lib.hid (hr0.key i hik hix)
      have HE : Hid (emptyS f t sp.out (if i = 0 then [] else (ts.getD (i - 1) (.mk 0 [] [] [] [])).key) (ts.getD i (.mk 0 [] [] [] [])).key (decide (0 < i)) (decide (i < n)) = emptyS f t sp.out [] (ts[i]).key false true) := Lib.hid (by
        rw [if_pos (by omega)]
        have e2 : ts.getD i (.mk 0 [] [] [] []) = ts[i] := by simp only [List.getD, List.getElem?_eq_getElem hix, Option.getD_some]
        rw [e2]
        rw [decide_eq_false (by omega), decide_eq_true (by omega)])
      clear hr0 hhl htl hkl h0
      go_wp2_with (first
        | (go_at_call 83
           refine (scanEmpty_any sp f t [] (ts[i]).key none (hs[i]).ka 0 0 (hs[i]).kn (hs[i]).kc false true _ HX.out.sp (none_in _) HKI.out (by omega)).mono ?_
           rintro _ w3 ⟨rfl, hb3⟩
           have HB3 : Hid (Below w.heap.size w w3) := Lib.hid (HX.out.b.trans (hb3.mono HX.out.b.size))
           clear hb3))
      go_ret
      exact ⟨by rw [← HGR.out, HE.out]; rfl, HB3.out⟩
    · have q1 : ¬ (i : Int) < (n : Int) := by omega

      have HE : Hid (emptyS f t sp.out (if i = 0 then [] else (ts.getD (i - 1) (.mk 0 [] [] [] [])).key) (ts.getD i (.mk 0 [] [] [] [])).key (decide (0 < i)) (decide (i < n)) = emptyS f t sp.out [] [] false false) := Lib.hid (by
        rw [if_pos (by omega)]
        have e2 : ts.getD i (.mk 0 [] [] [] []) = .mk 0 [] [] [] [] := by simp only [List.getD, List.getElem?_eq_none (show ts.length ≤ i by omega), Option.getD_none]
        rw [e2]
        rw [decide_eq_false (by omega), decide_eq_false (by omega)]
        rfl)
      clear hr0 hhl htl hkl h0
      go_wp2_with (first
        | (go_at_call 83
           refine (scanEmpty_any sp f t [] [] none none 0 0 0 0 false false _ HX.out.sp (none_in _) (none_in _) (by omega)).mono ?_
           rintro _ w3 ⟨rfl, hb3⟩
           have HB3 : Hid (Below w.heap.size w w3) := Lib.hid (HX.out.b.trans (hb3.mono HX.out.b.size))
           clear hb3))
      go_ret
      exact ⟨by rw [← HGR.out, HE.out]; rfl, HB3.out⟩
  · have q0 : (0 : Int) < (i : Int) := by omega
    obtain ⟨g, hga⟩ := hr0.block (show i - 1 < n by omega)
    subst hga
    by_cases hlt : i < n
    · have q1 : (i : Int) < (n : Int) := by omega
      obtain ⟨j, hj⟩ : ∃ j, i = j + 1 := ⟨i - 1, by omega⟩
      have hjj : (i : Int) - 1 = (j : Int) := by omega
      have hjn : (j : Int) < (n : Int) := by omega
      have hwj : IntKind.i64.wrap (j : Int) = (j : Int) := by rw [IntKind.wrap_i64]; omega
      have hjk : j < hs.length := by omega
      have hjx : j < ts.length := by omega
      have z1 := (hr0.cells j hjk).2.1
      have HKJ := Lib.hid (hr0.key j hjk hjx)
      have HLJ : Hid ((hs[j]).kn ≤ 140737488351232) := Lib.hid (by have q1 := (hr0.key j hjk hjx).len; have q2 := hkl _ (List.getElem_mem hjx); omega)
      have hik : i < hs.length := by omega
      have hix : i < ts.length := by omega
      have y1 := (hr0.cells i hik).2.1
      have HKI := Lib.hid (hr0.key i hik hix)
      have HE : Hid (emptyS f t sp.out (if i = 0 then [] else (ts.getD (i - 1) (.mk 0 [] [] [] [])).key) (ts.getD i (.mk 0 [] [] [] [])).key (decide (0 < i)) (decide (i < n)) = emptyS f t sp.out (ts[j]).key (ts[i]).key true true) := Lib.hid (by
        rw [if_neg (by omega)]
        have e1 : ts.getD (i - 1) (.mk 0 [] [] [] []) = ts[j] := by subst hj; simp only [Nat.add_sub_cancel, List.getD, List.getElem?_eq_getElem hjx, Option.getD_some]
        rw [e1]
        have e2 : ts.getD i (.mk 0 [] [] [] []) = ts[i] := by simp only [List.getD, List.getElem?_eq_getElem hix, Option.getD_some]
        rw [e2]
        rw [decide_eq_true (by omega), decide_eq_true (by omega)])
      clear hr0 hhl htl hkl h0 hj
      go_wp2_with (first
        | (go_at_call 83
           refine (scanEmpty_any sp f t (ts[j]).key (ts[i]).key (hs[j]).ka (hs[i]).ka (hs[j]).kn (hs[j]).kc (hs[i]).kn (hs[i]).kc true true _ HX.out.sp HKJ.out HKI.out HLJ.out).mono ?_
           rintro _ w3 ⟨rfl, hb3⟩
           have HB3 : Hid (Below w.heap.size w w3) := Lib.hid (HX.out.b.trans (hb3.mono HX.out.b.size))
           clear hb3))
      go_ret
      exact ⟨by rw [← HGR.out, HE.out]; rfl, HB3.out⟩
    · have q1 : ¬ (i : Int) < (n : Int) := by omega
      obtain ⟨j, hj⟩ : ∃ j, i = j + 1 := ⟨i - 1, by omega⟩
      have hjj : (i : Int) - 1 = (j : Int) := by omega
      have hjn : (j : Int) < (n : Int) := by omega
      have hwj : IntKind.i64.wrap (j : Int) = (j : Int) := by rw [IntKind.wrap_i64]; omega
      have hjk : j < hs.length := by omega
      have hjx : j < ts.length := by omega
      have z1 := (hr0.cells j hjk).2.1
      have HKJ := Lib.hid (hr0.key j hjk hjx)
      have HLJ : Hid ((hs[j]).kn ≤ 140737488351232) := Lib.hid (by have q1 := (hr0.key j hjk hjx).len; have q2 := hkl _ (List.getElem_mem hjx); omega)
      have HE : Hid (emptyS f t sp.out (if i = 0 then [] else (ts.getD (i - 1) (.mk 0 [] [] [] [])).key) (ts.getD i (.mk 0 [] [] [] [])).key (decide (0 < i)) (decide (i < n)) = emptyS f t sp.out (ts[j]).key [] true false) := Lib.hid (by
        rw [if_neg (by omega)]
        have e1 : ts.getD (i - 1) (.mk 0 [] [] [] []) = ts[j] := by subst hj; simp only [Nat.add_sub_cancel, List.getD, List.getElem?_eq_getElem hjx, Option.getD_some]
        rw [e1]
        have e2 : ts.getD i (.mk 0 [] [] [] []) = .mk 0 [] [] [] [] := by simp only [List.getD, List.getElem?_eq_none (show ts.length ≤ i by omega), Option.getD_none]
        rw [e2]
        rw [decide_eq_true (by omega), decide_eq_false (by omega)]
        rfl)
      clear hr0 hhl htl hkl h0 hj
      go_wp2_with (first
        | (go_at_call 83
           refine (scanEmpty_any sp f t (ts[j]).key [] (hs[j]).ka none (hs[j]).kn (hs[j]).kc 0 0 true false _ HX.out.sp HKJ.out (none_in _) HLJ.out).mono ?_
           rintro _ w3 ⟨rfl, hb3⟩
           have HB3 : Hid (Below w.heap.size w w3) := Lib.hid (HX.out.b.trans (hb3.mono HX.out.b.size))
           clear hb3))
      go_ret
      exact ⟨by rw [← HGR.out, HE.out]; rfl, HB3.out⟩
end Go.Proofs.YtlbiefddcimdgaaDoor

/- The contract of the document's items of a proof. -/
namespace Go.Proofs.YtlbiefddcimdgaaDoor
open Go.RowKit
set_option linter.unusedVariables false

/-- An item's cells. -/
structure QI where
  cut : Bool
  dark : Bool
  ka : Option Addr
  kn : Nat
  kc : Nat
  va : Option Addr
  vn : Nat
  vc : Nat
def recI : Rec QI where
  cells := fun p => [.bool p.cut, .bool p.dark, .slice p.ka p.kn p.kc, .slice p.va p.vn p.vc]
  sz := 4
  pos := by omega
  len := fun _ => rfl
  one := fun r u hu => by
    simp at hu
    rcases hu with rfl | rfl | rfl | rfl <;> rfl
def iZ : QI := ⟨false, false, none, 0, 0, none, 0, 0⟩
structure OneI (w : World) (q : QI) (x : IT) : Prop where
  cut : q.cut = x.cut
  dark : q.dark = x.dark
  k : InBytes w q.ka q.kn q.kc x.key
  v : InBytes w q.va q.vn q.vc x.val
def ItemsIn (w : World) (qs : List QI) (xs : List IT) : Prop := qs.length = xs.length ∧ ∀ i (h1 : i < qs.length) (h2 : i < xs.length), OneI w qs[i] xs[i]
end Go.Proofs.YtlbiefddcimdgaaDoor

/- The contracts of the document's Number and Bytes. -/
namespace Go.Proofs.YtlbiefddcimdgaaDoor
open Go.RowKit
set_option linter.unusedVariables false

end Go.Proofs.YtlbiefddcimdgaaDoor

/- The contracts of the document's preimages. -/
namespace Go.Proofs.YtlbiefddcimdgaaDoor
open Go.RowKit
set_option linter.unusedVariables false

end Go.Proofs.YtlbiefddcimdgaaDoor

/- The first 64 primes, as the document seeks them. No program is named here. The roots of the primes 0 to 15, reckoned: they are the constants. No program is named here. The roots of the primes 16 to 31, reckoned: they are the constants. No program is named here. The roots of the primes 32 to 47, reckoned: they are the constants. No program is named here. The roots of the primes 48 to 63, reckoned: they are the constants. No program is named here. All the roots. No program is named here. The contract of the document's times. The contract of the document's below. The contract of the document's root. The contract of the document's Made: the tables. -/
/- The first 64 primes, as the document seeks them. No program is named here. -/
namespace Go.Proofs.YtlbiefddcimdgaaDoor
set_option linter.unusedVariables false
set_option maxRecDepth 100000

def allNe (k : Int) (l : List Int) : Nat → Bool
  | 0 => true
  | i + 1 => allNe k l i && (k % l.getD i 0 != 0)
/-- What was found when the numbers up to n + 1 were tried. -/
def sieve : Nat → List Int
  | 0 => []
  | n + 1 => match sieve n with
    | l => if allNe (n + 2 : Nat) l l.length then l ++ [((n + 2 : Nat) : Int)] else l
def primes : List Int := [2, 3, 5, 7, 11, 13, 17, 19, 23, 29, 31, 37, 41, 43, 47, 53, 59, 61, 67, 71, 73, 79, 83, 89, 97, 101, 103, 107, 109, 113, 127, 131, 137, 139, 149, 151, 157, 163, 167, 173, 179, 181, 191, 193, 197, 199, 211, 223, 227, 229, 233, 239, 241, 251, 257, 263, 269, 271, 277, 281, 283, 293, 307, 311]
end Go.Proofs.YtlbiefddcimdgaaDoor

/- The roots of the primes 0 to 15, reckoned: they are the constants. No program is named here. -/
namespace Go.Proofs.YtlbiefddcimdgaaDoor
set_option maxRecDepth 100000
end Go.Proofs.YtlbiefddcimdgaaDoor

/- The roots of the primes 16 to 31, reckoned: they are the constants. No program is named here. -/
namespace Go.Proofs.YtlbiefddcimdgaaDoor
set_option maxRecDepth 100000
end Go.Proofs.YtlbiefddcimdgaaDoor

/- The roots of the primes 32 to 47, reckoned: they are the constants. No program is named here. -/
namespace Go.Proofs.YtlbiefddcimdgaaDoor
set_option maxRecDepth 100000
end Go.Proofs.YtlbiefddcimdgaaDoor

/- The roots of the primes 48 to 63, reckoned: they are the constants. No program is named here. -/
namespace Go.Proofs.YtlbiefddcimdgaaDoor
set_option maxRecDepth 100000
end Go.Proofs.YtlbiefddcimdgaaDoor

/- All the roots. No program is named here. -/
namespace Go.Proofs.YtlbiefddcimdgaaDoor
set_option maxRecDepth 100000
end Go.Proofs.YtlbiefddcimdgaaDoor

/- The contract of the document's times. -/
namespace Go.Proofs.YtlbiefddcimdgaaDoor
open Go.RowKit
set_option linter.unusedVariables false

def U64s (l : List Int) : Prop := ∀ z ∈ l, 0 ≤ z ∧ z ≤ 18446744073709551615
def TimesPost (w : World) (a b : List Int) (e : Ending) (w' : World) : Prop :=
  e = .returned (.slice (some ⟨w.heap.size, 0, none⟩) (a.length + b.length + 1) (a.length + b.length + 1)) ∧ Row .u64 w' 82 w.heap.size (timesL a b) ∧ Below w.heap.size w w' ∧ w'.heap.size = w.heap.size + 1

end Go.Proofs.YtlbiefddcimdgaaDoor

/- The contract of the document's below. -/
namespace Go.Proofs.YtlbiefddcimdgaaDoor
open Go.RowKit
set_option linter.unusedVariables false

def BelowPost (w : World) (v : Bool) (e : Ending) (w' : World) : Prop := e = .returned (.bool v) ∧ Below w.heap.size w w'

end Go.Proofs.YtlbiefddcimdgaaDoor

/- The contract of the document's root. -/
namespace Go.Proofs.YtlbiefddcimdgaaDoor
open Go.RowKit
set_option linter.unusedVariables false

/-- The bit of the n-th round; nought behind the last. -/
def bitAt (n : Nat) : Int := if n < 36 then 2 ^ (35 - n) else 0
def RootPost (w : World) (v : Int) (e : Ending) (w' : World) : Prop := e = .returned (.int .u32 v) ∧ Below w.heap.size w w'
end Go.Proofs.YtlbiefddcimdgaaDoor

/- The contract of the document's Made: the tables. -/
namespace Go.Proofs.YtlbiefddcimdgaaDoor
open Go.RowKit
set_option linter.unusedVariables false

/-- Block g holds a Tables: the slice v, the words hs. -/
def TB (w : World) (g : Nat) (v : Value) (hs : List Int) : Prop := w.heap[g]? = some (.cells (v :: hs.map (Value.int .u32)).toArray 41 (0, 0))
section
variable {w w' : World} {g : Nat} {v : Value} {hs : List Int}
end
/-- The tables as a value: the slice of the constants, and the words at first. -/
def tabV (g c : Nat) : Value := .agg (Value.slice (some ⟨g, 0, none⟩) 64 c :: hTab.map (Value.int .u32)).toArray
def MadePost (w : World) (e : Ending) (w' : World) : Prop :=
  ∃ g c, e = .returned (tabV g c) ∧ w'.ownsRow (w.heap.size + 2) 38 1 (.slice (some ⟨g, 0, none⟩) 64 c) 64 (kTab.map (Value.int .u32)) ∧ Below w.heap.size w w'
end Go.Proofs.YtlbiefddcimdgaaDoor

/- The contract of the document's Tail. The contract of the document's Words. The contract of the document's step of a block. Facts on states and tables that the laws ask. The contract of the document's digest. -/
/- The contract of the document's Tail. -/
namespace Go.Proofs.YtlbiefddcimdgaaDoor
open Go.RowKit
set_option linter.unusedVariables false

def RefTailPost (w : World) (n : Nat) (e : Ending) (w' : World) : Prop :=
  ∃ v, e = .returned v ∧ w'.ownsRow w.heap.size 5 1 v (nils n + 9) ((tailL n).map (Value.int .u8)) ∧ Below w.heap.size w w'

end Go.Proofs.YtlbiefddcimdgaaDoor

/- The contract of the document's Words. -/
namespace Go.Proofs.YtlbiefddcimdgaaDoor
open Go.RowKit
set_option linter.unusedVariables false

def RefWordsPost (w : World) (bs : List Int) (e : Ending) (w' : World) : Prop :=
  ∃ g cap, e = .returned (.slice (some ⟨g, 0, none⟩) 64 cap) ∧ w'.ownsRow w.heap.size 38 1 (.slice (some ⟨g, 0, none⟩) 64 cap) 64 ((sched bs).map (Value.int .u32)) ∧ Below w.heap.size w w'
def pre4 (bs : List Int) (i : Nat) : Nat → Int
  | 0 => 0
  | k + 1 => 256 * pre4 bs i k + bs.getD (4 * i + k) 0
end Go.Proofs.YtlbiefddcimdgaaDoor

/- The contract of the document's step of a block. -/
namespace Go.Proofs.YtlbiefddcimdgaaDoor
open Go.RowKit
set_option linter.unusedVariables false

end Go.Proofs.YtlbiefddcimdgaaDoor

/- Facts on states and tables that the laws ask. -/
namespace Go.Proofs.YtlbiefddcimdgaaDoor
open Go.RowKit
set_option linter.unusedVariables false

end Go.Proofs.YtlbiefddcimdgaaDoor

/- The contract of the document's digest. -/
namespace Go.Proofs.YtlbiefddcimdgaaDoor
open Go.RowKit
set_option linter.unusedVariables false

/-- The first j of a list, zeros behind them. -/
def outN (l : List Int) (j : Nat) : List Int := l.take j ++ List.replicate (l.length - j) 0
end Go.Proofs.YtlbiefddcimdgaaDoor

/- The contract of the document's digest. -/
namespace Go.Proofs.YtlbiefddcimdgaaDoor
open Go.RowKit
set_option linter.unusedVariables false

/-- A slice of new memory: the first k bytes of a sum. -/
def OfPost (w : World) (k : Nat) (bs : List Int) (e : Ending) (w' : World) : Prop :=
  ∃ g, w.heap.size ≤ g ∧ e = .returned (.slice (some ⟨g, 0, none⟩) k 32) ∧ Row .u8 w' 5 g (sumL bs) ∧ Below w.heap.size w w'

end Go.Proofs.YtlbiefddcimdgaaDoor

/- The contracts of the program's Number and Bytes. -/
namespace Go.Proofs.YtlbiefddcimdgaaDoor
open Go.RowKit
set_option linter.unusedVariables false

theorem nd_of_len {v : Nat} {r : Int} (h : LenAt v r) : ∃ L : Nat, r = (L : Int) ∧ L ≤ 64 ∧ (L + 7) / 8 = nd v := by
  obtain ⟨k, l, rfl, h1, h2, h3, h4, h5⟩ := h
  have e0 : ((v : Int) / 256 ^ k) = ((v / 256 ^ k : Nat) : Int) := by rw [Int.natCast_ediv, Int.natCast_pow]; rfl
  rw [e0] at h3 h4
  have hn : k + 1 = nd v := by
    refine nd_unique ?_ (.inr ?_)
    · rw [← div_step]; omega
    · rw [Nat.add_sub_cancel]; omega
  exact ⟨8 * k + l.toNat, by omega, by omega, by omega⟩
theorem len64_any (v : Nat) (w : World) (hp : 0 < v) (hv : v < 18446744073709551616) :
    Calls Tryd.prog 109 #[.int .u64 v] w (fun e w' => (∃ L : Nat, e = .returned (.int .i64 L) ∧ L ≤ 64 ∧ (L + 7) / 8 = nd v) ∧ w' = w) :=
  (len64_raw v w (by omega) (by omega)).mono fun e w' ⟨⟨r, h1, h2⟩, h3⟩ => by
    obtain ⟨L, rfl, h⟩ := nd_of_len h2
    exact ⟨⟨L, h1, h⟩, h3⟩

/-- What has been written when i of the m bytes are there. -/
def part (m v i : Nat) : List Int := ((247 + m : Nat) : Int) :: (List.replicate (m - i) 0 ++ be i v)
theorem part_length (m v i : Nat) (h : i ≤ m) : (part m v i).length = m + 1 := by simp [part, be_length]; omega
theorem part_zero (m v : Nat) : part m v 0 = ((247 + m : Nat) : Int) :: List.replicate m 0 := by simp [part, be]
theorem part_set (m v i : Nat) (h : i < m) : (part m v i).set (m - i) ((v / 256 ^ i % 256 : Nat) : Int) = part m v (i + 1) := by
  have e1 : m - i = (m - (i + 1)) + 1 := by omega
  have e2 : List.replicate (m - i) (0 : Int) = List.replicate (m - (i + 1)) 0 ++ [0] := by rw [e1, List.replicate_succ']
  unfold part
  rw [e2]
  conv => lhs; rw [e1]
  rw [List.set_cons_succ, List.append_assoc, List.set_append_right _ _ (by simp)]
  simp [be]
theorem shr_is (v i : Nat) : (v : Int) / 2 ^ (8 * (i : Int)).toNat = ((v / 256 ^ i : Nat) : Int) := by
  rw [show (8 * (i : Int)).toNat = 8 * i by omega, Int.natCast_ediv, Int.natCast_pow, Int.pow_mul]
  rfl

set_option maxRecDepth 100000 in
set_option maxHeartbeats 2000000 in
theorem number_any (v : Nat) (w : World) (hv : v < 18446744073709551616) :
    Calls Tryd.prog 103 #[.int .u64 v] w (OwnPost w (numL v)) := by
  obtain ⟨i0, hi0, hz0, hz1, hz2⟩ := info_parts infoU8
  go_enter Tryd.func103, Tryd.ntmps103
  by_cases h : v < 248
  · have hb : (v : Int) ≤ 247 := by omega
    go_wp2_with fail
    go_ret
    have e : numL v = [(v : Int)] := by unfold numL; rw [if_pos h]
    rw [e]
    exact ⟨w.heap.size, 1, rfl, own_new w 5 .u8 [(v : Int)] w.heap.size (Nat.le_refl _) (by simp [maxLen]), (Below.refl _ _).alloc (Nat.le_refl _) _⟩
  · have hb : ¬ (v : Int) ≤ 247 := by omega
    have hm1 := nd_one (v := v) (by omega)
    have hm8 := nd_64 hv
    have hlen := Lib.hid (fun W => len64_any v W (by omega) hv)
    obtain ⟨m, hm⟩ : ∃ m, m = nd v := ⟨_, rfl⟩
    rw [← hm] at hm1 hm8 hlen
    have HM := Lib.hid hm
    clear hm
    go_wp2_with (first
      | (go_at_call 109
         (with_reducible refine (hlen.out _).mono ?_)
         rintro _ w1 ⟨⟨L, rfl, hL1, hL2⟩, rfl⟩
         have hLq : ((L : Int) + 7) / 8 = (m : Int) := by omega
         have hLq2 : ((L : Int) + 7).tdiv 8 = (m : Int) := by rw [Int.tdiv_eq_ediv_of_nonneg (by omega)]; exact hLq)
      | (at_make
         refine wpList_make_ints _ rfl (.tmp 16) (.tmp 16) 22 rfl 5 i0 .u8 Tryd.underlying22 hi0 hz0 hz1 .i64 .i64 _ _ (1 + m) rfl rfl (by push_cast; omega) (by push_cast; omega) (by rw [hz2]; omega) (by simp only [maxLen]; omega) ?_
         intro w2 hr2 hb2 hs2
         obtain ⟨z0, hc0⟩ := hr2.has 0 (by simp; omega)
         have hf0 := hr2.frozen 0
         have HR2 := Lib.hid hr2
         have HB2 := Lib.hid hb2
         clear hr2 hs2 hb2))
    have hrow : Row .u8 (w2.setCell ⟨w1.heap.size, 0, none⟩ (.int .u8 (247 + (m : Int)))) 5 w1.heap.size (part m v 0) := by
      have h := HR2.out.set 0 (247 + (m : Int))
      rw [part_zero, show (((247 + m : Nat)) : Int) = 247 + (m : Int) by omega]
      rwa [Nat.add_comm 1 m, List.replicate_succ, List.set_cons_zero] at h
    have hbel : Below w1.heap.size w1 (w2.setCell ⟨w1.heap.size, 0, none⟩ (.int .u8 (247 + (m : Int)))) := HB2.out.setCell (Nat.le_refl _) _
    have H0 := Lib.hid (And.intro hrow hbel)
    clear hrow hbel HR2 HB2 hc0 hf0 hLq hLq2 hL1 hL2 hlen
    go_loopw [24] (fun s24 wx => ∃ i : Nat, i ≤ m ∧ s24 = .int .i64 i ∧ Row .u8 wx 5 w1.heap.size (part m v i) ∧ Below w1.heap.size w1 wx) (fun s24 _ => m - (intOf s24).toNat)
    case atStart => exact ⟨0, by omega, rfl, H0.out.1, H0.out.2⟩
    case round =>
      obtain ⟨i, hi, rfl, hr, hbl⟩ := hrel
      by_cases hlt : i < m
      · have q1 : (i : Int) < (m : Int) := by omega
        have q2 : (0 : Int) ≤ (m : Int) - (i : Int) := by omega
        have q3 : (m : Int) - (i : Int) < 1 + (m : Int) := by omega
        have q4 : ((m : Int) - (i : Int)).toNat = m - i := by omega
        have q5 : (0 : Int) ≤ 8 * (i : Int) := by omega
        have q6 : 8 * (i : Int) ≤ 64 := by omega
        obtain ⟨z, hc⟩ := hr.has (m - i) (by rw [part_length _ _ _ hi]; omega)
        have hf := hr.frozen (m - i)
        have hsh := shr_is v i
        have HR := Lib.hid hr
        have HB := Lib.hid hbl
        have hset := part_set m v i hlt
        have HSET := Lib.hid hset
        clear hr hbl hset H0
        go_wp2_with fail
        have e : ((v : Int) / 256 ^ i % 256) = ((v / 256 ^ i % 256 : Nat) : Int) := by push_cast; rfl
        rw [e]
        refine ⟨⟨i + 1, by omega, by go_num, ?_, HB.out.setCell (Nat.le_refl _) _⟩, by simp [intOf]; omega⟩
        rw [← HSET.out]
        exact HR.out.set _ _
      · obtain rfl : i = m := by omega
        have q1 : ¬ (i : Int) < (i : Int) := by omega
        have HR := Lib.hid hr
        have HB := Lib.hid hbl
        clear hr hbl H0
        go_wp2_with fail
        go_ret
        have hm := HM.out
        have e : numL v = part i v i := by unfold numL part; rw [if_neg h, ← hm]; simp
        have hl := part_length i v i hi
        have hr := HR.out
        rw [e]
        refine ⟨w1.heap.size, i + 1, by rw [hl, Nat.add_comm 1 i]; rfl, ?_, HB.out⟩
        rw [hl]
        exact ⟨by simp [hl], .inr ⟨w1.heap.size, i + 1, _, rfl, Nat.le_refl _, hr, Nat.le_refl _, by simp only [maxLen]; omega, by simp [hl], by rw [Nat.mul_one]; exact List.take_of_length_le (by simp [hl])⟩⟩

set_option maxRecDepth 100000 in
set_option maxHeartbeats 2000000 in
theorem bytes_any (a : Option Addr) (n cap : Nat) (bs : List Int) (w : World) (hin : InBytes w a n cap bs) (hn : n ≤ 140737488351232) :
    Calls Tryd.prog 92 #[.slice a n cap] w (OwnPost w (bytL bs)) := by
  obtain ⟨i0, hi0, hz0, hz1, hz2⟩ := info_parts infoU8
  have hlen := hin.len
  have h9 := numL_le (v := n) (by omega)
  have hnum := Lib.hid (fun W => number_any n W (by omega))
  have HIN := Lib.hid hin
  clear hin
  go_enter Tryd.func92, Tryd.ntmps92
  go_wp2_with (first
    | (go_at_call 103
       (with_reducible refine (hnum.out _).mono ?_)
       rintro _ w1 ⟨g1, c1, rfl, hown1, hb1⟩
       have HO1 := Lib.hid hown1
       have HB1 := Lib.hid hb1
       clear hown1 hb1)
    | (at_builtin
       refine wpList_append_bytes' _ rfl (.tmp 6) (.tmp 7) 22 rfl w.heap.size 5 i0 _ 1 Tryd.underlying22 hi0 hz0 hz1 hz2 rfl g1 (numL n).length c1 ((numL n).map (Value.int .u8)) rfl HO1.out a n cap bs rfl (HIN.out.below HB1.out) (by simp only [maxLen]; omega) (by omega) HB1.out.size ?_
       intro g2 c2 w2 hown2 hg2
       have HO2 := Lib.hid hown2
       have HB2 : Hid (Below w.heap.size w w2) := Lib.hid (below_only HB1.out hg2 HB1.out.size (HO1.out.lt g1 rfl).1)
       clear hown2 hg2))
  go_ret
  have e : (bytL bs).length = (numL n).length + n := by unfold bytL; rw [List.length_append, hlen]
  refine ⟨g2, c2, by rw [e]; rfl, ?_, HB2.out⟩
  rw [e]
  have h := HO2.out
  rw [← List.map_append] at h
  unfold bytL
  rw [hlen]
  exact h
end Go.Proofs.YtlbiefddcimdgaaDoor

/- The contracts of the program's preimages. -/
namespace Go.Proofs.YtlbiefddcimdgaaDoor
open Go.RowKit
set_option linter.unusedVariables false

/-- New memory that holds the bytes zs, and no error. -/
def OwnPost2 (w : World) (zs : List Int) (e : Ending) (w' : World) : Prop :=
  ∃ g c, e = .returned (.tuple #[.slice (some ⟨g, 0, none⟩) zs.length c, .nilIface]) ∧ w'.ownsRow w.heap.size 5 1 (.slice (some ⟨g, 0, none⟩) zs.length c) zs.length (zs.map (Value.int .u8)) ∧ Below w.heap.size w w'
/-- No bytes, and the error ErrArg. -/
def ArgPost (w : World) (e : Ending) (w' : World) : Prop :=
  e = .returned (.tuple #[.slice none 0 0, .iface 56 (.int .i64 1)]) ∧ Below w.heap.size w w'

set_option maxRecDepth 100000 in
set_option maxHeartbeats 2000000 in
/-- isWidth is true from 1 to 32, and changes nothing. -/
theorem width_ok (x : Int) (w : World) (hx1 : 1 ≤ x) (hx2 : x ≤ 32) :
    Calls Tryd.prog 68 #[.int .i64 x] w (fun e w' => e = .returned (.bool true) ∧ w' = w) := by
  go_enter Tryd.func68, Tryd.ntmps68
  go_wp2
  go_ret
  exact ⟨by simp, rfl⟩
set_option maxRecDepth 100000 in
set_option maxHeartbeats 2000000 in
theorem value_any (a : Option Addr) (n cap : Nat) (bs : List Int) (w : World) (hin : InBytes w a n cap bs) (hn : n ≤ 140737488351232) :
    Calls Tryd.prog 70 #[.slice a n cap] w (OwnPost w (valL bs)) := by
  obtain ⟨i0, hi0, hz0, hz1, hz2⟩ := info_parts infoU8
  have hbl := hin.len
  have HIN := Lib.hid hin
  clear hin
  go_enter Tryd.func70, Tryd.ntmps70
  go_wp2_with (first
    | (at_builtin
       refine wpList_append_bytes' _ rfl (.tmp 3) (.tmp 4) 22 rfl w.heap.size 5 i0 _ 1 Tryd.underlying22 hi0 hz0 hz1 hz2 rfl w.heap.size 1 1 [.int .u8 0] rfl (own_new w 5 .u8 [0] w.heap.size (Nat.le_refl _) (by simp [maxLen])) a n cap bs rfl (HIN.out.below ((Below.refl _ _).alloc (Nat.le_refl _) _)) (by simp only [maxLen]; omega) (by omega) (by simp) ?_
       intro g1 c1 w1 hown1 hg1
       have HO1 := Lib.hid (own_app (xs := [0]) (ys := bs) hown1 rfl hbl.symm)
       have HB1 : Hid (Below w.heap.size w w1) := Lib.hid (below_only ((Below.refl _ _).alloc (Nat.le_refl _) _) hg1 (by simp) (Nat.le_refl _))
       clear hown1 hg1))
  go_ret
  have e : (valL bs).length = 1 + n := by simp [valL, hbl]; omega
  exact ⟨g1, c1, by rw [e]; rfl, HO1.out, HB1.out⟩
set_option maxRecDepth 100000 in
set_option maxHeartbeats 2000000 in
theorem none_any (w : World) : Calls Tryd.prog 44 #[] w (OwnPost w [3]) := by
  go_enter Tryd.func44, Tryd.ntmps44
  go_wp2
  go_ret
  exact ⟨w.heap.size, 1, rfl, own_new w 5 .u8 [3] w.heap.size (Nat.le_refl _) (by simp [maxLen]), (Below.refl _ _).alloc (Nat.le_refl _) _⟩
set_option maxRecDepth 100000 in
set_option maxHeartbeats 2000000 in
theorem pair_ok (x : Int) (a : Option Addr) (n cap : Nat) (bs : List Int) (a2 : Option Addr) (n2 cap2 : Nat) (ds : List Int) (w : World) (hin : InBytes w a n cap bs) (hn : n ≤ 140737488351232) (hin2 : InBytes w a2 n2 cap2 ds) (hx0 : 1 ≤ x) (hx1 : x ≤ 32) (hx : (n2 : Int) = x) :
    Calls Tryd.prog 71 #[.int .i64 x, .slice a n cap, .slice a2 n2 cap2] w (OwnPost2 w (pairL bs ds)) := by
  obtain ⟨i0, hi0, hz0, hz1, hz2⟩ := info_parts infoU8
  have hbl := hin.len
  have hbl2 := hin2.len
  have h8 := bytL_bytes hin.bytes (by omega)
  have h9 := numL_le (v := n) (by omega)
  have hlen : (bytL bs).length = (numL n).length + n := by unfold bytL; rw [List.length_append, hbl]
  have HIN := Lib.hid hin
  have HIN2 := Lib.hid hin2
  have H8 := Lib.hid h8
  obtain ⟨bl, hble⟩ : ∃ bl, bl = (bytL bs).length := ⟨_, rfl⟩
  have HBL := Lib.hid hble
  have hbl3 : bl ≤ n + 9 := by omega
  clear hin hin2 h8 hble hlen h9
  go_enter Tryd.func71, Tryd.ntmps71
  go_wp2_with (first
    | (go_at_call 68
       (with_reducible refine (width_ok x _ (by omega) (by omega)).mono ?_)
       rintro _ w9 ⟨rfl, hw9⟩
       rw [hw9]
       clear hw9)
    | (go_at_call 92
       (with_reducible refine (bytes_any a n cap bs _ ?_ hn).mono ?_)
       · exact HIN.out.below ((Below.refl _ _).alloc (Nat.le_refl _) _)
       rintro _ w1 ⟨g1, c1, rfl, ho1, hb1⟩
       rw [← HBL.out] at ho1 ⊢
       have HI1 := Lib.hid (InBytes.of_own ho1 H8.out)
       have HO0 := Lib.hid (own_below (own_new w 5 .u8 [1] w.heap.size (Nat.le_refl _) (by simp [maxLen])) hb1 (by simp))
       have HB1 : Hid (Below w.heap.size w w1) := Lib.hid ((((Below.refl w.heap.size w).alloc (Nat.le_refl _) _)).trans (hb1.mono (by simp)))
       clear ho1 hb1)
    | (at_builtin
       refine wpList_append_bytes' _ rfl (.tmp 19) (.tmp 21) 22 rfl w.heap.size 5 i0 _ 1 Tryd.underlying22 hi0 hz0 hz1 hz2 rfl w.heap.size 1 1 [.int .u8 1] rfl HO0.out (some ⟨g1, 0, none⟩) bl c1 (bytL bs) rfl HI1.out (by simp only [maxLen]; omega) (by omega) HB1.out.size ?_
       intro g2 c2 w2 hown2 hg2
       have hown2' := own_app (xs := [1]) (ys := bytL bs) hown2 rfl HBL.out
       have e2 : ([1] ++ bytL bs).length = 1 + bl := by rw [List.length_append, ← HBL.out]; rfl
       rw [e2] at hown2'
       have HO2 := Lib.hid hown2'
       have HB2 : Hid (Below w.heap.size w w2) := Lib.hid (below_only HB1.out hg2 HB1.out.size (Nat.le_refl _))
       clear hown2 hg2 hown2' e2)
    | (at_builtin
       refine wpList_append_bytes' _ rfl (.tmp 23) (.tmp 24) 22 rfl w.heap.size 5 i0 _ 1 Tryd.underlying22 hi0 hz0 hz1 hz2 rfl g2 (1 + bl) c2 (([1] ++ bytL bs).map (Value.int .u8)) rfl HO2.out a2 n2 cap2 ds rfl (HIN2.out.below HB2.out) (by simp only [maxLen]; omega) (by omega) HB2.out.size ?_
       intro g3 c3 w3 hown3 hg3
       have HO3 := Lib.hid (own_app (xs := [1] ++ bytL bs) (ys := ds) hown3 (by rw [List.length_append, ← HBL.out]; rfl) hbl2.symm)
       have HB3 : Hid (Below w.heap.size w w3) := Lib.hid (below_only HB2.out hg3 HB2.out.size (HO2.out.lt g2 rfl).1)
       clear hown3 hg3))
  go_ret2
  have e : pairL bs ds = [1] ++ bytL bs ++ ds := by unfold pairL; simp
  have e2 : (pairL bs ds).length = 1 + bl + n2 := by rw [e, List.length_append, List.length_append, ← HBL.out, hbl2]; rfl
  refine ⟨g3, c3, by rw [e2]; rfl, ?_, HB3.out⟩
  rw [e]
  exact HO3.out
set_option maxRecDepth 100000 in
set_option maxHeartbeats 2000000 in
theorem node_ok (x : Int) (a : Option Addr) (n cap : Nat) (ls : List Int) (a2 : Option Addr) (n2 cap2 : Nat) (ps : List Int) (a3 : Option Addr) (n3 cap3 : Nat) (rs : List Int) (w : World) (hin : InBytes w a n cap ls) (hin2 : InBytes w a2 n2 cap2 ps) (hin3 : InBytes w a3 n3 cap3 rs) (hx0 : 1 ≤ x) (hx1 : x ≤ 32) (h1 : (n : Int) = x) (h2 : (n2 : Int) = x) (h3 : (n3 : Int) = x) :
    Calls Tryd.prog 47 #[.int .i64 x, .slice a n cap, .slice a2 n2 cap2, .slice a3 n3 cap3] w (OwnPost2 w (nodeL ls ps rs)) := by
  obtain ⟨i0, hi0, hz0, hz1, hz2⟩ := info_parts infoU8
  have hl1 := hin.len
  have hl2 := hin2.len
  have hl3 := hin3.len
  have HIN := Lib.hid hin
  have HIN2 := Lib.hid hin2
  have HIN3 := Lib.hid hin3
  clear hin hin2 hin3
  go_enter Tryd.func47, Tryd.ntmps47
  go_wp2_with (first
    | (go_at_call 68
       (with_reducible refine (width_ok x _ (by omega) (by omega)).mono ?_)
       rintro _ w9 ⟨rfl, hw9⟩
       rw [hw9]
       clear hw9)
    | (at_builtin
       refine wpList_append_bytes' _ rfl (.tmp 33) (.tmp 34) 22 rfl w.heap.size 5 i0 _ 1 Tryd.underlying22 hi0 hz0 hz1 hz2 rfl w.heap.size 1 1 [.int .u8 2] rfl (own_new w 5 .u8 [2] w.heap.size (Nat.le_refl _) (by simp [maxLen])) a n cap ls rfl (HIN.out.below ((Below.refl _ _).alloc (Nat.le_refl _) _)) (by simp only [maxLen]; omega) (by omega) (by simp) ?_
       intro g1 c1 w1 hown1 hg1
       have hown1' := own_app (xs := [2]) (ys := ls) hown1 rfl hl1.symm
       have e1 : ([2] ++ ls).length = 1 + n := by rw [List.length_append, hl1]; rfl
       rw [e1] at hown1'
       have HO1 := Lib.hid hown1'
       have HB1 : Hid (Below w.heap.size w w1) := Lib.hid (below_only ((Below.refl _ _).alloc (Nat.le_refl _) _) hg1 (by simp) (Nat.le_refl _))
       clear hown1 hg1 hown1' e1)
    | (at_builtin
       refine wpList_append_bytes' _ rfl (.tmp 36) (.tmp 37) 22 rfl w.heap.size 5 i0 _ 1 Tryd.underlying22 hi0 hz0 hz1 hz2 rfl g1 (1 + n) c1 (([2] ++ ls).map (Value.int .u8)) rfl HO1.out a2 n2 cap2 ps rfl (HIN2.out.below HB1.out) (by simp only [maxLen]; omega) (by omega) HB1.out.size ?_
       intro g2 c2 w2 hown2 hg2
       have hown2' := own_app (xs := [2] ++ ls) (ys := ps) hown2 (by rw [List.length_append, hl1]; rfl) hl2.symm
       have e2 : ([2] ++ ls ++ ps).length = 1 + n + n2 := by rw [List.length_append, List.length_append, hl1, hl2]; rfl
       rw [e2] at hown2'
       have HO2 := Lib.hid hown2'
       have HB2 : Hid (Below w.heap.size w w2) := Lib.hid (below_only HB1.out hg2 HB1.out.size (HO1.out.lt g1 rfl).1)
       clear hown2 hg2 hown2' e2)
    | (at_builtin
       refine wpList_append_bytes' _ rfl (.tmp 39) (.tmp 40) 22 rfl w.heap.size 5 i0 _ 1 Tryd.underlying22 hi0 hz0 hz1 hz2 rfl g2 (1 + n + n2) c2 (([2] ++ ls ++ ps).map (Value.int .u8)) rfl HO2.out a3 n3 cap3 rs rfl (HIN3.out.below HB2.out) (by simp only [maxLen]; omega) (by omega) HB2.out.size ?_
       intro g3 c3 w3 hown3 hg3
       have HO3 := Lib.hid (own_app (xs := [2] ++ ls ++ ps) (ys := rs) hown3 (by rw [List.length_append, List.length_append, hl1, hl2]; rfl) hl3.symm)
       have HB3 : Hid (Below w.heap.size w w3) := Lib.hid (below_only HB2.out hg3 HB2.out.size (HO2.out.lt g2 rfl).1)
       clear hown3 hg3))
  go_ret2
  have e : nodeL ls ps rs = [2] ++ ls ++ ps ++ rs := by unfold nodeL; simp
  have e2 : (nodeL ls ps rs).length = 1 + n + n2 + n3 := by rw [e, List.length_append, List.length_append, List.length_append, hl1, hl2, hl3]; rfl
  refine ⟨g3, c3, by rw [e2]; rfl, ?_, HB3.out⟩
  rw [e]
  exact HO3.out
end Go.Proofs.YtlbiefddcimdgaaDoor

/- The contract of the program's digest. -/
namespace Go.Proofs.YtlbiefddcimdgaaDoor
open Go.RowKit
set_option linter.unusedVariables false

/-- A slice of new memory, the first k bytes of a sum, and no error. -/
def OfPost2 (w : World) (k : Nat) (bs : List Int) (e : Ending) (w' : World) : Prop :=
  ∃ g, w.heap.size ≤ g ∧ e = .returned (.tuple #[.slice (some ⟨g, 0, none⟩) k k, .nilIface]) ∧ Row .u8 w' 5 g (sumL bs) ∧ Below w.heap.size w w'

set_option maxRecDepth 100000 in
set_option maxHeartbeats 2000000 in
theorem of_ok (k : Nat) (a : Option Addr) (n cap : Nat) (bs : List Int) (w : World) (hin : InBytes w a n cap bs) (hn : (n : Int) ≤ 1125899906842624) (hT : TabLies w) (hk1 : 1 ≤ k) (hk2 : k ≤ 32) :
    Calls Tryd.prog 43 #[.int .i64 k, .slice a n cap] w (OfPost2 w k bs) := by
  have HS := Lib.hid (Sum_any a n cap bs w hin hn hT)
  have hk3 : (k : Int) ≤ 32 := by omega
  have hk4 : (0 : Int) ≤ (k : Int) := by omega
  clear hin hT
  go_enter Tryd.func43, Tryd.ntmps43
  go_wp2_with (first
    | (go_at_call 68
       (with_reducible refine (width_ok _ _ (by omega) (by omega)).mono ?_)
       rintro _ w9 ⟨rfl, hw9⟩
       rw [hw9]
       clear hw9)
    | (go_at_call 69
       (with_reducible refine HS.out.mono ?_)
       rintro _ w1 ⟨g1, hg1, rfl, hr1, hb1⟩
       have H1 := Lib.hid (And.intro hg1 (And.intro hr1 hb1))
       clear hg1 hr1 hb1))
  go_ret2
  obtain ⟨hg1, hr1, hb1⟩ := H1.out
  exact ⟨g1, hg1, rfl, hr1, hb1⟩

/-- The first k bytes of a sum, as an argument of capacity 32. -/
theorem of_in32 {w : World} {g k : Nat} {bs : List Int} {t : TypeId} (h : Row .u8 w t g (sumL bs)) (hk : k ≤ 32) : InBytes w (some ⟨g, 0, none⟩) k 32 ((sumL bs).take k) := by
  have hsl32 := sumL_length bs
  have h1 := InBytes.of_row h (sumL_bytes bs) (by rw [hsl32]; omega)
  rw [hsl32] at h1
  exact h1.upto k hk
/-- The first k bytes of a sum, as an argument of capacity k. -/
theorem of_in {w : World} {g k : Nat} {bs : List Int} {t : TypeId} (h : Row .u8 w t g (sumL bs)) (hk : k ≤ 32) : InBytes w (some ⟨g, 0, none⟩) k k ((sumL bs).take k) :=
  have h1 := of_in32 h hk
  ⟨h1.len, h1.bytes, Nat.le_refl _, by simp only [maxLen]; omega, (fun h => by cases h), h1.place⟩
end Go.Proofs.YtlbiefddcimdgaaDoor

/- The contract of the document's digest of a tree. -/
namespace Go.Proofs.YtlbiefddcimdgaaDoor
open Go.RowKit
set_option linter.unusedVariables false

/-- What the document's digest needs of a world: the tables' box, the tree's box, the constants. -/
structure DW (w W : World) (gk ck : Nat) (h : TH) : Prop where
  tab : TB W w.heap.size (.slice (some ⟨gk, 0, none⟩) 64 ck) hTab
  box : Box W 27 (w.heap.size + 1) h
  ks : Seg .u32 W gk 0 kTab
  b : Below w.heap.size w W
  gk : gk < w.heap.size
/-- The digest and true, or something and false. -/
def DigPost (w : World) (k : Nat) (t : Tr) (e : Ending) (w' : World) : Prop :=
  ∃ a n c is, e = .returned (.tuple #[.slice a n c, .bool is]) ∧ ((is = true ∧ ∃ zs, digT k t = some zs ∧ InBytes w' a n c zs) ∨ (is = false ∧ digT k t = none)) ∧ Below w.heap.size w w'
end Go.Proofs.YtlbiefddcimdgaaDoor

/- The contract of the document's Empty of spans. -/
namespace Go.Proofs.YtlbiefddcimdgaaDoor
open Go.RowKit
set_option linter.unusedVariables false

end Go.Proofs.YtlbiefddcimdgaaDoor

/- The contract of the document's Check of proofs. -/
namespace Go.Proofs.YtlbiefddcimdgaaDoor
open Go.RowKit
set_option linter.unusedVariables false

/-- What the document's Check tells. -/
def ChkPost (w : World) (r : Nat × List KV) (e : Ending) (w' : World) : Prop := ∃ ra n c rs, e = .returned (.tuple #[.slice ra n c, .int .i64 (r.1 : Nat)]) ∧ OwnR recP w' w.heap.size 53 (.slice ra n c) rs ∧ rs.length = n ∧ PairsIn w rs r.2 ∧ Below w.heap.size w w'
/-- The boxes of Check. -/
structure CW8 (w W : World) (gk ck : Nat) (sp : DH) (h : TH) : Prop where
  tab : TB W w.heap.size (.slice (some ⟨gk, 0, none⟩) 64 ck) hTab
  sb : RBox recD W 24 (w.heap.size + 1) sp
  tb : Box W 27 (w.heap.size + 2) h
  ks : Seg .u32 W gk 0 kTab
  b : Below w.heap.size w W
  gk : gk < w.heap.size
end Go.Proofs.YtlbiefddcimdgaaDoor

/- The contract of the document's Check of proofs, the whole. -/
namespace Go.Proofs.YtlbiefddcimdgaaDoor
open Go.RowKit
set_option linter.unusedVariables false

def tellR : Option (List KV) → Nat × List KV
  | none => (8, [])
  | some l => (0, l)
/-- A key is above the one before. -/
def condK (l : List IT) (i : Nat) : Bool := i == 0 || ltL (l.getD (i - 1) ⟨false, false, [], []⟩).key (l.getD i ⟨false, false, [], []⟩).key
/-- Check's boxes, and the items. -/
structure GC (w W : World) (gk ck : Nat) (sp : DH) (h : TH) (b1 b2 : Nat) (la : Option Addr) (n lc : Nat) (qs : List QI) : Prop where
  d : CW8 w W gk ck sp h
  o : OwnR recI W b1 79 (.slice la n lc) qs
  w1 : w.heap.size + 3 ≤ b1
  w2 : b1 ≤ b2
  w3 : b2 ≤ W.heap.size
  lb : ∀ g, (Value.slice la n lc).ownBlock = some g → g < b2
section
variable {w W W' : World} {gk ck : Nat} {sp : DH} {h : TH} {b1 b2 n lc : Nat} {la : Option Addr} {qs : List QI}
end
/-- The last key's box, and the pairs that are told. -/
structure LB (w W : World) (gk ck : Nat) (sp : DH) (h : TH) (b1 b2 : Nat) (la : Option Addr) (n lc : Nat) (qs : List QI) (gl b3 : Nat) (lq : QI) (low : List Int) (oa : Option Addr) (r oc : Nat) (rs : List PH) (acc : List KV) : Prop where
  g : GC w W gk ck sp h b1 b2 la n lc qs
  lbx : RBox recI W 79 gl lq
  lk : InBytes w lq.ka lq.kn lq.kc low
  row : OwnR recP W b3 53 (.slice oa r oc) rs
  pin : PairsIn w rs acc
  rl : rs.length = r
  gl2 : b2 ≤ gl
  gb : gl < b3
  b3w : b3 ≤ W.heap.size
  ll : low.length ≤ 80
section
variable {w W W' : World} {gk ck : Nat} {sp : DH} {h : TH} {b1 b2 n lc gl b3 r oc : Nat} {la oa : Option Addr} {qs : List QI} {lq : QI} {low : List Int} {rs : List PH} {acc : List KV}
end
theorem part_lens80 {t : Tr} (hp : partB t = true) : t.key.length ≤ 80 ∧ t.val.length ≤ 1024 := by
  unfold partB at hp
  split at hp
  · simp only [Bool.and_eq_true, decide_eq_true_eq] at hp; omega
  · split at hp
    · simp only [Bool.and_eq_true, decide_eq_true_eq] at hp; omega
    · split at hp
      · simp only [Bool.and_eq_true, decide_eq_true_eq] at hp; omega
      · split at hp
        · simp only [Bool.and_eq_true, decide_eq_true_eq] at hp; omega
        · cases hp
end Go.Proofs.YtlbiefddcimdgaaDoor

/- The contract of whether a proof covers a span. -/
namespace Go.Proofs.YtlbiefddcimdgaaDoor
open Go.RowKit
set_option linter.unusedVariables false

/-- The boxes of covers, and the row of nodes. -/
structure CX (w W : World) (h : TH) (sp : DH) (base : Nat) (a : Option Addr) (n c : Nat) (hs : List TH) (ts : List Tr) : Prop where
  box : Box W 27 w.heap.size h
  sb : RBox recD W 24 (w.heap.size + 1) sp
  b : Below w.heap.size w W
  r : RT W base a n c hs ts
section
variable {w W W' : World} {h : TH} {sp : DH} {base : Nat} {a : Option Addr} {n c : Nat} {hs : List TH} {ts : List Tr}
theorem CX.below (x : CX w W h sp base a n c hs ts) (hb : Below W.heap.size W W') : CX w W' h sp base a n c hs ts := ⟨x.box.below hb x.box.lt, x.sb.below hb x.sb.lt, x.b.trans (hb.mono x.b.size), x.r.below hb⟩
end
theorem list_keys {p : Tr} (hf : formedT p = true) : ∀ x ∈ listT p, x.key.length ≤ 80 ∧ x.val.length ≤ 1024 := by
  revert hf
  induction p using Tr.ind with
  | h p ih =>
  intro hf x hx
  obtain ⟨hp, hk⟩ := formed_kids hf
  rcases part_kids hp with ⟨h0, _⟩ | ⟨h2, _⟩
  · rw [listT_0 h0] at hx
    cases hx
  · rw [listT_2 h2, List.mem_append, List.mem_cons] at hx
    rcases hx with hx | rfl | hx
    · exact ih _ (List.getElem_mem (by omega : 0 < p.kids.length)) (hk 0 (by omega)) x hx
    · exact part_lens80 hp
    · exact ih _ (List.getElem_mem (by omega : 1 < p.kids.length)) (hk 1 (by omega)) x hx
/-- What covers tells. -/
def Covers (w : World) (f t : List Int) (o : Bool) (p : Tr) (e : Ending) (w' : World) : Prop := ∃ b, e = .returned (.bool b) ∧ (b = true ↔ CovT f t o p) ∧ Below w.heap.size w w'

set_option maxRecDepth 100000 in
set_option maxHeartbeats 4000000 in
theorem covers_any (p : Tr) (h : TH) (hs : List TH) (base : Nat) (a : Option Addr) (n c : Nat) (sp : DH) (f t : List Int) (w : World) (ht : InTree w h p) (hf : formedT p = true) (hcn : countT p ≤ 500) (hr : RT w base a n c hs (listT p)) (hsp : SpanIn w sp f t) :
    Calls Tryd.prog 30 #[h.v, .slice a n c, sp.v] w (Covers w f t sp.out p) := by
  unfold TH.v DH.v
  obtain ⟨e1, e2, e3, e4⟩ := enterS w h sp
  have HX : Hid (CX w ((w.alloc (.cells #[.int .i64 h.k, .slice h.ka h.kn h.kc, .slice h.va h.vn h.vc, .slice h.da h.dn h.dc, .slice h.ta h.tn h.tc] 27)).alloc (.cells #[.slice sp.ka sp.kn sp.kc, .slice sp.va sp.vn sp.vc, .bool sp.out] 24)) h sp base a n c hs (listT p)) := Lib.hid ⟨e1, e2, e3, hr.below (((Below.refl _ _).alloc (Nat.le_refl _) _).alloc (by simp) _)⟩
  have HT := Lib.hid ht
  have HSP := Lib.hid hsp
  have hll := list_len p hf
  have htl := hr.l
  have hn5 : n ≤ 500 := by omega
  have HKL := Lib.hid (list_keys hf)
  have hwv := (items_weave p hf).2
  have hel := ends_len p
  have hhl := hr.hl
  clear e1 e2 e3 e4 ht hsp hr hll
  go_enter Tryd.func30, Tryd.ntmps30
  go_upto_region 1 with fail
  generalize ((w.alloc (.cells #[.int .i64 h.k, .slice h.ka h.kn h.kc, .slice h.va h.vn h.vc, .slice h.da h.dn h.dc, .slice h.ta h.tn h.tc] 27)).alloc (.cells #[.slice sp.ka sp.kn sp.kc, .slice sp.va sp.vn sp.vc, .bool sp.out] 24)) = w0 at *
  go_wp2_with fail
  go_loopw [13] (fun s13 wx => ∃ i : Nat, i ≤ n ∧ s13 = .int .i64 i ∧ CX w wx h sp base a n c hs (listT p) ∧ ∀ j (h2 : j < (listT p).length), j < i → darkB f t sp.out (listT p)[j] = false) (fun s13 _ => n - (intOf s13).toNat)
  case atStart => exact ⟨0, by omega, rfl, HX.out, fun j _ hj => by omega⟩
  case round =>
    clear HX
    obtain ⟨i, hi, rfl, hx, hall⟩ := hrel
    have HX := Lib.hid hx
    have HA := Lib.hid hall
    clear hx hall
    by_cases hlt : i < n
    · have q1 : (i : Int) < (n : Int) := by omega
      have him : i < hs.length := by omega
      have hix : i < (listT p).length := by omega
      obtain ⟨g, hga⟩ := HX.out.r.block hlt
      subst hga
      obtain ⟨k0, k1, k2, k3, k4⟩ := HX.out.r.cells i him
      have HKD : Hid ((hs[i]).k = ((listT p)[i]).k) := Lib.hid (HX.out.r.kind i him hix)
      go_upto_region 4 with fail
      have b5 : Below wr.heap.size wr (wr.alloc (.cells #[.int .i64 (hs[i]).k, .slice (hs[i]).ka (hs[i]).kn (hs[i]).kc, .slice (hs[i]).va (hs[i]).vn (hs[i]).vc, .slice (hs[i]).da (hs[i]).dn (hs[i]).dc, .slice (hs[i]).ta (hs[i]).tn (hs[i]).tc] 27)) := (Below.refl _ _).alloc (Nat.le_refl _) _
      have bx := Box.new wr 27 (hs[i])
      generalize (wr.alloc (.cells #[.int .i64 (hs[i]).k, .slice (hs[i]).ka (hs[i]).kn (hs[i]).kc, .slice (hs[i]).va (hs[i]).vn (hs[i]).vc, .slice (hs[i]).da (hs[i]).dn (hs[i]).dc, .slice (hs[i]).ta (hs[i]).tn (hs[i]).tc] 27)) = w5 at *
      have HX5 := Lib.hid (HX.out.below b5)
      obtain ⟨y0, y1, y2, y3, y4⟩ := bx.cells
      have HXB := Lib.hid bx
      generalize wr.heap.size = g8 at *
      clear b5 bx k0 k1 k2 k3 k4
      cases hk2 : ((hs[i]).k == 2) with
      | false =>
        have HK2 := Lib.hid hk2
        go_wp2_with fail
        exact ⟨⟨i + 1, by omega, by go_num, HX5.out, fun j h2 hj => by
          by_cases e : j = i
          · subst e
            unfold darkB
            rw [← HKD.out, HK2.out, Bool.false_and]
          · exact HA.out j h2 (by omega)⟩, by simp [intOf]; omega⟩
      | true =>
        have HD : Hid (darkB f t sp.out (listT p)[i] = inS f t sp.out ((listT p)[i]).key) := Lib.hid (by unfold darkB; rw [← HKD.out, hk2, Bool.true_and])
        obtain ⟨z0, z1, z2⟩ := HX5.out.sb.three
        cases hin : inS f t sp.out ((listT p)[i]).key with
        | true =>
          have HIN := Lib.hid hin
          clear hin
          go_wp2_with (first
            | (go_at_call 22
               refine (scanIn_any sp f t ((listT p)[i]).key (hs[i]).ka (hs[i]).kn (hs[i]).kc _ (HSP.out.below HX5.out.b) (HX5.out.r.key i him hix)).mono ?_
               rintro _ w6 ⟨rfl, hb6⟩
               have HX6 := Lib.hid (HX5.out.below hb6)
               rw [HIN.out]
               clear hb6 y0 y1 y2 y3 y4 z0 z1 z2))
          go_ret
          refine ⟨false, rfl, ⟨fun q => (by cases q), fun q => ?_⟩, HX6.out.b⟩
          have q2 := q.1 _ (List.getElem_mem hix)
          rw [HD.out, HIN.out] at q2
          cases q2
        | false =>
          have HIN := Lib.hid hin
          clear hin
          go_wp2_with (first
            | (go_at_call 22
               refine (scanIn_any sp f t ((listT p)[i]).key (hs[i]).ka (hs[i]).kn (hs[i]).kc _ (HSP.out.below HX5.out.b) (HX5.out.r.key i him hix)).mono ?_
               rintro _ w6 ⟨rfl, hb6⟩
               have HX6 := Lib.hid (HX5.out.below hb6)
               rw [HIN.out]
               clear hb6 y0 y1 y2 y3 y4 z0 z1 z2))
          exact ⟨⟨i + 1, by omega, by go_num, HX6.out, fun j h2 hj => by
            by_cases e : j = i
            · subst e
              rw [HD.out, HIN.out]
            · exact HA.out j h2 (by omega)⟩, by simp [intOf]; omega⟩
    · obtain rfl : i = n := by omega
      have q1 : ¬ (i : Int) < (i : Int) := by omega
      have HDK : Hid (∀ x ∈ listT p, darkB f t sp.out x = false) := Lib.hid (fun x hx => by
        obtain ⟨j, hj, rfl⟩ := List.mem_iff_getElem.1 hx
        exact HA.out j hj (by omega))
      obtain ⟨x0, x1, x2, x3, x4⟩ := HX.out.box.cells
      clear HA hi
      go_upto_region 7 with fail
      go_wp2_with (first
        | (go_at_call 56
           refine (ends_any p h _ (HT.out.lower HX.out.b) (by omega)).mono ?_
           rintro _ w7 ⟨v7, es, rfl, ho7, hh7, hb7⟩
           obtain ⟨ea, ec, hv7⟩ := ho7.sl
           subst hv7
           have HX7 := Lib.hid (HX.out.below hb7)
           have HR7 : Hid (RT w7 wr.heap.size ea es.length ec es (endsT p)) := Lib.hid ⟨ho7, hh7.lower hb7, hh7.1.symm⟩
           clear ho7 hh7 hb7 x0 x1 x2 x3 x4))
      have hem : es.length = (endsT p).length := HR7.out.l.symm
      generalize wr.heap.size = base2 at *
      generalize hm : es.length = m at *
      have HM := Lib.hid hm
      have HME : Hid (m = (endsT p).length ∧ m = i + 1) := Lib.hid ⟨hem, by omega⟩
      have HTL := Lib.hid htl
      have hm5 : m ≤ 501 := by omega
      clear hm hem htl hwv hel hhl
      go_loopw [30] (fun s30 wx => ∃ k : Nat, k ≤ m ∧ s30 = .int .i64 k ∧ CX w wx h sp base a i c hs (listT p) ∧ RT wx base2 ea m ec es (endsT p) ∧ ∀ j (h2 : j < (endsT p).length), j < k → gapB f t sp.out [] false (listT p) j (endsT p)[j] = true) (fun s30 _ => m - (intOf s30).toNat)
      case atStart => exact ⟨0, by omega, rfl, HX7.out, HR7.out, fun j _ hj => by omega⟩
      case round =>
        clear HX7 HR7
        obtain ⟨k, hk, rfl, hx, hr, hall⟩ := hrel
        have HX := Lib.hid hx
        have HR := Lib.hid hr
        have HA := Lib.hid hall
        clear hx hr hall
        by_cases hlt : k < m
        · have q2 : (k : Int) < (m : Int) := by omega
          have him : k < es.length := by rw [HM.out]; exact hlt
          have hix : k < (endsT p).length := by have := HME.out; omega
          obtain ⟨g, hga⟩ := HR.out.block hlt
          subst hga
          obtain ⟨k0, k1, k2, k3, k4⟩ := HR.out.cells k him
          have HKD : Hid ((es[k]).k = ((endsT p)[k]).k) := Lib.hid (HR.out.kind k him hix)
          go_upto_region 10 with fail
          have b5 : Below wr.heap.size wr (wr.alloc (.cells #[.int .i64 (es[k]).k, .slice (es[k]).ka (es[k]).kn (es[k]).kc, .slice (es[k]).va (es[k]).vn (es[k]).vc, .slice (es[k]).da (es[k]).dn (es[k]).dc, .slice (es[k]).ta (es[k]).tn (es[k]).tc] 27)) := (Below.refl _ _).alloc (Nat.le_refl _) _
          have bx := Box.new wr 27 (es[k])
          generalize (wr.alloc (.cells #[.int .i64 (es[k]).k, .slice (es[k]).ka (es[k]).kn (es[k]).kc, .slice (es[k]).va (es[k]).vn (es[k]).vc, .slice (es[k]).da (es[k]).dn (es[k]).dc, .slice (es[k]).ta (es[k]).tn (es[k]).tc] 27)) = w5 at *
          have HX5 := Lib.hid (HX.out.below b5)
          have HR5 := Lib.hid (HR.out.below b5)
          have y0 := bx.cells.1
          have HXB := Lib.hid bx
          generalize wr.heap.size = g8 at *
          clear b5 bx k0 k1 k2 k3 k4
          cases hk3 : ((es[k]).k == 3) with
          | false =>
            have HK3 := Lib.hid hk3
            go_wp2_with fail
            exact ⟨⟨k + 1, by omega, by go_num, HX5.out, HR5.out, fun j h2 hj => by
              by_cases e : j = k
              · subst e
                unfold gapB
                have q3 := HK3.out
                rw [HKD.out] at q3
                have q4 : ((endsT p)[j].k != 3) = true := by rw [bne, q3]; rfl
                rw [q4, Bool.true_or]
              · exact HA.out j h2 (by omega)⟩, by simp [intOf]; omega⟩
          | true =>
            have HG : Hid (gapB f t sp.out [] false (listT p) k (endsT p)[k] = emptyS f t sp.out (if k = 0 then [] else ((listT p).getD (k - 1) (.mk 0 [] [] [] [])).key) ((listT p).getD k (.mk 0 [] [] [] [])).key (decide (0 < k)) (decide (k < i))) := Lib.hid (by
              unfold gapB
              have q4 : ((endsT p)[k].k != 3) = false := by rw [← HKD.out, bne, hk3]; rfl
              rw [q4, Bool.false_or, Bool.false_or, HTL.out])
            obtain ⟨z0, z1, z2⟩ := HX5.out.sb.three
            have hki : k ≤ i := by have := HME.out; omega
            generalize hgr : emptyS f t sp.out (if k = 0 then [] else ((listT p).getD (k - 1) (.mk 0 [] [] [] [])).key) ((listT p).getD k (.mk 0 [] [] [] [])).key (decide (0 < k)) (decide (k < i)) = gr at *
            have HGR := Lib.hid hgr
            clear hgr
            cases gr with
            | false =>
              go_wp2_with (first
                | (go_at_call 57
                   refine (gap_any (listT p) hs base a i c k sp f t _ HX5.out.r hki hn5 (HSP.out.below HX5.out.b) (fun x hx => (HKL.out x hx).1)).mono ?_
                   rintro _ w6 ⟨rfl, hb6⟩
                   have HX6 := Lib.hid (HX5.out.below hb6)
                   rw [HGR.out]
                   clear hb6 y0 z0 z1 z2))
              go_ret
              refine ⟨false, rfl, ⟨fun q => (by cases q), fun q => ?_⟩, HX6.out.b⟩
              have q3 := q.2 k hix
              rw [HG.out] at q3
              cases q3
            | true =>
              go_wp2_with (first
                | (go_at_call 57
                   refine (gap_any (listT p) hs base a i c k sp f t _ HX5.out.r hki hn5 (HSP.out.below HX5.out.b) (fun x hx => (HKL.out x hx).1)).mono ?_
                   rintro _ w6 ⟨rfl, hb6⟩
                   have HX6 := Lib.hid (HX5.out.below hb6)
                   have HR6 := Lib.hid (HR5.out.below hb6)
                   rw [HGR.out]
                   clear hb6 y0 z0 z1 z2))
              exact ⟨⟨k + 1, by omega, by go_num, HX6.out, HR6.out, fun j h2 hj => by
                by_cases e : j = k
                · subst e
                  exact HG.out
                · exact HA.out j h2 (by omega)⟩, by simp [intOf]; omega⟩
        · obtain rfl : k = m := by omega
          have q2 : ¬ (k : Int) < (k : Int) := by omega
          go_wp2_with fail
          go_ret
          exact ⟨true, rfl, ⟨fun _ => ⟨HDK.out, fun j hj => HA.out j hj (by have := HME.out; omega)⟩, fun _ => rfl⟩, HX.out.b⟩
end Go.Proofs.YtlbiefddcimdgaaDoor

/- The contract of the pairs that a proof shows. -/
namespace Go.Proofs.YtlbiefddcimdgaaDoor
open Go.RowKit
set_option linter.unusedVariables false

theorem LS.bytes {w W : World} {a : Option Addr} {n c : Nat} {hs : List TH} {ts : List Tr} (x : LS w W a n c hs ts) (i : Nat) (h1 : i < hs.length) (h2 : i < ts.length) : InBytes W (hs[i]).ka (hs[i]).kn (hs[i]).kc (ts[i]).key ∧ InBytes W (hs[i]).va (hs[i]).vn (hs[i]).vc (ts[i]).val := by
  obtain ⟨H, hp⟩ := (x.hh.2 i h1 h2).parts
  exact ⟨hp.key, hp.val⟩
theorem takeT_in {ts : List Tr} {q : Tr → Bool} {i : Nat} (hi : i < ts.length) (h : q ts[i] = true) : ((ts.take (i + 1)).filter q).map kvT = ((ts.take i).filter q).map kvT ++ [kvT ts[i]] := by
  rw [List.take_add_one, List.getElem?_eq_getElem hi, List.filter_append, List.map_append]
  simp [h]
theorem takeT_out {ts : List Tr} {q : Tr → Bool} {i : Nat} (hi : i < ts.length) (h : q ts[i] = false) : ((ts.take (i + 1)).filter q).map kvT = ((ts.take i).filter q).map kvT := by
  rw [List.take_add_one, List.getElem?_eq_getElem hi, List.filter_append, List.map_append]
  simp [h]
/-- What is shown: pairs of one's own, behind the world wb. -/
def Shows8 (wb w : World) (kvs : List KV) (e : Ending) (w' : World) : Prop := ∃ ra r rc rs, e = .returned (.slice ra r rc) ∧ OwnR recP w' wb.heap.size 53 (.slice ra r rc) rs ∧ rs.length = r ∧ PV w' wb.heap.size rs kvs ∧ Below wb.heap.size wb w'
/-- Both ends, at another world. -/
theorem SpanIn.lower {wb w : World} {sp : DH} {f t : List Int} (x : SpanIn wb sp f t) (hb : Below wb.heap.size wb w) : SpanIn w sp f t := x.below hb

set_option maxRecDepth 100000 in
set_option maxHeartbeats 4000000 in
theorem shown8_any (wb : World) (ts : List Tr) (hs : List TH) (a : Option Addr) (n c : Nat) (sp : DH) (f t : List Int) (w : World) (hb : Below wb.heap.size wb w) (ho : OwnT w wb.heap.size 27 (.slice a n c) hs) (hh : Heads wb hs ts) (htl : ts.length = n) (hn : n ≤ 500) (hsp : SpanIn wb sp f t) (hkl : ∀ x ∈ ts, x.key.length ≤ 80 ∧ x.val.length ≤ 1024) :
    Calls Tryd.prog 31 #[.slice a n c, sp.v] w (Shows8 wb w ((ts.filter (takeB f t sp.out)).map kvT)) := by
  unfold DH.v
  obtain ⟨ti, hti, htz⟩ := Option.map_eq_some_iff.1 infoPair
  simp only [Prod.mk.injEq] at htz
  obtain ⟨hz0, hz1, hz2⟩ := htz
  have HTI := Lib.hid (And.intro hti (And.intro hz0 (And.intro hz1 hz2)))
  clear hti hz0 hz1 hz2
  have q1 : Below w.heap.size w (w.alloc (.cells #[.slice sp.ka sp.kn sp.kc, .slice sp.va sp.vn sp.vc, .bool sp.out] 24)) := (Below.refl _ _).alloc (Nat.le_refl _) _
  have HG3 : Hid (RS wb (w.alloc (.cells #[.slice sp.ka sp.kn sp.kc, .slice sp.va sp.vn sp.vc, .bool sp.out] 24)) w.heap.size sp a n c hs ts (.slice none 0 0) [] (((ts.take 0).filter (takeB f t sp.out)).map kvT)) := Lib.hid ⟨hb.trans (q1.mono hb.size), ho.keep q1, hh, DH.box w _ sp, OwnR.nil _ _ _ _, by simpa using PV.nil _ _⟩
  have HSP := Lib.hid hsp
  have HTL := Lib.hid htl
  have HHL : Hid (hs.length = n) := Lib.hid (hh.1.trans htl)
  have HKA := Lib.hid hkl
  clear q1 hsp hb ho hh htl hkl
  go_enter Tryd.func31, Tryd.ntmps31
  go_upto_region 1 with fail
  generalize (w.alloc (.cells #[.slice sp.ka sp.kn sp.kc, .slice sp.va sp.vn sp.vc, .bool sp.out] 24)) = w1 at *
  go_wp2_with fail
  go_loopw [5, 10] (fun s5 s10 wx => ∃ (i : Nat) (ra : Option Addr) (r rc : Nat) (rs : List PH), i ≤ n ∧ s5 = .slice ra r rc ∧ rs.length = r ∧ s10 = .int .i64 i ∧ RS wb wx w.heap.size sp a n c hs ts (.slice ra r rc) rs (((ts.take i).filter (takeB f t sp.out)).map kvT)) (fun _ s10 _ => n - (intOf s10).toNat)
  case atStart => exact ⟨0, none, 0, 0, [], by omega, rfl, rfl, rfl, HG3.out⟩
  case round =>
    clear HG3
    obtain ⟨i, ra, r, rc, rs, hi, rfl, hrl, rfl, hrg⟩ := hrel
    have hr5 : r ≤ 500 := by
      have h1 := hrg.pv.1
      have h2 := List.length_filter_le (takeB f t sp.out) (ts.take i)
      rw [List.length_map] at h1
      rw [List.length_take] at h2
      omega
    by_cases hlt : i < n
    · have q1 : (i : Int) < (n : Int) := by omega
      have him : i < hs.length := by rw [HHL.out]; exact hlt
      have hix : i < ts.length := by rw [HTL.out]; exact hlt
      obtain ⟨g, hga, -⟩ := hrg.o.at HHL.out i him
      subst hga
      obtain ⟨x0, x1, x2, x3, x4⟩ := hrg.ls.cells HHL.out i him
      have HL := Lib.hid hrg
      have HKL := Lib.hid (HKA.out _ (List.getElem_mem hix))
      have HKV8 : Hid (Bytes8 (ts[i]).key ∧ Bytes8 (ts[i]).val) := Lib.hid ⟨(hrg.ls.bytes i him hix).1.bytes, (hrg.ls.bytes i him hix).2.bytes⟩
      have HKD : Hid ((hs[i]).k = (ts[i]).k) := Lib.hid (by
        obtain ⟨H, hp⟩ := (hrg.ls.hh.2 i him hix).parts
        exact hp.hk)
      clear hrg
      have hx5 := Box.new wr 27 (hs[i])
      have q5 : Below wr.heap.size wr (wr.alloc (.cells #[.int .i64 (hs[i]).k, .slice (hs[i]).ka (hs[i]).kn (hs[i]).kc, .slice (hs[i]).va (hs[i]).vn (hs[i]).vc, .slice (hs[i]).da (hs[i]).dn (hs[i]).dc, .slice (hs[i]).ta (hs[i]).tn (hs[i]).tc] 27)) := (Below.refl _ _).alloc (Nat.le_refl _) _
      go_upto_region 5 with fail
      generalize (wr.alloc (.cells #[.int .i64 (hs[i]).k, .slice (hs[i]).ka (hs[i]).kn (hs[i]).kc, .slice (hs[i]).va (hs[i]).vn (hs[i]).vc, .slice (hs[i]).da (hs[i]).dn (hs[i]).dc, .slice (hs[i]).ta (hs[i]).tn (hs[i]).tc] 27)) = w5 at *
      have HN5 : Hid (RN wb w5 w.heap.size sp (some ⟨g, 0, none⟩) n c hs ts (.slice ra r rc) rs (((ts.take i).filter (takeB f t sp.out)).map kvT) wr.heap.size (hs[i])) := Lib.hid ⟨HL.out.below q5, hx5⟩
      obtain ⟨y0, y1, y2⟩ := HN5.out.r.box.three
      obtain ⟨z0, z1, z2, z3, z4⟩ := HN5.out.x.cells
      clear hx5 q5 x0 x1 x2 x3 x4 HL
      generalize wr.heap.size = g8 at *
      cases hk1 : ((hs[i]).k == 1) with
      | false =>
        have HO : Hid (takeB f t sp.out ts[i] = false) := Lib.hid (by unfold takeB; rw [← HKD.out, hk1, Bool.false_and])
        go_wp2_with fail
        exact ⟨⟨i + 1, ra, r, rc, rs, by omega, rfl, hrl, by go_num, by rw [takeT_out hix HO.out]; exact HN5.out.r⟩, by simp [intOf]; omega⟩
      | true =>
        cases hin : inS f t sp.out (ts[i]).key with
        | false =>
          have HIN := Lib.hid hin
          have HO : Hid (takeB f t sp.out ts[i] = false) := Lib.hid (by unfold takeB; rw [hin, Bool.and_false])
          clear hin
          go_wp2_with (first
            | (go_at_call 22
               refine (scanIn_any sp f t (ts[i]).key (hs[i]).ka (hs[i]).kn (hs[i]).kc _ (HSP.out.lower HN5.out.r.b) (HN5.out.r.ls.bytes i him hix).1).mono ?_
               rintro _ w6 ⟨rfl, hb6⟩
               have HN6 := Lib.hid (HN5.out.below hb6)
               rw [HIN.out]
               clear hb6 y0 y1 y2 z0 z1 z2 z3 z4))
          exact ⟨⟨i + 1, ra, r, rc, rs, by omega, rfl, hrl, by go_num, by rw [takeT_out hix HO.out]; exact HN6.out.r⟩, by simp [intOf]; omega⟩
        | true =>
          have HIN := Lib.hid hin
          have HO : Hid (takeB f t sp.out ts[i] = true) := Lib.hid (by unfold takeB; rw [hin, ← HKD.out, hk1]; rfl)
          clear hin
          go_upto_region 6 with (first
            | (go_at_call 22
               refine (scanIn_any sp f t (ts[i]).key (hs[i]).ka (hs[i]).kn (hs[i]).kc _ (HSP.out.lower HN5.out.r.b) (HN5.out.r.ls.bytes i him hix).1).mono ?_
               rintro _ w6 ⟨rfl, hb6⟩
               have HN6 := Lib.hid (HN5.out.below hb6)
               rw [HIN.out]
               clear hb6 y0 y1 y2 z0 z1 z2 z3 z4))
          clear hk1
          have HN6D := Lib.hid HN6.out.drew
          refine wp_region_held_drew (S := (fun W => W.cell? ⟨g8, 1, none⟩ = some (.slice (hs[i]).ka (hs[i]).kn (hs[i]).kc) ∧ W.cell? ⟨g8, 2, none⟩ = some (.slice (hs[i]).va (hs[i]).vn (hs[i]).vc))) (by kernel_rfl) HN6D.out.two (fun hHeld => ?_)
          refine take_w (i := 0) (oi := ?oZ59) (v := ?vZ59) ?hiZ59 (by kernel_rfl) (by kernel_rfl) (by kernel_rfl) ?hQZ59 ?hwZ59 ?hyZ59 (by assumption) ?restZ59
          case hiZ59 => (simp only [List.getElem?_toArray, List.getElem?_cons_zero] <;> rfl)
          case hQZ59 => exact (fun _ _ _ h => h)
          case hwZ59 => rfl
          case hyZ59 => (intro w hSw; (try dsimp only at hSw); go_simp; try with_reducible rfl)
          (try simp only [Act.put, List.setIfInBounds_toArray, List.set_cons_zero, List.set_cons_succ])
          refine take_w (i := 1) (oi := ?oZ60) (v := ?vZ60) ?hiZ60 (by kernel_rfl) (by kernel_rfl) (by kernel_rfl) ?hQZ60 ?hwZ60 ?hyZ60 (by assumption) ?restZ60
          case hiZ60 => (simp only [List.getElem?_toArray, List.getElem?_cons_succ, List.getElem?_cons_zero] <;> rfl)
          case hQZ60 => exact (fun _ _ _ h => h)
          case hwZ60 => rfl
          case hyZ60 => (intro w hSw; (try dsimp only at hSw); go_simp; try with_reducible rfl)
          (try simp only [Act.put, List.setIfInBounds_toArray, List.set_cons_zero, List.set_cons_succ])
          refine take_w (i := 2) (oi := ?oZ61) (v := ?vZ61) ?hiZ61 (by kernel_rfl) (by kernel_rfl) (by kernel_rfl) ?hQZ61 ?hwZ61 ?hyZ61 (by assumption) ?restZ61
          case hiZ61 => (simp only [List.getElem?_toArray, List.getElem?_cons_succ, List.getElem?_cons_zero] <;> rfl)
          case hQZ61 => exact (fun _ _ _ h => h)
          case hwZ61 => rfl
          case hyZ61 => (intro w hSw; (try dsimp only at hSw); go_simp; try with_reducible rfl)
          (try simp only [Act.put, List.setIfInBounds_toArray, List.set_cons_zero, List.set_cons_succ])
          refine take_w (i := 4) (oi := ?oZ62) (v := ?vZ62) ?hiZ62 (by kernel_rfl) (by kernel_rfl) (by kernel_rfl) ?hQZ62 ?hwZ62 ?hyZ62 (by assumption) ?restZ62
          case hiZ62 => (simp only [List.getElem?_toArray, List.getElem?_cons_succ, List.getElem?_cons_zero] <;> rfl)
          case hQZ62 => exact (fun _ _ _ h => h)
          case hwZ62 => rfl
          case hyZ62 => (intro w hSw; (try dsimp only at hSw); go_simp; try with_reducible rfl)
          (try simp only [Act.put, List.setIfInBounds_toArray, List.set_cons_zero, List.set_cons_succ])
          refine take_w (i := 5) (oi := ?oZ63) (v := ?vZ63) ?hiZ63 (by kernel_rfl) (by kernel_rfl) (by kernel_rfl) ?hQZ63 ?hwZ63 ?hyZ63 (by assumption) ?restZ63
          case hiZ63 => (simp only [List.getElem?_toArray, List.getElem?_cons_succ, List.getElem?_cons_zero] <;> rfl)
          case hQZ63 => exact (fun _ _ _ h => h)
          case hwZ63 => rfl
          case hyZ63 => (intro w hSw; (try dsimp only at hSw); go_simp; try with_reducible rfl)
          (try simp only [Act.put, List.setIfInBounds_toArray, List.set_cons_zero, List.set_cons_succ])
          refine wpAnyH_ready (rs := [3]) (by kernel_rfl) (by simp) ?_
          refine AllReadyH.cons (o := ?oZ64) ?hiZ64 (fun K hK => ?stZ64) AllReadyH.nil
          case hiZ64 => (simp only [List.getElem?_toArray, List.getElem?_cons_succ, List.getElem?_cons_zero] <;> rfl)
          go_simp
          go_at_call 45
          refine (clone_own (hs[i]).ka (hs[i]).kn (hs[i]).kc (ts[i]).key _ (HN6D.out.r.ls.bytes i him hix).1 (by have q := (HN6D.out.r.ls.bytes i him hix).1.len; have q2 := HKL.out; omega)).mono ?_
          rintro _ w7 ⟨v7, rfl, ho7, hb7⟩
          obtain ⟨a7, c7, rfl, -⟩ := own_any ho7 (HN6D.out.r.ls.bytes i him hix).1.bytes
          have HN7 := Lib.hid (HN6D.out.below hb7)
          have HO7 := Lib.hid (own_weak ho7 HN6D.out.r.b.size)
          clear ho7 hb7
          go_simp
          refine hK.out _ _ ?_ (fun hHeld => ?_)
          · (first | exact HN9.out.two | exact HN8.out.two | exact HN7.out.two | exact HN6D.out.two | exact (HN8.out.below ((Below.refl _ _).alloc (Nat.le_refl _) _)).two)
          clear hK K
          (try simp only [Act.put, List.setIfInBounds_toArray, List.set_cons_zero, List.set_cons_succ])
          refine wpAnyH_ready (rs := [6]) (by kernel_rfl) (by simp) ?_
          refine AllReadyH.cons (o := ?oZ65) ?hiZ65 (fun K hK => ?stZ65) AllReadyH.nil
          case hiZ65 => (simp only [List.getElem?_toArray, List.getElem?_cons_succ, List.getElem?_cons_zero] <;> rfl)
          go_simp
          go_at_call 45
          refine (clone_own (hs[i]).va (hs[i]).vn (hs[i]).vc (ts[i]).val _ (HN7.out.r.ls.bytes i him hix).2 (by have q := (HN7.out.r.ls.bytes i him hix).2.len; have q2 := HKL.out; omega)).mono ?_
          rintro _ w8 ⟨v8, rfl, ho8, hb8⟩
          obtain ⟨a8, c8, rfl, -⟩ := own_any ho8 (HN7.out.r.ls.bytes i him hix).2.bytes
          have HN8 := Lib.hid (HN7.out.below hb8)
          have HO8 := Lib.hid (own_weak ho8 HN7.out.r.b.size)
          have HOK8 := Lib.hid (own_keep HO7.out hb8)
          clear ho8 hb8
          go_simp
          refine hK.out _ _ ?_ (fun hHeld => ?_)
          · (first | exact HN9.out.two | exact HN8.out.two | exact HN7.out.two | exact HN6D.out.two | exact (HN8.out.below ((Below.refl _ _).alloc (Nat.le_refl _) _)).two)
          clear hK K
          (try simp only [Act.put, List.setIfInBounds_toArray, List.set_cons_zero, List.set_cons_succ])
          refine take_w (i := 7) (oi := ?oZ66) (v := ?vZ66) ?hiZ66 (by kernel_rfl) (by kernel_rfl) (by kernel_rfl) ?hQZ66 ?hwZ66 ?hyZ66 (by assumption) ?restZ66
          case hiZ66 => (simp only [List.getElem?_toArray, List.getElem?_cons_succ, List.getElem?_cons_zero] <;> rfl)
          case hQZ66 => exact (fun _ _ _ h => h)
          case hwZ66 => rfl
          case hyZ66 => (intro w hSw; (try dsimp only at hSw); go_simp; try with_reducible rfl)
          (try simp only [Act.put, List.setIfInBounds_toArray, List.set_cons_zero, List.set_cons_succ])
          refine wpAnyH_ready (rs := [8]) (by kernel_rfl) (by simp) ?_
          refine AllReadyH.cons (o := ?oZ67) ?hiZ67 (fun K hK => ?stZ67) AllReadyH.nil
          case hiZ67 => (simp only [List.getElem?_toArray, List.getElem?_cons_succ, List.getElem?_cons_zero] <;> rfl)
          go_simp
          refine hK.out _ _ ?_ (fun hHeld => ?_)
          · (first | exact HN9.out.two | exact HN8.out.two | exact HN7.out.two | exact HN6D.out.two | exact (HN8.out.below ((Below.refl _ _).alloc (Nat.le_refl _) _)).two)
          clear hK K
          (try simp only [Act.put, List.setIfInBounds_toArray, List.set_cons_zero, List.set_cons_succ])
          refine wpAnyH_ready (rs := [9]) (by kernel_rfl) (by simp) ?_
          refine AllReadyH.cons (o := ?oZ68) ?hiZ68 (fun K hK => ?stZ68) AllReadyH.nil
          case hiZ68 => (simp only [List.getElem?_toArray, List.getElem?_cons_succ, List.getElem?_cons_zero] <;> rfl)
          have qa : Below w8.heap.size w8 (w8.alloc (.cells #[.slice a7 ((ts[i]).key).length c7, .slice a8 ((ts[i]).val).length c8] 53)) := (Below.refl _ _).alloc (Nat.le_refl _) _
          have HNA := Lib.hid (HN8.out.below qa)
          have HPA : Hid (POK (w8.alloc (.cells #[.slice a7 ((ts[i]).key).length c7, .slice a8 ((ts[i]).val).length c8] 53)) wb.heap.size (⟨a7, ((ts[i]).key).length, c7, a8, ((ts[i]).val).length, c8⟩ : PH) (kvT ts[i])) := Lib.hid ((⟨HOK8.out, HO8.out, HKV8.out.1, HKV8.out.2⟩ : POK w8 wb.heap.size (⟨a7, ((ts[i]).key).length, c7, a8, ((ts[i]).val).length, c8⟩ : PH) (kvT ts[i])).keep qa)
          refine step_append_rec _ rfl (.tmp 23) (.tmp 31) 30 rfl recP wb.heap.size 53 ti _ 48 Tryd.underlying30 HTI.out.1 HTI.out.2.1 HTI.out.2.2.1 HTI.out.2.2.2 rfl (.slice ra r rc) rs rfl HNA.out.r.row w8.heap.size 1 (⟨a7, ((ts[i]).key).length, c7, a8, ((ts[i]).val).length, c8⟩ : PH) rfl (RBox.cell (c := recP) (r := (⟨a7, ((ts[i]).key).length, c7, a8, ((ts[i]).val).length, c8⟩ : PH)) (heap_alloc_new w8 _)) ?_ (by omega) HNA.out.r.b.size ?_
          · rw [hrl]
            omega
          intro v9 w9 ho9 hg9 hw9 _
          obtain ⟨ra9, rc9, hv9⟩ := ho9.sl
          have hlen9 : (rs ++ [(⟨a7, ((ts[i]).key).length, c7, a8, ((ts[i]).val).length, c8⟩ : PH)]).length = r + 1 := by simp [hrl]
          rw [hlen9] at hv9
          subst hv9
          have HN9 := Lib.hid (HNA.out.app hg9 ho9 HPA.out)
          have HLE9 := Lib.hid hlen9
          clear ho9 hg9 hlen9 qa
          refine hK.out _ _ ?_ (fun hHeld => ?_)
          · (first | exact HN9.out.two | exact HN8.out.two | exact HN7.out.two | exact HN6D.out.two | exact (HN8.out.below ((Below.refl _ _).alloc (Nat.le_refl _) _)).two)
          clear hK K
          (try simp only [Act.put, List.setIfInBounds_toArray, List.set_cons_zero, List.set_cons_succ])
          refine take_w (i := 10) (oi := ?oZ69) (v := ?vZ69) ?hiZ69 (by kernel_rfl) (by kernel_rfl) (by kernel_rfl) ?hQZ69 ?hwZ69 ?hyZ69 (by assumption) ?restZ69
          case hiZ69 => (simp only [List.getElem?_toArray, List.getElem?_cons_succ, List.getElem?_cons_zero] <;> rfl)
          case hQZ69 => exact (fun _ _ _ h => h)
          case hwZ69 => rfl
          case hyZ69 => (intro w hSw; (try dsimp only at hSw); go_simp; try with_reducible rfl)
          (try simp only [Act.put, List.setIfInBounds_toArray, List.set_cons_zero, List.set_cons_succ])
          refine wpAnyH_done (by kernel_rfl) ?_ _
          clear hHeld
          go_wp2_with fail
          exact ⟨⟨i + 1, ra9, r + 1, rc9, _, by omega, rfl, HLE9.out, by go_num, by rw [takeT_in hix HO.out]; exact HN9.out.r⟩, by simp [intOf]; omega⟩
    · obtain rfl : i = n := by omega
      have q1 : ¬ (i : Int) < (i : Int) := by omega
      have hk : ts.take i = ts := List.take_of_length_le (by rw [HTL.out]; exact Nat.le_refl _)
      rw [hk] at hrg
      have HRG := Lib.hid hrg
      clear hrg hk
      go_wp2_with fail
      go_ret
      exact ⟨ra, r, rc, rs, rfl, HRG.out.row, hrl, HRG.out.pv, HRG.out.b⟩
end Go.Proofs.YtlbiefddcimdgaaDoor

/- What stands in memory inside a closure over a tree. -/
namespace Go.Proofs.YtlbiefddcimdgaaDoor
open Go.RowKit
set_option linter.unusedVariables false
/-- What the world is like inside a closure: its own box of a tree, the closure's variable. -/
structure KW (ty : TypeId) (v : Value) (gc : Nat) (w W : World) (h : TH) : Prop where
  box : Box W 27 w.heap.size h
  clo : Var1 W ty gc v
  b : Below w.heap.size w W
end Go.Proofs.YtlbiefddcimdgaaDoor

/- The contracts of the program's look at the widths of a tree's digests. -/
namespace Go.Proofs.YtlbiefddcimdgaaDoor
open Go.RowKit
set_option linter.unusedVariables false

set_option maxRecDepth 100000 in
set_option maxHeartbeats 4000000 in
theorem fits_any (k : Nat) (t : Tr) (h : TH) (w : World) (gw : Nat) (ht : InTree w h t) (hv : Var1 w 3 gw (.int .i64 k)) : Calls Tryd.prog 39 #[h.v, .pointer (some ⟨gw, 0, none⟩)] w (Says w (.bool (fitsK k t))) := by
  unfold TH.v
  obtain ⟨H, hp⟩ := ht.parts
  have HDL := Lib.hid hp.dig.len
  have HTT := Lib.hid ht
  clear hp ht
  have hbox := Box.new w 27 h
  have HX := Lib.hid hbox
  obtain ⟨x0, x1, x2, x3, x4⟩ := hbox.cells
  clear hbox
  have hw1 : Below w.heap.size w (w.alloc (.cells #[.int .i64 h.k, .slice h.ka h.kn h.kc, .slice h.va h.vn h.vc, .slice h.da h.dn h.dc, .slice h.ta h.tn h.tc] 27)) := (Below.refl _ _).alloc (Nat.le_refl _) _
  have HV1 := Lib.hid (hv.below hw1 hv.lt)
  have HB := Lib.hid hw1
  clear hw1 hv
  go_enter Tryd.func39, Tryd.ntmps39
  cases hr : toldK t
  all_goals
    have HR := Lib.hid hr
    clear hr
    go_wp2_with (first
      | (go_at_call 40
         refine (isTold_any t h _ (HTT.out.lower HB.out)).mono ?_
         rintro _ w1 ⟨rfl, hb1⟩
         rw [HR.out]
         have HB1 : Hid (Below w.heap.size w w1) := Lib.hid (HB.out.trans (hb1.mono HB.out.size))
         have hx1 := HX.out.below hb1 HX.out.lt
         obtain ⟨y0, y1, y2, y3, y4⟩ := hx1.cells
         have yv := (HV1.out.below hb1 HV1.out.lt).cell
         clear hb1 hx1 x0 x1 x2 x3 x4))
    go_ret
    refine ⟨?_, HB1.out⟩
    unfold fitsK
    rw [HR.out]
  · have e : decide (t.dig.length = k) = ((h.dn : Int) == (k : Int)) := by rw [HDL.out, Bool.eq_iff_iff]; simp; omega
    rw [e]
    rfl
  · rfl

set_option maxRecDepth 100000 in
set_option maxHeartbeats 4000000 in
theorem everyFitsC (k : Nat) (gw : Nat) : ∀ (t : Tr) (h : TH) (w : World) (gp ga : Nat), InTree w h t → Var1 w 3 gw (.int .i64 k) → Var1 w 29 gp (.func (.func 39) #[] #[.pointer (some ⟨gw, 0, none⟩)]) → Var1 w 29 ga (.func (.func 67) #[] #[.pointer (some ⟨gp, 0, none⟩), .pointer (some ⟨ga, 0, none⟩)]) →
    Calls Tryd.prog 67 #[h.v, .pointer (some ⟨gp, 0, none⟩), .pointer (some ⟨ga, 0, none⟩)] w (Says w (.bool (allT (fitsK k) t))) := by
  intro t
  induction t using Tr.ind with
  | h t ih =>
  intro h w gp ga ht hR hpv hcl
  unfold TH.v
  obtain ⟨H, hp⟩ := ht.parts
  have htl := hp.len
  have htc := hp.sl.le
  have htm := Nat.le_trans hp.sl.le hp.sl.max
  simp only [maxLen] at htm
  have HP := Lib.hid hp
  have HTT := Lib.hid ht
  have IH := Lib.hid ih
  have hbox := Box.new w 27 h
  have HX := Lib.hid hbox
  obtain ⟨x0, x1, x2, x3, x4⟩ := hbox.cells
  have hw1 : Below w.heap.size w (w.alloc (.cells #[.int .i64 h.k, .slice h.ka h.kn h.kc, .slice h.va h.vn h.vc, .slice h.da h.dn h.dc, .slice h.ta h.tn h.tc] 27)) := (Below.refl _ _).alloc (Nat.le_refl _) _
  have HB := Lib.hid hw1
  have hpv1 := hpv.below hw1 hpv.lt
  have HCL1 := Lib.hid (hcl.below hw1 hcl.lt)
  have HPV1 := Lib.hid hpv1
  have xp := hpv1.cell
  have HR1 := Lib.hid (hR.below hw1 hR.lt)
  clear hp ht ih hcl hpv hpv1 hw1 hbox hR
  go_enter Tryd.func67, Tryd.ntmps67
  go_upto_if 10 with (first
    | (go_at_call 39
       refine (fits_any k t h _ gw (HTT.out.lower HB.out) HR1.out).mono ?_
       rintro _ w1 ⟨rfl, hb1⟩
       have HB1 : Hid (Below w.heap.size w w1) := Lib.hid (HB.out.trans (hb1.mono HB.out.size))
       have HX1 := Lib.hid (HX.out.below hb1 HX.out.lt)
       have HCL2 := Lib.hid (HCL1.out.below hb1 HCL1.out.lt)
       have HPV2 := Lib.hid (HPV1.out.below hb1 HPV1.out.lt)
       have HR2 := Lib.hid (HR1.out.below hb1 HR1.out.lt)
       generalize hr : (fitsK k) t = r
       have HR := Lib.hid hr
       clear hb1 hr))
  clear x0 x1 x2 x3 x4 xp HX HB HCL1 HPV1 HR1
  cases r
  · go_wp2_with fail
    go_ret
    have e : allT (fitsK k) t = false := by rw [allT_eq, HR.out]; rfl
    exact ⟨by rw [e]; rfl, HB1.out⟩
  simp only [Bool.not_true]
  have x4 := HX1.out.cells.2.2.2.2
  go_wp2_with fail
  clear x4 HX1
  go_loopw [14] (fun s14 wx => ∃ i : Nat, i ≤ h.tn ∧ s14 = .int .i64 i ∧ Var1 wx 3 gw (.int .i64 k) ∧ Var1 wx 29 gp (.func (.func 39) #[] #[.pointer (some ⟨gw, 0, none⟩)]) ∧ Var1 wx 29 ga (.func (.func 67) #[] #[.pointer (some ⟨gp, 0, none⟩), .pointer (some ⟨ga, 0, none⟩)]) ∧ Below w.heap.size w wx ∧ (t.kids.take i).all (allT (fitsK k)) = true) (fun s14 _ => h.tn - (intOf s14).toNat)
  case atStart => exact ⟨0, by omega, rfl, HR2.out, HPV2.out, HCL2.out, HB1.out, by simp⟩
  case round =>
    clear HCL2 HB1 HPV2 HR2
    obtain ⟨i, hi, rfl, hR, hpv, hcl, hbw, hall⟩ := hrel
    have hcc := hcl.cell
    have HC := Lib.hid hcl
    have HV := Lib.hid hpv
    have HBW := Lib.hid hbw
    have HA := Lib.hid hall
    have HRR := Lib.hid hR
    clear hcl hbw hall hpv hR
    by_cases hlt : i < h.tn
    · have q1 : (i : Int) < (h.tn : Int) := by omega
      obtain ⟨g, off, hta, hg, hcs⟩ := (HP.out.below HBW.out).place (by omega)
      obtain ⟨k0, k1, k2, k3, k4⟩ := hcs i hlt
      have him : i < t.kids.length := by omega
      clear hcs
      rw [hta]
      go_upto_region 6 with fail
      have b2 : Below wr.heap.size wr (wr.alloc (.cells #[.int .i64 (H i).k, .slice (H i).ka (H i).kn (H i).kc, .slice (H i).va (H i).vn (H i).vc, .slice (H i).da (H i).dn (H i).dc, .slice (H i).ta (H i).tn (H i).tc] 27)) := (Below.refl _ _).alloc (Nat.le_refl _) _
      have bx := Box.new wr 27 (H i)
      generalize (wr.alloc (.cells #[.int .i64 (H i).k, .slice (H i).ka (H i).kn (H i).kc, .slice (H i).va (H i).vn (H i).vc, .slice (H i).da (H i).dn (H i).dc, .slice (H i).ta (H i).tn (H i).tc] 27)) = w2 at *
      have HB2 : Hid (Below w.heap.size w w2) := Lib.hid (HBW.out.trans (b2.mono HBW.out.size))
      have HC2 := Lib.hid (HC.out.below b2 HC.out.lt)
      have HV2 := Lib.hid (HV.out.below b2 HV.out.lt)
      have HRR2 := Lib.hid (HRR.out.below b2 HRR.out.lt)
      have hc2 := HC2.out.cell
      obtain ⟨y0, y1, y2, y3, y4⟩ := bx.cells
      clear b2 bx k0 k1 k2 k3 k4 hcc
      go_upto_if 21 with (first
        | (go_at_call 67
           refine (IH.out _ (List.getElem_mem him) (H i) _ gp ga ((HP.out.below HB2.out).kids i him) HRR2.out HV2.out HC2.out).mono ?_
           rintro _ w3 ⟨rfl, hb3⟩
           have HB3 : Hid (Below w.heap.size w w3) := Lib.hid (HB2.out.trans (hb3.mono HB2.out.size))
           have HC3 := Lib.hid (HC2.out.below hb3 HC2.out.lt)
           have HV3 := Lib.hid (HV2.out.below hb3 HV2.out.lt)
           have HRR3 := Lib.hid (HRR2.out.below hb3 HRR2.out.lt)
           generalize hr : allT (fitsK k) t.kids[i] = q
           have HQ := Lib.hid hr
           clear hb3 hr))
      clear y0 y1 y2 y3 y4 hc2
      cases q
      · go_wp2_with fail
        go_ret
        have e : allT (fitsK k) t = false := by rw [allT_eq, all_not i him HQ.out, Bool.and_false]
        exact ⟨by rw [e]; rfl, HB3.out⟩
      · clear hta
        go_wp2_with fail
        exact ⟨⟨i + 1, by omega, by go_num, HRR3.out, HV3.out, HC3.out, HB3.out, by rw [all_take _ _ i him, HA.out, HQ.out]; rfl⟩, by simp [intOf]; omega⟩
    · obtain rfl : i = h.tn := by omega
      have q1 : ¬ (h.tn : Int) < (h.tn : Int) := by omega
      go_wp2_with fail
      go_ret
      have hA := HA.out
      rw [List.take_of_length_le (by omega)] at hA
      have e : allT (fitsK k) t = true := by rw [allT_eq, HR.out, hA]; rfl
      exact ⟨by rw [e]; rfl, HBW.out⟩
set_option maxRecDepth 100000 in
set_option maxHeartbeats 4000000 in
theorem everyFits (k : Nat) (gw : Nat) (t : Tr) (h : TH) (w : World) (ht : InTree w h t) (hR : Var1 w 3 gw (.int .i64 k)) : Calls Tryd.prog 41 #[h.v, .func (.func 39) #[] #[.pointer (some ⟨gw, 0, none⟩)]] w (Says w (.bool (allT (fitsK k) t))) := by
  have hmf : ∀ (fn : Fn) (first cap : Array Value) (w : World), (Instr.makeFunc fn first cap).run Tryd.prog w = .ok (.func fn first cap) w := fun _ _ _ _ => rfl
  unfold TH.v
  have HTT := Lib.hid ht
  clear ht
  go_enter Tryd.func41, Tryd.ntmps41
  have hbw1 : Below w.heap.size w (w.alloc (.cells #[.int .i64 h.k, .slice h.ka h.kn h.kc, .slice h.va h.vn h.vc, .slice h.da h.dn h.dc, .slice h.ta h.tn h.tc] 27)) := (Below.refl _ _).alloc (Nat.le_refl _) _
  have hbx1 := Box.new w 27 h
  have e1 : (w.alloc (.cells #[.int .i64 h.k, .slice h.ka h.kn h.kc, .slice h.va h.vn h.vc, .slice h.da h.dn h.dc, .slice h.ta h.tn h.tc] 27)).heap.size = w.heap.size + 1 := by simp
  have hbw2 : Below w.heap.size w ((w.alloc (.cells #[.int .i64 h.k, .slice h.ka h.kn h.kc, .slice h.va h.vn h.vc, .slice h.da h.dn h.dc, .slice h.ta h.tn h.tc] 27)).alloc (.cells #[.func (.func 39) #[] #[.pointer (some ⟨gw, 0, none⟩)]] 29)) := hbw1.alloc (by rw [e1]; omega) _
  have hbx2 := hbx1.below ((Below.refl _ _).alloc (Nat.le_refl _) (.cells #[.func (.func 39) #[] #[.pointer (some ⟨gw, 0, none⟩)]] 29)) hbx1.lt
  have hpv2 := Var1.new (w.alloc (.cells #[.int .i64 h.k, .slice h.ka h.kn h.kc, .slice h.va h.vn h.vc, .slice h.da h.dn h.dc, .slice h.ta h.tn h.tc] 27)) 29 (.func (.func 39) #[] #[.pointer (some ⟨gw, 0, none⟩)])
  have e2 : ((w.alloc (.cells #[.int .i64 h.k, .slice h.ka h.kn h.kc, .slice h.va h.vn h.vc, .slice h.da h.dn h.dc, .slice h.ta h.tn h.tc] 27)).alloc (.cells #[.func (.func 39) #[] #[.pointer (some ⟨gw, 0, none⟩)]] 29)).heap.size = w.heap.size + 2 := by simp
  have hbw3 : Below w.heap.size w (((w.alloc (.cells #[.int .i64 h.k, .slice h.ka h.kn h.kc, .slice h.va h.vn h.vc, .slice h.da h.dn h.dc, .slice h.ta h.tn h.tc] 27)).alloc (.cells #[.func (.func 39) #[] #[.pointer (some ⟨gw, 0, none⟩)]] 29)).alloc (.cells #[.nilFunc] 29)) := hbw2.alloc (by rw [e2]; omega) _
  have hbx3 := hbx2.below ((Below.refl _ _).alloc (Nat.le_refl _) (.cells #[.nilFunc] 29)) hbx2.lt
  have hpv3 := hpv2.below ((Below.refl _ _).alloc (Nat.le_refl _) (.cells #[.nilFunc] 29)) hpv2.lt
  have hnf := Var1.new ((w.alloc (.cells #[.int .i64 h.k, .slice h.ka h.kn h.kc, .slice h.va h.vn h.vc, .slice h.da h.dn h.dc, .slice h.ta h.tn h.tc] 27)).alloc (.cells #[.func (.func 39) #[] #[.pointer (some ⟨gw, 0, none⟩)]] 29)) 29 .nilFunc
  rw [e2] at hnf
  rw [e1] at hpv3
  clear hbw1 hbx1 e1 hbw2 hbx2 hpv2 e2
  go_upto_region 2 with fail
  generalize (((w.alloc (.cells #[.int .i64 h.k, .slice h.ka h.kn h.kc, .slice h.va h.vn h.vc, .slice h.da h.dn h.dc, .slice h.ta h.tn h.tc] 27)).alloc (.cells #[.func (.func 39) #[] #[.pointer (some ⟨gw, 0, none⟩)]] 29)).alloc (.cells #[.nilFunc] 29)) = w2 at *
  have c0 := hnf.cell
  have c1 := hnf.frozen 0
  have hn4 := hnf.set (.func (.func 67) #[] #[.pointer (some ⟨w.heap.size + 1, 0, none⟩), .pointer (some ⟨w.heap.size + 2, 0, none⟩)])
  have hbx4 : Box (w2.setCell ⟨w.heap.size + 2, 0, none⟩ (.func (.func 67) #[] #[.pointer (some ⟨w.heap.size + 1, 0, none⟩), .pointer (some ⟨w.heap.size + 2, 0, none⟩)])) 27 w.heap.size h := (Below.heap_setCell w2 ⟨w.heap.size + 2, 0, none⟩ _ w.heap.size (by simp)).trans hbx3
  have hpv4 := hpv3.far (p := ⟨w.heap.size + 2, 0, none⟩) (by simp) (.func (.func 67) #[] #[.pointer (some ⟨w.heap.size + 1, 0, none⟩), .pointer (some ⟨w.heap.size + 2, 0, none⟩)])
  have hb4 : Below w.heap.size w (w2.setCell ⟨w.heap.size + 2, 0, none⟩ (.func (.func 67) #[] #[.pointer (some ⟨w.heap.size + 1, 0, none⟩), .pointer (some ⟨w.heap.size + 2, 0, none⟩)])) := hbw3.setCell (by simp) _
  clear hnf hbx3 hpv3 hbw3
  go_upto_region 3 with fail
  generalize (w2.setCell ⟨w.heap.size + 2, 0, none⟩ (.func (.func 67) #[] #[.pointer (some ⟨w.heap.size + 1, 0, none⟩), .pointer (some ⟨w.heap.size + 2, 0, none⟩)])) = w3 at *
  obtain ⟨x0, x1, x2, x3, x4⟩ := hbx4.cells
  have c2 := hn4.cell
  have HN := Lib.hid hn4
  have HPV := Lib.hid hpv4
  have HB3 := Lib.hid hb4
  have HR := Lib.hid (hR.below hb4 hR.lt)
  clear c0 c1 hbx4 hb4 hpv4 hn4 hR
  go_wp2_with (first
    | (go_at_call 67
       refine (everyFitsC k gw t h _ (w.heap.size + 1) (w.heap.size + 2) (HTT.out.lower HB3.out) HR.out HPV.out HN.out).mono ?_
       rintro _ w4 ⟨rfl, hb4⟩
       have HB4 : Hid (Below w.heap.size w w4) := Lib.hid (HB3.out.trans (hb4.mono HB3.out.size))
       clear hb4))
  go_ret
  exact ⟨rfl, HB4.out⟩
end Go.Proofs.YtlbiefddcimdgaaDoor

/- The contracts of the program's digests of a tree's parts. -/
namespace Go.Proofs.YtlbiefddcimdgaaDoor
open Go.RowKit
set_option linter.unusedVariables false

/-- Bytes in new memory. -/
structure NewB (w w' : World) (a : Option Addr) (n c : Nat) (zs : List Int) : Prop where
  inb : InBytes w' a n c zs
  new : ∀ ad, a = some ad → w.heap.size ≤ ad.block
  free : ∀ ad o, a = some ad → w'.frozen? ⟨ad.block, o, none⟩ = false
/-- No bytes, and an error. -/
def ErrPost (w : World) (k : Nat) (e : Ending) (w' : World) : Prop := ∃ a c, e = .returned (.tuple #[.slice a 0 c, codeV k]) ∧ Below w.heap.size w w'
/-- New bytes, and no error. -/
def BytesPost (w : World) (zs : List Int) (e : Ending) (w' : World) : Prop := ∃ a c, e = .returned (.tuple #[.slice a zs.length c, .nilIface]) ∧ NewB w w' a zs.length c zs ∧ Below w.heap.size w w'
theorem own_free {w : World} {base g n c : Nat} {e : TypeId} {xs : List Value} (h : w.ownsRow base e 1 (.slice (some ⟨g, 0, none⟩) n c) n xs) (o : Nat) : base ≤ g ∧ w.frozen? ⟨g, o, none⟩ = false := by
  rcases h.2 with ⟨h1, _⟩ | ⟨g', cap, cur, h1, h2, h3, _⟩
  · cases h1
  · injection h1 with h1
    injection h1 with h1
    injection h1 with h1
    subst h1
    exact ⟨h2, by simp [World.frozen?, h3]⟩
/-- What digest.Of answers is bytes in new memory. -/
theorem OfPost2.bytes {w w' : World} {k : Nat} {bs : List Int} {e : Ending} (hk : k ≤ 32) (h : OfPost2 w k bs e w') : BytesPost w ((sumL bs).take k) e w' := by
  obtain ⟨g, hg, rfl, hr, hb⟩ := h
  have hl := take_sum_len hk bs
  refine ⟨some ⟨g, 0, none⟩, k, by rw [hl], ⟨by rw [hl]; exact of_in hr hk, fun ad h => ?_, fun ad o h => ?_⟩, hb⟩
  · injection h with h
    rw [← h]
    exact hg
  · injection h with h
    rw [← h]
    exact hr.frozen o

set_option maxRecDepth 100000 in
set_option maxHeartbeats 4000000 in
theorem cloneN_any (ad : Addr) (n cap : Nat) (bs : List Int) (w : World) (hin : InBytes w (some ad) n cap bs) (hn : n ≤ 140737488355328) :
    Calls Tryd.prog 45 #[.slice (some ad) n cap] w (fun e w' => ∃ g c, e = .returned (.slice (some ⟨g, 0, none⟩) n c) ∧ w'.ownsRow w.heap.size 5 1 (.slice (some ⟨g, 0, none⟩) n c) n (bs.map (Value.int .u8)) ∧ Below w.heap.size w w') := by
  obtain ⟨i0, hi0, hz0, hz1, hz2⟩ := info_parts infoU8
  have hq : ∀ (w : World) (a : Option Addr) (n c n' c' : Nat), (binOp .eql 22 (.slice a n c) (.slice none n' c')).run Tryd.prog w = .ok (.bool a.isNone) w := fun w a n c n' c' => Lib.run_eql_slice_nil w _ _ a n c n' c' Tryd.underlying22
  have HIN := Lib.hid hin
  clear hin
  have e : (some ad : Option Addr).isNone = false := rfl
  go_enter Tryd.func45, Tryd.ntmps45
  go_wp2_with (first
    | (at_builtin
       refine wpList_append_bytes' _ rfl (.tmp 5) (.tmp 6) 22 rfl w.heap.size 5 i0 _ 1 Tryd.underlying22 hi0 hz0 hz1 hz2 rfl w.heap.size 0 0 [] rfl (own_new w 5 .u8 [] w.heap.size (Nat.le_refl _) (by simp [maxLen])) (some ad) n cap bs rfl (HIN.out.below ((Below.refl _ _).alloc (Nat.le_refl _) _)) (by simp only [maxLen]; omega) (by omega) (by simp) ?_
       intro g1 c1 w1 hown1 hg1
       have HO1 := Lib.hid hown1
       have HB1 : Hid (Below w.heap.size w w1) := Lib.hid (below_only ((Below.refl _ _).alloc (Nat.le_refl _) _) hg1 (by simp) (Nat.le_refl _))
       clear hown1 hg1))
  go_ret
  have ho := HO1.out
  rw [List.nil_append, Nat.zero_add] at ho
  exact ⟨g1, c1, rfl, ho, HB1.out⟩

theorem cloneP_any (a : Option Addr) (n cap : Nat) (bs : List Int) (w : World) (hin : InBytes w a n cap bs) (hn : n ≤ 140737488355328) (h0 : 0 < n) :
    Calls Tryd.prog 45 #[.slice a n cap] w (fun e w' => ∃ g c, e = .returned (.slice (some ⟨g, 0, none⟩) n c) ∧ w'.ownsRow w.heap.size 5 1 (.slice (some ⟨g, 0, none⟩) n c) n (bs.map (Value.int .u8)) ∧ Below w.heap.size w w') := by
  obtain ⟨g, off, rfl, _, _⟩ := hin.place h0
  exact cloneN_any _ n cap bs w hin hn

theorem part_lens {t : Tr} (hp : partB t = true) : t.key.length ≤ 80 ∧ t.val.length ≤ 1024 := by
  unfold partB at hp
  split at hp
  · simp only [Bool.and_eq_true, decide_eq_true_eq] at hp; omega
  · split at hp
    · simp only [Bool.and_eq_true, decide_eq_true_eq] at hp; omega
    · split at hp
      · simp only [Bool.and_eq_true, decide_eq_true_eq] at hp; omega
      · split at hp
        · simp only [Bool.and_eq_true, decide_eq_true_eq] at hp; omega
        · cases hp

set_option maxRecDepth 100000 in
set_option maxHeartbeats 4000000 in
theorem pairDigest_any (k : Nat) (hk1 : 1 ≤ k) (hk2 : k ≤ 32) (t : Tr) (h : TH) (w : World) (ht : InTree w h t) (hT : TabLies w) (hpb : partB t = true) (hv : (valT k t).length = k) :
    Calls Tryd.prog 46 #[.int .i64 k, h.v] w (OfPost2 w k (pairL t.key (valT k t))) := by
  unfold TH.v
  obtain ⟨hl1, hl2⟩ := part_lens hpb
  obtain ⟨H, hp⟩ := ht.parts
  have hkl := hp.key.len
  have hvl := hp.val.len
  have hdl := hp.dig.len
  have HK := Lib.hid hp.hk
  have HP := Lib.hid hp
  have HT := Lib.hid hT
  have hbox := Box.new w 27 h
  have HX := Lib.hid hbox
  obtain ⟨x0, x1, x2, x3, x4⟩ := hbox.cells
  have hw1 : Below w.heap.size w (w.alloc (.cells #[.int .i64 h.k, .slice h.ka h.kn h.kc, .slice h.va h.vn h.vc, .slice h.da h.dn h.dc, .slice h.ta h.tn h.tc] 27)) := (Below.refl _ _).alloc (Nat.le_refl _) _
  have HB := Lib.hid hw1
  clear hp ht hT hbox hw1
  go_enter Tryd.func46, Tryd.ntmps46
  cases f1 : (h.k == 1)
  · have hne : ¬ t.k = 1 := by rw [← HK.out]; simpa using f1
    have hval : valT k t = t.dig := by unfold valT; rw [if_neg hne]
    rw [hval] at hv ⊢
    have hdn : (h.dn : Int) = k := by omega
    have HDB := Lib.hid HP.out.dig.bytes
    clear hval hne
    go_wp2_with (first
      | (go_at_call 71
         (with_reducible refine (pair_ok (k : Int) h.ka h.kn h.kc t.key h.da h.dn h.dc t.dig _ (HP.out.key.below HB.out) (by omega) (HP.out.dig.below HB.out) (by omega) (by omega) (by omega)).mono ?_)
         rintro _ w5 ⟨g5, c5, rfl, ho5, hb5⟩
         have HB5 : Hid (Below w.heap.size w w5) := Lib.hid (HB.out.trans (hb5.mono HB.out.size))
         have HI5 := Lib.hid (InBytes.of_own ho5 (pairL_bytes HP.out.key.bytes (by omega) HDB.out))
         clear ho5 hb5)
      | (go_at_call 43
         (with_reducible refine (of_ok k _ _ _ _ _ HI5.out ?_ (HT.out.below HB5.out (Nat.le_refl _)) hk1 hk2).mono ?_)
         · have hq := pairL_len (a := t.key) (b := t.dig) (by omega)
           omega
         rintro _ w6 hof
         obtain ⟨g6, hg6, rfl, hr6, hb6⟩ := hof
         have HB6 : Hid (Below w.heap.size w w6) := Lib.hid (HB5.out.trans (hb6.mono HB5.out.size))
         have HR6 := Lib.hid (And.intro (Nat.le_trans HB5.out.size hg6) hr6)
         clear hg6 hr6 hb6))
    go_ret2
    exact ⟨g6, HR6.out.1, rfl, HR6.out.2, HB6.out⟩
  · have he : t.k = 1 := by rw [← HK.out]; simpa using f1
    have hval : valT k t = (sumL (valL t.val)).take k := by unfold valT; rw [if_pos he]
    rw [hval] at hv ⊢
    have HDB : Hid (Bytes8 ((sumL (valL t.val)).take k)) := Lib.hid (fun z hz => sumL_bytes _ z (List.mem_of_mem_take hz))
    clear hval he
    go_wp2_with (first
      | (go_at_call 70
         (with_reducible refine (value_any h.va h.vn h.vc t.val _ (HP.out.val.below HB.out) (by omega)).mono ?_)
         rintro _ w2 ⟨g2, c2, rfl, ho2, hb2⟩
         have HB2 : Hid (Below w.heap.size w w2) := Lib.hid (HB.out.trans (hb2.mono HB.out.size))
         have HI2 := Lib.hid (InBytes.of_own ho2 (valL_bytes HP.out.val.bytes))
         have HX2 := Lib.hid (HX.out.below hb2 HX.out.lt)
         clear ho2 hb2)
      | (go_at_call 43
         (with_reducible refine (of_ok k (some ⟨g2, 0, none⟩) (valL t.val).length c2 (valL t.val) w2 HI2.out ?_ (HT.out.below HB2.out (Nat.le_refl _)) hk1 hk2).mono ?_)
         · rw [valL_len]; omega
         rintro _ w3 ⟨g3, hg3, rfl, hr3, hb3⟩
         have HB3 : Hid (Below w.heap.size w w3) := Lib.hid (HB2.out.trans (hb3.mono HB2.out.size))
         have HI3 := Lib.hid (of_in hr3 hk2)
         have hx3 := HX2.out.below hb3 HX2.out.lt
         clear x0 x1 x2 x3 x4
         obtain ⟨x0, x1, x2, x3, x4⟩ := hx3.cells
         clear hg3 hr3 hb3 hx3)
      | (go_at_call 71
         (with_reducible refine (pair_ok (k : Int) h.ka h.kn h.kc t.key (some ⟨g3, 0, none⟩) k k ((sumL (valL t.val)).take k) _ (HP.out.key.below HB3.out) (by omega) HI3.out (by omega) (by omega) (by omega)).mono ?_)
         rintro _ w5 ⟨g5, c5, rfl, ho5, hb5⟩
         have HB5 : Hid (Below w.heap.size w w5) := Lib.hid (HB3.out.trans (hb5.mono HB3.out.size))
         have HI5 := Lib.hid (InBytes.of_own ho5 (pairL_bytes HP.out.key.bytes (by omega) HDB.out))
         clear ho5 hb5)
      | (go_at_call 43
         (with_reducible refine (of_ok k _ _ _ _ _ HI5.out ?_ (HT.out.below HB5.out (Nat.le_refl _)) hk1 hk2).mono ?_)
         · have hq := pairL_len (a := t.key) (b := ((sumL (valL t.val)).take k)) (by omega)
           omega
         rintro _ w6 hof
         obtain ⟨g6, hg6, rfl, hr6, hb6⟩ := hof
         have HB6 : Hid (Below w.heap.size w w6) := Lib.hid (HB5.out.trans (hb6.mono HB5.out.size))
         have HR6 := Lib.hid (And.intro (Nat.le_trans HB5.out.size hg6) hr6)
         clear hg6 hr6 hb6))
    go_ret2
    exact ⟨g6, HR6.out.1, rfl, HR6.out.2, HB6.out⟩

/-- What the world is like inside the closure of Digest. -/
structure QW (k gw gc : Nat) (w W : World) (h : TH) (t : Tr) : Prop where
  box : Box W 27 w.heap.size h
  clo : Var1 W 86 gc (.func (.func 42) #[] #[.pointer (some ⟨gw, 0, none⟩), .pointer (some ⟨gc, 0, none⟩)])
  wid : Var1 W 3 gw (.int .i64 k)
  tab : TabLies W
  t : InTree W h t
  b : Below w.heap.size w W
theorem QW.below {k gw gc : Nat} {w W W' : World} {h : TH} {t : Tr} (d : QW k gw gc w W h t) (hb : Below W.heap.size W W') : QW k gw gc w W' h t :=
  ⟨d.box.below hb d.box.lt, d.clo.below hb d.clo.lt, d.wid.below hb d.wid.lt, d.tab.below hb (Nat.le_refl _), d.t.lower hb, d.b.trans (hb.mono d.b.size)⟩
theorem QW.drew {k gw gc : Nat} {w W : World} {h : TH} {t : Tr} (d : QW k gw gc w W h t) : QW k gw gc w W.drew h t := d.below (Below.refl _ _).drew
theorem QW.new {k gw gc : Nat} (w : World) {h : TH} {t : Tr} (hc : Var1 w 86 gc (.func (.func 42) #[] #[.pointer (some ⟨gw, 0, none⟩), .pointer (some ⟨gc, 0, none⟩)])) (hw : Var1 w 3 gw (.int .i64 k)) (hT : TabLies w) (ht : InTree w h t) : QW k gw gc w (w.alloc (.cells #[.int .i64 h.k, .slice h.ka h.kn h.kc, .slice h.va h.vn h.vc, .slice h.da h.dn h.dc, .slice h.ta h.tn h.tc] 27)) h t :=
  ⟨Box.new w _ h, hc.below ((Below.refl _ _).alloc (Nat.le_refl _) _) hc.lt, hw.below ((Below.refl _ _).alloc (Nat.le_refl _) _) hw.lt, hT.below ((Below.refl w.heap.size w).alloc (Nat.le_refl _) _) (Nat.le_refl _), ht.lower ((Below.refl _ _).alloc (Nat.le_refl _) _), (Below.refl _ _).alloc (Nat.le_refl _) _⟩
theorem digT_split {k : Nat} {t : Tr} {zs : List Int} (h0 : t.k ≠ 0) (h3 : t.k ≠ 3) (h2 : t.kids.length = 2) (hd : digT k t = some zs) :
    (valT k t).length = k ∧ ∃ l r, digT k (t.kids[0]'(by omega)) = some l ∧ digT k (t.kids[1]'(by omega)) = some r ∧ zs = (sumL (nodeL l ((sumL (pairL t.key (valT k t))).take k) r)).take k := by
  by_cases hv : (valT k t).length = k
  · refine ⟨hv, ?_⟩
    rw [digT_node h0 h3 hv h2] at hd
    split at hd
    · rename_i l r e1 e2
      injection hd with hd
      exact ⟨l, r, e1, e2, hd.symm⟩
    · cases hd
  · rw [digT_bad h0 h3 hv] at hd
    cases hd

set_option maxRecDepth 100000 in
set_option maxHeartbeats 4000000 in
theorem digC_any (k : Nat) (hk1 : 1 ≤ k) (hk2 : k ≤ 32) : ∀ (t : Tr) (h : TH) (w : World) (gw gc : Nat), InTree w h t → TabLies w → formedT t = true → Var1 w 3 gw (.int .i64 k) → Var1 w 86 gc (.func (.func 42) #[] #[.pointer (some ⟨gw, 0, none⟩), .pointer (some ⟨gc, 0, none⟩)]) → ∀ zs, digT k t = some zs →
    Calls Tryd.prog 42 #[h.v, .pointer (some ⟨gw, 0, none⟩), .pointer (some ⟨gc, 0, none⟩)] w (BytesPost w zs) := by
  intro t
  induction t using Tr.ind with
  | h t ih =>
  intro h w gw gc ht hT hf hw hc zs hdg
  obtain ⟨hpb, hfk⟩ := formed_kids hf
  obtain ⟨hlk, hlv⟩ := part_lens hpb
  unfold TH.v
  obtain ⟨H, hp⟩ := ht.parts
  have htl := hp.len
  have htc := hp.sl.le
  have htm := Nat.le_trans hp.sl.le hp.sl.max
  have hdl := hp.dig.len
  simp only [maxLen] at htm
  have HK := Lib.hid hp.hk
  have HP := Lib.hid hp
  have IH := Lib.hid ih
  have hd0 := QW.new w hc hw hT ht
  have HD0 := Lib.hid hd0
  obtain ⟨x0, x1, x2, x3, x4⟩ := hd0.box.cells
  have HF := Lib.hid hfk
  clear hp ht ih hT hc hw hd0 hf hfk
  go_enter Tryd.func42, Tryd.ntmps42
  by_cases k0 : t.k = 0
  · have e1 : zs = (sumL [3]).take k := by rw [digT_0 k0] at hdg; injection hdg with hdg; exact hdg.symm
    have hk0 : h.k = 0 := by rw [HK.out, k0]
    have hkb : (h.k == 0) = true := by rw [hk0]; rfl
    have b3 : Bytes8 [3] := fun z hz => by simp at hz; omega
    clear hdg k0 hk0
    go_upto_region 3 with fail
    generalize (w.alloc (.cells #[.int .i64 h.k, .slice h.ka h.kn h.kc, .slice h.va h.vn h.vc, .slice h.da h.dn h.dc, .slice h.ta h.tn h.tc] 27)) = w0 at *
    refine wp_region_held_drew (S := (fun W => W.cell? ⟨gw, 0, none⟩ = some (.int .i64 k))) (by kernel_rfl) HD0.out.drew.wid.cell (fun hHeld => ?_)
    refine take_w (i := 0) (oi := ?oZ1) (v := ?vZ1) ?hiZ1 (by kernel_rfl) (by kernel_rfl) (by kernel_rfl) ?hQZ1 ?hwZ1 ?hyZ1 (by assumption) ?restZ1
    case hiZ1 => (simp only [List.getElem?_toArray, List.getElem?_cons_zero] <;> rfl)
    case hQZ1 => exact (fun _ _ _ h => h)
    case hwZ1 => rfl
    case hyZ1 => (intro w hSw; (try dsimp only at hSw); go_simp; try with_reducible rfl)
    (try simp only [Act.put, List.setIfInBounds_toArray, List.set_cons_zero, List.set_cons_succ])
    refine wpAnyH_ready (rs := [1]) (by kernel_rfl) (by simp) ?_
    refine AllReadyH.cons (o := ?oZ2) ?hiZ2 (fun K hK => ?stZ2) AllReadyH.nil
    case hiZ2 => (simp only [List.getElem?_toArray, List.getElem?_cons_succ, List.getElem?_cons_zero] <;> rfl)
    go_simp
    go_at_call 44
    (with_reducible refine (none_any _).mono ?_)
    rintro _ w1 ⟨g1, c1, rfl, ho1, hb1⟩
    have HD1 := Lib.hid (HD0.out.drew.below hb1)
    have HI1 : Hid (InBytes w1 (some ⟨g1, 0, none⟩) 1 c1 [3]) := Lib.hid (InBytes.of_own ho1 b3)
    clear ho1 hb1
    go_simp
    refine hK.out _ _ ?_ (fun hHeld => ?_)
    · (first | exact HD2.out.wid.cell | exact HD1.out.wid.cell | exact HD0.out.drew.wid.cell)
    clear hK K
    (try simp only [Act.put, List.setIfInBounds_toArray, List.set_cons_zero, List.set_cons_succ])
    refine wpAnyH_ready (rs := [2]) (by kernel_rfl) (by simp) ?_
    refine AllReadyH.cons (o := ?oZ3) ?hiZ3 (fun K hK => ?stZ3) AllReadyH.nil
    case hiZ3 => (simp only [List.getElem?_toArray, List.getElem?_cons_succ, List.getElem?_cons_zero] <;> rfl)
    go_simp
    go_at_call 43
    (with_reducible refine (of_ok k (some ⟨g1, 0, none⟩) 1 c1 [3] _ HI1.out (by omega) HD1.out.tab hk1 hk2).mono ?_)
    rintro _ w2 ⟨g2, hg2, rfl, hr2, hb2⟩
    have HD2 := Lib.hid (HD1.out.below hb2)
    have HR2 := Lib.hid (And.intro (Nat.le_trans HD1.out.b.size hg2) hr2)
    clear hg2 hr2 hb2
    go_simp
    refine hK.out _ _ ?_ (fun hHeld => ?_)
    · (first | exact HD2.out.wid.cell | exact HD1.out.wid.cell | exact HD0.out.drew.wid.cell)
    clear hK K
    (try simp only [Act.put, List.setIfInBounds_toArray, List.set_cons_zero, List.set_cons_succ])
    refine take_w (i := 3) (oi := ?oZ4) (v := ?vZ4) ?hiZ4 (by kernel_rfl) (by kernel_rfl) (by kernel_rfl) ?hQZ4 ?hwZ4 ?hyZ4 (by assumption) ?restZ4
    case hiZ4 => (simp only [List.getElem?_toArray, List.getElem?_cons_succ, List.getElem?_cons_zero] <;> rfl)
    case hQZ4 => exact (fun _ _ _ h => h)
    case hwZ4 => rfl
    case hyZ4 => (intro w hSw; (try dsimp only at hSw); go_simp; try with_reducible rfl)
    (try simp only [Act.put, List.setIfInBounds_toArray, List.set_cons_zero, List.set_cons_succ])
    refine take_w (i := 4) (oi := ?oZ5) (v := ?vZ5) ?hiZ5 (by kernel_rfl) (by kernel_rfl) (by kernel_rfl) ?hQZ5 ?hwZ5 ?hyZ5 (by assumption) ?restZ5
    case hiZ5 => (simp only [List.getElem?_toArray, List.getElem?_cons_succ, List.getElem?_cons_zero] <;> rfl)
    case hQZ5 => exact (fun _ _ _ h => h)
    case hwZ5 => rfl
    case hyZ5 => (intro w hSw; (try dsimp only at hSw); go_simp; try with_reducible rfl)
    (try simp only [Act.put, List.setIfInBounds_toArray, List.set_cons_zero, List.set_cons_succ])
    refine take_w (i := 5) (oi := ?oZ6) (v := ?vZ6) ?hiZ6 (by kernel_rfl) (by kernel_rfl) (by kernel_rfl) ?hQZ6 ?hwZ6 ?hyZ6 (by assumption) ?restZ6
    case hiZ6 => (simp only [List.getElem?_toArray, List.getElem?_cons_succ, List.getElem?_cons_zero] <;> rfl)
    case hQZ6 => exact (fun _ _ _ h => h)
    case hwZ6 => rfl
    case hyZ6 => (intro w hSw; (try dsimp only at hSw); go_simp; try with_reducible rfl)
    (try simp only [Act.put, List.setIfInBounds_toArray, List.set_cons_zero, List.set_cons_succ])
    refine take_w (i := 6) (oi := ?oZ7) (v := ?vZ7) ?hiZ7 (by kernel_rfl) (by kernel_rfl) (by kernel_rfl) ?hQZ7 ?hwZ7 ?hyZ7 (by assumption) ?restZ7
    case hiZ7 => (simp only [List.getElem?_toArray, List.getElem?_cons_succ, List.getElem?_cons_zero] <;> rfl)
    case hQZ7 => exact (fun _ _ _ h => h)
    case hwZ7 => rfl
    case hyZ7 => (intro w hSw; (try dsimp only at hSw); go_simp; try with_reducible rfl)
    (try simp only [Act.put, List.setIfInBounds_toArray, List.set_cons_zero, List.set_cons_succ])
    refine wpAnyH_done (by kernel_rfl) ?_ _
    
    go_wp2_with fail
    go_ret2
    subst e1
    exact OfPost2.bytes hk2 ⟨g2, HR2.out.1, rfl, HR2.out.2, HD2.out.b⟩
  have hkb0 : (h.k == 0) = false := by rw [HK.out]; simpa using k0
  by_cases k3 : t.k = 3
  · have hkb3 : (h.k == 3) = true := by rw [HK.out]; simpa using k3
    rw [digT_3 k3] at hdg
    split at hdg
    · rename_i hdw
      injection hdg with hdg
      subst hdg
      have hd0 : 0 < h.dn := by omega
      have hd1 : h.dn ≤ 32 := by omega
      have HDW := Lib.hid (And.intro hdl hdw)
      clear k3 k0 hdl hdw
      go_upto_region 5 with fail
      generalize (w.alloc (.cells #[.int .i64 h.k, .slice h.ka h.kn h.kc, .slice h.va h.vn h.vc, .slice h.da h.dn h.dc, .slice h.ta h.tn h.tc] 27)) = w0 at *
      go_wp2_with (first
        | (go_at_call 45
           (with_reducible refine (cloneP_any h.da h.dn h.dc t.dig _ (HP.out.dig.below HD0.out.b) (by omega) hd0).mono ?_)
           rintro _ w1 ⟨g1, c1, rfl, ho1, hb1⟩
           have HD1 := Lib.hid (HD0.out.below hb1)
           have HO1 := Lib.hid ho1
           clear ho1 hb1))
      go_ret2
      refine ⟨some ⟨g1, 0, none⟩, c1, by rw [HDW.out.1]; rfl, ⟨by rw [HDW.out.1]; exact InBytes.of_own HO1.out HP.out.dig.bytes, fun ad hh => ?_, fun ad o hh => ?_⟩, HD1.out.b⟩
      · injection hh with hh
        rw [← hh]
        exact Nat.le_trans HD0.out.b.size (own_free HO1.out 0).1
      · injection hh with hh
        rw [← hh]
        exact (own_free HO1.out o).2
    · cases hdg
  have hkb3 : (h.k == 3) = false := by rw [HK.out]; simpa using k3
  rcases part_kids hpb with ⟨_, hk | hk⟩ | ⟨h2, hk⟩
  · exact absurd hk k0
  · exact absurd hk k3
  obtain ⟨hvl, ls, rs, hdL, hdR, hzs⟩ := digT_split k0 k3 h2 hdg
  have l0 : 0 < t.kids.length := by omega
  have l1 : 1 < t.kids.length := by omega
  have hll := digT_len hk2 hdL
  have hlr := digT_len hk2 hdR
  have HDL := Lib.hid hdL
  have HDR := Lib.hid hdR
  clear hdL hdR hdg hk k0 k3
  go_upto_region 6 with fail
  obtain ⟨g, off, hta, hg, -⟩ := (HP.out.below HD0.out.b).place (by omega)
  have HTA := Lib.hid hta
  rw [hta]
  generalize hW0 : (w.alloc (.cells #[.int .i64 h.k, .slice h.ka h.kn h.kc, .slice h.va h.vn h.vc, .slice h.da h.dn h.dc, .slice (some ⟨g, off, none⟩) h.tn h.tc] 27)) = w0
  have hW1 : (w.alloc (.cells #[.int .i64 h.k, .slice h.ka h.kn h.kc, .slice h.va h.vn h.vc, .slice h.da h.dn h.dc, .slice h.ta h.tn h.tc] 27)) = w0 := by rw [hta]; exact hW0
  rw [hW1] at HD0
  clear hta hW0 hW1 hg x0 x1 x2 x3 x4
  have ht1 : (1 : Int) < (h.tn : Int) := by omega
  have ht0 : 0 < h.tn := by omega
  refine wp_region_held_drew (S := (fun W => W.cell? ⟨gc, 0, none⟩ = some (.func (.func 42) #[] #[.pointer (some ⟨gw, 0, none⟩), .pointer (some ⟨gc, 0, none⟩)]) ∧ W.cell? ⟨w.heap.size, 4, none⟩ = some (.slice (some ⟨g, off, none⟩) h.tn h.tc) ∧ W.cell? ⟨g, off, none⟩ = some (.int .i64 (H 0).k) ∧ W.cell? ⟨g, off + 1, none⟩ = some (.slice (H 0).ka (H 0).kn (H 0).kc) ∧ W.cell? ⟨g, off + 2, none⟩ = some (.slice (H 0).va (H 0).vn (H 0).vc) ∧ W.cell? ⟨g, off + 3, none⟩ = some (.slice (H 0).da (H 0).dn (H 0).dc) ∧ W.cell? ⟨g, off + 4, none⟩ = some (.slice (H 0).ta (H 0).tn (H 0).tc))) (by kernel_rfl) ⟨HD0.out.drew.clo.cell, (HD0.out.drew.box.cells.2.2.2.2).trans (by rw [HTA.out]), (HP.out.below HD0.out.drew.b).kid0 HTA.out (by omega)⟩ (fun hHeld => ?_)
  refine take_w (i := 0) (oi := ?oZ8) (v := ?vZ8) ?hiZ8 (by kernel_rfl) (by kernel_rfl) (by kernel_rfl) ?hQZ8 ?hwZ8 ?hyZ8 (by assumption) ?restZ8
  case hiZ8 => (simp only [List.getElem?_toArray, List.getElem?_cons_zero] <;> rfl)
  case hQZ8 => exact (fun _ _ _ h => h)
  case hwZ8 => rfl
  case hyZ8 => (intro w hSw; (try dsimp only at hSw); go_simp; try with_reducible rfl)
  (try simp only [Act.put, List.setIfInBounds_toArray, List.set_cons_zero, List.set_cons_succ])
  refine take_w (i := 1) (oi := ?oZ9) (v := ?vZ9) ?hiZ9 (by kernel_rfl) (by kernel_rfl) (by kernel_rfl) ?hQZ9 ?hwZ9 ?hyZ9 (by assumption) ?restZ9
  case hiZ9 => (simp only [List.getElem?_toArray, List.getElem?_cons_succ, List.getElem?_cons_zero] <;> rfl)
  case hQZ9 => exact (fun _ _ _ h => h)
  case hwZ9 => rfl
  case hyZ9 => (intro w hSw; (try dsimp only at hSw); go_simp; try with_reducible rfl)
  (try simp only [Act.put, List.setIfInBounds_toArray, List.set_cons_zero, List.set_cons_succ])
  refine take_w (i := 2) (oi := ?oZ10) (v := ?vZ10) ?hiZ10 (by kernel_rfl) (by kernel_rfl) (by kernel_rfl) ?hQZ10 ?hwZ10 ?hyZ10 (by assumption) ?restZ10
  case hiZ10 => (simp only [List.getElem?_toArray, List.getElem?_cons_succ, List.getElem?_cons_zero] <;> rfl)
  case hQZ10 => exact (fun _ _ _ h => h)
  case hwZ10 => rfl
  case hyZ10 => (intro w hSw; (try dsimp only at hSw); go_simp; try with_reducible rfl)
  (try simp only [Act.put, List.setIfInBounds_toArray, List.set_cons_zero, List.set_cons_succ])
  refine take_w (i := 3) (oi := ?oZ11) (v := ?vZ11) ?hiZ11 (by kernel_rfl) (by kernel_rfl) (by kernel_rfl) ?hQZ11 ?hwZ11 ?hyZ11 (by assumption) ?restZ11
  case hiZ11 => (simp only [List.getElem?_toArray, List.getElem?_cons_succ, List.getElem?_cons_zero] <;> rfl)
  case hQZ11 => exact (fun _ _ _ h => h)
  case hwZ11 => rfl
  case hyZ11 => (intro w hSw; (try dsimp only at hSw); go_simp; try with_reducible rfl)
  (try simp only [Act.put, List.setIfInBounds_toArray, List.set_cons_zero, List.set_cons_succ])
  refine take_w (i := 4) (oi := ?oZ12) (v := ?vZ12) ?hiZ12 (by kernel_rfl) (by kernel_rfl) (by kernel_rfl) ?hQZ12 ?hwZ12 ?hyZ12 (by assumption) ?restZ12
  case hiZ12 => (simp only [List.getElem?_toArray, List.getElem?_cons_succ, List.getElem?_cons_zero] <;> rfl)
  case hQZ12 => exact (fun _ _ _ h => h)
  case hwZ12 => rfl
  case hyZ12 => (intro w hSw; (try dsimp only at hSw); go_simp; try with_reducible rfl)
  (try simp only [Act.put, List.setIfInBounds_toArray, List.set_cons_zero, List.set_cons_succ])
  refine wpAnyH_ready (rs := [5]) (by kernel_rfl) (by simp) ?_
  refine AllReadyH.cons (o := ?oZ13) ?hiZ13 (fun K hK => ?stZ13) AllReadyH.nil
  case hiZ13 => (simp only [List.getElem?_toArray, List.getElem?_cons_succ, List.getElem?_cons_zero] <;> rfl)
  go_simp
  go_at_call 42
  refine (IH.out _ (List.getElem_mem l0) (H 0) _ gw gc ((HP.out.below HD0.out.drew.b).kids 0 l0) HD0.out.drew.tab (HF.out 0 l0) HD0.out.drew.wid HD0.out.drew.clo ls HDL.out).mono ?_
  rintro _ w1 ⟨a1, c1, rfl, hn1, hb1⟩
  have HD1 := Lib.hid (HD0.out.drew.below hb1)
  have HI1 := Lib.hid hn1.inb
  skip
  clear hn1 hb1
  go_simp
  refine hK.out _ _ ?_ (fun hHeld => ?_)
  · (first | exact ⟨HD1.out.clo.cell, (HD1.out.box.cells.2.2.2.2).trans (by rw [HTA.out]), (HP.out.below HD1.out.b).kid0 HTA.out (by omega)⟩ | exact ⟨HD0.out.drew.clo.cell, (HD0.out.drew.box.cells.2.2.2.2).trans (by rw [HTA.out]), (HP.out.below HD0.out.drew.b).kid0 HTA.out (by omega)⟩)
  clear hK K
  (try simp only [Act.put, List.setIfInBounds_toArray, List.set_cons_zero, List.set_cons_succ])
  refine take_w (i := 6) (oi := ?oZ14) (v := ?vZ14) ?hiZ14 (by kernel_rfl) (by kernel_rfl) (by kernel_rfl) ?hQZ14 ?hwZ14 ?hyZ14 (by assumption) ?restZ14
  case hiZ14 => (simp only [List.getElem?_toArray, List.getElem?_cons_succ, List.getElem?_cons_zero] <;> rfl)
  case hQZ14 => exact (fun _ _ _ h => h)
  case hwZ14 => rfl
  case hyZ14 => (intro w hSw; (try dsimp only at hSw); go_simp; try with_reducible rfl)
  (try simp only [Act.put, List.setIfInBounds_toArray, List.set_cons_zero, List.set_cons_succ])
  refine take_w (i := 7) (oi := ?oZ15) (v := ?vZ15) ?hiZ15 (by kernel_rfl) (by kernel_rfl) (by kernel_rfl) ?hQZ15 ?hwZ15 ?hyZ15 (by assumption) ?restZ15
  case hiZ15 => (simp only [List.getElem?_toArray, List.getElem?_cons_succ, List.getElem?_cons_zero] <;> rfl)
  case hQZ15 => exact (fun _ _ _ h => h)
  case hwZ15 => rfl
  case hyZ15 => (intro w hSw; (try dsimp only at hSw); go_simp; try with_reducible rfl)
  (try simp only [Act.put, List.setIfInBounds_toArray, List.set_cons_zero, List.set_cons_succ])
  refine take_w (i := 8) (oi := ?oZ16) (v := ?vZ16) ?hiZ16 (by kernel_rfl) (by kernel_rfl) (by kernel_rfl) ?hQZ16 ?hwZ16 ?hyZ16 (by assumption) ?restZ16
  case hiZ16 => (simp only [List.getElem?_toArray, List.getElem?_cons_succ, List.getElem?_cons_zero] <;> rfl)
  case hQZ16 => exact (fun _ _ _ h => h)
  case hwZ16 => rfl
  case hyZ16 => (intro w hSw; (try dsimp only at hSw); go_simp; try with_reducible rfl)
  (try simp only [Act.put, List.setIfInBounds_toArray, List.set_cons_zero, List.set_cons_succ])
  refine take_w (i := 9) (oi := ?oZ17) (v := ?vZ17) ?hiZ17 (by kernel_rfl) (by kernel_rfl) (by kernel_rfl) ?hQZ17 ?hwZ17 ?hyZ17 (by assumption) ?restZ17
  case hiZ17 => (simp only [List.getElem?_toArray, List.getElem?_cons_succ, List.getElem?_cons_zero] <;> rfl)
  case hQZ17 => exact (fun _ _ _ h => h)
  case hwZ17 => rfl
  case hyZ17 => (intro w hSw; (try dsimp only at hSw); go_simp; try with_reducible rfl)
  (try simp only [Act.put, List.setIfInBounds_toArray, List.set_cons_zero, List.set_cons_succ])
  refine take_w (i := 10) (oi := ?oZ18) (v := ?vZ18) ?hiZ18 (by kernel_rfl) (by kernel_rfl) (by kernel_rfl) ?hQZ18 ?hwZ18 ?hyZ18 (by assumption) ?restZ18
  case hiZ18 => (simp only [List.getElem?_toArray, List.getElem?_cons_succ, List.getElem?_cons_zero] <;> rfl)
  case hQZ18 => exact (fun _ _ _ h => h)
  case hwZ18 => rfl
  case hyZ18 => (intro w hSw; (try dsimp only at hSw); go_simp; try with_reducible rfl)
  (try simp only [Act.put, List.setIfInBounds_toArray, List.set_cons_zero, List.set_cons_succ])
  refine wpAnyH_done (by kernel_rfl) ?_ _
  
  clear hHeld
  obtain ⟨x0, x1, x2, x3, x4⟩ := HD1.out.box.cells
  have xw := HD1.out.wid.cell
  go_upto_region 12 with (first
    | (go_at_call 46
       refine (pairDigest_any k hk1 hk2 t h _ HD1.out.t HD1.out.tab hpb hvl).mono ?_
       rintro _ w2 ⟨g2, hg2, rfl, hr2, hb2⟩
       have HD2 := Lib.hid (HD1.out.below hb2)
       have HI2 := Lib.hid (of_in hr2 hk2)
       have HI12 := Lib.hid (HI1.out.below hb2)
       clear hg2 hr2 hb2))
  clear x0 x1 x2 x3 x4 xw
  refine wp_region_held_drew (S := (fun W => W.cell? ⟨gc, 0, none⟩ = some (.func (.func 42) #[] #[.pointer (some ⟨gw, 0, none⟩), .pointer (some ⟨gc, 0, none⟩)]) ∧ W.cell? ⟨w.heap.size, 4, none⟩ = some (.slice (some ⟨g, off, none⟩) h.tn h.tc) ∧ W.cell? ⟨g, off + 5, none⟩ = some (.int .i64 (H 1).k) ∧ W.cell? ⟨g, off + 5 + 1, none⟩ = some (.slice (H 1).ka (H 1).kn (H 1).kc) ∧ W.cell? ⟨g, off + 5 + 2, none⟩ = some (.slice (H 1).va (H 1).vn (H 1).vc) ∧ W.cell? ⟨g, off + 5 + 3, none⟩ = some (.slice (H 1).da (H 1).dn (H 1).dc) ∧ W.cell? ⟨g, off + 5 + 4, none⟩ = some (.slice (H 1).ta (H 1).tn (H 1).tc))) (by kernel_rfl) ⟨HD2.out.drew.clo.cell, (HD2.out.drew.box.cells.2.2.2.2).trans (by rw [HTA.out]), (HP.out.below HD2.out.drew.b).kid1 HTA.out (by omega)⟩ (fun hHeld => ?_)
  refine take_w (i := 0) (oi := ?oZ19) (v := ?vZ19) ?hiZ19 (by kernel_rfl) (by kernel_rfl) (by kernel_rfl) ?hQZ19 ?hwZ19 ?hyZ19 (by assumption) ?restZ19
  case hiZ19 => (simp only [List.getElem?_toArray, List.getElem?_cons_zero] <;> rfl)
  case hQZ19 => exact (fun _ _ _ h => h)
  case hwZ19 => rfl
  case hyZ19 => (intro w hSw; (try dsimp only at hSw); go_simp; try with_reducible rfl)
  (try simp only [Act.put, List.setIfInBounds_toArray, List.set_cons_zero, List.set_cons_succ])
  refine take_w (i := 1) (oi := ?oZ20) (v := ?vZ20) ?hiZ20 (by kernel_rfl) (by kernel_rfl) (by kernel_rfl) ?hQZ20 ?hwZ20 ?hyZ20 (by assumption) ?restZ20
  case hiZ20 => (simp only [List.getElem?_toArray, List.getElem?_cons_succ, List.getElem?_cons_zero] <;> rfl)
  case hQZ20 => exact (fun _ _ _ h => h)
  case hwZ20 => rfl
  case hyZ20 => (intro w hSw; (try dsimp only at hSw); go_simp; try with_reducible rfl)
  (try simp only [Act.put, List.setIfInBounds_toArray, List.set_cons_zero, List.set_cons_succ])
  refine take_w (i := 2) (oi := ?oZ21) (v := ?vZ21) ?hiZ21 (by kernel_rfl) (by kernel_rfl) (by kernel_rfl) ?hQZ21 ?hwZ21 ?hyZ21 (by assumption) ?restZ21
  case hiZ21 => (simp only [List.getElem?_toArray, List.getElem?_cons_succ, List.getElem?_cons_zero] <;> rfl)
  case hQZ21 => exact (fun _ _ _ h => h)
  case hwZ21 => rfl
  case hyZ21 => (intro w hSw; (try dsimp only at hSw); go_simp; try with_reducible rfl)
  (try simp only [Act.put, List.setIfInBounds_toArray, List.set_cons_zero, List.set_cons_succ])
  refine take_w (i := 3) (oi := ?oZ22) (v := ?vZ22) ?hiZ22 (by kernel_rfl) (by kernel_rfl) (by kernel_rfl) ?hQZ22 ?hwZ22 ?hyZ22 (by assumption) ?restZ22
  case hiZ22 => (simp only [List.getElem?_toArray, List.getElem?_cons_succ, List.getElem?_cons_zero] <;> rfl)
  case hQZ22 => exact (fun _ _ _ h => h)
  case hwZ22 => rfl
  case hyZ22 => (intro w hSw; (try dsimp only at hSw); go_simp; try with_reducible rfl)
  (try simp only [Act.put, List.setIfInBounds_toArray, List.set_cons_zero, List.set_cons_succ])
  refine take_w (i := 4) (oi := ?oZ23) (v := ?vZ23) ?hiZ23 (by kernel_rfl) (by kernel_rfl) (by kernel_rfl) ?hQZ23 ?hwZ23 ?hyZ23 (by assumption) ?restZ23
  case hiZ23 => (simp only [List.getElem?_toArray, List.getElem?_cons_succ, List.getElem?_cons_zero] <;> rfl)
  case hQZ23 => exact (fun _ _ _ h => h)
  case hwZ23 => rfl
  case hyZ23 => (intro w hSw; (try dsimp only at hSw); go_simp; try with_reducible rfl)
  (try simp only [Act.put, List.setIfInBounds_toArray, List.set_cons_zero, List.set_cons_succ])
  refine wpAnyH_ready (rs := [5]) (by kernel_rfl) (by simp) ?_
  refine AllReadyH.cons (o := ?oZ24) ?hiZ24 (fun K hK => ?stZ24) AllReadyH.nil
  case hiZ24 => (simp only [List.getElem?_toArray, List.getElem?_cons_succ, List.getElem?_cons_zero] <;> rfl)
  go_simp
  go_at_call 42
  refine (IH.out _ (List.getElem_mem l1) (H 1) _ gw gc ((HP.out.below HD2.out.drew.b).kids 1 l1) HD2.out.drew.tab (HF.out 1 l1) HD2.out.drew.wid HD2.out.drew.clo rs HDR.out).mono ?_
  rintro _ w3 ⟨a3, c3, rfl, hn3, hb3⟩
  have HD3 := Lib.hid (HD2.out.drew.below hb3)
  have HI3 := Lib.hid hn3.inb
  have HI13 := Lib.hid ((HI12.out.below (Below.refl _ _).drew).below hb3)
  have HI23 := Lib.hid ((HI2.out.below (Below.refl _ _).drew).below hb3)
  clear hn3 hb3
  go_simp
  refine hK.out _ _ ?_ (fun hHeld => ?_)
  · (first | exact ⟨HD3.out.clo.cell, (HD3.out.box.cells.2.2.2.2).trans (by rw [HTA.out]), (HP.out.below HD3.out.b).kid1 HTA.out (by omega)⟩ | exact ⟨HD2.out.drew.clo.cell, (HD2.out.drew.box.cells.2.2.2.2).trans (by rw [HTA.out]), (HP.out.below HD2.out.drew.b).kid1 HTA.out (by omega)⟩)
  clear hK K
  (try simp only [Act.put, List.setIfInBounds_toArray, List.set_cons_zero, List.set_cons_succ])
  refine take_w (i := 6) (oi := ?oZ25) (v := ?vZ25) ?hiZ25 (by kernel_rfl) (by kernel_rfl) (by kernel_rfl) ?hQZ25 ?hwZ25 ?hyZ25 (by assumption) ?restZ25
  case hiZ25 => (simp only [List.getElem?_toArray, List.getElem?_cons_succ, List.getElem?_cons_zero] <;> rfl)
  case hQZ25 => exact (fun _ _ _ h => h)
  case hwZ25 => rfl
  case hyZ25 => (intro w hSw; (try dsimp only at hSw); go_simp; try with_reducible rfl)
  (try simp only [Act.put, List.setIfInBounds_toArray, List.set_cons_zero, List.set_cons_succ])
  refine take_w (i := 7) (oi := ?oZ26) (v := ?vZ26) ?hiZ26 (by kernel_rfl) (by kernel_rfl) (by kernel_rfl) ?hQZ26 ?hwZ26 ?hyZ26 (by assumption) ?restZ26
  case hiZ26 => (simp only [List.getElem?_toArray, List.getElem?_cons_succ, List.getElem?_cons_zero] <;> rfl)
  case hQZ26 => exact (fun _ _ _ h => h)
  case hwZ26 => rfl
  case hyZ26 => (intro w hSw; (try dsimp only at hSw); go_simp; try with_reducible rfl)
  (try simp only [Act.put, List.setIfInBounds_toArray, List.set_cons_zero, List.set_cons_succ])
  refine take_w (i := 8) (oi := ?oZ27) (v := ?vZ27) ?hiZ27 (by kernel_rfl) (by kernel_rfl) (by kernel_rfl) ?hQZ27 ?hwZ27 ?hyZ27 (by assumption) ?restZ27
  case hiZ27 => (simp only [List.getElem?_toArray, List.getElem?_cons_succ, List.getElem?_cons_zero] <;> rfl)
  case hQZ27 => exact (fun _ _ _ h => h)
  case hwZ27 => rfl
  case hyZ27 => (intro w hSw; (try dsimp only at hSw); go_simp; try with_reducible rfl)
  (try simp only [Act.put, List.setIfInBounds_toArray, List.set_cons_zero, List.set_cons_succ])
  refine take_w (i := 9) (oi := ?oZ28) (v := ?vZ28) ?hiZ28 (by kernel_rfl) (by kernel_rfl) (by kernel_rfl) ?hQZ28 ?hwZ28 ?hyZ28 (by assumption) ?restZ28
  case hiZ28 => (simp only [List.getElem?_toArray, List.getElem?_cons_succ, List.getElem?_cons_zero] <;> rfl)
  case hQZ28 => exact (fun _ _ _ h => h)
  case hwZ28 => rfl
  case hyZ28 => (intro w hSw; (try dsimp only at hSw); go_simp; try with_reducible rfl)
  (try simp only [Act.put, List.setIfInBounds_toArray, List.set_cons_zero, List.set_cons_succ])
  refine take_w (i := 10) (oi := ?oZ29) (v := ?vZ29) ?hiZ29 (by kernel_rfl) (by kernel_rfl) (by kernel_rfl) ?hQZ29 ?hwZ29 ?hyZ29 (by assumption) ?restZ29
  case hiZ29 => (simp only [List.getElem?_toArray, List.getElem?_cons_succ, List.getElem?_cons_zero] <;> rfl)
  case hQZ29 => exact (fun _ _ _ h => h)
  case hwZ29 => rfl
  case hyZ29 => (intro w hSw; (try dsimp only at hSw); go_simp; try with_reducible rfl)
  (try simp only [Act.put, List.setIfInBounds_toArray, List.set_cons_zero, List.set_cons_succ])
  refine wpAnyH_done (by kernel_rfl) ?_ _
  
  clear hHeld
  have hi1 := HI13.out
  have hi3 := HI3.out
  rw [hll] at hi1
  rw [hlr] at hi3
  have HIA := Lib.hid hi1
  have HIB := Lib.hid hi3
  have xw := HD3.out.wid.cell
  have HZS := Lib.hid hzs
  clear hi1 hi3 hzs hvl hll hlr
  go_wp2_with (first
    | (go_at_call 47
       (with_reducible refine (node_ok (k : Int) a1 k c1 ls (some ⟨g2, 0, none⟩) k k ((sumL (pairL t.key (valT k t))).take k) a3 k c3 rs _ HIA.out HI23.out HIB.out (by omega) (by omega) rfl rfl rfl).mono ?_)
       rintro _ w4 ⟨g4, c4, rfl, ho4, hb4⟩
       have HD4 := Lib.hid (HD3.out.below hb4)
       have HI4 := Lib.hid (InBytes.of_own ho4 (nodeL_bytes HIA.out.bytes HI23.out.bytes HIB.out.bytes))
       clear xw
       have xw := HD4.out.wid.cell
       clear ho4 hb4)
    | (go_at_call 43
       (with_reducible refine (of_ok k _ _ _ _ _ HI4.out ?_ HD4.out.tab hk1 hk2).mono ?_)
       · rw [nodeL_len, HIA.out.len, HI23.out.len, HIB.out.len]; omega
       rintro _ w5 ⟨g5, hg5, rfl, hr5, hb5⟩
       have HD5 := Lib.hid (HD4.out.below hb5)
       have HR5 := Lib.hid (And.intro (Nat.le_trans HD4.out.b.size hg5) hr5)
       clear hg5 hr5 hb5))
  go_ret2
  rw [HZS.out]
  exact OfPost2.bytes hk2 ⟨g5, HR5.out.1, rfl, HR5.out.2, HD5.out.b⟩
end Go.Proofs.YtlbiefddcimdgaaDoor

/- The contracts of the program's trees: Digest. -/
namespace Go.Proofs.YtlbiefddcimdgaaDoor
open Go.RowKit
set_option linter.unusedVariables false

theorem fits_dig {k : Nat} (hk : k ≤ 32) : ∀ t : Tr, formedT t = true → (allT (fitsK k) t = true ↔ ∃ zs, digT k t = some zs) := by
  intro t
  induction t using Tr.ind with
  | h t ih =>
  intro hf
  obtain ⟨hp, hkf⟩ := formed_kids hf
  rw [allT_eq, Bool.and_eq_true]
  rcases part_kids hp with ⟨h0, h | h⟩ | ⟨h2, h⟩
  · have e : t.kids = [] := List.length_eq_zero_iff.1 h0
    rw [digT_0 h, e]
    simp [fitsK, toldK, h]
  · have e : t.kids = [] := List.length_eq_zero_iff.1 h0
    rw [digT_3 h, e]
    simp [fitsK, toldK, h]
  · have n0 : t.k ≠ 0 := by omega
    have n3 : t.k ≠ 3 := by omega
    have i0 := ih _ (List.getElem_mem (by omega : 0 < t.kids.length)) (hkf 0 (by omega))
    have i1 := ih _ (List.getElem_mem (by omega : 1 < t.kids.length)) (hkf 1 (by omega))
    have ev : fitsK k t = true ↔ (valT k t).length = k := by
      unfold fitsK toldK valT
      rcases h with h | h
      · rw [if_pos h]
        simp [h, take_sum_len hk]
      · rw [if_neg (by omega)]
        simp [h]
    have ek : t.kids.all (allT (fitsK k)) = true ↔ allT (fitsK k) (t.kids[0]'(by omega)) = true ∧ allT (fitsK k) (t.kids[1]'(by omega)) = true := by
      rw [List.all_eq_true]
      constructor
      · exact fun hh => ⟨hh _ (List.getElem_mem _), hh _ (List.getElem_mem _)⟩
      · intro hh x hx
        obtain ⟨i, hi, rfl⟩ := List.getElem_of_mem hx
        rcases (by omega : i = 0 ∨ i = 1) with rfl | rfl
        · exact hh.1
        · exact hh.2
    rw [ev, ek, i0, i1]
    constructor
    · rintro ⟨hv, ⟨l, hl⟩, ⟨r, hr⟩⟩
      rw [digT_node n0 n3 hv h2, hl, hr]
      exact ⟨_, rfl⟩
    · rintro ⟨zs, hz⟩
      obtain ⟨hv, l, r, hl, hr, -⟩ := digT_split n0 n3 h2 hz
      exact ⟨hv, ⟨l, hl⟩, ⟨r, hr⟩⟩
theorem fits_none {k : Nat} (hk : k ≤ 32) {t : Tr} (hf : formedT t = true) (hd : digT k t = none) : allT (fitsK k) t = false := by
  rw [Bool.eq_false_iff]
  intro h
  obtain ⟨zs, hz⟩ := (fits_dig hk t hf).1 h
  rw [hd] at hz
  cases hz

set_option maxRecDepth 100000 in
set_option maxHeartbeats 4000000 in
theorem digest_err (k : Nat) (hk1 : 1 ≤ k) (hk2 : k ≤ 32) (t : Tr) (h : TH) (w : World) (ht : InTree w h t) (hc : checkT t ≠ 0) :
    Calls Tryd.prog 16 #[.int .i64 k, h.v] w (ErrPost w (checkT t)) := by
  have HTT := Lib.hid ht
  have HCZ := Lib.hid hc
  clear ht hc
  unfold TH.v
  have hb1 : Below w.heap.size w (w.alloc (.cells #[.int .i64 k] 3)) := (Below.refl _ _).alloc (Nat.le_refl _) _
  have hv1 := Var1.new w 3 (.int .i64 k)
  have hs1 : (w.alloc (.cells #[.int .i64 k] 3)).heap.size = w.heap.size + 1 := by simp
  have hb2 : Below w.heap.size w ((w.alloc (.cells #[.int .i64 k] 3)).alloc (.cells #[.int .i64 h.k, .slice h.ka h.kn h.kc, .slice h.va h.vn h.vc, .slice h.da h.dn h.dc, .slice h.ta h.tn h.tc] 27)) := hb1.alloc (by rw [hs1]; omega) _
  have hv2 := hv1.below ((Below.refl _ _).alloc (Nat.le_refl _) (.cells #[.int .i64 h.k, .slice h.ka h.kn h.kc, .slice h.va h.vn h.vc, .slice h.da h.dn h.dc, .slice h.ta h.tn h.tc] 27)) hv1.lt
  have hx2 := Box.new (w.alloc (.cells #[.int .i64 k] 3)) 27 h
  rw [hs1] at hx2
  clear hb1 hv1 hs1
  go_enter Tryd.func16, Tryd.ntmps16
  go_upto_region 1 with fail
  generalize ((w.alloc (.cells #[.int .i64 k] 3)).alloc (.cells #[.int .i64 h.k, .slice h.ka h.kn h.kc, .slice h.va h.vn h.vc, .slice h.da h.dn h.dc, .slice h.ta h.tn h.tc] 27)) = w2 at *
  have xv := hv2.cell
  obtain ⟨x0, x1, x2, x3, x4⟩ := hx2.cells
  have HB2 := Lib.hid hb2
  have HV2 := Lib.hid hv2
  have HX2 := Lib.hid hx2
  clear hb2 hv2 hx2
  have q1 : ¬ (k : Int) < 1 := by omega
  have q2 : ¬ (32 : Int) < k := by omega
  go_wp2_with (first
    | (go_at_call 38
       refine (check_any t h _ (HTT.out.lower HB2.out)).mono ?_
       rintro _ w3 ⟨rfl, hb3⟩
       have HB3 : Hid (Below w.heap.size w w3) := Lib.hid (HB2.out.trans (hb3.mono HB2.out.size))
       have HV3 := Lib.hid (HV2.out.below hb3 HV2.out.lt)
       have HX3 := Lib.hid (HX2.out.below hb3 HX2.out.lt)
       rw [codeV_pos HCZ.out]
       clear xv x0 x1 x2 x3 x4 hb3))
  go_ret2
  exact ⟨none, 0, by rw [codeV_pos HCZ.out]; rfl, HB3.out⟩

set_option maxRecDepth 100000 in
set_option maxHeartbeats 4000000 in
theorem digest_none (k : Nat) (hk1 : 1 ≤ k) (hk2 : k ≤ 32) (t : Tr) (h : TH) (w : World) (ht : InTree w h t) (hT : TabLies w) (hc : checkT t = 0) (hd : digT k t = none) :
    Calls Tryd.prog 16 #[.int .i64 k, h.v] w (ErrPost w 3) := by
  have HTT := Lib.hid ht
  have HFI := Lib.hid (fits_none hk2 (check_zero hc).1 hd)
  have HCZ := Lib.hid hc
  clear ht hc hd hT
  unfold TH.v
  have hb1 : Below w.heap.size w (w.alloc (.cells #[.int .i64 k] 3)) := (Below.refl _ _).alloc (Nat.le_refl _) _
  have hv1 := Var1.new w 3 (.int .i64 k)
  have hs1 : (w.alloc (.cells #[.int .i64 k] 3)).heap.size = w.heap.size + 1 := by simp
  have hb2 : Below w.heap.size w ((w.alloc (.cells #[.int .i64 k] 3)).alloc (.cells #[.int .i64 h.k, .slice h.ka h.kn h.kc, .slice h.va h.vn h.vc, .slice h.da h.dn h.dc, .slice h.ta h.tn h.tc] 27)) := hb1.alloc (by rw [hs1]; omega) _
  have hv2 := hv1.below ((Below.refl _ _).alloc (Nat.le_refl _) (.cells #[.int .i64 h.k, .slice h.ka h.kn h.kc, .slice h.va h.vn h.vc, .slice h.da h.dn h.dc, .slice h.ta h.tn h.tc] 27)) hv1.lt
  have hx2 := Box.new (w.alloc (.cells #[.int .i64 k] 3)) 27 h
  rw [hs1] at hx2
  clear hb1 hv1 hs1
  go_enter Tryd.func16, Tryd.ntmps16
  go_upto_region 1 with fail
  generalize ((w.alloc (.cells #[.int .i64 k] 3)).alloc (.cells #[.int .i64 h.k, .slice h.ka h.kn h.kc, .slice h.va h.vn h.vc, .slice h.da h.dn h.dc, .slice h.ta h.tn h.tc] 27)) = w2 at *
  have xv := hv2.cell
  obtain ⟨x0, x1, x2, x3, x4⟩ := hx2.cells
  have HB2 := Lib.hid hb2
  have HV2 := Lib.hid hv2
  have HX2 := Lib.hid hx2
  clear hb2 hv2 hx2
  have q1 : ¬ (k : Int) < 1 := by omega
  have q2 : ¬ (32 : Int) < k := by omega
  have hmf : ∀ (fn : Fn) (first cap : Array Value) (w : World), (Instr.makeFunc fn first cap).run Tryd.prog w = .ok (.func fn first cap) w := fun _ _ _ _ => rfl
  go_upto_region 6 with (first
    | (go_at_call 38
       refine (check_any t h _ (HTT.out.lower HB2.out)).mono ?_
       rintro _ w3 ⟨rfl, hb3⟩
       have HB3 : Hid (Below w.heap.size w w3) := Lib.hid (HB2.out.trans (hb3.mono HB2.out.size))
       have HV3 := Lib.hid (HV2.out.below hb3 HV2.out.lt)
       have HX3 := Lib.hid (HX2.out.below hb3 HX2.out.lt)
       have hcv : codeV (checkT t) = .nilIface := by rw [HCZ.out]; rfl
       rw [hcv]
       clear hcv
       clear xv x0 x1 x2 x3 x4 hb3))
  obtain ⟨x0, x1, x2, x3, x4⟩ := HX3.out.cells
  go_upto_if 25 with (first
    | (go_at_call 41
       refine (everyFits k w.heap.size t h _ (HTT.out.lower HB3.out) HV3.out).mono ?_
       rintro _ w4 ⟨rfl, hb4⟩
       have HB4 : Hid (Below w.heap.size w w4) := Lib.hid (HB3.out.trans (hb4.mono HB3.out.size))
       have HV4 := Lib.hid (HV3.out.below hb4 HV3.out.lt)
       have HX4 := Lib.hid (HX3.out.below hb4 HX3.out.lt)
       rw [HFI.out]
       clear hb4))
  clear x0 x1 x2 x3 x4
  go_wp2_with fail
  go_ret2
  exact ⟨none, 0, rfl, HB4.out⟩

set_option maxRecDepth 100000 in
set_option maxHeartbeats 4000000 in
theorem digest_ok (k : Nat) (hk1 : 1 ≤ k) (hk2 : k ≤ 32) (t : Tr) (h : TH) (w : World) (ht : InTree w h t) (hT : TabLies w) (hc : checkT t = 0) {zs : List Int} (hd : digT k t = some zs) :
    Calls Tryd.prog 16 #[.int .i64 k, h.v] w (BytesPost w zs) := by
  have HTT := Lib.hid ht
  have HT := Lib.hid hT
  have HFI := Lib.hid ((fits_dig hk2 t (check_zero hc).1).2 ⟨zs, hd⟩)
  have HCZ := Lib.hid hc
  have HDG := Lib.hid hd
  clear ht hc hd hT
  unfold TH.v
  have hb1 : Below w.heap.size w (w.alloc (.cells #[.int .i64 k] 3)) := (Below.refl _ _).alloc (Nat.le_refl _) _
  have hv1 := Var1.new w 3 (.int .i64 k)
  have hs1 : (w.alloc (.cells #[.int .i64 k] 3)).heap.size = w.heap.size + 1 := by simp
  have hb2 : Below w.heap.size w ((w.alloc (.cells #[.int .i64 k] 3)).alloc (.cells #[.int .i64 h.k, .slice h.ka h.kn h.kc, .slice h.va h.vn h.vc, .slice h.da h.dn h.dc, .slice h.ta h.tn h.tc] 27)) := hb1.alloc (by rw [hs1]; omega) _
  have hv2 := hv1.below ((Below.refl _ _).alloc (Nat.le_refl _) (.cells #[.int .i64 h.k, .slice h.ka h.kn h.kc, .slice h.va h.vn h.vc, .slice h.da h.dn h.dc, .slice h.ta h.tn h.tc] 27)) hv1.lt
  have hx2 := Box.new (w.alloc (.cells #[.int .i64 k] 3)) 27 h
  rw [hs1] at hx2
  clear hb1 hv1 hs1
  go_enter Tryd.func16, Tryd.ntmps16
  go_upto_region 1 with fail
  generalize ((w.alloc (.cells #[.int .i64 k] 3)).alloc (.cells #[.int .i64 h.k, .slice h.ka h.kn h.kc, .slice h.va h.vn h.vc, .slice h.da h.dn h.dc, .slice h.ta h.tn h.tc] 27)) = w2 at *
  have xv := hv2.cell
  obtain ⟨x0, x1, x2, x3, x4⟩ := hx2.cells
  have HB2 := Lib.hid hb2
  have HV2 := Lib.hid hv2
  have HX2 := Lib.hid hx2
  clear hb2 hv2 hx2
  have q1 : ¬ (k : Int) < 1 := by omega
  have q2 : ¬ (32 : Int) < k := by omega
  have hmf : ∀ (fn : Fn) (first cap : Array Value) (w : World), (Instr.makeFunc fn first cap).run Tryd.prog w = .ok (.func fn first cap) w := fun _ _ _ _ => rfl
  go_upto_region 6 with (first
    | (go_at_call 38
       refine (check_any t h _ (HTT.out.lower HB2.out)).mono ?_
       rintro _ w3 ⟨rfl, hb3⟩
       have HB3 : Hid (Below w.heap.size w w3) := Lib.hid (HB2.out.trans (hb3.mono HB2.out.size))
       have HV3 := Lib.hid (HV2.out.below hb3 HV2.out.lt)
       have HX3 := Lib.hid (HX2.out.below hb3 HX2.out.lt)
       have hcv : codeV (checkT t) = .nilIface := by rw [HCZ.out]; rfl
       rw [hcv]
       clear hcv
       clear xv x0 x1 x2 x3 x4 hb3))
  obtain ⟨x0, x1, x2, x3, x4⟩ := HX3.out.cells
  go_upto_if 25 with (first
    | (go_at_call 41
       refine (everyFits k w.heap.size t h _ (HTT.out.lower HB3.out) HV3.out).mono ?_
       rintro _ w4 ⟨rfl, hb4⟩
       have HB4 : Hid (Below w.heap.size w w4) := Lib.hid (HB3.out.trans (hb4.mono HB3.out.size))
       have HV4 := Lib.hid (HV3.out.below hb4 HV3.out.lt)
       have HX4 := Lib.hid (HX3.out.below hb4 HX3.out.lt)
       rw [HFI.out]
       clear hb4))
  clear x0 x1 x2 x3 x4
  go_upto_region 10 with fail
  have hb5 : Below w4.heap.size w4 (w4.alloc (.cells #[.nilFunc] 86)) := (Below.refl _ _).alloc (Nat.le_refl _) _
  have hnf := Var1.new w4 86 .nilFunc
  have hbx := HX4.out.below hb5 HX4.out.lt
  have hvw := HV4.out.below hb5 HV4.out.lt
  have hsz := HB4.out.size
  generalize w4.alloc (.cells #[.nilFunc] 86) = w5 at *
  have c0 := hnf.cell
  have c1 := hnf.frozen 0
  have hne : w.heap.size + 1 ≠ w4.heap.size := Nat.ne_of_lt HX4.out.lt
  have hne2 : w.heap.size ≠ w4.heap.size := Nat.ne_of_lt HV4.out.lt
  have hn6 := hnf.set (.func (.func 42) #[] #[.pointer (some ⟨w.heap.size, 0, none⟩), .pointer (some ⟨w4.heap.size, 0, none⟩)])
  have hbx6 : Box (w5.setCell ⟨w4.heap.size, 0, none⟩ (.func (.func 42) #[] #[.pointer (some ⟨w.heap.size, 0, none⟩), .pointer (some ⟨w4.heap.size, 0, none⟩)])) 27 (w.heap.size + 1) h := (Below.heap_setCell w5 ⟨w4.heap.size, 0, none⟩ _ (w.heap.size + 1) hne).trans hbx
  have hvw6 := hvw.far (p := ⟨w4.heap.size, 0, none⟩) hne2 (.func (.func 42) #[] #[.pointer (some ⟨w.heap.size, 0, none⟩), .pointer (some ⟨w4.heap.size, 0, none⟩)])
  have hb6 : Below w4.heap.size w4 (w5.setCell ⟨w4.heap.size, 0, none⟩ (.func (.func 42) #[] #[.pointer (some ⟨w.heap.size, 0, none⟩), .pointer (some ⟨w4.heap.size, 0, none⟩)])) := hb5.setCell (Nat.le_refl _) _
  clear hnf hbx hb5 hne hne2 hvw
  generalize w4.heap.size = gc at *
  go_upto_region 11 with fail
  generalize (w5.setCell ⟨gc, 0, none⟩ (.func (.func 42) #[] #[.pointer (some ⟨w.heap.size, 0, none⟩), .pointer (some ⟨gc, 0, none⟩)])) = w6 at *
  obtain ⟨x0, x1, x2, x3, x4⟩ := hbx6.cells
  have c2 := hn6.cell
  have HN := Lib.hid hn6
  have HW6 := Lib.hid hvw6
  have HB6 : Hid (Below w.heap.size w w6) := Lib.hid (HB4.out.trans (hb6.mono hsz))
  clear c0 c1 hbx6 hb6 hn6 hsz hvw6
  go_wp2_with (first
    | (go_at_call 42
       refine (digC_any k hk1 hk2 t h _ w.heap.size gc (HTT.out.lower HB6.out) (HT.out.below HB6.out (Nat.le_refl _)) (check_zero HCZ.out).1 HW6.out HN.out zs HDG.out).mono ?_
       rintro _ w7 ⟨a7, c7, rfl, hn7, hb7⟩
       have HB7 : Hid (Below w.heap.size w w7) := Lib.hid (HB6.out.trans (hb7.mono HB6.out.size))
       have HN7 : Hid (NewB w w7 a7 zs.length c7 zs) := Lib.hid ⟨hn7.inb, fun ad hh => Nat.le_trans HB6.out.size (hn7.new ad hh), hn7.free⟩
       clear hb7 hn7))
  go_ret2
  exact ⟨a7, c7, rfl, HN7.out, HB7.out⟩
end Go.Proofs.YtlbiefddcimdgaaDoor

/- The program's digest of any tree by any width: bytes in new memory, or an error. -/
namespace Go.Proofs.YtlbiefddcimdgaaDoor
open Go.RowKit
set_option linter.unusedVariables false

/-- There is a digest. -/
def DigIs (x : Int) (p : Tr) (k : Nat) (zs : List Int) : Prop := x = k ∧ 1 ≤ k ∧ k ≤ 32 ∧ checkT p = 0 ∧ digT k p = some zs
theorem digest_is (x : Int) (p : Tr) (h : TH) (w : World) (ht : InTree w h p) (hT : TabLies w) {k : Nat} {zs : List Int} (hi : DigIs x p k zs) : Calls Tryd.prog 16 #[.int .i64 x, h.v] w (fun e w' => ∃ a c, e = .returned (.tuple #[.slice a k c, .nilIface]) ∧ InBytes w' a k c zs ∧ Below w.heap.size w w') := by
  obtain ⟨rfl, h1, h2, h3, h4⟩ := hi
  have hl := digT_len h2 h4
  refine (digest_ok k h1 h2 p h w ht hT h3 h4).mono ?_
  rintro _ w' ⟨a, c, rfl, hn, hb⟩
  rw [hl] at hn
  exact ⟨a, c, by rw [hl], hn.inb, hb⟩
end Go.Proofs.YtlbiefddcimdgaaDoor

/- The contracts of the program's Check and Bytes of proofs. -/
namespace Go.Proofs.YtlbiefddcimdgaaDoor
open Go.RowKit
set_option linter.unusedVariables false

/-- Check's boxes. -/
structure KX (w W : World) (h : TH) (sp : DH) : Prop where
  sb : RBox recD W 24 w.heap.size sp
  box : Box W 27 (w.heap.size + 1) h
  b : Below w.heap.size w W
section
variable {w W W' : World} {h : TH} {sp : DH}
theorem KX.below (x : KX w W h sp) (hb : Below W.heap.size W W') : KX w W' h sp := ⟨x.sb.below hb x.sb.lt, x.box.below hb x.box.lt, x.b.trans (hb.mono x.b.size)⟩
theorem KX.enter (w : World) (h : TH) (sp : DH) : KX w ((w.alloc (.cells #[.slice sp.ka sp.kn sp.kc, .slice sp.va sp.vn sp.vc, .bool sp.out] 24)).alloc (.cells #[.int .i64 h.k, .slice h.ka h.kn h.kc, .slice h.va h.vn h.vc, .slice h.da h.dn h.dc, .slice h.ta h.tn h.tc] 27)) h sp := by
  have s1 : (w.alloc (.cells #[.slice sp.ka sp.kn sp.kc, .slice sp.va sp.vn sp.vc, .bool sp.out] 24)).heap.size = w.heap.size + 1 := by simp
  have q1 : Below w.heap.size w (w.alloc (.cells #[.slice sp.ka sp.kn sp.kc, .slice sp.va sp.vn sp.vc, .bool sp.out] 24)) := (Below.refl _ _).alloc (Nat.le_refl _) _
  have x1 := DH.box w 24 sp
  have x2 := Box.new (w.alloc (.cells #[.slice sp.ka sp.kn sp.kc, .slice sp.va sp.vn sp.vc, .bool sp.out] 24)) 27 h
  rw [s1] at x2
  exact ⟨x1.below ((Below.refl _ _).alloc (Nat.le_refl _) _) x1.lt, x2, q1.alloc (by rw [s1]; omega) _⟩
end
theorem digest_no (k : Nat) (hk1 : 1 ≤ k) (hk2 : k ≤ 32) (p : Tr) (h : TH) (w : World) (ht : InTree w h p) (hT : TabLies w) (m : Nat) (hm : (checkT p = m ∧ m ≠ 0) ∨ (checkT p = 0 ∧ digT k p = none ∧ m = 3)) :
    Calls Tryd.prog 16 #[.int .i64 k, h.v] w (fun e w' => ∃ a c, e = .returned (.tuple #[.slice a 0 c, .iface 56 (.int .i64 (m : Nat))]) ∧ Below w.heap.size w w') := by
  rcases hm with ⟨rfl, h0⟩ | ⟨h0, h1, rfl⟩
  · exact (digest_err k hk1 hk2 p h w ht h0).mono fun e w' ⟨a, c, q1, q2⟩ => ⟨a, c, by rw [q1, codeV_pos h0], q2⟩
  · exact (digest_none k hk1 hk2 p h w ht hT h0 h1).mono fun e w' ⟨a, c, q1, q2⟩ => ⟨a, c, by rw [q1, codeV_pos (by omega)], q2⟩
theorem chk_six {k : Nat} {root f t zs : List Int} {o : Bool} {p : Tr} (hck : checkT p = 0) (hzs : digT k p = some zs) (h : (zs == root) = false) : checkR k root f t o p = (6, []) := by
  unfold checkR
  rw [if_neg (by rw [hck]; simp), hzs]
  simp only [ne_eq]
  rw [if_pos (by simpa using h)]
theorem chk_rest {k : Nat} {root f t zs : List Int} {o : Bool} {p : Tr} (hck : checkT p = 0) (hzs : digT k p = some zs) (h : (zs == root) = true) : checkR k root f t o p = if riseI (itemsT p) = false then (7, []) else tellR (scanI f t o [] false (itemsT p)) := by
  unfold checkR
  rw [if_neg (by rw [hck]; simp), hzs]
  simp only [ne_eq]
  rw [if_neg (by simpa using h)]
  unfold tellR
  rfl
theorem ChkTold.err (w w' : World) (m : Nat) (hm : m ≠ 0) (hb : Below w.heap.size w w') : ChkTold w (m, []) (.returned (.tuple #[.slice none 0 0, .iface 56 (.int .i64 (m : Nat))])) w' :=
  ⟨none, 0, 0, [], by rw [codeV_pos hm], OwnR.nil _ _ _ _, rfl, PV.nil _ _, hb⟩

set_option maxRecDepth 100000 in
set_option maxHeartbeats 4000000 in
theorem chk_any (x : Int) (hx1 : -9223372036854775808 ≤ x) (hx2 : x ≤ 9223372036854775807) (ra : Option Addr) (rn rc : Nat) (root : List Int) (sp : DH) (f t : List Int) (p : Tr) (h : TH) (w : World) (hro : InBytes w ra rn rc root) (hs : SpanIn w sp f t) (ht : InTree w h p) (hcn : countT p ≤ 500) (hT : TabLies w) : Calls Tryd.prog 11 #[.int .i64 x, .slice ra rn rc, sp.v, h.v] w (ChkTold w (checkX x root f t sp.out p)) := by
  unfold TH.v DH.v
  have HX := Lib.hid (KX.enter w h sp)
  have HT := Lib.hid ht
  have HTAB := Lib.hid hT
  have HSP := Lib.hid hs
  have HRO := Lib.hid hro
  have hrl := hro.len
  have hrm := Nat.le_trans hro.le hro.max
  simp only [maxLen] at hrm
  generalize hres : checkX x root f t sp.out p = res
  have HRES := Lib.hid hres
  clear ht hT hs hro hres
  by_cases hx : 1 ≤ x ∧ x ≤ 32 ∧ (root.length : Int) = x
  case neg =>
    have HE : Hid (res = (1, [])) := Lib.hid (by rw [← HRES.out, checkX_no hx])
    go_enter Tryd.func11, Tryd.ntmps11
    go_upto_region 1 with fail
    generalize ((w.alloc (.cells #[.slice sp.ka sp.kn sp.kc, .slice sp.va sp.vn sp.vc, .bool sp.out] 24)).alloc (.cells #[.int .i64 h.k, .slice h.ka h.kn h.kc, .slice h.va h.vn h.vc, .slice h.da h.dn h.dc, .slice h.ta h.tn h.tc] 27)) = w0 at *
    by_cases c1 : x < 1
    · clear hx hrl
      go_wp2_with fail
      go_ret2
      rw [HE.out]
      exact ChkTold.err _ _ 1 (by omega) HX.out.b
    · by_cases c2 : (32 : Int) < x
      · clear hx hrl
        go_wp2_with fail
        go_ret2
        rw [HE.out]
        exact ChkTold.err _ _ 1 (by omega) HX.out.b
      · have c3 : ((rn : Int) != x) = true := by simp; omega
        clear hx hrl
        go_wp2_with fail
        go_ret2
        rw [HE.out]
        exact ChkTold.err _ _ 1 (by omega) HX.out.b
  obtain ⟨k, hk⟩ : ∃ k : Nat, x = (k : Int) := ⟨x.toNat, by omega⟩
  have hk1 : 1 ≤ k := by omega
  have hk2 : k ≤ 32 := by omega
  have HRL : Hid (root.length = k) := Lib.hid (by omega)
  have c1 : ¬ (k : Int) < 1 := by omega
  have c2 : ¬ (32 : Int) < (k : Int) := by omega
  have c3 : ((rn : Int) != (k : Int)) = false := by simp; omega
  subst hk
  have HCR : Hid (checkR k root f t sp.out p = res) := Lib.hid (by rw [← HRES.out, checkX_ok hk1 hk2 HRL.out])
  clear hx hrl hx1 hx2 HRES
  go_enter Tryd.func11, Tryd.ntmps11
  go_upto_region 3 with fail
  generalize ((w.alloc (.cells #[.slice sp.ka sp.kn sp.kc, .slice sp.va sp.vn sp.vc, .bool sp.out] 24)).alloc (.cells #[.int .i64 h.k, .slice h.ka h.kn h.kc, .slice h.va h.vn h.vc, .slice h.da h.dn h.dc, .slice h.ta h.tn h.tc] 27)) = w0 at *
  obtain ⟨x0, x1, x2, x3, x4⟩ := HX.out.box.cells
  clear c1 c2 c3
  by_cases hno : checkT p = 0 ∧ ∃ zs, digT k p = some zs
  case neg =>
    obtain ⟨m, hm, hm0, hme⟩ : ∃ m, ((checkT p = m ∧ m ≠ 0) ∨ (checkT p = 0 ∧ digT k p = none ∧ m = 3)) ∧ m ≠ 0 ∧ checkR k root f t sp.out p = (m, []) := by
      by_cases hc : checkT p = 0
      · cases hd : digT k p with
        | none => exact ⟨3, .inr ⟨hc, rfl, rfl⟩, by omega, by unfold checkR; rw [if_neg (by rw [hc]; simp), hd]⟩
        | some zs => exact absurd ⟨hc, zs, hd⟩ hno
      · exact ⟨checkT p, .inl ⟨rfl, hc⟩, hc, by unfold checkR; rw [if_pos hc]⟩
    have HM := Lib.hid hm
    have HM0 := Lib.hid hm0
    have HME : Hid (res = (m, [])) := Lib.hid (by rw [← HCR.out, hme])
    clear hm hme hno hm0
    go_wp2_with (first
      | (go_at_call 16
         refine (digest_no k hk1 hk2 p h _ (HT.out.lower HX.out.b) (HTAB.out.below HX.out.b (Nat.le_refl _)) m HM.out).mono ?_
         rintro _ w1 ⟨a1, c1, rfl, hb1⟩
         have HX1 := Lib.hid (HX.out.below hb1)
         clear hb1 x0 x1 x2 x3 x4))
    go_ret2
    rw [HME.out]
    exact ChkTold.err _ _ m HM0.out HX1.out.b
  obtain ⟨hck, zs, hzs⟩ := hno
  have HCK := Lib.hid hck
  have HF := Lib.hid (check_zeroR hck).1
  have HDG : Hid (DigIs (k : Int) p k zs) := Lib.hid ⟨rfl, hk1, hk2, hck, hzs⟩
  have HC2 : Hid (checkT p = 0 ∧ digT k p = some zs) := Lib.hid ⟨hck, hzs⟩
  clear hck hzs
  cases heq : (zs == root) with
  | false =>
    have HEQ := Lib.hid heq
    have HE : Hid (res = (6, [])) := Lib.hid (by rw [← HCR.out, chk_six HC2.out.1 HC2.out.2 heq])
    clear heq
    go_wp2_with (first
      | (go_at_call 16
         refine (digest_is (k : Nat) p h _ (HT.out.lower HX.out.b) (HTAB.out.below HX.out.b (Nat.le_refl _)) HDG.out).mono ?_
         rintro _ w1 ⟨a1, c1, rfl, hi1, hb1⟩
         have HX1 := Lib.hid (HX.out.below hb1)
         have HI1 := Lib.hid hi1
         clear hb1 hi1 x0 x1 x2 x3 x4)
      | (go_at_call 27
         refine (equal_any zs root _ _ _ _ _ _ _ HI1.out (HRO.out.below HX1.out.b)).mono ?_
         rintro _ w9 ⟨rfl, hw9⟩
         rw [hw9]
         clear hw9
         rw [HEQ.out]))
    go_ret2
    rw [HE.out]
    exact ChkTold.err _ _ 6 (by omega) HX1.out.b
  | true =>
  have HEQ := Lib.hid heq
  have HC3 : Hid ((if riseI (itemsT p) = false then (7, []) else tellR (scanI f t sp.out [] false (itemsT p))) = res) := Lib.hid (by rw [← HCR.out, chk_rest HC2.out.1 HC2.out.2 heq])
  clear heq
  go_upto_region 8 with (first
    | (go_at_call 16
       refine (digest_is (k : Nat) p h _ (HT.out.lower HX.out.b) (HTAB.out.below HX.out.b (Nat.le_refl _)) HDG.out).mono ?_
       rintro _ w1 ⟨a1, c1, rfl, hi1, hb1⟩
       have HX1 := Lib.hid (HX.out.below hb1)
       have HI1 := Lib.hid hi1
       clear hb1 hi1 x0 x1 x2 x3 x4)
    | (go_at_call 27
       refine (equal_any zs root _ _ _ _ _ _ _ HI1.out (HRO.out.below HX1.out.b)).mono ?_
       rintro _ w9 ⟨rfl, hw9⟩
       rw [hw9]
       clear hw9
       rw [HEQ.out]))
  obtain ⟨y0, y1, y2, y3, y4⟩ := HX1.out.box.cells
  have HN5 : Hid ((listT p).length ≤ 500) := Lib.hid (Nat.le_trans (list_len p HF.out) hcn)
  have HKL := Lib.hid (list_keys HF.out)
  have hrw := rise_weave HF.out
  generalize (List.range (listT p).length).all (condN (listT p)) = ri at hrw
  cases ri with
  | false =>
    have HRI : Hid ((List.range (listT p).length).all (condN (listT p)) = false) := Lib.hid (by rw [← rise_weave HF.out, hrw])
    have HE : Hid (res = (7, [])) := Lib.hid (by rw [← HC3.out, if_pos hrw])
    clear hrw
    go_wp2_with (first
      | (go_at_call 28
         refine (list_any p h _ (HT.out.lower HX1.out.b) (by omega)).mono ?_
         rintro _ w2 ⟨v2, hs, rfl, ho2, hh2, -, hb2⟩
         obtain ⟨la, lc, hv2⟩ := ho2.sl
         have hh3 := hh2 HCK.out
         rw [hh3.1] at hv2
         subst hv2
         have HX2 := Lib.hid (HX1.out.below hb2)
         have HR2 : Hid (RT w2 w1.heap.size la (listT p).length lc hs (listT p)) := Lib.hid ⟨ho2, hh3.lower hb2, rfl⟩
         have HB2 := Lib.hid hb2
         have HH2 := Lib.hid hh3
         clear ho2 hh2 hh3 hb2 y0 y1 y2 y3 y4)
      | (go_at_call 29
         refine (asc8_any (listT p) hs w1.heap.size la _ lc _ HR2.out HN5.out).mono ?_
         rintro _ w3 ⟨rfl, hb3⟩
         have HX3 := Lib.hid (HX2.out.below hb3)
         have HR3 := Lib.hid (HR2.out.below hb3)
         have HB3 : Hid (Below w1.heap.size w1 w3) := Lib.hid (HB2.out.trans (hb3.mono HB2.out.size))
         rw [HRI.out]
         clear hb3))
    go_ret2
    rw [HE.out]
    exact ChkTold.err _ _ 7 (by omega) HX3.out.b
  | true =>
  have HRI : Hid ((List.range (listT p).length).all (condN (listT p)) = true) := Lib.hid (by rw [← rise_weave HF.out, hrw])
  have HC4 : Hid (tellR (scanI f t sp.out [] false (itemsT p)) = res) := Lib.hid (by rw [← HC3.out, if_neg (by rw [hrw]; simp)])
  clear hrw HC3
  go_upto_region 11 with (first
    | (go_at_call 28
       refine (list_any p h _ (HT.out.lower HX1.out.b) (by omega)).mono ?_
       rintro _ w2 ⟨v2, hs, rfl, ho2, hh2, -, hb2⟩
       obtain ⟨la, lc, hv2⟩ := ho2.sl
       have hh3 := hh2 HCK.out
       rw [hh3.1] at hv2
       subst hv2
       have HX2 := Lib.hid (HX1.out.below hb2)
       have HR2 : Hid (RT w2 w1.heap.size la (listT p).length lc hs (listT p)) := Lib.hid ⟨ho2, hh3.lower hb2, rfl⟩
       have HB2 := Lib.hid hb2
       have HH2 := Lib.hid hh3
       clear ho2 hh2 hh3 hb2 y0 y1 y2 y3 y4)
    | (go_at_call 29
       refine (asc8_any (listT p) hs w1.heap.size la _ lc _ HR2.out HN5.out).mono ?_
       rintro _ w3 ⟨rfl, hb3⟩
       have HX3 := Lib.hid (HX2.out.below hb3)
       have HR3 := Lib.hid (HR2.out.below hb3)
       have HB3 : Hid (Below w1.heap.size w1 w3) := Lib.hid (HB2.out.trans (hb3.mono HB2.out.size))
       rw [HRI.out]
       clear hb3))
  obtain ⟨z0, z1, z2, z3, z4⟩ := HX3.out.box.cells
  obtain ⟨u0, u1, u2⟩ := HX3.out.sb.three
  by_cases hcov : CovT f t sp.out p
  · have HE : Hid (res = (0, ((listT p).filter (takeB f t sp.out)).map kvT)) := Lib.hid (by rw [← HC4.out, scan_cov HF.out hcov]; rfl)
    obtain ⟨BB, hbb, hbt⟩ : ∃ BB : Bool, (∀ b : Bool, (b = true ↔ CovT f t sp.out p) → b = BB) ∧ BB = true := ⟨true, fun b hb => hb.2 hcov, rfl⟩
    have HBB := Lib.hid hbb
    clear hbb hcov
    go_upto_region 13 with (first
      | (go_at_call 30
         refine (covers_any p h hs w1.heap.size la _ lc sp f t _ (HT.out.lower HX3.out.b) HF.out hcn HR3.out (HSP.out.below HX3.out.b)).mono ?_
         rintro _ w4 ⟨b4, rfl, hiff, hb4⟩
         obtain rfl : b4 = BB := HBB.out b4 hiff
         have HX4 := Lib.hid (HX3.out.below hb4)
         have HR4 := Lib.hid (HR3.out.below hb4)
         have HB4 : Hid (Below w1.heap.size w1 w4) := Lib.hid (HB3.out.trans (hb4.mono HB3.out.size))
         clear hb4 hiff z0 z1 z2 z3 z4 u0 u1 u2))
    obtain ⟨z0, z1, z2⟩ := HX4.out.sb.three
    go_wp2_with (first
      | (go_at_call 31
         refine (shown8_any w1 (listT p) hs la _ lc sp f t _ HB4.out HR4.out.o HH2.out rfl HN5.out (HSP.out.below HX1.out.b) HKL.out).mono ?_
         rintro _ w5 ⟨ra5, r5, rc5, rs5, rfl, ho5, hr5, hp5, hb5⟩
         have HO5 := Lib.hid (And.intro ho5 (And.intro hr5 (And.intro hp5 hb5)))
         clear ho5 hr5 hp5 hb5 z0 z1 z2))
    go_ret2
    rw [HE.out]
    obtain ⟨q1, q2, q3, q4⟩ := HO5.out
    have hle := HX1.out.b.size
    exact ⟨ra5, r5, rc5, rs5, rfl, q1.weak hle, q2, q3.weak hle, HX1.out.b.trans (q4.mono hle)⟩
  · have HE : Hid (res = (8, [])) := Lib.hid (by rw [← HC4.out, scan_not HF.out hcov]; rfl)
    obtain ⟨BB, hbb, hbt⟩ : ∃ BB : Bool, (∀ b : Bool, (b = true ↔ CovT f t sp.out p) → b = BB) ∧ BB = false := ⟨false, fun b hb => (by cases b with | false => rfl | true => exact absurd (hb.1 rfl) hcov), rfl⟩
    have HBB := Lib.hid hbb
    clear hbb hcov
    go_wp2_with (first
      | (go_at_call 30
         refine (covers_any p h hs w1.heap.size la _ lc sp f t _ (HT.out.lower HX3.out.b) HF.out hcn HR3.out (HSP.out.below HX3.out.b)).mono ?_
         rintro _ w4 ⟨b4, rfl, hiff, hb4⟩
         obtain rfl : b4 = BB := HBB.out b4 hiff
         have HX4 := Lib.hid (HX3.out.below hb4)
         have HR4 := Lib.hid (HR3.out.below hb4)
         have HB4 : Hid (Below w1.heap.size w1 w4) := Lib.hid (HB3.out.trans (hb4.mono HB3.out.size))
         clear hb4 hiff z0 z1 z2 z3 z4 u0 u1 u2))
    go_ret2
    rw [HE.out]
    exact ChkTold.err _ _ 8 (by omega) HX4.out.b

end Go.Proofs.YtlbiefddcimdgaaDoor

/- The document's measure of a tree: has it few enough parts? -/
namespace Go.Proofs.YtlbiefddcimdgaaDoor
open Go.RowKit
set_option linter.unusedVariables false

/-- A number from -1 to 500; where it is not below 0, the tree is small. -/
def LightPost (w : World) (t : Tr) (left : Int) (e : Ending) (w' : World) : Prop :=
  ∃ r : Int, e = .returned (.int .i64 r) ∧ -1 ≤ r ∧ r ≤ 500 ∧ (0 ≤ r → LightOK t ∧ (countT t : Int) = left - r) ∧ Below w.heap.size w w'

end Go.Proofs.YtlbiefddcimdgaaDoor

/- The empty tree. No program is named here. -/
namespace Go.Proofs.YtlbiefddcimdgaaDoor
open Go.RowKit
set_option linter.unusedVariables false

/-- The empty tree, and its head. -/
def tNil : Tr := .mk 0 [] [] [] []
def hNil : TH := ⟨0, none, 0, 0, none, 0, 0, none, 0, 0, none, 0, 0⟩
theorem in_nil (w : World) : InBytes w none 0 0 [] := ⟨rfl, (fun z hz => by cases hz), Nat.le_refl _, by simp [maxLen], fun _ => rfl, fun h => by omega⟩
theorem inTree_nil (w : World) : InTree w hNil tNil :=
  .mk hNil tNil (fun _ => hNil) rfl (by decide) (by decide) (in_nil w) (in_nil w) (in_nil w) ⟨Nat.le_refl _, by simp [maxLen, hNil], fun _ => rfl, fun h => absurd h (by decide)⟩ rfl (fun i hi => absurd hi (by simp [tNil, Tr.kids]))
end Go.Proofs.YtlbiefddcimdgaaDoor

/- Trees that lie in new blocks alone; what the program's proofs tell, as their contracts say it. -/
namespace Go.Proofs.YtlbiefddcimdgaaDoor
open Go.RowKit
set_option linter.unusedVariables false

/-- A tree in the blocks from lo up to hi, and nowhere else. -/
def FreshT (lo hi : Nat) (w : World) (h : TH) (c : Tr) : Prop := ∀ W : World, hi ≤ W.heap.size → (∀ j, lo ≤ j → j < hi → W.heap[j]? = w.heap[j]?) → InTree W h c
section
variable {lo hi : Nat} {w w' : World} {h : TH} {c : Tr}
theorem FreshT.self (f : FreshT lo hi w h c) (hs : hi ≤ w.heap.size) : InTree w h c := f w hs fun _ _ _ => rfl
theorem FreshT.below (f : FreshT lo hi w h c) (hb : Below w.heap.size w w') (hs : hi ≤ w.heap.size) : FreshT lo hi w' h c := fun W h1 h2 => f W h1 fun j hl hh => (h2 j hl hh).trans (hb.block j (by omega))
theorem FreshT.wide {lo' hi' : Nat} (f : FreshT lo hi w h c) (h1 : lo' ≤ lo) (h2 : hi ≤ hi') : FreshT lo' hi' w h c := fun W q1 q2 => f W (Nat.le_trans h2 q1) fun j hl hh => q2 j (by omega) (by omega)
theorem FreshT.agree (f : FreshT lo hi w h c) (h1 : ∀ j, lo ≤ j → j < hi → w'.heap[j]? = w.heap[j]?) : FreshT lo hi w' h c := fun W q1 q2 => f W q1 fun j hl hh => (q2 j hl hh).trans (h1 j hl hh)
end
/-- Prove's proof. -/
def ProveOk (w : World) (c : Tr) (e : Ending) (w' : World) : Prop := ∃ h', e = .returned (.tuple #[h'.v, .nilIface]) ∧ FreshT w.heap.size w'.heap.size w' h' c ∧ Below w.heap.size w w'
/-- Prove's error: no tree, and a code. -/
def ProveErr (w : World) (n : Nat) (e : Ending) (w' : World) : Prop := ∃ h', e = .returned (.tuple #[h'.v, codeV n]) ∧ InTree w' h' tNil ∧ Below w.heap.size w w'
end Go.Proofs.YtlbiefddcimdgaaDoor

/- A partial tree does not lie in a box; leaves. No program is named here. -/
namespace Go.Proofs.YtlbiefddcimdgaaDoor
open Go.RowKit
set_option linter.unusedVariables false

/-- A part that its digest alone tells. -/
theorem inTree_leaf {w : World} {k : Int} (hk1 : -9223372036854775808 ≤ k) (hk2 : k ≤ 9223372036854775807) {da : Option Addr} {dn dc : Nat} {dig : List Int} (h : InBytes w da dn dc dig) : InTree w ⟨k, none, 0, 0, none, 0, 0, da, dn, dc, none, 0, 0⟩ (.mk k [] [] dig []) :=
  .mk _ _ (fun _ => hNil) rfl hk1 hk2 (none_in w) (none_in w) h ⟨Nat.le_refl _, by simp [maxLen], fun _ => rfl, fun h => absurd h (by simp)⟩ rfl (fun i hi => absurd hi (by simp [Tr.kids]))
end Go.Proofs.YtlbiefddcimdgaaDoor
