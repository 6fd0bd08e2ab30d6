/- Cuts as parts, dark nodes by the list of nodes, how many parts a head takes. No program is named here. Rows of trees: the cells of the i-th; their heads. No program is named here. The contract of the program's list of a tree's cuts. What the rows' condition on the two listed tables gives the walks; a start that meets it. The contract of the program's Count. What lies there in a call of the closure of the program's Cut. The contract of the closure of the program's Cut, of what has no levels. The contract of the closure of the program's Cut, of a node. A row of trees of one's own is trees side by side. The program's digest of any tree by any width: bytes in new memory, or an error. What Cut tells of grown trees, and of arguments out of bounds. The contract of the program's Cut. What the digest of a part tells, by cases; Fits by the part's own number. The contract of bytes.Equal. What lies there in a call of the closure of the program's filled. The contract of the closure of the program's filled: nothing, a cut. A region that draws its order and whose last operation waits for all others: what the reads lean on need not hold behind that last one. No program is named here. -/
import Derived.Test.YtkcmohmfejmfoaaGreatDoorMAD
import Derived.Test.YtkcmohmfejmfoaaGreatDoorMAA
import Derived.Test.YtkcmohmfejmfoaaGreatDoorMAB
import Derived.Test.YtkcmohmfejmfoaaGreatDoorRows
import Derived.ProofKit
import Derived.LaidMore
import Derived.OpenShut
import Derived.Stop.Joined
import Derived.Test.YtkcmohmfejmfoaaGreatDoorMAC
import Derived.Laws.EntriesVeiled
/- Cuts as parts, dark nodes by the list of nodes, how many parts a head takes. No program is named here. -/
namespace Go.Proofs.YtkcmohmfejmfoaaGreatDoor
open Go.RowKit
set_option linter.unusedVariables false

/-- The cuts of a tree, as parts. -/
def cutNT (t : Tr) : List Tr := t.fold fun t rs => (if t.k = 3 then [t] else []) ++ rs.flatten
theorem cutNT_eq (t : Tr) : cutNT t = (if t.k = 3 then [t] else []) ++ (t.kids.map cutNT).flatten := by
  unfold cutNT
  rw [Tr.fold_eq]
theorem cutNT_len (t : Tr) : (cutNT t).length ≤ countT t := by
  induction t using Tr.ind with
  | h t ih =>
  rw [cutNT_eq, countT_eq, List.length_append]
  have key : ∀ l : List Tr, (∀ x ∈ l, (cutNT x).length ≤ countT x) → ((l.map cutNT).flatten).length ≤ (l.map countT).sum := by
    intro l
    induction l with
    | nil => intro _; simp
    | cons a l ihl =>
      intro h
      have q1 := h a (by simp)
      have q2 := ihl (fun x hx => h x (by simp [hx]))
      simp only [List.map_cons, List.flatten_cons, List.length_append, List.sum_cons]
      omega
  have q := key t.kids ih
  have q2 : (if t.k = 3 then [t] else []).length ≤ 1 := by split <;> simp
  omega
theorem cutN_take (l : List Tr) (i : Nat) (hi : i < l.length) : ((l.take (i + 1)).map cutNT).flatten = ((l.take i).map cutNT).flatten ++ cutNT l[i] := by
  rw [List.take_add_one, List.getElem?_eq_getElem hi, List.map_append, List.flatten_append]
  simp only [Option.toList, List.map_cons, List.map_nil, List.flatten_cons, List.flatten_nil, List.append_nil]
theorem cutN_bound (t : Tr) (i : Nat) (hi : i < t.kids.length) : ((t.kids.take i).map cutNT).flatten.length + countT t.kids[i] < countT t := by
  have key : ∀ l : List Tr, ((l.map cutNT).flatten).length ≤ (l.map countT).sum := by
    intro l
    induction l with
    | nil => simp
    | cons a l ihl =>
      have q1 := cutNT_len a
      simp only [List.map_cons, List.flatten_cons, List.length_append, List.sum_cons]
      omega
  have h1 := key (t.kids.take i)
  have e : t.kids = t.kids.take i ++ (t.kids[i] :: t.kids.drop (i + 1)) := by rw [← List.drop_eq_getElem_cons hi, List.take_append_drop]
  have h2 : (t.kids.map countT).sum = ((t.kids.take i).map countT ++ (countT t.kids[i] :: (t.kids.drop (i + 1)).map countT)).sum := by
    conv => lhs; rw [e, List.map_append, List.map_cons]
  rw [List.sum_append, List.sum_cons] at h2
  have h3 := countT_eq t
  omega
theorem cutN_P : ∀ p : PT, (cutNT p.tr).map Tr.dig = cutsP p := by
  intro p
  induction p with
  | nil =>
    rw [cutNT_eq]
    rfl
  | cut d =>
    rw [cutNT_eq]
    rfl
  | shown l key v r ihl ihr =>
    rw [cutNT_eq]
    show List.map Tr.dig ([] ++ [cutNT l.tr, cutNT r.tr].flatten) = cutsP l ++ cutsP r
    rw [← ihl, ← ihr]
    simp
  | dark l key d r ihl ihr =>
    rw [cutNT_eq]
    show List.map Tr.dig ([] ++ [cutNT l.tr, cutNT r.tr].flatten) = cutsP l ++ cutsP r
    rw [← ihl, ← ihr]
    simp
theorem cutN_dig {t : Tr} (hf : formedT t = true) : (cutNT t).map Tr.dig = cutsT t := by
  obtain ⟨p, rfl⟩ := PT.of t hf
  rw [cutN_P, cutsT_P]
theorem cutN_len {t : Tr} (hf : formedT t = true) : (cutNT t).length = (cutsT t).length := by
  rw [← cutN_dig hf, List.length_map]
/-- A dark node is in the list. -/
theorem dark_list : ∀ p : PT, (listT p.tr).any (fun n => n.k == 2) = darkP p := by
  intro p
  induction p with
  | nil => rw [listT_0 rfl]; rfl
  | cut d => rw [listT_0 rfl]; rfl
  | shown l key v r ihl ihr =>
    rw [listT_2 (t := (PT.shown l key v r).tr) rfl]
    show (listT l.tr ++ ((PT.shown l key v r).tr :: listT r.tr)).any (fun n => n.k == 2) = (darkP l || darkP r)
    rw [List.any_append, List.any_cons, ihl, ihr]
    rfl
  | dark l key d r ihl ihr =>
    rw [listT_2 (t := (PT.dark l key d r).tr) rfl]
    show (listT l.tr ++ ((PT.dark l key d r).tr :: listT r.tr)).any (fun n => n.k == 2) = true
    rw [List.any_append, List.any_cons]
    simp [PT.tr, Tr.k]
theorem dark_some {t : Tr} (hf : formedT t = true) : (listT t).any (fun n => n.k == 2) = darkP (toP t) := by
  obtain ⟨p, rfl⟩ := PT.of t hf
  rw [dark_list, toP_tr]
/-- A head takes as many parts as it has cuts. -/
theorem fill_drop : ∀ (p : PT) (ps : List AT), darkP p = false → (fillA p ps).2 = ps.drop (cutsP p).length := by
  intro p
  induction p with
  | nil => intro ps _; rfl
  | cut d =>
    intro ps _
    cases ps with
    | nil => rfl
    | cons a ps => rfl
  | shown l key v r ihl ihr =>
    intro ps h
    rw [darkP, Bool.or_eq_false_iff] at h
    rw [fillA, cutsP]
    show (fillA r (fillA l ps).2).2 = _
    rw [ihl ps h.1, ihr _ h.2, List.drop_drop, List.length_append]
  | dark l key d r ihl ihr =>
    intro ps h
    cases h
end Go.Proofs.YtkcmohmfejmfoaaGreatDoor

/- Rows of trees: the cells of the i-th; their heads. No program is named here. -/
namespace Go.Proofs.YtkcmohmfejmfoaaGreatDoor
open Go.RowKit
set_option linter.unusedVariables false

/-- The cells of the i-th tree of a row. -/
theorem OwnT.at {W : World} {base : Nat} {ty : TypeId} {a : Option Addr} {n c : Nat} {hs : List TH} (h : OwnT W base ty (.slice a n c) hs) (hl : hs.length = n) (i : Nat) (hi : i < hs.length) :
    ∃ g, a = some ⟨g, 0, none⟩ ∧ W.cell? ⟨g, i * 5, none⟩ = some (.int .i64 (hs[i]).k) ∧ W.cell? ⟨g, i * 5 + 1, none⟩ = some (.slice (hs[i]).ka (hs[i]).kn (hs[i]).kc) ∧ W.cell? ⟨g, i * 5 + 2, none⟩ = some (.slice (hs[i]).va (hs[i]).vn (hs[i]).vc) ∧ W.cell? ⟨g, i * 5 + 3, none⟩ = some (.slice (hs[i]).da (hs[i]).dn (hs[i]).dc) ∧ W.cell? ⟨g, i * 5 + 4, none⟩ = some (.slice (hs[i]).ta (hs[i]).tn (hs[i]).tc) := by
  rcases h.form with ⟨_, h2⟩ | ⟨g, c', h1, _, _, _, _, hc⟩
  · rw [h2] at hi
    simp at hi
  · injection h1 with h1
    refine ⟨g, h1, ?_, ?_, ?_, ?_, ?_⟩
    · exact hc _ _ (cellsT_get hs i 0 hi (by omega))
    · exact hc _ _ (cellsT_get hs i 1 hi (by omega))
    · exact hc _ _ (cellsT_get hs i 2 hi (by omega))
    · exact hc _ _ (cellsT_get hs i 3 hi (by omega))
    · exact hc _ _ (cellsT_get hs i 4 hi (by omega))
theorem Heads.lower {w w' : World} {hs : List TH} {ts : List Tr} (h : Heads w hs ts) (hb : Below w.heap.size w w') : Heads w' hs ts := ⟨h.1, fun i h1 h2 => (h.2 i h1 h2).lower hb⟩
end Go.Proofs.YtkcmohmfejmfoaaGreatDoor

/- The contract of the program's list of a tree's cuts. -/
namespace Go.Proofs.YtkcmohmfejmfoaaGreatDoor
open Go.RowKit
set_option linter.unusedVariables false

/-- The world inside the closure of cutsOf: u is what the variable holds, v the row. -/
structure LNc (wb w W : World) (gc gn : Nat) (h : TH) (v0 u v : Value) (hs : List TH) : Prop where
  box : Box W 25 w.heap.size h
  clo : Var1 W 80 gc (.func (.func 42) #[] #[.pointer (some ⟨gn, 0, none⟩), .pointer (some ⟨gc, 0, none⟩)])
  var : Var1 W 23 gn u
  own : OwnT W wb.heap.size 25 v hs
  b : Below wb.heap.size wb W
  nb : some w.heap.size ≠ v.ownBlock
  ge : wb.heap.size ≤ gn
  k : Keeps w W gn v0 v
section
variable {wb w W W' : World} {gc gn : Nat} {h : TH} {v0 u v u' v' : Value} {hs hs' : List TH}
theorem LNc.step (d : LNc wb w W gc gn h v0 u v hs) (hvar : Var1 W' 23 gn u') (hown : OwnT W' wb.heap.size 25 v' hs') (hk : Keeps W W' gn v v') : LNc wb w W' gc gn h v0 u' v' hs' :=
  ⟨(hk.block _ d.box.lt (d.box.neV d.var (by decide)) d.nb).trans d.box, (hk.block _ d.clo.lt (d.clo.ne d.var (by decide)) (d.own.neV d.clo (by decide))).trans d.clo, hvar, hown,
    hk.below d.b d.b.size d.ge (fun k e => (d.own.lt k e).1), by
      rcases hk.ob with e | ⟨g, e, hg⟩
      · rw [e]; exact d.nb
      · rw [e]
        intro q
        injection q with q
        have := d.box.lt
        omega, d.ge, d.k.trans hk⟩
theorem LNc.below (d : LNc wb w W gc gn h v0 u v hs) (hb : Below W.heap.size W W') : LNc wb w W' gc gn h v0 u v hs :=
  d.step (d.var.below hb d.var.lt) (d.own.keep hb) (Keeps.of_below gn v hb)
theorem LNc.drew (d : LNc wb w W gc gn h v0 u v hs) : LNc wb w W.drew gc gn h v0 u v hs := d.below (Below.refl _ _).drew
/-- The row was written, or has grown. -/
theorem LNc.grown (d : LNc wb w W gc gn h v0 u v hs) (hown : OwnT W' wb.heap.size 25 v' hs') (hg : W.grownBy W' v.ownBlock) (ho : v'.ownBlock = v.ownBlock ∨ v'.ownBlock = some W.heap.size) : LNc wb w W' gc gn h v0 u v' hs' :=
  d.step (d.var.grown hg (d.own.neV d.var (by decide))) hown (Keeps.of_grown gn hg ho)
/-- The variable was written. -/
theorem LNc.put (d : LNc wb w W gc gn h v0 u v hs) (x : Value) : LNc wb w (W.setCell ⟨gn, 0, none⟩ x) gc gn h v0 x v hs :=
  d.step (d.var.set x) (d.own.far (p := ⟨gn, 0, none⟩) (d.own.neV d.var (by decide)) x) (Keeps.of_set W gn v x)
end
theorem LNc.new {wb w : World} {gc gn : Nat} {v : Value} {hs : List TH} (h : TH) (hb : Below wb.heap.size wb w) (hge : wb.heap.size ≤ gn) (hc : Var1 w 80 gc (.func (.func 42) #[] #[.pointer (some ⟨gn, 0, none⟩), .pointer (some ⟨gc, 0, none⟩)])) (hv : Var1 w 23 gn v) (ho : OwnT w wb.heap.size 25 v hs) : LNc wb w (w.alloc (.cells #[.int .i64 h.k, .slice h.ka h.kn h.kc, .slice h.va h.vn h.vc, .slice h.da h.dn h.dc, .slice h.ta h.tn h.tc] 25)) gc gn h v v v hs :=
  have h1 : Below w.heap.size w (w.alloc (.cells #[.int .i64 h.k, .slice h.ka h.kn h.kc, .slice h.va h.vn h.vc, .slice h.da h.dn h.dc, .slice h.ta h.tn h.tc] 25)) := (Below.refl _ _).alloc (Nat.le_refl _) _
  ⟨Box.new w _ h, hc.below h1 hc.lt, hv.below h1 hv.lt, ho.keep h1, hb.trans (h1.mono hb.size), fun q => by have := (ho.lt _ q.symm).2; omega, hge, Keeps.of_below gn v h1⟩
/-- What cutsOf tells. -/
def CutsOf (w : World) (t : Tr) (e : Ending) (w' : World) : Prop := ∃ v hs, e = .returned v ∧ OwnT w' w.heap.size 25 v hs ∧ Heads w hs (cutNT t) ∧ Below w.heap.size w w'
/-- What the closure of cutsOf does. -/
def CutsOfPost (wb w : World) (gn : Nat) (v : Value) (hs : List TH) (t : Tr) (e : Ending) (w' : World) : Prop := ∃ v' hs', e = .returned (.tuple #[]) ∧ Var1 w' 23 gn v' ∧ OwnT w' wb.heap.size 25 v' (hs ++ hs') ∧ Heads wb hs' (cutNT t) ∧ Keeps w w' gn v v'
set_option maxRecDepth 100000 in
set_option maxHeartbeats 4000000 in
theorem cutsC_any (wb : World) : ∀ (t : Tr) (h : TH) (w : World) (gc gn : Nat) (v : Value) (hs : List TH), InTree wb h t → hs.length + countT t ≤ 1000 → Below wb.heap.size wb w → wb.heap.size ≤ gn →
    Var1 w 80 gc (.func (.func 42) #[] #[.pointer (some ⟨gn, 0, none⟩), .pointer (some ⟨gc, 0, none⟩)]) → Var1 w 23 gn v → OwnT w wb.heap.size 25 v hs →
    Calls Tryz.prog 42 #[h.v, .pointer (some ⟨gn, 0, none⟩), .pointer (some ⟨gc, 0, none⟩)] w (CutsOfPost wb w gn v hs t) := by
  intro t
  induction t using Tr.ind with
  | h t ih =>
  intro h w gc gn v hs ht hcn hbw hge hc hv ho
  unfold TH.v
  obtain ⟨H, hp⟩ := ht.parts
  have htl := hp.len
  have htm := Nat.le_trans hp.sl.le hp.sl.max
  have htc := hp.sl.le
  simp only [maxLen] at htm
  have hcp : 1 ≤ countT t := by rw [countT_eq]; omega
  have HP := Lib.hid hp
  have HTT := Lib.hid ht
  have IH := Lib.hid ih
  have hd0 := LNc.new h hbw hge hc hv ho
  obtain ⟨a2, c2, hv2⟩ := ho.sl
  have HD0 := Lib.hid hd0
  obtain ⟨x0, x1, x2, x3, x4⟩ := hd0.box.cells
  clear hp ht ih hbw hge hc hv ho hd0
  obtain ⟨ti, hti, htz⟩ := Option.map_eq_some_iff.1 infoTree2
  simp only [Prod.mk.injEq] at htz
  obtain ⟨hz0, hz1, hz2⟩ := htz
  have HEN : Hid (cutNT t = (if h.k = 3 then [t] else []) ++ (t.kids.map cutNT).flatten) := Lib.hid (by rw [cutNT_eq, HP.out.hk])
  have HCT := Lib.hid (cutN_bound t)
  go_enter Tryz.func42, Tryz.ntmps42
  go_upto_if 8 with fail
  generalize (w.alloc (.cells #[.int .i64 h.k, .slice h.ka h.kn h.kc, .slice h.va h.vn h.vc, .slice h.da h.dn h.dc, .slice h.ta h.tn h.tc] 25)) = w0 at *
  clear x0 x1 x2 x3 x4
  go_cut [] (fun wx => ∃ v2 hs0, LNc wb w wx gc gn h v v2 v2 (hs ++ hs0) ∧ Heads wb hs0 (if h.k = 3 then [t] else []))
  case first =>
    by_cases hk0 : h.k = 3
    · have HK0 : Hid ((if h.k = 3 then [t] else []) = [t]) := Lib.hid (if_pos hk0)
      have hb0 : (h.k == 3) = true := by rw [hk0]; rfl
      generalize hn2 : hs.length = n2 at hv2 hcn
      have HN2 := Lib.hid hn2
      subst hv2
      obtain ⟨x0, x1, x2, x3, x4⟩ := HD0.out.box.cells
      clear hn2 hk0
      go_upto_region 2 with fail
      clear x0 x1 x2 x3 x4 hb0
      have hba : Below w0.drew.heap.size w0.drew (w0.drew.alloc (.cells #[.int .i64 0, .slice none 0 0, .slice none 0 0, .slice none 0 0, .slice none 0 0] 25)) := (Below.refl _ _).alloc (Nat.le_refl _) _
      have HDA := Lib.hid (HD0.out.drew.below hba)
      have HZB : Hid (Box (w0.drew.alloc (.cells #[.int .i64 0, .slice none 0 0, .slice none 0 0, .slice none 0 0, .slice none 0 0] 25)) 25 w0.heap.size hZ) := Lib.hid (Box.new w0.drew 25 hZ)
      have cv2 := HD0.out.var.cell
      have cva : (w0.alloc (.cells #[.int .i64 0, .slice none 0 0, .slice none 0 0, .slice none 0 0, .slice none 0 0] 25)).cell? ⟨gn, 0, none⟩ = some (.slice a2 n2 c2) := HDA.out.var.cell
      have hlt2 : (n2 : Int) < (n2 : Int) + 1 := by omega
      clear hba
      refine wp_region_held_drew (S := (fun W => W.cell? ⟨w.heap.size, 0, none⟩ = some (.int .i64 h.k) ∧ W.cell? ⟨w.heap.size, 1, none⟩ = some (.slice h.ka h.kn h.kc) ∧ W.cell? ⟨w.heap.size, 2, none⟩ = some (.slice h.va h.vn h.vc) ∧ W.cell? ⟨w.heap.size, 3, none⟩ = some (.slice h.da h.dn h.dc) ∧ W.cell? ⟨w.heap.size, 4, none⟩ = some (.slice h.ta h.tn h.tc))) (by kernel_rfl) HD0.out.drew.box.cells (fun hHeld => ?_)
      refine take_w (i := 1) (oi := ?oZ40) (v := ?vZ40) ?hiZ40 (by kernel_rfl) (by kernel_rfl) (by kernel_rfl) ?hQZ40 ?hwZ40 ?hyZ40 (by assumption) ?restZ40
      case hiZ40 => (simp only [List.getElem?_toArray, List.getElem?_cons_succ, List.getElem?_cons_zero] <;> rfl)
      case hQZ40 => exact (fun _ _ _ h => h)
      case hwZ40 => rfl
      case hyZ40 => (intro w hSw; (try dsimp only at hSw); go_simp; try with_reducible rfl)
      (try simp only [Act.put, List.setIfInBounds_toArray, List.set_cons_zero, List.set_cons_succ])
      refine wpAnyH_ready (rs := [0, 3]) (by kernel_rfl) (by simp) ?_
      refine AllReadyH.cons (o := ?oZ41) ?hiZ41 (fun K hK => ?stZ41) (AllReadyH.cons (o := ?oZ42) ?hiZ42 (fun K hK => ?stZ42) AllReadyH.nil)
      case hiZ41 => (simp only [List.getElem?_toArray, List.getElem?_cons_zero] <;> rfl)
      case hiZ42 => (simp only [List.getElem?_toArray, List.getElem?_cons_succ, List.getElem?_cons_zero] <;> rfl)
      case stZ41 =>
        go_simp
        refine hK.out _ _ ?_ (fun hHeld => ?_)
        · (first | exact (HD4.out.put (.slice (some ⟨g3, 0, none⟩) (n2 + 1) c3)).box.cells | exact HD5.out.box.cells | exact HD4.out.box.cells | exact (HD3.out.put (.slice (some ⟨g3, 0, none⟩) (n2 + 1) c3)).box.cells | exact HD3.out.box.cells | exact HDA.out.box.cells | exact HD0.out.drew.box.cells)
        clear hK K
        (try simp only [Act.put, List.setIfInBounds_toArray, List.set_cons_zero, List.set_cons_succ])
        refine take_w (i := 2) (oi := ?oZ43) (v := ?vZ43) ?hiZ43 (by kernel_rfl) (by kernel_rfl) (by kernel_rfl) ?hQZ43 ?hwZ43 ?hyZ43 (by assumption) ?restZ43
        case hiZ43 => (simp only [List.getElem?_toArray, List.getElem?_cons_succ, List.getElem?_cons_zero] <;> rfl)
        case hQZ43 => exact (fun _ _ _ h => h)
        case hwZ43 => rfl
        case hyZ43 => (intro w hSw; (try dsimp only at hSw); go_simp; try with_reducible rfl)
        (try simp only [Act.put, List.setIfInBounds_toArray, List.set_cons_zero, List.set_cons_succ])
        refine wpAnyH_ready (rs := [3]) (by kernel_rfl) (by simp) ?_
        refine AllReadyH.cons (o := ?oZ44) ?hiZ44 (fun K hK => ?stZ44) AllReadyH.nil
        case hiZ44 => (simp only [List.getElem?_toArray, List.getElem?_cons_succ, List.getElem?_cons_zero] <;> rfl)
        go_simp
        refine hK.out _ _ ?_ (fun hHeld => ?_)
        · (first | exact (HD4.out.put (.slice (some ⟨g3, 0, none⟩) (n2 + 1) c3)).box.cells | exact HD5.out.box.cells | exact HD4.out.box.cells | exact (HD3.out.put (.slice (some ⟨g3, 0, none⟩) (n2 + 1) c3)).box.cells | exact HD3.out.box.cells | exact HDA.out.box.cells | exact HD0.out.drew.box.cells)
        clear hK K
        (try simp only [Act.put, List.setIfInBounds_toArray, List.set_cons_zero, List.set_cons_succ])
        refine wpAnyH_ready (rs := [4]) (by kernel_rfl) (by simp) ?_
        refine AllReadyH.cons (o := ?oZ45) ?hiZ45 (fun K hK => ?stZ45) AllReadyH.nil
        case hiZ45 => (simp only [List.getElem?_toArray, List.getElem?_cons_succ, List.getElem?_cons_zero] <;> rfl)
        refine step_append_trees _ rfl (.tmp 9) (.tmp 12) 23 rfl wb.heap.size 25 ti _ 104 Tryz.underlying23 hti hz0 hz1 hz2 rfl (.slice a2 n2 c2) hs rfl HDA.out.own w0.heap.size 1 [hZ] rfl HZB.out.row (by rw [HN2.out]; simp only [List.length_cons, List.length_nil]; omega) (by omega) HDA.out.b.size ?_
        intro v3 w3 ho3 hg3 hob3
        have hl3 : (hs ++ [hZ]).length = n2 + 1 := by rw [List.length_append, HN2.out]; rfl
        rcases ho3.form with ⟨_, q1⟩ | ⟨g3, c3, q1, -, -, -, -, -⟩
        · exfalso
          rw [q1] at hl3
          simp at hl3
        rw [hl3] at q1
        subst q1
        clear hl3
        have hd3 := HDA.out.grown ho3 hg3 hob3
        have HD3 := Lib.hid hd3
        have cn3 := hd3.var.cell
        have cf3 := hd3.var.frozen 0
        clear ho3 hg3 hob3 hd3
        refine hK.out _ _ ?_ (fun hHeld => ?_)
        · (first | exact (HD4.out.put (.slice (some ⟨g3, 0, none⟩) (n2 + 1) c3)).box.cells | exact HD5.out.box.cells | exact HD4.out.box.cells | exact (HD3.out.put (.slice (some ⟨g3, 0, none⟩) (n2 + 1) c3)).box.cells | exact HD3.out.box.cells | exact HDA.out.box.cells | exact HD0.out.drew.box.cells)
        clear hK K
        (try simp only [Act.put, List.setIfInBounds_toArray, List.set_cons_zero, List.set_cons_succ])
        refine take_w (i := 5) (oi := ?oZ46) (v := ?vZ46) ?hiZ46 (by kernel_rfl) (by kernel_rfl) (by kernel_rfl) ?hQZ46 ?hwZ46 ?hyZ46 (by assumption) ?restZ46
        case hiZ46 => (simp only [List.getElem?_toArray, List.getElem?_cons_succ, List.getElem?_cons_zero] <;> rfl)
        case hQZ46 => exact (fun _ _ _ h => h)
        case hwZ46 => rfl
        case hyZ46 => (intro w hSw; (try dsimp only at hSw); go_simp; try with_reducible rfl)
        (try simp only [Act.put, List.setIfInBounds_toArray, List.set_cons_zero, List.set_cons_succ])
        refine wpAnyH_ready (rs := [6, 7]) (by kernel_rfl) (by simp) ?_
        refine AllReadyH.cons (o := ?oZ47) ?hiZ47 (fun K hK => ?stZ47) (AllReadyH.cons (o := ?oZ48) ?hiZ48 (fun K hK => ?stZ48) AllReadyH.nil)
        case hiZ47 => (simp only [List.getElem?_toArray, List.getElem?_cons_succ, List.getElem?_cons_zero] <;> rfl)
        case hiZ48 => (simp only [List.getElem?_toArray, List.getElem?_cons_succ, List.getElem?_cons_zero] <;> rfl)
        case stZ47 =>
          refine step_store_last _ rfl 25 (.tmp 14) (.tmp 10) rfl wb.heap.size 25 g3 n2 c3 hs hZ h HN2.out HD3.out.own rfl (by unfold TH.v; rfl) infoTree5 ?_
          intro w4 ho4 hg4
          have hd4 := HD3.out.grown ho4 hg4 (.inl rfl)
          have HD4 := Lib.hid hd4
          have cn4 := hd4.var.cell
          have cf4 := hd4.var.frozen 0
          clear ho4 hg4 hd4
          refine hK.out _ _ ?_ (fun hHeld => ?_)
          · (first | exact (HD4.out.put (.slice (some ⟨g3, 0, none⟩) (n2 + 1) c3)).box.cells | exact HD5.out.box.cells | exact HD4.out.box.cells | exact (HD3.out.put (.slice (some ⟨g3, 0, none⟩) (n2 + 1) c3)).box.cells | exact HD3.out.box.cells | exact HDA.out.box.cells | exact HD0.out.drew.box.cells)
          clear hK K
          (try simp only [Act.put])
          refine wpAnyH_ready (rs := [7]) (by kernel_rfl) (by simp) ?_
          refine AllReadyH.cons (o := ?oZ49) ?hiZ49 (fun K hK => ?stZ49) AllReadyH.nil
          case hiZ49 => (simp only [List.getElem?_toArray, List.getElem?_cons_succ, List.getElem?_cons_zero] <;> rfl)
          go_simp
          refine hK.out _ _ ?_ (fun hHeld => ?_)
          · (first | exact (HD4.out.put (.slice (some ⟨g3, 0, none⟩) (n2 + 1) c3)).box.cells | exact HD5.out.box.cells | exact HD4.out.box.cells | exact (HD3.out.put (.slice (some ⟨g3, 0, none⟩) (n2 + 1) c3)).box.cells | exact HD3.out.box.cells | exact HDA.out.box.cells | exact HD0.out.drew.box.cells)
          clear hK K
          (try simp only [Act.put])
          refine wpAnyH_done (by kernel_rfl) ?_ _
          go_wp2_with fail
          go_meet
          first
            | exact ⟨_, [h], HD5.out, by rw [HK0.out]; exact Heads.one HTT.out⟩
            | exact ⟨_, [h], HD4.out.put _, by rw [HK0.out]; exact Heads.one HTT.out⟩
        case stZ48 =>
          go_simp
          refine hK.out _ _ ?_ (fun hHeld => ?_)
          · (first | exact (HD4.out.put (.slice (some ⟨g3, 0, none⟩) (n2 + 1) c3)).box.cells | exact HD5.out.box.cells | exact HD4.out.box.cells | exact (HD3.out.put (.slice (some ⟨g3, 0, none⟩) (n2 + 1) c3)).box.cells | exact HD3.out.box.cells | exact HDA.out.box.cells | exact HD0.out.drew.box.cells)
          clear hK K
          (try simp only [Act.put])
          refine wpAnyH_ready (rs := [6]) (by kernel_rfl) (by simp) ?_
          refine AllReadyH.cons (o := ?oZ50) ?hiZ50 (fun K hK => ?stZ50) AllReadyH.nil
          case hiZ50 => (simp only [List.getElem?_toArray, List.getElem?_cons_succ, List.getElem?_cons_zero] <;> rfl)
          refine step_store_last _ rfl 25 (.tmp 14) (.tmp 10) rfl wb.heap.size 25 g3 n2 c3 hs hZ h HN2.out (HD3.out.put (.slice (some ⟨g3, 0, none⟩) (n2 + 1) c3)).own rfl (by unfold TH.v; rfl) infoTree5 ?_
          intro w5 ho4 hg4
          have hd4 := (HD3.out.put (.slice (some ⟨g3, 0, none⟩) (n2 + 1) c3)).grown ho4 hg4 (.inl rfl)
          have HD5 := Lib.hid hd4
          have cn4 := hd4.var.cell
          have cf4 := hd4.var.frozen 0
          clear ho4 hg4 hd4
          refine hK.out _ _ ?_ (fun hHeld => ?_)
          · (first | exact (HD4.out.put (.slice (some ⟨g3, 0, none⟩) (n2 + 1) c3)).box.cells | exact HD5.out.box.cells | exact HD4.out.box.cells | exact (HD3.out.put (.slice (some ⟨g3, 0, none⟩) (n2 + 1) c3)).box.cells | exact HD3.out.box.cells | exact HDA.out.box.cells | exact HD0.out.drew.box.cells)
          clear hK K
          (try simp only [Act.put])
          refine wpAnyH_done (by kernel_rfl) ?_ _
          go_wp2_with fail
          go_meet
          first
            | exact ⟨_, [h], HD5.out, by rw [HK0.out]; exact Heads.one HTT.out⟩
            | exact ⟨_, [h], HD4.out.put _, by rw [HK0.out]; exact Heads.one HTT.out⟩
      case stZ42 =>
        go_simp
        refine hK.out _ _ ?_ (fun hHeld => ?_)
        · (first | exact (HD4.out.put (.slice (some ⟨g3, 0, none⟩) (n2 + 1) c3)).box.cells | exact HD5.out.box.cells | exact HD4.out.box.cells | exact (HD3.out.put (.slice (some ⟨g3, 0, none⟩) (n2 + 1) c3)).box.cells | exact HD3.out.box.cells | exact HDA.out.box.cells | exact HD0.out.drew.box.cells)
        clear hK K
        (try simp only [Act.put, List.setIfInBounds_toArray, List.set_cons_zero, List.set_cons_succ])
        refine wpAnyH_ready (rs := [0]) (by kernel_rfl) (by simp) ?_
        refine AllReadyH.cons (o := ?oZ51) ?hiZ51 (fun K hK => ?stZ51) AllReadyH.nil
        case hiZ51 => (simp only [List.getElem?_toArray, List.getElem?_cons_zero] <;> rfl)
        go_simp
        refine hK.out _ _ ?_ (fun hHeld => ?_)
        · (first | exact (HD4.out.put (.slice (some ⟨g3, 0, none⟩) (n2 + 1) c3)).box.cells | exact HD5.out.box.cells | exact HD4.out.box.cells | exact (HD3.out.put (.slice (some ⟨g3, 0, none⟩) (n2 + 1) c3)).box.cells | exact HD3.out.box.cells | exact HDA.out.box.cells | exact HD0.out.drew.box.cells)
        clear hK K
        (try simp only [Act.put, List.setIfInBounds_toArray, List.set_cons_zero, List.set_cons_succ])
        refine take_w (i := 2) (oi := ?oZ52) (v := ?vZ52) ?hiZ52 (by kernel_rfl) (by kernel_rfl) (by kernel_rfl) ?hQZ52 ?hwZ52 ?hyZ52 (by assumption) ?restZ52
        case hiZ52 => (simp only [List.getElem?_toArray, List.getElem?_cons_succ, List.getElem?_cons_zero] <;> rfl)
        case hQZ52 => exact (fun _ _ _ h => h)
        case hwZ52 => rfl
        case hyZ52 => (intro w hSw; (try dsimp only at hSw); go_simp; try with_reducible rfl)
        (try simp only [Act.put, List.setIfInBounds_toArray, List.set_cons_zero, List.set_cons_succ])
        refine wpAnyH_ready (rs := [4]) (by kernel_rfl) (by simp) ?_
        refine AllReadyH.cons (o := ?oZ53) ?hiZ53 (fun K hK => ?stZ53) AllReadyH.nil
        case hiZ53 => (simp only [List.getElem?_toArray, List.getElem?_cons_succ, List.getElem?_cons_zero] <;> rfl)
        refine step_append_trees _ rfl (.tmp 9) (.tmp 12) 23 rfl wb.heap.size 25 ti _ 104 Tryz.underlying23 hti hz0 hz1 hz2 rfl (.slice a2 n2 c2) hs rfl HDA.out.own w0.heap.size 1 [hZ] rfl HZB.out.row (by rw [HN2.out]; simp only [List.length_cons, List.length_nil]; omega) (by omega) HDA.out.b.size ?_
        intro v3 w3 ho3 hg3 hob3
        have hl3 : (hs ++ [hZ]).length = n2 + 1 := by rw [List.length_append, HN2.out]; rfl
        rcases ho3.form with ⟨_, q1⟩ | ⟨g3, c3, q1, -, -, -, -, -⟩
        · exfalso
          rw [q1] at hl3
          simp at hl3
        rw [hl3] at q1
        subst q1
        clear hl3
        have hd3 := HDA.out.grown ho3 hg3 hob3
        have HD3 := Lib.hid hd3
        have cn3 := hd3.var.cell
        have cf3 := hd3.var.frozen 0
        clear ho3 hg3 hob3 hd3
        refine hK.out _ _ ?_ (fun hHeld => ?_)
        · (first | exact (HD4.out.put (.slice (some ⟨g3, 0, none⟩) (n2 + 1) c3)).box.cells | exact HD5.out.box.cells | exact HD4.out.box.cells | exact (HD3.out.put (.slice (some ⟨g3, 0, none⟩) (n2 + 1) c3)).box.cells | exact HD3.out.box.cells | exact HDA.out.box.cells | exact HD0.out.drew.box.cells)
        clear hK K
        (try simp only [Act.put, List.setIfInBounds_toArray, List.set_cons_zero, List.set_cons_succ])
        refine take_w (i := 5) (oi := ?oZ54) (v := ?vZ54) ?hiZ54 (by kernel_rfl) (by kernel_rfl) (by kernel_rfl) ?hQZ54 ?hwZ54 ?hyZ54 (by assumption) ?restZ54
        case hiZ54 => (simp only [List.getElem?_toArray, List.getElem?_cons_succ, List.getElem?_cons_zero] <;> rfl)
        case hQZ54 => exact (fun _ _ _ h => h)
        case hwZ54 => rfl
        case hyZ54 => (intro w hSw; (try dsimp only at hSw); go_simp; try with_reducible rfl)
        (try simp only [Act.put, List.setIfInBounds_toArray, List.set_cons_zero, List.set_cons_succ])
        refine wpAnyH_ready (rs := [6, 7]) (by kernel_rfl) (by simp) ?_
        refine AllReadyH.cons (o := ?oZ55) ?hiZ55 (fun K hK => ?stZ55) (AllReadyH.cons (o := ?oZ56) ?hiZ56 (fun K hK => ?stZ56) AllReadyH.nil)
        case hiZ55 => (simp only [List.getElem?_toArray, List.getElem?_cons_succ, List.getElem?_cons_zero] <;> rfl)
        case hiZ56 => (simp only [List.getElem?_toArray, List.getElem?_cons_succ, List.getElem?_cons_zero] <;> rfl)
        case stZ55 =>
          refine step_store_last _ rfl 25 (.tmp 14) (.tmp 10) rfl wb.heap.size 25 g3 n2 c3 hs hZ h HN2.out HD3.out.own rfl (by unfold TH.v; rfl) infoTree5 ?_
          intro w4 ho4 hg4
          have hd4 := HD3.out.grown ho4 hg4 (.inl rfl)
          have HD4 := Lib.hid hd4
          have cn4 := hd4.var.cell
          have cf4 := hd4.var.frozen 0
          clear ho4 hg4 hd4
          refine hK.out _ _ ?_ (fun hHeld => ?_)
          · (first | exact (HD4.out.put (.slice (some ⟨g3, 0, none⟩) (n2 + 1) c3)).box.cells | exact HD5.out.box.cells | exact HD4.out.box.cells | exact (HD3.out.put (.slice (some ⟨g3, 0, none⟩) (n2 + 1) c3)).box.cells | exact HD3.out.box.cells | exact HDA.out.box.cells | exact HD0.out.drew.box.cells)
          clear hK K
          (try simp only [Act.put])
          refine wpAnyH_ready (rs := [7]) (by kernel_rfl) (by simp) ?_
          refine AllReadyH.cons (o := ?oZ57) ?hiZ57 (fun K hK => ?stZ57) AllReadyH.nil
          case hiZ57 => (simp only [List.getElem?_toArray, List.getElem?_cons_succ, List.getElem?_cons_zero] <;> rfl)
          go_simp
          refine hK.out _ _ ?_ (fun hHeld => ?_)
          · (first | exact (HD4.out.put (.slice (some ⟨g3, 0, none⟩) (n2 + 1) c3)).box.cells | exact HD5.out.box.cells | exact HD4.out.box.cells | exact (HD3.out.put (.slice (some ⟨g3, 0, none⟩) (n2 + 1) c3)).box.cells | exact HD3.out.box.cells | exact HDA.out.box.cells | exact HD0.out.drew.box.cells)
          clear hK K
          (try simp only [Act.put])
          refine wpAnyH_done (by kernel_rfl) ?_ _
          go_wp2_with fail
          go_meet
          first
            | exact ⟨_, [h], HD5.out, by rw [HK0.out]; exact Heads.one HTT.out⟩
            | exact ⟨_, [h], HD4.out.put _, by rw [HK0.out]; exact Heads.one HTT.out⟩
        case stZ56 =>
          go_simp
          refine hK.out _ _ ?_ (fun hHeld => ?_)
          · (first | exact (HD4.out.put (.slice (some ⟨g3, 0, none⟩) (n2 + 1) c3)).box.cells | exact HD5.out.box.cells | exact HD4.out.box.cells | exact (HD3.out.put (.slice (some ⟨g3, 0, none⟩) (n2 + 1) c3)).box.cells | exact HD3.out.box.cells | exact HDA.out.box.cells | exact HD0.out.drew.box.cells)
          clear hK K
          (try simp only [Act.put])
          refine wpAnyH_ready (rs := [6]) (by kernel_rfl) (by simp) ?_
          refine AllReadyH.cons (o := ?oZ58) ?hiZ58 (fun K hK => ?stZ58) AllReadyH.nil
          case hiZ58 => (simp only [List.getElem?_toArray, List.getElem?_cons_succ, List.getElem?_cons_zero] <;> rfl)
          refine step_store_last _ rfl 25 (.tmp 14) (.tmp 10) rfl wb.heap.size 25 g3 n2 c3 hs hZ h HN2.out (HD3.out.put (.slice (some ⟨g3, 0, none⟩) (n2 + 1) c3)).own rfl (by unfold TH.v; rfl) infoTree5 ?_
          intro w5 ho4 hg4
          have hd4 := (HD3.out.put (.slice (some ⟨g3, 0, none⟩) (n2 + 1) c3)).grown ho4 hg4 (.inl rfl)
          have HD5 := Lib.hid hd4
          have cn4 := hd4.var.cell
          have cf4 := hd4.var.frozen 0
          clear ho4 hg4 hd4
          refine hK.out _ _ ?_ (fun hHeld => ?_)
          · (first | exact (HD4.out.put (.slice (some ⟨g3, 0, none⟩) (n2 + 1) c3)).box.cells | exact HD5.out.box.cells | exact HD4.out.box.cells | exact (HD3.out.put (.slice (some ⟨g3, 0, none⟩) (n2 + 1) c3)).box.cells | exact HD3.out.box.cells | exact HDA.out.box.cells | exact HD0.out.drew.box.cells)
          clear hK K
          (try simp only [Act.put])
          refine wpAnyH_done (by kernel_rfl) ?_ _
          go_wp2_with fail
          go_meet
          first
            | exact ⟨_, [h], HD5.out, by rw [HK0.out]; exact Heads.one HTT.out⟩
            | exact ⟨_, [h], HD4.out.put _, by rw [HK0.out]; exact Heads.one HTT.out⟩
    · have HK0 : Hid ((if h.k = 3 then [t] else []) = []) := Lib.hid (if_neg hk0)
      have hb0 : (h.k == 3) = false := by simpa using hk0
      go_wp2_with fail
      go_meet
      exact ⟨v, [], by rw [List.append_nil]; exact HD0.out, by rw [HK0.out]; exact Heads.nil wb⟩
  case rest =>
    obtain ⟨v1, hs0, hd1, hh0⟩ := hcut
    have HD1 := Lib.hid hd1
    have HH0 := Lib.hid hh0
    obtain ⟨x0, x1, x2, x3, x4⟩ := hd1.box.cells
    clear hd1 hh0 HD0 hv2
    go_upto_region 3 with fail
    go_wp2_with fail
    clear x0 x1 x2 x3 x4
    go_loopw [18] (fun s18 wx => ∃ (i : Nat) (v2 : Value) (hs2 : List TH), i ≤ h.tn ∧ s18 = .int .i64 i ∧ LNc wb w wx gc gn h v v2 v2 (hs ++ hs0 ++ hs2) ∧ Heads wb hs2 ((t.kids.take i).map cutNT).flatten) (fun s18 _ => h.tn - (intOf s18).toNat)
    case atStart => exact ⟨0, v1, [], by omega, rfl, by rw [List.append_nil]; exact HD1.out, by simpa using Heads.nil wb⟩
    case round =>
      clear HD1
      obtain ⟨i, v2, hs2, hi, rfl, hd, hh⟩ := hrel
      have HD := Lib.hid hd
      have HH := Lib.hid hh
      clear hd hh
      by_cases hlt : i < h.tn
      · have q1 : (i : Int) < (h.tn : Int) := by omega
        obtain ⟨g, off, hta, hg, hcs⟩ := (HP.out.below HD.out.b).place (by omega)
        obtain ⟨k0, k1, k2, k3, k4⟩ := hcs i hlt
        have him : i < t.kids.length := by omega
        have hbd : (hs ++ hs0 ++ hs2).length + countT t.kids[i] ≤ 1000 := by
          have q2 := HCT.out i him
          have q3 : hs0.length ≤ 1 := by
            rw [HH0.out.1]
            split <;> simp
          rw [List.length_append, List.length_append, HH.out.1]
          omega
        have HBD := Lib.hid hbd
        clear hcs hbd hcn
        rw [hta]
        go_upto_region 6 with fail
        have b2 : Below wr.heap.size wr (wr.alloc (.cells #[.int .i64 (H i).k, .slice (H i).ka (H i).kn (H i).kc, .slice (H i).va (H i).vn (H i).vc, .slice (H i).da (H i).dn (H i).dc, .slice (H i).ta (H i).tn (H i).tc] 25)) := (Below.refl _ _).alloc (Nat.le_refl _) _
        have bx := Box.new wr 25 (H i)
        generalize (wr.alloc (.cells #[.int .i64 (H i).k, .slice (H i).ka (H i).kn (H i).kc, .slice (H i).va (H i).vn (H i).vc, .slice (H i).da (H i).dn (H i).dc, .slice (H i).ta (H i).tn (H i).tc] 25)) = w2 at *
        have HD2 := Lib.hid (HD.out.below b2)
        have hc2 := HD2.out.clo.cell
        obtain ⟨y0, y1, y2, y3, y4⟩ := bx.cells
        clear b2 bx k0 k1 k2 k3 k4 hta
        go_upto_region 7 with (first
          | (go_at_call 42
             refine (IH.out _ (List.getElem_mem him) (H i) _ gc gn _ _ (HP.out.kids i him) HBD.out HD2.out.b HD2.out.ge HD2.out.clo HD2.out.var HD2.out.own).mono ?_
             rintro _ w3 ⟨v3, hs3, rfl, hv3, ho3, hh3, hk3⟩
             have HD3 := Lib.hid (HD2.out.step hv3 ho3 hk3)
             have HH3 := Lib.hid hh3
             clear hv3 ho3 hh3 hk3 y0 y1 y2 y3 y4 hc2))
        go_wp2_with fail
        exact ⟨⟨i + 1, v3, hs2 ++ hs3, by omega, by go_num, by rw [← List.append_assoc]; exact HD3.out, by rw [cutN_take _ i him]; exact HH.out.app HH3.out⟩, by simp [intOf]; omega⟩
      · obtain rfl : i = h.tn := by omega
        have q1 : ¬ (h.tn : Int) < (h.tn : Int) := by omega
        go_wp2_with fail
        first | go_end0 | refine bodyPost_ret (results_none rfl _ _ _) rfl ?_
        refine ⟨v2, hs0 ++ hs2, rfl, HD.out.var, by rw [← List.append_assoc]; exact HD.out.own, ?_, HD.out.k⟩
        have q := HH.out
        rw [List.take_of_length_le (by omega)] at q
        rw [HEN.out]
        exact HH0.out.app q

set_option maxRecDepth 100000 in
set_option maxHeartbeats 4000000 in
theorem cutsOf_any (t : Tr) (h : TH) (w : World) (ht : InTree w h t) (hcn : countT t ≤ 1000) : Calls Tryz.prog 19 #[h.v] w (CutsOf w t) := by
  have hmf : ∀ (fn : Fn) (first cap : Array Value) (w : World), (Instr.makeFunc fn first cap).run Tryz.prog w = .ok (.func fn first cap) w := fun _ _ _ _ => rfl
  unfold TH.v
  have HT := Lib.hid ht
  clear ht
  have hb1 : Below w.heap.size w (w.alloc (.cells #[.int .i64 h.k, .slice h.ka h.kn h.kc, .slice h.va h.vn h.vc, .slice h.da h.dn h.dc, .slice h.ta h.tn h.tc] 25)) := (Below.refl _ _).alloc (Nat.le_refl _) _
  have hx1 := Box.new w 25 h
  have e1 : (w.alloc (.cells #[.int .i64 h.k, .slice h.ka h.kn h.kc, .slice h.va h.vn h.vc, .slice h.da h.dn h.dc, .slice h.ta h.tn h.tc] 25)).heap.size = w.heap.size + 1 := by simp
  go_enter Tryz.func19, Tryz.ntmps19
  go_upto_region 1 with fail
  generalize (w.alloc (.cells #[.int .i64 h.k, .slice h.ka h.kn h.kc, .slice h.va h.vn h.vc, .slice h.da h.dn h.dc, .slice h.ta h.tn h.tc] 25)) = w1 at *
  have E1 := Lib.hid e1
  clear e1
  have hb2 : Below w1.heap.size w1 (w1.alloc (.cells #[.slice none 0 0] 23)) := (Below.refl _ _).alloc (Nat.le_refl _) _
  have hv2 := Var1.new w1 23 (.slice none 0 0)
  have hx2 := hx1.below hb2 hx1.lt
  have hs2 : (w1.alloc (.cells #[.slice none 0 0] 23)).heap.size = w1.heap.size + 1 := by simp
  have hb3 : Below w1.heap.size w1 ((w1.alloc (.cells #[.slice none 0 0] 23)).alloc (.cells #[.nilFunc] 80)) := hb2.alloc (by rw [hs2]; omega) _
  have hba : Below (w1.alloc (.cells #[.slice none 0 0] 23)).heap.size (w1.alloc (.cells #[.slice none 0 0] 23)) ((w1.alloc (.cells #[.slice none 0 0] 23)).alloc (.cells #[.nilFunc] 80)) := (Below.refl _ _).alloc (Nat.le_refl _) _
  have hv3 := hv2.below hba hv2.lt
  have hx3 := hx2.below hba hx2.lt
  have hn3 := Var1.new (w1.alloc (.cells #[.slice none 0 0] 23)) 80 .nilFunc
  rw [hs2] at hn3
  clear hb2 hv2 hx2 hs2 hba
  go_upto_region 3 with fail
  generalize ((w1.alloc (.cells #[.slice none 0 0] 23)).alloc (.cells #[.nilFunc] 80)) = w2 at *
  have c0 := hn3.cell
  have c1 := hn3.frozen 0
  have hn4 := hn3.set (.func (.func 42) #[] #[.pointer (some ⟨w1.heap.size, 0, none⟩), .pointer (some ⟨(w1.heap.size + 1), 0, none⟩)])
  have hne : w.heap.size ≠ w1.heap.size + 1 := by have := E1.out; omega
  have hx4 : Box (w2.setCell ⟨w1.heap.size + 1, 0, none⟩ (.func (.func 42) #[] #[.pointer (some ⟨w1.heap.size, 0, none⟩), .pointer (some ⟨(w1.heap.size + 1), 0, none⟩)])) 25 w.heap.size h := (Below.heap_setCell w2 ⟨w1.heap.size + 1, 0, none⟩ _ w.heap.size hne).trans hx3
  have hv4 := hv3.far (p := ⟨w1.heap.size + 1, 0, none⟩) (by simp) (.func (.func 42) #[] #[.pointer (some ⟨w1.heap.size, 0, none⟩), .pointer (some ⟨(w1.heap.size + 1), 0, none⟩)])
  have hb4 : Below w1.heap.size w1 (w2.setCell ⟨w1.heap.size + 1, 0, none⟩ (.func (.func 42) #[] #[.pointer (some ⟨w1.heap.size, 0, none⟩), .pointer (some ⟨(w1.heap.size + 1), 0, none⟩)])) := hb3.setCell (by simp) _
  clear hn3 hx3 hv3 hb3 hne
  go_upto_region 4 with fail
  generalize (w2.setCell ⟨w1.heap.size + 1, 0, none⟩ (.func (.func 42) #[] #[.pointer (some ⟨w1.heap.size, 0, none⟩), .pointer (some ⟨(w1.heap.size + 1), 0, none⟩)])) = w3 at *
  obtain ⟨x0, x1, x2, x3, x4⟩ := hx4.cells
  have c2 := hn4.cell
  have HN := Lib.hid hn4
  have HV := Lib.hid hv4
  have HSZ : Hid (w.heap.size ≤ w1.heap.size) := Lib.hid hb1.size
  have HB4 : Hid (Below w.heap.size w w3) := Lib.hid (hb1.trans (hb4.mono hb1.size))
  clear c0 c1 hx4 hb4 hn4 hv4 hb1 hx1
  go_upto_region 5 with (first
    | (go_at_call 42
       refine (cutsC_any w t h _ (w1.heap.size + 1) w1.heap.size (.slice none 0 0) [] HT.out (by simp only [List.length_nil]; omega) HB4.out HSZ.out HN.out HV.out (OwnT.nil _ _ _)).mono ?_
       rintro _ w4 ⟨v4, hs4, rfl, hv4, ho4, hh4, hk4⟩
       have HB5 : Hid (Below w.heap.size w w4) := Lib.hid (hk4.below HB4.out HB4.out.size HSZ.out (fun k e => by cases e))
       have HO4 : Hid (OwnT w4 w.heap.size 25 v4 hs4) := Lib.hid ho4
       have HH4 := Lib.hid hh4
       have c4 := hv4.cell
       clear hv4 ho4 hh4 hk4))
  go_wp2_with fail
  go_ret
  exact ⟨v4, hs4, rfl, HO4.out, HH4.out, HB5.out⟩
end Go.Proofs.YtkcmohmfejmfoaaGreatDoor

/- What the rows' condition on the two listed tables gives the walks; a start that meets it. -/
namespace Go.Proofs.YtkcmohmfejmfoaaGreatDoor
open Go.ChangeShapes Go.WideShapes Go.ChangeAt Go.RowKit
set_option linter.unusedVariables false

theorem own : ownKnob Tryz.prog.godebug = none := by kernel_rfl
theorem laidOut : laidOutB Tryz.prog = true := by kernel_rfl
theorem gK : Tryz.prog.globalNamed "heartwood/sha.roundConstants" = some 2 := by kernel_rfl
theorem gH : Tryz.prog.globalNamed "heartwood/sha.initialState" = some 1 := by kernel_rfl
theorem tK : (Tryz.prog.globals[2]?).map (·.type) = some 137 := by kernel_rfl
theorem tH : (Tryz.prog.globals[1]?).map (·.type) = some 37 := by kernel_rfl
theorem cK : Tryz.prog.cellsOf 137 = 64 := by kernel_rfl
theorem cH : Tryz.prog.cellsOf 37 = 8 := by kernel_rfl
theorem cU : Tryz.prog.cellsOf 36 = 1 := by kernel_rfl

abbrev tabs : List (String × DataW Unit) := [("heartwood/sha.roundConstants", Rows.laid_heartwood_sha_roundConstants), ("heartwood/sha.initialState", Rows.laid_heartwood_sha_initialState)]

theorem of_laid {W : World} (h : laidMetH Tryz.prog tabs W) : TabLies W := by
  rw [MakeChecks.laidMetH_plain _ _ _ (by kernel_rfl)] at h
  obtain ⟨ps, ⟨g0, t0, cs0, f0, p0, q0, hg0, ht0, hv0, hd0, ⟨g1, t1, cs1, f1, p1, q1, hg1, ht1, hv1, hd1, _, _⟩, _⟩, _, _⟩ := h
  obtain rfl := Option.some.inj (gK.symm.trans hg0)
  obtain rfl := Option.some.inj (gH.symm.trans hg1)
  obtain rfl := Option.some.inj (tK.symm.trans ht0)
  obtain rfl := Option.some.inj (tH.symm.trans ht1)
  have e0 : cs0.toList = kTab.map (Value.int .u32) := ints_of_trod (zs := kTab) Tryz.underlying137 Tryz.underlying36 cU cK rfl hd0
  have e1 : cs1.toList = hTab.map (Value.int .u32) := ints_of_trod (zs := hTab) Tryz.underlying37 Tryz.underlying36 cU cH rfl hd1
  constructor
  · simp only [World.var?, gK, Option.bind_some] at hv0
    split at hv0
    · rename_i cs t fr hh
      injection hv0 with hv0
      subst hv0
      refine ⟨t, fr, ?_⟩
      rw [hh, ← e0]
    · cases hv0
  · simp only [World.var?, gH, Option.bind_some] at hv1
    split at hv1
    · rename_i cs t fr hh
      injection hv1 with hv1
      subst hv1
      refine ⟨t, fr, ?_⟩
      rw [hh, ← e1]
    · cases hv1

end Go.Proofs.YtkcmohmfejmfoaaGreatDoor

/- The contract of the program's Count. -/
namespace Go.Proofs.YtkcmohmfejmfoaaGreatDoor
open Go.RowKit
set_option linter.unusedVariables false

set_option maxRecDepth 100000 in
set_option maxHeartbeats 4000000 in
theorem ccount_any (t : Tr) (h : TH) (w : World) (ht : InTree w h t) (hc : countT t ≤ 500) : Calls Tryz.prog 15 #[h.v] w (Says w (.int .i64 (countX t : Nat))) := by
  unfold TH.v
  have HT := Lib.hid ht
  have HX0 : Hid (Box (w.alloc (.cells #[.int .i64 h.k, .slice h.ka h.kn h.kc, .slice h.va h.vn h.vc, .slice h.da h.dn h.dc, .slice h.ta h.tn h.tc] 25)) 25 w.heap.size h ∧ Below w.heap.size w (w.alloc (.cells #[.int .i64 h.k, .slice h.ka h.kn h.kc, .slice h.va h.vn h.vc, .slice h.da h.dn h.dc, .slice h.ta h.tn h.tc] 25))) := Lib.hid ⟨Box.new w 25 h, (Below.refl _ _).alloc (Nat.le_refl _) _⟩
  obtain ⟨n, hn⟩ : ∃ n, countX t = n := ⟨_, rfl⟩
  rw [hn]
  have HN := Lib.hid hn
  clear ht hn
  go_enter Tryz.func15, Tryz.ntmps15
  go_upto_region 1 with fail
  generalize (w.alloc (.cells #[.int .i64 h.k, .slice h.ka h.kn h.kc, .slice h.va h.vn h.vc, .slice h.da h.dn h.dc, .slice h.ta h.tn h.tc] 25)) = w0 at *
  obtain ⟨x0, x1, x2, x3, x4⟩ := HX0.out.1.cells
  by_cases hck : checkT t = 0
  · have HCV : Hid (codeV (checkT t) = .nilIface) := Lib.hid (by rw [hck]; rfl)
    have HCN : Hid ((cutNT t).length = n) := Lib.hid (by rw [cutN_len (check_zero hck).1, ← HN.out]; unfold countX; rw [if_pos hck])
    clear hck
    go_wp2_with (first
      | (go_at_call 18
         refine (check_any t h _ (HT.out.lower HX0.out.2)).mono ?_
         rintro _ w1 ⟨rfl, hb1⟩
         rw [HCV.out]
         have HX1 : Hid (Box w1 25 w.heap.size h ∧ Below w.heap.size w w1) := Lib.hid ⟨HX0.out.1.below hb1 HX0.out.1.lt, HX0.out.2.trans (hb1.mono HX0.out.2.size)⟩
         clear hb1 x0 x1 x2 x3 x4
         obtain ⟨x0, x1, x2, x3, x4⟩ := HX1.out.1.cells)
      | (go_at_call 19
         refine (cutsOf_any t h _ (HT.out.lower HX1.out.2) (by omega)).mono ?_
         rintro _ w3 ⟨v3, hs3, rfl, ho3, hh3, hb3⟩
         have HB3 : Hid (Below w.heap.size w w3) := Lib.hid (HX1.out.2.trans (hb3.mono HX1.out.2.size))
         have HL3 : Hid (hs3.length = n) := Lib.hid (hh3.1.trans HCN.out)
         obtain ⟨a3, c3, hv3⟩ := ho3.sl
         subst hv3
         rw [HL3.out]
         clear ho3 hh3 hb3 x0 x1 x2 x3 x4))
    go_ret
    exact ⟨rfl, HB3.out⟩
  · have HNC := Lib.hid hck
    have HCN : Hid (n = 0) := Lib.hid (by rw [← HN.out]; unfold countX; rw [if_neg hck])
    clear hck
    go_wp2_with (first
      | (go_at_call 18
         refine (check_any t h _ (HT.out.lower HX0.out.2)).mono ?_
         rintro _ w1 ⟨rfl, hb1⟩
         rw [codeV_pos HNC.out]
         have HB1 : Hid (Below w.heap.size w w1) := Lib.hid (HX0.out.2.trans (hb1.mono HX0.out.2.size))
         clear hb1 x0 x1 x2 x3 x4))
    go_ret
    exact ⟨by rw [HCN.out]; rfl, HB1.out⟩
end Go.Proofs.YtkcmohmfejmfoaaGreatDoor

/- What lies there in a call of the closure of the program's Cut. -/
namespace Go.Proofs.YtkcmohmfejmfoaaGreatDoor
open Go.RowKit
set_option linter.unusedVariables false

theorem OwnT.off {w w' : World} {base : Nat} {ty : TypeId} {v : Value} {hs : List TH} {x : Nat} (h : OwnT w base ty v hs) (hg : w.grownBy w' (some x)) (hx : some x ≠ v.ownBlock) : OwnT w' base ty v hs := by
  unfold OwnT at h ⊢
  rcases h.2 with q | ⟨g, c, cur, rfl, q2, q3, q4⟩
  · exact ⟨h.1, .inl q⟩
  · refine ⟨h.1, .inr ⟨g, c, cur, rfl, q2, (hg.block g ?_ (fun e => hx (e.symm))).trans q3, q4⟩⟩
    rcases Nat.lt_or_ge g w.heap.size with hlt | hge
    · exact hlt
    · rw [Array.getElem?_eq_none hge] at q3
      cases q3
/-- The world inside the closure of Cut: u is what the variable holds, v the row. -/
structure LC (wb w W : World) (gn gw gc k : Nat) (h : TH) (v0 u v : Value) (hs : List TH) : Prop where
  box : BN W gn v w.heap.size h
  res : BN W gn v (w.heap.size + 1) hZ
  clo : Var1 W 77 gc (.func (.func 37) #[] #[.pointer (some ⟨gn, 0, none⟩), .pointer (some ⟨gw, 0, none⟩), .pointer (some ⟨gc, 0, none⟩)])
  wid : Var1 W 3 gw (.int .i64 k)
  var : Var1 W 23 gn u
  own : OwnT W wb.heap.size 25 v hs
  b : Below wb.heap.size wb W
  ge : wb.heap.size ≤ gn
  sz : wb.heap.size ≤ w.heap.size
  kp : Keeps w W gn v0 v
section
variable {wb w W W' : World} {gn gw gc k : Nat} {h : TH} {v0 u v u' v' : Value} {hs hs' : List TH}
theorem LC.step (d : LC wb w W gn gw gc k h v0 u v hs) (hvar : Var1 W' 23 gn u') (hown : OwnT W' wb.heap.size 25 v' hs') (hk : Keeps W W' gn v v') : LC wb w W' gn gw gc k h v0 u' v' hs' :=
  ⟨d.box.step hk, d.res.step hk, (hk.block _ d.clo.lt (d.clo.ne d.var (by decide)) (d.own.neV d.clo (by decide))).trans d.clo, (hk.block _ d.wid.lt (d.wid.ne d.var (by decide)) (d.own.neV d.wid (by decide))).trans d.wid, hvar, hown,
    hk.below d.b d.b.size d.ge (fun k e => (d.own.lt k e).1), d.ge, d.sz, d.kp.trans hk⟩
theorem LC.below (d : LC wb w W gn gw gc k h v0 u v hs) (hb : Below W.heap.size W W') : LC wb w W' gn gw gc k h v0 u v hs :=
  d.step (d.var.below hb d.var.lt) (d.own.keep hb) (Keeps.of_below gn v hb)
theorem LC.drew (d : LC wb w W gn gw gc k h v0 u v hs) : LC wb w W.drew gn gw gc k h v0 u v hs := d.below (Below.refl _ _).drew
theorem LC.grown (d : LC wb w W gn gw gc k h v0 u v hs) (hown : OwnT W' wb.heap.size 25 v' hs') (hg : W.grownBy W' v.ownBlock) (ho : v'.ownBlock = v.ownBlock ∨ v'.ownBlock = some W.heap.size) : LC wb w W' gn gw gc k h v0 u v' hs' :=
  d.step (d.var.grown hg (d.own.neV d.var (by decide))) hown (Keeps.of_grown gn hg ho)
theorem LC.put (d : LC wb w W gn gw gc k h v0 u v hs) (x : Value) : LC wb w (W.setCell ⟨gn, 0, none⟩ x) gn gw gc k h v0 x v hs :=
  d.step (d.var.set x) (d.own.far (p := ⟨gn, 0, none⟩) (d.own.neV d.var (by decide)) x) (Keeps.of_set W gn v x)
theorem LC.cells (d : LC wb w W gn gw gc k h v0 u v hs) : W.cell? ⟨w.heap.size, 0, none⟩ = some (.int .i64 h.k) ∧ W.cell? ⟨w.heap.size, 1, none⟩ = some (.slice h.ka h.kn h.kc) ∧ W.cell? ⟨w.heap.size, 2, none⟩ = some (.slice h.va h.vn h.vc) ∧ W.cell? ⟨w.heap.size, 3, none⟩ = some (.slice h.da h.dn h.dc) ∧ W.cell? ⟨w.heap.size, 4, none⟩ = some (.slice h.ta h.tn h.tc) := d.box.box.cells
theorem LC.ws (d : LC wb w W gn gw gc k h v0 u v hs) : w.heap.size + 2 ≤ W.heap.size := d.res.box.lt
/-- The result was written. -/
theorem LC.fin (d : LC wb w W gn gw gc k h v0 v v hs) (hg : W.grownBy W' (some (w.heap.size + 1))) : Var1 W' 23 gn v ∧ OwnT W' wb.heap.size 25 v hs ∧ Keeps w W' gn v0 v ∧ Below wb.heap.size wb W' :=
  have q := d.sz
  ⟨d.var.grown hg (fun e => d.res.ne (by injection e with e; exact e.symm)), d.own.off hg d.res.nb, d.kp.tail hg (Nat.le_succ _), d.b.grown hg d.b.size (fun j hj => by injection hj; omega)⟩
end
theorem LC.enter {wb w : World} {gn gw gc k : Nat} {v : Value} {hs : List TH} (h : TH) (hb : Below wb.heap.size wb w) (hge : wb.heap.size ≤ gn) (hc : Var1 w 77 gc (.func (.func 37) #[] #[.pointer (some ⟨gn, 0, none⟩), .pointer (some ⟨gw, 0, none⟩), .pointer (some ⟨gc, 0, none⟩)])) (hw : Var1 w 3 gw (.int .i64 k)) (hv : Var1 w 23 gn v) (ho : OwnT w wb.heap.size 25 v hs) : LC wb w ((w.alloc (.cells #[.int .i64 h.k, .slice h.ka h.kn h.kc, .slice h.va h.vn h.vc, .slice h.da h.dn h.dc, .slice h.ta h.tn h.tc] 25)).alloc (.cells #[.int .i64 0, .slice none 0 0, .slice none 0 0, .slice none 0 0, .slice none 0 0] 25)) gn gw gc k h v v v hs :=
  have q1 : Below w.heap.size w (w.alloc (.cells #[.int .i64 h.k, .slice h.ka h.kn h.kc, .slice h.va h.vn h.vc, .slice h.da h.dn h.dc, .slice h.ta h.tn h.tc] 25)) := (Below.refl _ _).alloc (Nat.le_refl _) _
  have s1 : (w.alloc (.cells #[.int .i64 h.k, .slice h.ka h.kn h.kc, .slice h.va h.vn h.vc, .slice h.da h.dn h.dc, .slice h.ta h.tn h.tc] 25)).heap.size = w.heap.size + 1 := by simp
  have q2 : Below (w.alloc (.cells #[.int .i64 h.k, .slice h.ka h.kn h.kc, .slice h.va h.vn h.vc, .slice h.da h.dn h.dc, .slice h.ta h.tn h.tc] 25)).heap.size (w.alloc (.cells #[.int .i64 h.k, .slice h.ka h.kn h.kc, .slice h.va h.vn h.vc, .slice h.da h.dn h.dc, .slice h.ta h.tn h.tc] 25)) ((w.alloc (.cells #[.int .i64 h.k, .slice h.ka h.kn h.kc, .slice h.va h.vn h.vc, .slice h.da h.dn h.dc, .slice h.ta h.tn h.tc] 25)).alloc (.cells #[.int .i64 0, .slice none 0 0, .slice none 0 0, .slice none 0 0, .slice none 0 0] 25)) := (Below.refl _ _).alloc (Nat.le_refl _) _
  have q3 : Below w.heap.size w ((w.alloc (.cells #[.int .i64 h.k, .slice h.ka h.kn h.kc, .slice h.va h.vn h.vc, .slice h.da h.dn h.dc, .slice h.ta h.tn h.tc] 25)).alloc (.cells #[.int .i64 0, .slice none 0 0, .slice none 0 0, .slice none 0 0, .slice none 0 0] 25)) := q1.trans (q2.mono q1.size)
  have x0 : Box (w.alloc (.cells #[.int .i64 h.k, .slice h.ka h.kn h.kc, .slice h.va h.vn h.vc, .slice h.da h.dn h.dc, .slice h.ta h.tn h.tc] 25)) 25 w.heap.size h := Box.new w 25 h
  have x1 : Box ((w.alloc (.cells #[.int .i64 h.k, .slice h.ka h.kn h.kc, .slice h.va h.vn h.vc, .slice h.da h.dn h.dc, .slice h.ta h.tn h.tc] 25)).alloc (.cells #[.int .i64 0, .slice none 0 0, .slice none 0 0, .slice none 0 0, .slice none 0 0] 25)) 25 (w.heap.size + 1) hZ := by
    have x := Box.new (w.alloc (.cells #[.int .i64 h.k, .slice h.ka h.kn h.kc, .slice h.va h.vn h.vc, .slice h.da h.dn h.dc, .slice h.ta h.tn h.tc] 25)) 25 hZ
    rw [s1] at x
    exact x
  have l1 := hv.lt
  ⟨⟨x0.below q2 x0.lt, by omega, fun e => by have := (ho.lt _ e.symm).2; omega⟩, ⟨x1, by omega, fun e => by have := (ho.lt _ e.symm).2; omega⟩, hc.below q3 hc.lt, hw.below q3 hw.lt, hv.below q3 hv.lt, ho.keep q3, hb.trans (q3.mono hb.size), hge, hb.size, Keeps.of_below gn v q3⟩
/-- What the closure of Cut does: a tree that stays whatever is written into the variable and the row, and trees that are put at the row's end. -/
def CutCPost (wb w : World) (gn : Nat) (v : Value) (hs : List TH) (c : Tr) (ps : List Tr) (e : Ending) (w' : World) : Prop := ∃ h' v' hs', e = .returned (.tuple #[h'.v, .nilIface]) ∧ Var1 w' 23 gn v' ∧ OwnT w' wb.heap.size 25 v' (hs ++ hs') ∧ Heads wb hs' ps ∧ Keeps w w' gn v v' ∧ StayT wb.heap.size w.heap.size w' gn v' h' c
/-- A call's answer, in a box of its own. -/
def KidPost (wb wd : World) (gn : Nat) (v : Value) (hs : List TH) (c : Tr) (ps : List Tr) (b e : Value) (w2 : World) : Prop := ∃ h' v' hs' L, b = .pointer (some ⟨L, 0, none⟩) ∧ e = .nilIface ∧ Var1 w2 23 gn v' ∧ OwnT w2 wb.heap.size 25 v' (hs ++ hs') ∧ Heads wb hs' ps ∧ Keeps wd w2 gn v v' ∧ StayT wb.heap.size wd.heap.size w2 gn v' h' c ∧ BN w2 gn v' L h'
/-- The box was made behind the call. -/
theorem KidPost.one {wb wd w1 w2 : World} {gn : Nat} {v v' : Value} {hs hs' : List TH} {c : Tr} {ps : List Tr} {h' : TH} (hv : Var1 w1 23 gn v') (ho : OwnT w1 wb.heap.size 25 v' (hs ++ hs')) (hh : Heads wb hs' ps) (hk : Keeps wd w1 gn v v') (hs' : StayT wb.heap.size wd.heap.size w1 gn v' h' c)
    (hg : (w1.alloc (.cells #[.int .i64 0, .slice none 0 0, .slice none 0 0, .slice none 0 0, .slice none 0 0] 25)).grownBy w2 (some w1.heap.size)) (hx : Box w2 25 w1.heap.size h') : KidPost wb wd gn v hs c ps (.pointer (some ⟨w1.heap.size, 0, none⟩)) .nilIface w2 := by
  have b1 : Below w1.heap.size w1 (w1.alloc (.cells #[.int .i64 0, .slice none 0 0, .slice none 0 0, .slice none 0 0, .slice none 0 0] 25)) := (Below.refl _ _).alloc (Nat.le_refl _) _
  have b2 : Below w1.heap.size w1 w2 := b1.grown hg b1.size (fun j hj => by injection hj; omega)
  have l1 := hv.lt
  exact ⟨h', v', _, _, rfl, rfl, hv.below b2 hv.lt, ho.keep b2, hh, hk.trans (Keeps.of_below gn v' b2), hs'.below b2, hx, by omega, fun e => by have := (ho.lt _ e.symm).2; omega⟩
/-- The box was made ahead of the call. -/
theorem KidPost.two {wb wd w1 w2 : World} {gn : Nat} {v v' : Value} {hs hs' : List TH} {c : Tr} {ps : List Tr} {h' : TH} (hsz : wb.heap.size ≤ wd.heap.size) (hbn : BN (wd.alloc (.cells #[.int .i64 0, .slice none 0 0, .slice none 0 0, .slice none 0 0, .slice none 0 0] 25)) gn v wd.heap.size hZ) (hv : Var1 w1 23 gn v') (ho : OwnT w1 wb.heap.size 25 v' (hs ++ hs')) (hh : Heads wb hs' ps) (hk : Keeps (wd.alloc (.cells #[.int .i64 0, .slice none 0 0, .slice none 0 0, .slice none 0 0, .slice none 0 0] 25)) w1 gn v v') (hs' : StayT wb.heap.size (wd.alloc (.cells #[.int .i64 0, .slice none 0 0, .slice none 0 0, .slice none 0 0, .slice none 0 0] 25)).heap.size w1 gn v' h' c)
    (hg : w1.grownBy w2 (some wd.heap.size)) (hx : Box w2 25 wd.heap.size h') : KidPost wb wd gn v hs c ps (.pointer (some ⟨wd.heap.size, 0, none⟩)) .nilIface w2 := by
  have b1 : Below wd.heap.size wd (wd.alloc (.cells #[.int .i64 0, .slice none 0 0, .slice none 0 0, .slice none 0 0, .slice none 0 0] 25)) := (Below.refl _ _).alloc (Nat.le_refl _) _
  have bn := hbn.step hk
  exact ⟨h', v', _, _, rfl, rfl, hv.grown hg (fun e => bn.ne (by injection e with e; exact e.symm)), ho.off hg bn.nb, hh, ((Keeps.of_below gn v b1).trans hk).tail hg (Nat.le_refl _), (hs'.box hg hsz (by simp)).wide (by simp), hx, bn.ne, bn.nb⟩
end Go.Proofs.YtkcmohmfejmfoaaGreatDoor

/- The contract of the closure of the program's Cut, of what has no levels. -/
namespace Go.Proofs.YtkcmohmfejmfoaaGreatDoor
open Go.RowKit
set_option linter.unusedVariables false

set_option maxRecDepth 100000 in
set_option maxHeartbeats 8000000 in
theorem cutNil_any (wb : World) (k : Nat) (hk1 : 1 ≤ k) (hk2 : k ≤ 32) (gw gc : Nat) (hT : TabLies wb) (n : Nat) (h : TH) (w : World) (gn : Nat) (v : Value) (hs : List TH) (ht : InTree wb h AT.nil.tr) (hbw : Below wb.heap.size wb w) (hge : wb.heap.size ≤ gn) (hc : Var1 w 77 gc (.func (.func 37) #[] #[.pointer (some ⟨gn, 0, none⟩), .pointer (some ⟨gw, 0, none⟩), .pointer (some ⟨gc, 0, none⟩)])) (hw : Var1 w 3 gw (.int .i64 k)) (hv : Var1 w 23 gn v) (ho : OwnT w wb.heap.size 25 v hs) :
    Calls Tryz.prog 37 #[.agg #[.int .i64 h.k, .slice h.ka h.kn h.kc, .slice h.va h.vn h.vc, .slice h.da h.dn h.dc, .slice h.ta h.tn h.tc], .int .i64 (n : Int), .pointer (some ⟨gn, 0, none⟩), .pointer (some ⟨gw, 0, none⟩), .pointer (some ⟨gc, 0, none⟩)] w (CutCPost wb w gn v hs (headA k n .nil).tr ((partsA n .nil).map AT.tr)) := by
  have HGN : Hid ((headA k n .nil).tr = AT.nil.tr ∧ (partsA n .nil).map AT.tr = []) := Lib.hid (by cases n <;> exact ⟨rfl, rfl⟩)
  rw [HGN.out.1, HGN.out.2]
  have HD := Lib.hid (LC.enter h hbw hge hc hw hv ho)
  obtain ⟨H, hp⟩ := ht.parts
  have HP := Lib.hid hp
  have HTI := Lib.hid ht
  have HKK := Lib.hid hp.hk
  clear hbw hge hc hw hv ho hp ht
  have e0 : (h.k == 0) = true := by rw [HKK.out]; rfl
  go_enter Tryz.func37, Tryz.ntmps37
  go_upto_region 1 with fail
  generalize ((w.alloc (.cells #[.int .i64 h.k, .slice h.ka h.kn h.kc, .slice h.va h.vn h.vc, .slice h.da h.dn h.dc, .slice h.ta h.tn h.tc] 25)).alloc (.cells #[.int .i64 0, .slice none 0 0, .slice none 0 0, .slice none 0 0, .slice none 0 0] 25)) = w0 at *
  obtain ⟨x0, x1, x2, x3, x4⟩ := HD.out.cells
  go_wp2_with (first
    | (refine wpList_store_box rfl 25 (.tmp 7) (.tmp 17) rfl (w.heap.size + 1) hZ h rfl rfl 25 HD.out.res.box infoTree5 ?_
       intro w9 hbx9 hg9
       have HX9 := Lib.hid hbx9
       have HG9 := Lib.hid hg9
       have HF9 := Lib.hid (HD.out.fin hg9)
       clear hbx9 hg9))
  refine bodyPost_ret (v := .tuple #[TH.v h, .nilIface]) (Box.result Tryz.results37 _ HX9.out rfl Tryz.underlying25 infoTree5) rfl ⟨h, v, [], rfl, HF9.out.1, ?_, Heads.nil wb, HF9.out.2.2.1, ?_⟩
  · rw [List.append_nil]
    exact HF9.out.2.1
  · exact StayT.low HTI.out HF9.out.2.2.2 HD.out.ge (fun k e => (HD.out.own.lt k e).1)

set_option maxRecDepth 100000 in
set_option maxHeartbeats 8000000 in
theorem cutLeaf_any (wb : World) (k : Nat) (hk1 : 1 ≤ k) (hk2 : k ≤ 32) (gw gc : Nat) (hT : TabLies wb) (l : AT) (key val : List Int) (r : AT) (hl : Lim (AT.node l key val r).pairs) (hd : (AT.node l key val r).depth ≤ 64) (h : TH) (w : World) (gn : Nat) (v : Value) (hs : List TH) (ht : InTree wb h (AT.node l key val r).tr) (hbw : Below wb.heap.size wb w) (hge : wb.heap.size ≤ gn) (hc : Var1 w 77 gc (.func (.func 37) #[] #[.pointer (some ⟨gn, 0, none⟩), .pointer (some ⟨gw, 0, none⟩), .pointer (some ⟨gc, 0, none⟩)])) (hw : Var1 w 3 gw (.int .i64 k)) (hv : Var1 w 23 gn v) (ho : OwnT w wb.heap.size 25 v hs) (hn : hs.length < 1000) :
    Calls Tryz.prog 37 #[.agg #[.int .i64 h.k, .slice h.ka h.kn h.kc, .slice h.va h.vn h.vc, .slice h.da h.dn h.dc, .slice h.ta h.tn h.tc], .int .i64 (0 : Int), .pointer (some ⟨gn, 0, none⟩), .pointer (some ⟨gw, 0, none⟩), .pointer (some ⟨gc, 0, none⟩)] w (CutCPost wb w gn v hs (PT.cut (digA k (AT.node l key val r))).tr [(AT.node l key val r).tr]) := by
  obtain ⟨ti, hti, htz⟩ := Option.map_eq_some_iff.1 infoTree2
  simp only [Prod.mk.injEq] at htz
  obtain ⟨hz0, hz1, hz2⟩ := htz
  obtain ⟨a2, c2, hv2⟩ := ho.sl
  have HTT := Lib.hid hT
  have HCK := Lib.hid (AT.checked hl hd)
  have HHN : Hid (Heads wb [h] [(AT.node l key val r).tr]) := Lib.hid (Heads.one ht)
  have HD := Lib.hid (LC.enter h hbw hge hc hw hv ho)
  obtain ⟨H, hp⟩ := ht.parts
  have HP := Lib.hid hp
  have HTI := Lib.hid ht
  have HKK := Lib.hid hp.hk
  clear hbw hge hc hw hv ho hp ht
  clear hT hl hd
  have e0 : (h.k == 0) = false := by rw [HKK.out]; rfl
  go_enter Tryz.func37, Tryz.ntmps37
  go_upto_region 1 with fail
  generalize ((w.alloc (.cells #[.int .i64 h.k, .slice h.ka h.kn h.kc, .slice h.va h.vn h.vc, .slice h.da h.dn h.dc, .slice h.ta h.tn h.tc] 25)).alloc (.cells #[.int .i64 0, .slice none 0 0, .slice none 0 0, .slice none 0 0, .slice none 0 0] 25)) = w0 at *
  obtain ⟨x0, x1, x2, x3, x4⟩ := HD.out.cells
  go_upto_region 4 with fail
  clear x0 x1 x2 x3 x4 e0
  have HD0 := Lib.hid HD.out
  clear HD
  go_cut [] (fun wx => ∃ v2, LC wb w wx gn gw gc k h v v2 v2 (hs ++ [h]))
  case first =>
    generalize hn2 : hs.length = n2 at hv2 hn
    have HN2 := Lib.hid hn2
    subst hv2
    clear hn2
    have hba : Below w0.drew.heap.size w0.drew (w0.drew.alloc (.cells #[.int .i64 0, .slice none 0 0, .slice none 0 0, .slice none 0 0, .slice none 0 0] 25)) := (Below.refl _ _).alloc (Nat.le_refl _) _
    have HDA := Lib.hid (HD0.out.drew.below hba)
    have HZB : Hid (Box (w0.drew.alloc (.cells #[.int .i64 0, .slice none 0 0, .slice none 0 0, .slice none 0 0, .slice none 0 0] 25)) 25 w0.heap.size hZ) := Lib.hid (Box.new w0.drew 25 hZ)
    have cv2 := HD0.out.var.cell
    have cva : (w0.alloc (.cells #[.int .i64 0, .slice none 0 0, .slice none 0 0, .slice none 0 0, .slice none 0 0] 25)).cell? ⟨gn, 0, none⟩ = some (.slice a2 n2 c2) := HDA.out.var.cell
    have hlt2 : (n2 : Int) < (n2 : Int) + 1 := by omega
    clear hba
    refine wp_region_held_drew (S := (fun W => W.cell? ⟨w.heap.size, 0, none⟩ = some (.int .i64 h.k) ∧ W.cell? ⟨w.heap.size, 1, none⟩ = some (.slice h.ka h.kn h.kc) ∧ W.cell? ⟨w.heap.size, 2, none⟩ = some (.slice h.va h.vn h.vc) ∧ W.cell? ⟨w.heap.size, 3, none⟩ = some (.slice h.da h.dn h.dc) ∧ W.cell? ⟨w.heap.size, 4, none⟩ = some (.slice h.ta h.tn h.tc))) (by kernel_rfl) HD0.out.drew.cells (fun hHeld => ?_)
    refine take_w (i := 1) (oi := ?oZ1) (v := ?vZ1) ?hiZ1 (by kernel_rfl) (by kernel_rfl) (by kernel_rfl) ?hQZ1 ?hwZ1 ?hyZ1 (by assumption) ?restZ1
    case hiZ1 => (simp only [List.getElem?_toArray, List.getElem?_cons_succ, List.getElem?_cons_zero] <;> rfl)
    case hQZ1 => exact (fun _ _ _ h => h)
    case hwZ1 => rfl
    case hyZ1 => (intro w hSw; (try dsimp only at hSw); go_simp; try with_reducible rfl)
    (try simp only [Act.put, List.setIfInBounds_toArray, List.set_cons_zero, List.set_cons_succ])
    refine wpAnyH_ready (rs := [0, 3]) (by kernel_rfl) (by simp) ?_
    refine AllReadyH.cons (o := ?oZ2) ?hiZ2 (fun K hK => ?stZ2) (AllReadyH.cons (o := ?oZ3) ?hiZ3 (fun K hK => ?stZ3) AllReadyH.nil)
    case hiZ2 => (simp only [List.getElem?_toArray, List.getElem?_cons_zero] <;> rfl)
    case hiZ3 => (simp only [List.getElem?_toArray, List.getElem?_cons_succ, List.getElem?_cons_zero] <;> rfl)
    case stZ2 =>
      go_simp
      refine hK.out _ _ ?_ (fun hHeld => ?_)
      · (first | exact (HD4.out.put (.slice (some ⟨g3, 0, none⟩) (n2 + 1) c3)).cells | exact HD5.out.cells | exact HD4.out.cells | exact (HD3.out.put (.slice (some ⟨g3, 0, none⟩) (n2 + 1) c3)).cells | exact HD3.out.cells | exact HDA.out.cells | exact HD0.out.drew.cells)
      clear hK K
      (try simp only [Act.put, List.setIfInBounds_toArray, List.set_cons_zero, List.set_cons_succ])
      refine take_w (i := 2) (oi := ?oZ4) (v := ?vZ4) ?hiZ4 (by kernel_rfl) (by kernel_rfl) (by kernel_rfl) ?hQZ4 ?hwZ4 ?hyZ4 (by assumption) ?restZ4
      case hiZ4 => (simp only [List.getElem?_toArray, List.getElem?_cons_succ, List.getElem?_cons_zero] <;> rfl)
      case hQZ4 => exact (fun _ _ _ h => h)
      case hwZ4 => rfl
      case hyZ4 => (intro w hSw; (try dsimp only at hSw); go_simp; try with_reducible rfl)
      (try simp only [Act.put, List.setIfInBounds_toArray, List.set_cons_zero, List.set_cons_succ])
      refine wpAnyH_ready (rs := [3]) (by kernel_rfl) (by simp) ?_
      refine AllReadyH.cons (o := ?oZ5) ?hiZ5 (fun K hK => ?stZ5) AllReadyH.nil
      case hiZ5 => (simp only [List.getElem?_toArray, List.getElem?_cons_succ, List.getElem?_cons_zero] <;> rfl)
      go_simp
      refine hK.out _ _ ?_ (fun hHeld => ?_)
      · (first | exact (HD4.out.put (.slice (some ⟨g3, 0, none⟩) (n2 + 1) c3)).cells | exact HD5.out.cells | exact HD4.out.cells | exact (HD3.out.put (.slice (some ⟨g3, 0, none⟩) (n2 + 1) c3)).cells | exact HD3.out.cells | exact HDA.out.cells | exact HD0.out.drew.cells)
      clear hK K
      (try simp only [Act.put, List.setIfInBounds_toArray, List.set_cons_zero, List.set_cons_succ])
      refine wpAnyH_ready (rs := [4]) (by kernel_rfl) (by simp) ?_
      refine AllReadyH.cons (o := ?oZ6) ?hiZ6 (fun K hK => ?stZ6) AllReadyH.nil
      case hiZ6 => (simp only [List.getElem?_toArray, List.getElem?_cons_succ, List.getElem?_cons_zero] <;> rfl)
      refine step_append_trees _ rfl (.tmp 20) (.tmp 23) 23 rfl wb.heap.size 25 ti _ 104 Tryz.underlying23 hti hz0 hz1 hz2 rfl (.slice a2 n2 c2) hs rfl HDA.out.own w0.heap.size 1 [hZ] rfl HZB.out.row (by rw [HN2.out]; simp only [List.length_cons, List.length_nil]; omega) (by omega) HDA.out.b.size ?_
      intro v3 w3 ho3 hg3 hob3
      have hl3 : (hs ++ [hZ]).length = n2 + 1 := by rw [List.length_append, HN2.out]; rfl
      rcases ho3.form with ⟨_, q1⟩ | ⟨g3, c3, q1, -, -, -, -, -⟩
      · exfalso
        rw [q1] at hl3
        simp at hl3
      rw [hl3] at q1
      subst q1
      clear hl3
      have hd3 := HDA.out.grown ho3 hg3 hob3
      have HD3 := Lib.hid hd3
      have cn3 := hd3.var.cell
      have cf3 := hd3.var.frozen 0
      clear ho3 hg3 hob3 hd3
      refine hK.out _ _ ?_ (fun hHeld => ?_)
      · (first | exact (HD4.out.put (.slice (some ⟨g3, 0, none⟩) (n2 + 1) c3)).cells | exact HD5.out.cells | exact HD4.out.cells | exact (HD3.out.put (.slice (some ⟨g3, 0, none⟩) (n2 + 1) c3)).cells | exact HD3.out.cells | exact HDA.out.cells | exact HD0.out.drew.cells)
      clear hK K
      (try simp only [Act.put, List.setIfInBounds_toArray, List.set_cons_zero, List.set_cons_succ])
      refine take_w (i := 5) (oi := ?oZ7) (v := ?vZ7) ?hiZ7 (by kernel_rfl) (by kernel_rfl) (by kernel_rfl) ?hQZ7 ?hwZ7 ?hyZ7 (by assumption) ?restZ7
      case hiZ7 => (simp only [List.getElem?_toArray, List.getElem?_cons_succ, List.getElem?_cons_zero] <;> rfl)
      case hQZ7 => exact (fun _ _ _ h => h)
      case hwZ7 => rfl
      case hyZ7 => (intro w hSw; (try dsimp only at hSw); go_simp; try with_reducible rfl)
      (try simp only [Act.put, List.setIfInBounds_toArray, List.set_cons_zero, List.set_cons_succ])
      refine wpAnyH_ready (rs := [6, 7]) (by kernel_rfl) (by simp) ?_
      refine AllReadyH.cons (o := ?oZ8) ?hiZ8 (fun K hK => ?stZ8) (AllReadyH.cons (o := ?oZ9) ?hiZ9 (fun K hK => ?stZ9) AllReadyH.nil)
      case hiZ8 => (simp only [List.getElem?_toArray, List.getElem?_cons_succ, List.getElem?_cons_zero] <;> rfl)
      case hiZ9 => (simp only [List.getElem?_toArray, List.getElem?_cons_succ, List.getElem?_cons_zero] <;> rfl)
      case stZ8 =>
        refine step_store_last _ rfl 25 (.tmp 25) (.tmp 21) rfl wb.heap.size 25 g3 n2 c3 hs hZ h HN2.out HD3.out.own rfl (by unfold TH.v; rfl) infoTree5 ?_
        intro w4 ho4 hg4
        have hd4 := HD3.out.grown ho4 hg4 (.inl rfl)
        have HD4 := Lib.hid hd4
        have cn4 := hd4.var.cell
        have cf4 := hd4.var.frozen 0
        clear ho4 hg4 hd4
        refine hK.out _ _ ?_ (fun hHeld => ?_)
        · (first | exact (HD4.out.put (.slice (some ⟨g3, 0, none⟩) (n2 + 1) c3)).cells | exact HD5.out.cells | exact HD4.out.cells | exact (HD3.out.put (.slice (some ⟨g3, 0, none⟩) (n2 + 1) c3)).cells | exact HD3.out.cells | exact HDA.out.cells | exact HD0.out.drew.cells)
        clear hK K
        (try simp only [Act.put])
        refine wpAnyH_ready (rs := [7]) (by kernel_rfl) (by simp) ?_
        refine AllReadyH.cons (o := ?oZ10) ?hiZ10 (fun K hK => ?stZ10) AllReadyH.nil
        case hiZ10 => (simp only [List.getElem?_toArray, List.getElem?_cons_succ, List.getElem?_cons_zero] <;> rfl)
        go_simp
        refine hK.out _ _ ?_ (fun hHeld => ?_)
        · (first | exact (HD4.out.put (.slice (some ⟨g3, 0, none⟩) (n2 + 1) c3)).cells | exact HD5.out.cells | exact HD4.out.cells | exact (HD3.out.put (.slice (some ⟨g3, 0, none⟩) (n2 + 1) c3)).cells | exact HD3.out.cells | exact HDA.out.cells | exact HD0.out.drew.cells)
        clear hK K
        (try simp only [Act.put])
        refine wpAnyH_done (by kernel_rfl) ?_ _
        go_wp2_with fail
        go_meet
        first
          | exact ⟨_, HD5.out⟩
          | exact ⟨_, HD4.out.put _⟩
      case stZ9 =>
        go_simp
        refine hK.out _ _ ?_ (fun hHeld => ?_)
        · (first | exact (HD4.out.put (.slice (some ⟨g3, 0, none⟩) (n2 + 1) c3)).cells | exact HD5.out.cells | exact HD4.out.cells | exact (HD3.out.put (.slice (some ⟨g3, 0, none⟩) (n2 + 1) c3)).cells | exact HD3.out.cells | exact HDA.out.cells | exact HD0.out.drew.cells)
        clear hK K
        (try simp only [Act.put])
        refine wpAnyH_ready (rs := [6]) (by kernel_rfl) (by simp) ?_
        refine AllReadyH.cons (o := ?oZ11) ?hiZ11 (fun K hK => ?stZ11) AllReadyH.nil
        case hiZ11 => (simp only [List.getElem?_toArray, List.getElem?_cons_succ, List.getElem?_cons_zero] <;> rfl)
        refine step_store_last _ rfl 25 (.tmp 25) (.tmp 21) rfl wb.heap.size 25 g3 n2 c3 hs hZ h HN2.out (HD3.out.put (.slice (some ⟨g3, 0, none⟩) (n2 + 1) c3)).own rfl (by unfold TH.v; rfl) infoTree5 ?_
        intro w5 ho4 hg4
        have hd4 := (HD3.out.put (.slice (some ⟨g3, 0, none⟩) (n2 + 1) c3)).grown ho4 hg4 (.inl rfl)
        have HD5 := Lib.hid hd4
        have cn4 := hd4.var.cell
        have cf4 := hd4.var.frozen 0
        clear ho4 hg4 hd4
        refine hK.out _ _ ?_ (fun hHeld => ?_)
        · (first | exact (HD4.out.put (.slice (some ⟨g3, 0, none⟩) (n2 + 1) c3)).cells | exact HD5.out.cells | exact HD4.out.cells | exact (HD3.out.put (.slice (some ⟨g3, 0, none⟩) (n2 + 1) c3)).cells | exact HD3.out.cells | exact HDA.out.cells | exact HD0.out.drew.cells)
        clear hK K
        (try simp only [Act.put])
        refine wpAnyH_done (by kernel_rfl) ?_ _
        go_wp2_with fail
        go_meet
        first
          | exact ⟨_, HD5.out⟩
          | exact ⟨_, HD4.out.put _⟩
    case stZ3 =>
      go_simp
      refine hK.out _ _ ?_ (fun hHeld => ?_)
      · (first | exact (HD4.out.put (.slice (some ⟨g3, 0, none⟩) (n2 + 1) c3)).cells | exact HD5.out.cells | exact HD4.out.cells | exact (HD3.out.put (.slice (some ⟨g3, 0, none⟩) (n2 + 1) c3)).cells | exact HD3.out.cells | exact HDA.out.cells | exact HD0.out.drew.cells)
      clear hK K
      (try simp only [Act.put, List.setIfInBounds_toArray, List.set_cons_zero, List.set_cons_succ])
      refine wpAnyH_ready (rs := [0]) (by kernel_rfl) (by simp) ?_
      refine AllReadyH.cons (o := ?oZ12) ?hiZ12 (fun K hK => ?stZ12) AllReadyH.nil
      case hiZ12 => (simp only [List.getElem?_toArray, List.getElem?_cons_zero] <;> rfl)
      go_simp
      refine hK.out _ _ ?_ (fun hHeld => ?_)
      · (first | exact (HD4.out.put (.slice (some ⟨g3, 0, none⟩) (n2 + 1) c3)).cells | exact HD5.out.cells | exact HD4.out.cells | exact (HD3.out.put (.slice (some ⟨g3, 0, none⟩) (n2 + 1) c3)).cells | exact HD3.out.cells | exact HDA.out.cells | exact HD0.out.drew.cells)
      clear hK K
      (try simp only [Act.put, List.setIfInBounds_toArray, List.set_cons_zero, List.set_cons_succ])
      refine take_w (i := 2) (oi := ?oZ13) (v := ?vZ13) ?hiZ13 (by kernel_rfl) (by kernel_rfl) (by kernel_rfl) ?hQZ13 ?hwZ13 ?hyZ13 (by assumption) ?restZ13
      case hiZ13 => (simp only [List.getElem?_toArray, List.getElem?_cons_succ, List.getElem?_cons_zero] <;> rfl)
      case hQZ13 => exact (fun _ _ _ h => h)
      case hwZ13 => rfl
      case hyZ13 => (intro w hSw; (try dsimp only at hSw); go_simp; try with_reducible rfl)
      (try simp only [Act.put, List.setIfInBounds_toArray, List.set_cons_zero, List.set_cons_succ])
      refine wpAnyH_ready (rs := [4]) (by kernel_rfl) (by simp) ?_
      refine AllReadyH.cons (o := ?oZ14) ?hiZ14 (fun K hK => ?stZ14) AllReadyH.nil
      case hiZ14 => (simp only [List.getElem?_toArray, List.getElem?_cons_succ, List.getElem?_cons_zero] <;> rfl)
      refine step_append_trees _ rfl (.tmp 20) (.tmp 23) 23 rfl wb.heap.size 25 ti _ 104 Tryz.underlying23 hti hz0 hz1 hz2 rfl (.slice a2 n2 c2) hs rfl HDA.out.own w0.heap.size 1 [hZ] rfl HZB.out.row (by rw [HN2.out]; simp only [List.length_cons, List.length_nil]; omega) (by omega) HDA.out.b.size ?_
      intro v3 w3 ho3 hg3 hob3
      have hl3 : (hs ++ [hZ]).length = n2 + 1 := by rw [List.length_append, HN2.out]; rfl
      rcases ho3.form with ⟨_, q1⟩ | ⟨g3, c3, q1, -, -, -, -, -⟩
      · exfalso
        rw [q1] at hl3
        simp at hl3
      rw [hl3] at q1
      subst q1
      clear hl3
      have hd3 := HDA.out.grown ho3 hg3 hob3
      have HD3 := Lib.hid hd3
      have cn3 := hd3.var.cell
      have cf3 := hd3.var.frozen 0
      clear ho3 hg3 hob3 hd3
      refine hK.out _ _ ?_ (fun hHeld => ?_)
      · (first | exact (HD4.out.put (.slice (some ⟨g3, 0, none⟩) (n2 + 1) c3)).cells | exact HD5.out.cells | exact HD4.out.cells | exact (HD3.out.put (.slice (some ⟨g3, 0, none⟩) (n2 + 1) c3)).cells | exact HD3.out.cells | exact HDA.out.cells | exact HD0.out.drew.cells)
      clear hK K
      (try simp only [Act.put, List.setIfInBounds_toArray, List.set_cons_zero, List.set_cons_succ])
      refine take_w (i := 5) (oi := ?oZ15) (v := ?vZ15) ?hiZ15 (by kernel_rfl) (by kernel_rfl) (by kernel_rfl) ?hQZ15 ?hwZ15 ?hyZ15 (by assumption) ?restZ15
      case hiZ15 => (simp only [List.getElem?_toArray, List.getElem?_cons_succ, List.getElem?_cons_zero] <;> rfl)
      case hQZ15 => exact (fun _ _ _ h => h)
      case hwZ15 => rfl
      case hyZ15 => (intro w hSw; (try dsimp only at hSw); go_simp; try with_reducible rfl)
      (try simp only [Act.put, List.setIfInBounds_toArray, List.set_cons_zero, List.set_cons_succ])
      refine wpAnyH_ready (rs := [6, 7]) (by kernel_rfl) (by simp) ?_
      refine AllReadyH.cons (o := ?oZ16) ?hiZ16 (fun K hK => ?stZ16) (AllReadyH.cons (o := ?oZ17) ?hiZ17 (fun K hK => ?stZ17) AllReadyH.nil)
      case hiZ16 => (simp only [List.getElem?_toArray, List.getElem?_cons_succ, List.getElem?_cons_zero] <;> rfl)
      case hiZ17 => (simp only [List.getElem?_toArray, List.getElem?_cons_succ, List.getElem?_cons_zero] <;> rfl)
      case stZ16 =>
        refine step_store_last _ rfl 25 (.tmp 25) (.tmp 21) rfl wb.heap.size 25 g3 n2 c3 hs hZ h HN2.out HD3.out.own rfl (by unfold TH.v; rfl) infoTree5 ?_
        intro w4 ho4 hg4
        have hd4 := HD3.out.grown ho4 hg4 (.inl rfl)
        have HD4 := Lib.hid hd4
        have cn4 := hd4.var.cell
        have cf4 := hd4.var.frozen 0
        clear ho4 hg4 hd4
        refine hK.out _ _ ?_ (fun hHeld => ?_)
        · (first | exact (HD4.out.put (.slice (some ⟨g3, 0, none⟩) (n2 + 1) c3)).cells | exact HD5.out.cells | exact HD4.out.cells | exact (HD3.out.put (.slice (some ⟨g3, 0, none⟩) (n2 + 1) c3)).cells | exact HD3.out.cells | exact HDA.out.cells | exact HD0.out.drew.cells)
        clear hK K
        (try simp only [Act.put])
        refine wpAnyH_ready (rs := [7]) (by kernel_rfl) (by simp) ?_
        refine AllReadyH.cons (o := ?oZ18) ?hiZ18 (fun K hK => ?stZ18) AllReadyH.nil
        case hiZ18 => (simp only [List.getElem?_toArray, List.getElem?_cons_succ, List.getElem?_cons_zero] <;> rfl)
        go_simp
        refine hK.out _ _ ?_ (fun hHeld => ?_)
        · (first | exact (HD4.out.put (.slice (some ⟨g3, 0, none⟩) (n2 + 1) c3)).cells | exact HD5.out.cells | exact HD4.out.cells | exact (HD3.out.put (.slice (some ⟨g3, 0, none⟩) (n2 + 1) c3)).cells | exact HD3.out.cells | exact HDA.out.cells | exact HD0.out.drew.cells)
        clear hK K
        (try simp only [Act.put])
        refine wpAnyH_done (by kernel_rfl) ?_ _
        go_wp2_with fail
        go_meet
        first
          | exact ⟨_, HD5.out⟩
          | exact ⟨_, HD4.out.put _⟩
      case stZ17 =>
        go_simp
        refine hK.out _ _ ?_ (fun hHeld => ?_)
        · (first | exact (HD4.out.put (.slice (some ⟨g3, 0, none⟩) (n2 + 1) c3)).cells | exact HD5.out.cells | exact HD4.out.cells | exact (HD3.out.put (.slice (some ⟨g3, 0, none⟩) (n2 + 1) c3)).cells | exact HD3.out.cells | exact HDA.out.cells | exact HD0.out.drew.cells)
        clear hK K
        (try simp only [Act.put])
        refine wpAnyH_ready (rs := [6]) (by kernel_rfl) (by simp) ?_
        refine AllReadyH.cons (o := ?oZ19) ?hiZ19 (fun K hK => ?stZ19) AllReadyH.nil
        case hiZ19 => (simp only [List.getElem?_toArray, List.getElem?_cons_succ, List.getElem?_cons_zero] <;> rfl)
        refine step_store_last _ rfl 25 (.tmp 25) (.tmp 21) rfl wb.heap.size 25 g3 n2 c3 hs hZ h HN2.out (HD3.out.put (.slice (some ⟨g3, 0, none⟩) (n2 + 1) c3)).own rfl (by unfold TH.v; rfl) infoTree5 ?_
        intro w5 ho4 hg4
        have hd4 := (HD3.out.put (.slice (some ⟨g3, 0, none⟩) (n2 + 1) c3)).grown ho4 hg4 (.inl rfl)
        have HD5 := Lib.hid hd4
        have cn4 := hd4.var.cell
        have cf4 := hd4.var.frozen 0
        clear ho4 hg4 hd4
        refine hK.out _ _ ?_ (fun hHeld => ?_)
        · (first | exact (HD4.out.put (.slice (some ⟨g3, 0, none⟩) (n2 + 1) c3)).cells | exact HD5.out.cells | exact HD4.out.cells | exact (HD3.out.put (.slice (some ⟨g3, 0, none⟩) (n2 + 1) c3)).cells | exact HD3.out.cells | exact HDA.out.cells | exact HD0.out.drew.cells)
        clear hK K
        (try simp only [Act.put])
        refine wpAnyH_done (by kernel_rfl) ?_ _
        go_wp2_with fail
        go_meet
        first
          | exact ⟨_, HD5.out⟩
          | exact ⟨_, HD4.out.put _⟩
  case rest =>
    obtain ⟨v2, hd2⟩ := hcut
    have HD2 := Lib.hid hd2
    clear hd2 HD0
    obtain ⟨x0, x1, x2, x3, x4⟩ := HD2.out.cells
    have xw := HD2.out.wid.cell
    go_wp2_with (first
      | (go_at_call 35
         refine (digest_ok k hk1 hk2 (AT.node l key val r).tr h _ (HTI.out.lower HD2.out.b) (HTT.out.below HD2.out.b (Nat.le_refl _)) HCK.out (AT.digs hk2 _)).mono ?_
         rintro _ w5 ⟨a5, c5, rfl, hn5, hb5⟩
         have HD5 := Lib.hid (HD2.out.below hb5)
         have HS5 : Hid (StayB wb.heap.size (w.heap.size + 2) w5 gn v2 a5 (digA k (AT.node l key val r)).length c5 (digA k (AT.node l key val r))) := Lib.hid (StayB.new hn5.inb (fun y e => by
           have q1 := hn5.new y e
           have q2 := HD2.out.ws
           have q3 := HD2.out.var.lt
           exact ⟨by omega, by omega, fun e2 => by have := (HD2.out.own.lt _ e2.symm).2; omega⟩))
         clear hn5 hb5 x0 x1 x2 x3 x4 xw)
      | (refine wpList_store_box rfl 25 (.tmp 7) (.tmp 33) rfl (w.heap.size + 1) hZ ⟨3, none, 0, 0, none, 0, 0, a5, (digA k (AT.node l key val r)).length, c5, none, 0, 0⟩ rfl rfl 25 HD5.out.res.box infoTree5 ?_
         intro w9 hbx9 hg9
         have HX9 := Lib.hid hbx9
         have HG9 := Lib.hid hg9
         have HF9 := Lib.hid (HD5.out.fin hg9)
         clear hbx9 hg9))
    refine bodyPost_ret (v := .tuple #[TH.v ⟨3, none, 0, 0, none, 0, 0, a5, (digA k (AT.node l key val r)).length, c5, none, 0, 0⟩, .nilIface]) (Box.result Tryz.results37 _ HX9.out rfl Tryz.underlying25 infoTree5) rfl ⟨⟨3, none, 0, 0, none, 0, 0, a5, (digA k (AT.node l key val r)).length, c5, none, 0, 0⟩, v2, [h], rfl, HF9.out.1, HF9.out.2.1, HHN.out, HF9.out.2.2.1, ?_⟩
    exact (StayT.leaf (k := 3) (by omega) (by omega) (HS5.out.box HG9.out (Nat.le_succ_of_le HD5.out.sz) (Nat.lt_succ_self _))).wide (Nat.le_add_right _ _)
end Go.Proofs.YtkcmohmfejmfoaaGreatDoor

/- The contract of the closure of the program's Cut, of a node. -/
namespace Go.Proofs.YtkcmohmfejmfoaaGreatDoor
open Go.RowKit
set_option linter.unusedVariables false

theorem partsA_len : ∀ (n : Nat) (a : AT), (partsA n a).length ≤ countT a.tr := by
  intro n
  induction n with
  | zero =>
    intro a
    cases a with
    | nil => exact Nat.zero_le _
    | node l key v r =>
      rw [countT_eq]
      show 1 ≤ _
      omega
  | succ n ih =>
    intro a
    cases a with
    | nil => exact Nat.zero_le _
    | node l key v r =>
      have q1 := ih l
      have q2 := ih r
      show (partsA n l ++ partsA n r).length ≤ _
      rw [List.length_append, countT_eq]
      show _ ≤ 1 + ([l.tr, r.tr].map countT).sum
      simp only [List.map_cons, List.map_nil, List.sum_cons, List.sum_nil]
      omega
theorem LC.kid {wb w W w2 : World} {gn gw gc k : Nat} {h : TH} {v0 v b e : Value} {hs : List TH} {c : Tr} {ps : List Tr} (d : LC wb w W gn gw gc k h v0 v v hs) (q : KidPost wb W gn v hs c ps b e w2) : ∃ v' hs', LC wb w w2 gn gw gc k h v0 v' v' (hs ++ hs') := by
  obtain ⟨h', v', hs', L, -, -, hv, ho, -, hk, -, -⟩ := q
  exact ⟨v', hs', d.step hv ho hk⟩

set_option maxRecDepth 100000 in
set_option maxHeartbeats 8000000 in
theorem cutNode_any (wb : World) (k : Nat) (hk1 : 1 ≤ k) (hk2 : k ≤ 32) (gw gc : Nat) (hT : TabLies wb) (n : Nat) (hn : n + 1 ≤ 64) (l : AT) (key val : List Int) (r : AT) (h : TH) (w : World) (gn : Nat) (v : Value) (hs : List TH) (ht : InTree wb h (AT.node l key val r).tr) (hbw : Below wb.heap.size wb w) (hge : wb.heap.size ≤ gn) (hc : Var1 w 77 gc (.func (.func 37) #[] #[.pointer (some ⟨gn, 0, none⟩), .pointer (some ⟨gw, 0, none⟩), .pointer (some ⟨gc, 0, none⟩)])) (hw : Var1 w 3 gw (.int .i64 k)) (hv : Var1 w 23 gn v) (ho : OwnT w wb.heap.size 25 v hs) (hcn : hs.length + countT (AT.node l key val r).tr ≤ 1000)
    (ihl : ∀ (h : TH) (w : World) (v : Value) (hs : List TH), InTree wb h l.tr → hs.length + countT l.tr ≤ 1000 → Below wb.heap.size wb w → Var1 w 77 gc (.func (.func 37) #[] #[.pointer (some ⟨gn, 0, none⟩), .pointer (some ⟨gw, 0, none⟩), .pointer (some ⟨gc, 0, none⟩)]) → Var1 w 3 gw (.int .i64 k) → Var1 w 23 gn v → OwnT w wb.heap.size 25 v hs → Calls Tryz.prog 37 #[.agg #[.int .i64 h.k, .slice h.ka h.kn h.kc, .slice h.va h.vn h.vc, .slice h.da h.dn h.dc, .slice h.ta h.tn h.tc], .int .i64 (n : Int), .pointer (some ⟨gn, 0, none⟩), .pointer (some ⟨gw, 0, none⟩), .pointer (some ⟨gc, 0, none⟩)] w (CutCPost wb w gn v hs (headA k n l).tr ((partsA n l).map AT.tr)))
    (ihr : ∀ (h : TH) (w : World) (v : Value) (hs : List TH), InTree wb h r.tr → hs.length + countT r.tr ≤ 1000 → Below wb.heap.size wb w → Var1 w 77 gc (.func (.func 37) #[] #[.pointer (some ⟨gn, 0, none⟩), .pointer (some ⟨gw, 0, none⟩), .pointer (some ⟨gc, 0, none⟩)]) → Var1 w 3 gw (.int .i64 k) → Var1 w 23 gn v → OwnT w wb.heap.size 25 v hs → Calls Tryz.prog 37 #[.agg #[.int .i64 h.k, .slice h.ka h.kn h.kc, .slice h.va h.vn h.vc, .slice h.da h.dn h.dc, .slice h.ta h.tn h.tc], .int .i64 (n : Int), .pointer (some ⟨gn, 0, none⟩), .pointer (some ⟨gw, 0, none⟩), .pointer (some ⟨gc, 0, none⟩)] w (CutCPost wb w gn v hs (headA k n r).tr ((partsA n r).map AT.tr))) :
    Calls Tryz.prog 37 #[.agg #[.int .i64 h.k, .slice h.ka h.kn h.kc, .slice h.va h.vn h.vc, .slice h.da h.dn h.dc, .slice h.ta h.tn h.tc], .int .i64 ((n + 1 : Nat) : Int), .pointer (some ⟨gn, 0, none⟩), .pointer (some ⟨gw, 0, none⟩), .pointer (some ⟨gc, 0, none⟩)] w (CutCPost wb w gn v hs (headA k (n + 1) (AT.node l key val r)).tr ((partsA (n + 1) (AT.node l key val r)).map AT.tr)) := by
  have hd1 : ((n + 1 : Nat) : Int) - 1 = (n : Int) := by omega
  have e64 : IntKind.i64.wrap (n : Int) = (n : Int) := IntWalk.i64_in _ (by omega)
  obtain ⟨D, hD⟩ : ∃ D : Int, ((n + 1 : Nat) : Int) = D := ⟨_, rfl⟩
  have hD0 : (D == 0) = false := by rw [← hD]; simp; omega
  rw [hD] at hd1 ⊢
  clear hD
  have HTN : Hid (h.tn = 2) := Lib.hid (by obtain ⟨H, hp⟩ := ht.parts; exact hp.len.symm)
  have hct : countT (AT.node l key val r).tr = 1 + (countT l.tr + countT r.tr) := by
    rw [countT_eq]
    show 1 + ([l.tr, r.tr].map countT).sum = _
    simp
  have l0 : 0 < (AT.node l key val r).tr.kids.length := by show 0 < 2; omega
  have l1 : 1 < (AT.node l key val r).tr.kids.length := by show 1 < 2; omega
  have hbd0 : hs.length + countT l.tr ≤ 1000 := by omega
  have hbd3 : hs.length + countT l.tr + countT r.tr ≤ 1000 := by omega
  have HEQ : Hid (Tr.mk 1 key val [] [(headA k n l).tr, (headA k n r).tr] = (headA k (n + 1) (AT.node l key val r)).tr ∧ (partsA n l).map AT.tr ++ (partsA n r).map AT.tr = (partsA (n + 1) (AT.node l key val r)).map AT.tr) := Lib.hid ⟨rfl, by rw [← List.map_append]; rfl⟩
  have IHL := Lib.hid ihl
  have IHR := Lib.hid ihr
  have HHC : Hid (wb.heap.size ≤ gn) := Lib.hid hge
  have HD := Lib.hid (LC.enter h hbw hge hc hw hv ho)
  obtain ⟨H, hp⟩ := ht.parts
  have HP := Lib.hid hp
  have HTI := Lib.hid ht
  have HKK := Lib.hid hp.hk
  clear hbw hge hc hw hv ho hp ht
  clear hct hcn ihl ihr
  have e0 : (h.k == 0) = false := by rw [HKK.out]; rfl
  go_enter Tryz.func37, Tryz.ntmps37
  go_upto_region 1 with fail
  generalize ((w.alloc (.cells #[.int .i64 h.k, .slice h.ka h.kn h.kc, .slice h.va h.vn h.vc, .slice h.da h.dn h.dc, .slice h.ta h.tn h.tc] 25)).alloc (.cells #[.int .i64 0, .slice none 0 0, .slice none 0 0, .slice none 0 0, .slice none 0 0] 25)) = w0 at *
  obtain ⟨x0, x1, x2, x3, x4⟩ := HD.out.cells
  go_upto_region 7 with fail
  clear x0 x1 x2 x3 x4 e0 hD0
  have HD0 := Lib.hid HD.out
  clear HD
  obtain ⟨g, off, hta, hg, -⟩ := (HP.out.below HD0.out.b).place (by rw [HTN.out]; omega)
  have HTA := Lib.hid hta
  clear hta hg
  have ht0 : 0 < h.tn := by rw [HTN.out]; omega
  have ht1 : (1 : Int) < (h.tn : Int) := by rw [HTN.out]; omega
  go_cut [11, 12] (fun s11 s12 wx => KidPost wb w0.drew gn v hs (headA k n l).tr ((partsA n l).map AT.tr) s11 s12 wx)
  case first =>
    have HDZ := Lib.hid (HD0.out.drew.below ((Below.refl _ _).alloc (Nat.le_refl _) (.cells #[.int .i64 0, .slice none 0 0, .slice none 0 0, .slice none 0 0, .slice none 0 0] 25)))
    have HBZ : Hid (BN (w0.drew.alloc (.cells #[.int .i64 0, .slice none 0 0, .slice none 0 0, .slice none 0 0, .slice none 0 0] 25)) gn v w0.heap.size hZ) := Lib.hid ⟨Box.new w0.drew 25 hZ, by have := HD0.out.var.lt; omega, fun e => by have := (HD0.out.own.lt _ e.symm).2; omega⟩
    have HSZ : Hid (wb.heap.size ≤ w0.heap.size) := Lib.hid HD0.out.b.size
    refine wp_region_held_drew (S := (fun W => W.cell? ⟨gc, 0, none⟩ = some (.func (.func 37) #[] #[.pointer (some ⟨gn, 0, none⟩), .pointer (some ⟨gw, 0, none⟩), .pointer (some ⟨gc, 0, none⟩)]) ∧ W.cell? ⟨w.heap.size, 4, none⟩ = some (.slice (some ⟨g, off, none⟩) h.tn h.tc) ∧ W.cell? ⟨g, off, none⟩ = some (.int .i64 (H 0).k) ∧ W.cell? ⟨g, off + 1, none⟩ = some (.slice (H 0).ka (H 0).kn (H 0).kc) ∧ W.cell? ⟨g, off + 2, none⟩ = some (.slice (H 0).va (H 0).vn (H 0).vc) ∧ W.cell? ⟨g, off + 3, none⟩ = some (.slice (H 0).da (H 0).dn (H 0).dc) ∧ W.cell? ⟨g, off + 4, none⟩ = some (.slice (H 0).ta (H 0).tn (H 0).tc))) (by kernel_rfl) (by first | exact ⟨HD0.out.drew.clo.cell, (HD0.out.drew.cells.2.2.2.2).trans (by rw [HTA.out]), (HP.out.below HD0.out.drew.b).kid0 HTA.out (by omega)⟩) (fun hHeld => ?_)
    refine take_w (i := 0) (oi := ?oZ20) (v := ?vZ20) ?hiZ20 (by kernel_rfl) (by kernel_rfl) (by kernel_rfl) ?hQZ20 ?hwZ20 ?hyZ20 (by assumption) ?restZ20
    case hiZ20 => (simp only [List.getElem?_toArray, List.getElem?_cons_zero] <;> rfl)
    case hQZ20 => exact (fun _ _ _ h => h)
    case hwZ20 => rfl
    case hyZ20 => (intro w hSw; (try dsimp only at hSw); go_simp; try with_reducible rfl)
    (try simp only [Act.put, List.setIfInBounds_toArray, List.set_cons_zero, List.set_cons_succ])
    refine take_w (i := 1) (oi := ?oZ21) (v := ?vZ21) ?hiZ21 (by kernel_rfl) (by kernel_rfl) (by kernel_rfl) ?hQZ21 ?hwZ21 ?hyZ21 (by assumption) ?restZ21
    case hiZ21 => (simp only [List.getElem?_toArray, List.getElem?_cons_succ, List.getElem?_cons_zero] <;> rfl)
    case hQZ21 => exact (fun _ _ _ h => h)
    case hwZ21 => rfl
    case hyZ21 => (intro w hSw; (try dsimp only at hSw); go_simp; try with_reducible rfl)
    (try simp only [Act.put, List.setIfInBounds_toArray, List.set_cons_zero, List.set_cons_succ])
    refine take_w (i := 2) (oi := ?oZ22) (v := ?vZ22) ?hiZ22 (by kernel_rfl) (by kernel_rfl) (by kernel_rfl) ?hQZ22 ?hwZ22 ?hyZ22 (by assumption) ?restZ22
    case hiZ22 => (simp only [List.getElem?_toArray, List.getElem?_cons_succ, List.getElem?_cons_zero] <;> rfl)
    case hQZ22 => exact (fun _ _ _ h => h)
    case hwZ22 => rfl
    case hyZ22 => (intro w hSw; (try dsimp only at hSw); go_simp; try with_reducible rfl)
    (try simp only [Act.put, List.setIfInBounds_toArray, List.set_cons_zero, List.set_cons_succ])
    refine take_w (i := 3) (oi := ?oZ23) (v := ?vZ23) ?hiZ23 (by kernel_rfl) (by kernel_rfl) (by kernel_rfl) ?hQZ23 ?hwZ23 ?hyZ23 (by assumption) ?restZ23
    case hiZ23 => (simp only [List.getElem?_toArray, List.getElem?_cons_succ, List.getElem?_cons_zero] <;> rfl)
    case hQZ23 => exact (fun _ _ _ h => h)
    case hwZ23 => rfl
    case hyZ23 => (intro w hSw; (try dsimp only at hSw); go_simp; try with_reducible rfl)
    (try simp only [Act.put, List.setIfInBounds_toArray, List.set_cons_zero, List.set_cons_succ])
    refine take_w (i := 4) (oi := ?oZ24) (v := ?vZ24) ?hiZ24 (by kernel_rfl) (by kernel_rfl) (by kernel_rfl) ?hQZ24 ?hwZ24 ?hyZ24 (by assumption) ?restZ24
    case hiZ24 => (simp only [List.getElem?_toArray, List.getElem?_cons_succ, List.getElem?_cons_zero] <;> rfl)
    case hQZ24 => exact (fun _ _ _ h => h)
    case hwZ24 => rfl
    case hyZ24 => (intro w hSw; (try dsimp only at hSw); go_simp; try with_reducible rfl)
    (try simp only [Act.put, List.setIfInBounds_toArray, List.set_cons_zero, List.set_cons_succ])
    refine take_w (i := 5) (oi := ?oZ25) (v := ?vZ25) ?hiZ25 (by kernel_rfl) (by kernel_rfl) (by kernel_rfl) ?hQZ25 ?hwZ25 ?hyZ25 (by assumption) ?restZ25
    case hiZ25 => (simp only [List.getElem?_toArray, List.getElem?_cons_succ, List.getElem?_cons_zero] <;> rfl)
    case hQZ25 => exact (fun _ _ _ h => h)
    case hwZ25 => rfl
    case hyZ25 => (intro w hSw; (try dsimp only at hSw); go_simp; try with_reducible rfl)
    (try simp only [Act.put, List.setIfInBounds_toArray, List.set_cons_zero, List.set_cons_succ])
    refine take_w (i := 6) (oi := ?oZ26) (v := ?vZ26) ?hiZ26 (by kernel_rfl) (by kernel_rfl) (by kernel_rfl) ?hQZ26 ?hwZ26 ?hyZ26 (by assumption) ?restZ26
    case hiZ26 => (simp only [List.getElem?_toArray, List.getElem?_cons_succ, List.getElem?_cons_zero] <;> rfl)
    case hQZ26 => exact (fun _ _ _ h => h)
    case hwZ26 => rfl
    case hyZ26 => (intro w hSw; (try dsimp only at hSw); go_simp; try with_reducible rfl)
    (try simp only [Act.put, List.setIfInBounds_toArray, List.set_cons_zero, List.set_cons_succ])
    refine wpAnyH_ready (rs := [7, 11]) (by kernel_rfl) (by simp) ?_
    refine AllReadyH.cons (o := ?oZ27) ?hiZ27 (fun K hK => ?stZ27) (AllReadyH.cons (o := ?oZ28) ?hiZ28 (fun K hK => ?stZ28) AllReadyH.nil)
    case hiZ27 => (simp only [List.getElem?_toArray, List.getElem?_cons_succ, List.getElem?_cons_zero] <;> rfl)
    case hiZ28 => (simp only [List.getElem?_toArray, List.getElem?_cons_succ, List.getElem?_cons_zero] <;> rfl)
    case stZ27 =>
      go_simp
      go_at_call 37
      refine (IHL.out (H 0) _ v (hs) (HP.out.kids 0 l0) hbd0 HD0.out.drew.b HD0.out.drew.clo HD0.out.drew.wid HD0.out.drew.var HD0.out.drew.own).mono ?_
      rintro _ wk ⟨hk, vk, hsk, rfl, hvk, hok, hhk, hkk, hsk2⟩
      unfold TH.v
      have HVK := Lib.hid hvk
      have HOK := Lib.hid hok
      have HHK := Lib.hid hhk
      have HKK2 := Lib.hid hkk
      have HSK := Lib.hid hsk2
      have HDK := Lib.hid (HD0.out.drew.step hvk hok hkk)
      clear hvk hok hhk hkk hsk2
      have HDKA := Lib.hid (HDK.out.below ((Below.refl _ _).alloc (Nat.le_refl _) (.cells #[.int .i64 0, .slice none 0 0, .slice none 0 0, .slice none 0 0, .slice none 0 0] 25)))
      have HBK : Hid (Box (wk.alloc (.cells #[.int .i64 0, .slice none 0 0, .slice none 0 0, .slice none 0 0, .slice none 0 0] 25)) 25 wk.heap.size hZ) := Lib.hid (Box.new wk 25 hZ)
      go_simp
      refine hK.out _ _ ?_ (fun hHeld => ?_)
      · (first | exact ⟨HDL.out.clo.cell, (HDL.out.cells.2.2.2.2).trans (by rw [HTA.out]), (HP.out.below HDL.out.b).kid0 HTA.out (by omega)⟩ | exact ⟨HDKA.out.clo.cell, (HDKA.out.cells.2.2.2.2).trans (by rw [HTA.out]), (HP.out.below HDKA.out.b).kid0 HTA.out (by omega)⟩ | exact ⟨HDK.out.clo.cell, (HDK.out.cells.2.2.2.2).trans (by rw [HTA.out]), (HP.out.below HDK.out.b).kid0 HTA.out (by omega)⟩ | exact ⟨HDZ.out.clo.cell, (HDZ.out.cells.2.2.2.2).trans (by rw [HTA.out]), (HP.out.below HDZ.out.b).kid0 HTA.out (by omega)⟩ | exact ⟨HD0.out.drew.clo.cell, (HD0.out.drew.cells.2.2.2.2).trans (by rw [HTA.out]), (HP.out.below HD0.out.drew.b).kid0 HTA.out (by omega)⟩)
      clear hK K
      (try simp only [Act.put, List.setIfInBounds_toArray, List.set_cons_zero, List.set_cons_succ])
      refine take_w (i := 8) (oi := ?oZ29) (v := ?vZ29) ?hiZ29 (by kernel_rfl) (by kernel_rfl) (by kernel_rfl) ?hQZ29 ?hwZ29 ?hyZ29 (by assumption) ?restZ29
      case hiZ29 => (simp only [List.getElem?_toArray, List.getElem?_cons_succ, List.getElem?_cons_zero] <;> rfl)
      case hQZ29 => exact (fun _ _ _ h => h)
      case hwZ29 => rfl
      case hyZ29 => (intro w hSw; (try dsimp only at hSw); go_simp; try with_reducible rfl)
      (try simp only [Act.put, List.setIfInBounds_toArray, List.set_cons_zero, List.set_cons_succ])
      refine take_w (i := 9) (oi := ?oZ30) (v := ?vZ30) ?hiZ30 (by kernel_rfl) (by kernel_rfl) (by kernel_rfl) ?hQZ30 ?hwZ30 ?hyZ30 (by assumption) ?restZ30
      case hiZ30 => (simp only [List.getElem?_toArray, List.getElem?_cons_succ, List.getElem?_cons_zero] <;> rfl)
      case hQZ30 => exact (fun _ _ _ h => h)
      case hwZ30 => rfl
      case hyZ30 => (intro w hSw; (try dsimp only at hSw); go_simp; try with_reducible rfl)
      (try simp only [Act.put, List.setIfInBounds_toArray, List.set_cons_zero, List.set_cons_succ])
      refine take_w (i := 10) (oi := ?oZ31) (v := ?vZ31) ?hiZ31 (by kernel_rfl) (by kernel_rfl) (by kernel_rfl) ?hQZ31 ?hwZ31 ?hyZ31 (by assumption) ?restZ31
      case hiZ31 => (simp only [List.getElem?_toArray, List.getElem?_cons_succ, List.getElem?_cons_zero] <;> rfl)
      case hQZ31 => exact (fun _ _ _ h => h)
      case hwZ31 => rfl
      case hyZ31 => (intro w hSw; (try dsimp only at hSw); go_simp; try with_reducible rfl)
      (try simp only [Act.put, List.setIfInBounds_toArray, List.set_cons_zero, List.set_cons_succ])
      refine wpAnyH_ready (rs := [11]) (by kernel_rfl) (by simp) ?_
      refine AllReadyH.cons (o := ?oZ32) ?hiZ32 (fun K hK => ?stZ32) AllReadyH.nil
      case hiZ32 => (simp only [List.getElem?_toArray, List.getElem?_cons_succ, List.getElem?_cons_zero] <;> rfl)
      go_simp
      refine hK.out _ _ ?_ (fun hHeld => ?_)
      · (first | exact ⟨HDL.out.clo.cell, (HDL.out.cells.2.2.2.2).trans (by rw [HTA.out]), (HP.out.below HDL.out.b).kid0 HTA.out (by omega)⟩ | exact ⟨HDKA.out.clo.cell, (HDKA.out.cells.2.2.2.2).trans (by rw [HTA.out]), (HP.out.below HDKA.out.b).kid0 HTA.out (by omega)⟩ | exact ⟨HDK.out.clo.cell, (HDK.out.cells.2.2.2.2).trans (by rw [HTA.out]), (HP.out.below HDK.out.b).kid0 HTA.out (by omega)⟩ | exact ⟨HDZ.out.clo.cell, (HDZ.out.cells.2.2.2.2).trans (by rw [HTA.out]), (HP.out.below HDZ.out.b).kid0 HTA.out (by omega)⟩ | exact ⟨HD0.out.drew.clo.cell, (HD0.out.drew.cells.2.2.2.2).trans (by rw [HTA.out]), (HP.out.below HD0.out.drew.b).kid0 HTA.out (by omega)⟩)
      clear hK K
      (try simp only [Act.put, List.setIfInBounds_toArray, List.set_cons_zero, List.set_cons_succ])
      refine wpAnyH_ready (rs := [12]) (by kernel_rfl) (by simp) ?_
      refine AllReadyH.cons (o := ?oZ33) ?hiZ33 (fun K hK => ?stZ33) AllReadyH.nil
      case hiZ33 => (simp only [List.getElem?_toArray, List.getElem?_cons_succ, List.getElem?_cons_zero] <;> rfl)
      refine step_store_box rfl 25 (.tmp 11) (.tmp 44) rfl wk.heap.size hZ hk rfl (by unfold TH.v; rfl) 25 HBK.out infoTree5 ?_
      intro wl hbl hgl
      have hkp := KidPost.one HVK.out HOK.out HHK.out HKK2.out HSK.out hgl hbl
      have HKP := Lib.hid hkp
      obtain ⟨vl, hsl, hdl⟩ := LC.kid HD0.out.drew hkp
      have HDL := Lib.hid hdl
      clear hbl hgl hkp hdl
      refine hK.out _ _ ?_ (fun hHeld => ?_)
      · (first | exact ⟨HDL.out.clo.cell, (HDL.out.cells.2.2.2.2).trans (by rw [HTA.out]), (HP.out.below HDL.out.b).kid0 HTA.out (by omega)⟩ | exact ⟨HDKA.out.clo.cell, (HDKA.out.cells.2.2.2.2).trans (by rw [HTA.out]), (HP.out.below HDKA.out.b).kid0 HTA.out (by omega)⟩ | exact ⟨HDK.out.clo.cell, (HDK.out.cells.2.2.2.2).trans (by rw [HTA.out]), (HP.out.below HDK.out.b).kid0 HTA.out (by omega)⟩ | exact ⟨HDZ.out.clo.cell, (HDZ.out.cells.2.2.2.2).trans (by rw [HTA.out]), (HP.out.below HDZ.out.b).kid0 HTA.out (by omega)⟩ | exact ⟨HD0.out.drew.clo.cell, (HD0.out.drew.cells.2.2.2.2).trans (by rw [HTA.out]), (HP.out.below HD0.out.drew.b).kid0 HTA.out (by omega)⟩)
      clear hK K
      (try simp only [Act.put])
      refine wpAnyH_ready (rs := [13]) (by kernel_rfl) (by simp) ?_
      refine AllReadyH.cons (o := ?oZ34) ?hiZ34 (fun K hK => ?stZ34) AllReadyH.nil
      case hiZ34 => (simp only [List.getElem?_toArray, List.getElem?_cons_succ, List.getElem?_cons_zero] <;> rfl)
      go_simp
      refine hK.out _ _ ?_ (fun hHeld => ?_)
      · (first | exact ⟨HDL.out.clo.cell, (HDL.out.cells.2.2.2.2).trans (by rw [HTA.out]), (HP.out.below HDL.out.b).kid0 HTA.out (by omega)⟩ | exact ⟨HDKA.out.clo.cell, (HDKA.out.cells.2.2.2.2).trans (by rw [HTA.out]), (HP.out.below HDKA.out.b).kid0 HTA.out (by omega)⟩ | exact ⟨HDK.out.clo.cell, (HDK.out.cells.2.2.2.2).trans (by rw [HTA.out]), (HP.out.below HDK.out.b).kid0 HTA.out (by omega)⟩ | exact ⟨HDZ.out.clo.cell, (HDZ.out.cells.2.2.2.2).trans (by rw [HTA.out]), (HP.out.below HDZ.out.b).kid0 HTA.out (by omega)⟩ | exact ⟨HD0.out.drew.clo.cell, (HD0.out.drew.cells.2.2.2.2).trans (by rw [HTA.out]), (HP.out.below HD0.out.drew.b).kid0 HTA.out (by omega)⟩)
      clear hK K
      (try simp only [Act.put, List.setIfInBounds_toArray, List.set_cons_zero, List.set_cons_succ])
      refine wpAnyH_done (by kernel_rfl) ?_ _
      go_wp2_with fail
      go_meet
      exact HKP.out
    case stZ28 =>
      go_simp
      refine hK.out _ _ ?_ (fun hHeld => ?_)
      · (first | exact ⟨HDL.out.clo.cell, (HDL.out.cells.2.2.2.2).trans (by rw [HTA.out]), (HP.out.below HDL.out.b).kid0 HTA.out (by omega)⟩ | exact ⟨HDKA.out.clo.cell, (HDKA.out.cells.2.2.2.2).trans (by rw [HTA.out]), (HP.out.below HDKA.out.b).kid0 HTA.out (by omega)⟩ | exact ⟨HDK.out.clo.cell, (HDK.out.cells.2.2.2.2).trans (by rw [HTA.out]), (HP.out.below HDK.out.b).kid0 HTA.out (by omega)⟩ | exact ⟨HDZ.out.clo.cell, (HDZ.out.cells.2.2.2.2).trans (by rw [HTA.out]), (HP.out.below HDZ.out.b).kid0 HTA.out (by omega)⟩ | exact ⟨HD0.out.drew.clo.cell, (HD0.out.drew.cells.2.2.2.2).trans (by rw [HTA.out]), (HP.out.below HD0.out.drew.b).kid0 HTA.out (by omega)⟩)
      clear hK K
      (try simp only [Act.put, List.setIfInBounds_toArray, List.set_cons_zero, List.set_cons_succ])
      refine wpAnyH_ready (rs := [7]) (by kernel_rfl) (by simp) ?_
      refine AllReadyH.cons (o := ?oZ35) ?hiZ35 (fun K hK => ?stZ35) AllReadyH.nil
      case hiZ35 => (simp only [List.getElem?_toArray, List.getElem?_cons_succ, List.getElem?_cons_zero] <;> rfl)
      go_simp
      go_at_call 37
      refine (IHL.out (H 0) _ v (hs) (HP.out.kids 0 l0) hbd0 HDZ.out.b HDZ.out.clo HDZ.out.wid HDZ.out.var HDZ.out.own).mono ?_
      rintro _ wk ⟨hk, vk, hsk, rfl, hvk, hok, hhk, hkk, hsk2⟩
      unfold TH.v
      have HVK := Lib.hid hvk
      have HOK := Lib.hid hok
      have HHK := Lib.hid hhk
      have HKK2 := Lib.hid hkk
      have HSK := Lib.hid hsk2
      have HDK := Lib.hid (HDZ.out.step hvk hok hkk)
      clear hvk hok hhk hkk hsk2
      have HBK := Lib.hid (HBZ.out.step HKK2.out)
      go_simp
      refine hK.out _ _ ?_ (fun hHeld => ?_)
      · (first | exact ⟨HDL.out.clo.cell, (HDL.out.cells.2.2.2.2).trans (by rw [HTA.out]), (HP.out.below HDL.out.b).kid0 HTA.out (by omega)⟩ | exact ⟨HDKA.out.clo.cell, (HDKA.out.cells.2.2.2.2).trans (by rw [HTA.out]), (HP.out.below HDKA.out.b).kid0 HTA.out (by omega)⟩ | exact ⟨HDK.out.clo.cell, (HDK.out.cells.2.2.2.2).trans (by rw [HTA.out]), (HP.out.below HDK.out.b).kid0 HTA.out (by omega)⟩ | exact ⟨HDZ.out.clo.cell, (HDZ.out.cells.2.2.2.2).trans (by rw [HTA.out]), (HP.out.below HDZ.out.b).kid0 HTA.out (by omega)⟩ | exact ⟨HD0.out.drew.clo.cell, (HD0.out.drew.cells.2.2.2.2).trans (by rw [HTA.out]), (HP.out.below HD0.out.drew.b).kid0 HTA.out (by omega)⟩)
      clear hK K
      (try simp only [Act.put, List.setIfInBounds_toArray, List.set_cons_zero, List.set_cons_succ])
      refine take_w (i := 8) (oi := ?oZ36) (v := ?vZ36) ?hiZ36 (by kernel_rfl) (by kernel_rfl) (by kernel_rfl) ?hQZ36 ?hwZ36 ?hyZ36 (by assumption) ?restZ36
      case hiZ36 => (simp only [List.getElem?_toArray, List.getElem?_cons_succ, List.getElem?_cons_zero] <;> rfl)
      case hQZ36 => exact (fun _ _ _ h => h)
      case hwZ36 => rfl
      case hyZ36 => (intro w hSw; (try dsimp only at hSw); go_simp; try with_reducible rfl)
      (try simp only [Act.put, List.setIfInBounds_toArray, List.set_cons_zero, List.set_cons_succ])
      refine take_w (i := 9) (oi := ?oZ37) (v := ?vZ37) ?hiZ37 (by kernel_rfl) (by kernel_rfl) (by kernel_rfl) ?hQZ37 ?hwZ37 ?hyZ37 (by assumption) ?restZ37
      case hiZ37 => (simp only [List.getElem?_toArray, List.getElem?_cons_succ, List.getElem?_cons_zero] <;> rfl)
      case hQZ37 => exact (fun _ _ _ h => h)
      case hwZ37 => rfl
      case hyZ37 => (intro w hSw; (try dsimp only at hSw); go_simp; try with_reducible rfl)
      (try simp only [Act.put, List.setIfInBounds_toArray, List.set_cons_zero, List.set_cons_succ])
      refine take_w (i := 10) (oi := ?oZ38) (v := ?vZ38) ?hiZ38 (by kernel_rfl) (by kernel_rfl) (by kernel_rfl) ?hQZ38 ?hwZ38 ?hyZ38 (by assumption) ?restZ38
      case hiZ38 => (simp only [List.getElem?_toArray, List.getElem?_cons_succ, List.getElem?_cons_zero] <;> rfl)
      case hQZ38 => exact (fun _ _ _ h => h)
      case hwZ38 => rfl
      case hyZ38 => (intro w hSw; (try dsimp only at hSw); go_simp; try with_reducible rfl)
      (try simp only [Act.put, List.setIfInBounds_toArray, List.set_cons_zero, List.set_cons_succ])
      refine wpAnyH_ready (rs := [12]) (by kernel_rfl) (by simp) ?_
      refine AllReadyH.cons (o := ?oZ39) ?hiZ39 (fun K hK => ?stZ39) AllReadyH.nil
      case hiZ39 => (simp only [List.getElem?_toArray, List.getElem?_cons_succ, List.getElem?_cons_zero] <;> rfl)
      refine step_store_box rfl 25 (.tmp 11) (.tmp 44) rfl w0.heap.size hZ hk rfl (by unfold TH.v; rfl) 25 HBK.out.box infoTree5 ?_
      intro wl hbl hgl
      have hkp := KidPost.two (wd := w0.drew) HSZ.out HBZ.out HVK.out HOK.out HHK.out HKK2.out HSK.out hgl hbl
      have HKP := Lib.hid hkp
      obtain ⟨vl, hsl, hdl⟩ := LC.kid HD0.out.drew hkp
      have HDL := Lib.hid hdl
      clear hbl hgl hkp hdl
      refine hK.out _ _ ?_ (fun hHeld => ?_)
      · (first | exact ⟨HDL.out.clo.cell, (HDL.out.cells.2.2.2.2).trans (by rw [HTA.out]), (HP.out.below HDL.out.b).kid0 HTA.out (by omega)⟩ | exact ⟨HDKA.out.clo.cell, (HDKA.out.cells.2.2.2.2).trans (by rw [HTA.out]), (HP.out.below HDKA.out.b).kid0 HTA.out (by omega)⟩ | exact ⟨HDK.out.clo.cell, (HDK.out.cells.2.2.2.2).trans (by rw [HTA.out]), (HP.out.below HDK.out.b).kid0 HTA.out (by omega)⟩ | exact ⟨HDZ.out.clo.cell, (HDZ.out.cells.2.2.2.2).trans (by rw [HTA.out]), (HP.out.below HDZ.out.b).kid0 HTA.out (by omega)⟩ | exact ⟨HD0.out.drew.clo.cell, (HD0.out.drew.cells.2.2.2.2).trans (by rw [HTA.out]), (HP.out.below HD0.out.drew.b).kid0 HTA.out (by omega)⟩)
      clear hK K
      (try simp only [Act.put])
      refine wpAnyH_ready (rs := [13]) (by kernel_rfl) (by simp) ?_
      refine AllReadyH.cons (o := ?oZ40) ?hiZ40 (fun K hK => ?stZ40) AllReadyH.nil
      case hiZ40 => (simp only [List.getElem?_toArray, List.getElem?_cons_succ, List.getElem?_cons_zero] <;> rfl)
      go_simp
      refine hK.out _ _ ?_ (fun hHeld => ?_)
      · (first | exact ⟨HDL.out.clo.cell, (HDL.out.cells.2.2.2.2).trans (by rw [HTA.out]), (HP.out.below HDL.out.b).kid0 HTA.out (by omega)⟩ | exact ⟨HDKA.out.clo.cell, (HDKA.out.cells.2.2.2.2).trans (by rw [HTA.out]), (HP.out.below HDKA.out.b).kid0 HTA.out (by omega)⟩ | exact ⟨HDK.out.clo.cell, (HDK.out.cells.2.2.2.2).trans (by rw [HTA.out]), (HP.out.below HDK.out.b).kid0 HTA.out (by omega)⟩ | exact ⟨HDZ.out.clo.cell, (HDZ.out.cells.2.2.2.2).trans (by rw [HTA.out]), (HP.out.below HDZ.out.b).kid0 HTA.out (by omega)⟩ | exact ⟨HD0.out.drew.clo.cell, (HD0.out.drew.cells.2.2.2.2).trans (by rw [HTA.out]), (HP.out.below HD0.out.drew.b).kid0 HTA.out (by omega)⟩)
      clear hK K
      (try simp only [Act.put, List.setIfInBounds_toArray, List.set_cons_zero, List.set_cons_succ])
      refine wpAnyH_done (by kernel_rfl) ?_ _
      go_wp2_with fail
      go_meet
      exact HKP.out
  case rest =>
    obtain ⟨h1, v1, hs1, L1, rfl, rfl, hv1, ho1, hh1, hk1', hs1', hb1⟩ := hcut
    obtain ⟨wa, hwa⟩ : ∃ x, x = wc := ⟨_, rfl⟩
    subst hwa
    have HD1 := Lib.hid (HD0.out.drew.step hv1 ho1 hk1')
    have HH1 := Lib.hid hh1
    have HB1 := Lib.hid hb1
    have HS1 : Hid (StayT wb.heap.size (w.heap.size + 2) wa gn v1 h1 (headA k n l).tr) := Lib.hid (hs1'.wide HD0.out.ws)
    have hbd1 : (hs ++ hs1).length + countT r.tr ≤ 1000 := by
      have q1 := hh1.1
      have q2 := partsA_len n l
      rw [List.length_map] at q1
      rw [List.length_append]
      omega
    clear hv1 ho1 hh1 hk1' hs1' hb1 hbd0 hbd3 HD0
    go_upto_region 10 with fail
    go_cut [13, 12] (fun s13 s12 wx => KidPost wb wa.drew gn v1 (hs ++ hs1) (headA k n r).tr ((partsA n r).map AT.tr) s13 s12 wx)
    case first =>
      have HDZ := Lib.hid (HD1.out.drew.below ((Below.refl _ _).alloc (Nat.le_refl _) (.cells #[.int .i64 0, .slice none 0 0, .slice none 0 0, .slice none 0 0, .slice none 0 0] 25)))
      have HBZ : Hid (BN (wa.drew.alloc (.cells #[.int .i64 0, .slice none 0 0, .slice none 0 0, .slice none 0 0, .slice none 0 0] 25)) gn v1 wa.heap.size hZ) := Lib.hid ⟨Box.new wa.drew 25 hZ, by have := HD1.out.var.lt; omega, fun e => by have := (HD1.out.own.lt _ e.symm).2; omega⟩
      have HSZ : Hid (wb.heap.size ≤ wa.heap.size) := Lib.hid HD1.out.b.size
      refine wp_region_held_drew (S := (fun W => W.cell? ⟨gc, 0, none⟩ = some (.func (.func 37) #[] #[.pointer (some ⟨gn, 0, none⟩), .pointer (some ⟨gw, 0, none⟩), .pointer (some ⟨gc, 0, none⟩)]) ∧ W.cell? ⟨w.heap.size, 4, none⟩ = some (.slice (some ⟨g, off, none⟩) h.tn h.tc) ∧ W.cell? ⟨g, off + 5, none⟩ = some (.int .i64 (H 1).k) ∧ W.cell? ⟨g, off + 5 + 1, none⟩ = some (.slice (H 1).ka (H 1).kn (H 1).kc) ∧ W.cell? ⟨g, off + 5 + 2, none⟩ = some (.slice (H 1).va (H 1).vn (H 1).vc) ∧ W.cell? ⟨g, off + 5 + 3, none⟩ = some (.slice (H 1).da (H 1).dn (H 1).dc) ∧ W.cell? ⟨g, off + 5 + 4, none⟩ = some (.slice (H 1).ta (H 1).tn (H 1).tc))) (by kernel_rfl) (by first | exact ⟨HD1.out.drew.clo.cell, (HD1.out.drew.cells.2.2.2.2).trans (by rw [HTA.out]), (HP.out.below HD1.out.drew.b).kid1 HTA.out (by omega)⟩) (fun hHeld => ?_)
      refine take_w (i := 0) (oi := ?oZ41) (v := ?vZ41) ?hiZ41 (by kernel_rfl) (by kernel_rfl) (by kernel_rfl) ?hQZ41 ?hwZ41 ?hyZ41 (by assumption) ?restZ41
      case hiZ41 => (simp only [List.getElem?_toArray, List.getElem?_cons_zero] <;> rfl)
      case hQZ41 => exact (fun _ _ _ h => h)
      case hwZ41 => rfl
      case hyZ41 => (intro w hSw; (try dsimp only at hSw); go_simp; try with_reducible rfl)
      (try simp only [Act.put, List.setIfInBounds_toArray, List.set_cons_zero, List.set_cons_succ])
      refine take_w (i := 1) (oi := ?oZ42) (v := ?vZ42) ?hiZ42 (by kernel_rfl) (by kernel_rfl) (by kernel_rfl) ?hQZ42 ?hwZ42 ?hyZ42 (by assumption) ?restZ42
      case hiZ42 => (simp only [List.getElem?_toArray, List.getElem?_cons_succ, List.getElem?_cons_zero] <;> rfl)
      case hQZ42 => exact (fun _ _ _ h => h)
      case hwZ42 => rfl
      case hyZ42 => (intro w hSw; (try dsimp only at hSw); go_simp; try with_reducible rfl)
      (try simp only [Act.put, List.setIfInBounds_toArray, List.set_cons_zero, List.set_cons_succ])
      refine take_w (i := 2) (oi := ?oZ43) (v := ?vZ43) ?hiZ43 (by kernel_rfl) (by kernel_rfl) (by kernel_rfl) ?hQZ43 ?hwZ43 ?hyZ43 (by assumption) ?restZ43
      case hiZ43 => (simp only [List.getElem?_toArray, List.getElem?_cons_succ, List.getElem?_cons_zero] <;> rfl)
      case hQZ43 => exact (fun _ _ _ h => h)
      case hwZ43 => rfl
      case hyZ43 => (intro w hSw; (try dsimp only at hSw); go_simp; try with_reducible rfl)
      (try simp only [Act.put, List.setIfInBounds_toArray, List.set_cons_zero, List.set_cons_succ])
      refine take_w (i := 3) (oi := ?oZ44) (v := ?vZ44) ?hiZ44 (by kernel_rfl) (by kernel_rfl) (by kernel_rfl) ?hQZ44 ?hwZ44 ?hyZ44 (by assumption) ?restZ44
      case hiZ44 => (simp only [List.getElem?_toArray, List.getElem?_cons_succ, List.getElem?_cons_zero] <;> rfl)
      case hQZ44 => exact (fun _ _ _ h => h)
      case hwZ44 => rfl
      case hyZ44 => (intro w hSw; (try dsimp only at hSw); go_simp; try with_reducible rfl)
      (try simp only [Act.put, List.setIfInBounds_toArray, List.set_cons_zero, List.set_cons_succ])
      refine take_w (i := 4) (oi := ?oZ45) (v := ?vZ45) ?hiZ45 (by kernel_rfl) (by kernel_rfl) (by kernel_rfl) ?hQZ45 ?hwZ45 ?hyZ45 (by assumption) ?restZ45
      case hiZ45 => (simp only [List.getElem?_toArray, List.getElem?_cons_succ, List.getElem?_cons_zero] <;> rfl)
      case hQZ45 => exact (fun _ _ _ h => h)
      case hwZ45 => rfl
      case hyZ45 => (intro w hSw; (try dsimp only at hSw); go_simp; try with_reducible rfl)
      (try simp only [Act.put, List.setIfInBounds_toArray, List.set_cons_zero, List.set_cons_succ])
      refine take_w (i := 5) (oi := ?oZ46) (v := ?vZ46) ?hiZ46 (by kernel_rfl) (by kernel_rfl) (by kernel_rfl) ?hQZ46 ?hwZ46 ?hyZ46 (by assumption) ?restZ46
      case hiZ46 => (simp only [List.getElem?_toArray, List.getElem?_cons_succ, List.getElem?_cons_zero] <;> rfl)
      case hQZ46 => exact (fun _ _ _ h => h)
      case hwZ46 => rfl
      case hyZ46 => (intro w hSw; (try dsimp only at hSw); go_simp; try with_reducible rfl)
      (try simp only [Act.put, List.setIfInBounds_toArray, List.set_cons_zero, List.set_cons_succ])
      refine take_w (i := 6) (oi := ?oZ47) (v := ?vZ47) ?hiZ47 (by kernel_rfl) (by kernel_rfl) (by kernel_rfl) ?hQZ47 ?hwZ47 ?hyZ47 (by assumption) ?restZ47
      case hiZ47 => (simp only [List.getElem?_toArray, List.getElem?_cons_succ, List.getElem?_cons_zero] <;> rfl)
      case hQZ47 => exact (fun _ _ _ h => h)
      case hwZ47 => rfl
      case hyZ47 => (intro w hSw; (try dsimp only at hSw); go_simp; try with_reducible rfl)
      (try simp only [Act.put, List.setIfInBounds_toArray, List.set_cons_zero, List.set_cons_succ])
      refine wpAnyH_ready (rs := [7, 11]) (by kernel_rfl) (by simp) ?_
      refine AllReadyH.cons (o := ?oZ48) ?hiZ48 (fun K hK => ?stZ48) (AllReadyH.cons (o := ?oZ49) ?hiZ49 (fun K hK => ?stZ49) AllReadyH.nil)
      case hiZ48 => (simp only [List.getElem?_toArray, List.getElem?_cons_succ, List.getElem?_cons_zero] <;> rfl)
      case hiZ49 => (simp only [List.getElem?_toArray, List.getElem?_cons_succ, List.getElem?_cons_zero] <;> rfl)
      case stZ48 =>
        go_simp
        go_at_call 37
        refine (IHR.out (H 1) _ v1 (hs ++ hs1) (HP.out.kids 1 l1) hbd1 HD1.out.drew.b HD1.out.drew.clo HD1.out.drew.wid HD1.out.drew.var HD1.out.drew.own).mono ?_
        rintro _ wk ⟨hk, vk, hsk, rfl, hvk, hok, hhk, hkk, hsk2⟩
        unfold TH.v
        have HVK := Lib.hid hvk
        have HOK := Lib.hid hok
        have HHK := Lib.hid hhk
        have HKK2 := Lib.hid hkk
        have HSK := Lib.hid hsk2
        have HDK := Lib.hid (HD1.out.drew.step hvk hok hkk)
        clear hvk hok hhk hkk hsk2
        have HDKA := Lib.hid (HDK.out.below ((Below.refl _ _).alloc (Nat.le_refl _) (.cells #[.int .i64 0, .slice none 0 0, .slice none 0 0, .slice none 0 0, .slice none 0 0] 25)))
        have HBK : Hid (Box (wk.alloc (.cells #[.int .i64 0, .slice none 0 0, .slice none 0 0, .slice none 0 0, .slice none 0 0] 25)) 25 wk.heap.size hZ) := Lib.hid (Box.new wk 25 hZ)
        go_simp
        refine hK.out _ _ ?_ (fun hHeld => ?_)
        · (first | exact ⟨HDL.out.clo.cell, (HDL.out.cells.2.2.2.2).trans (by rw [HTA.out]), (HP.out.below HDL.out.b).kid1 HTA.out (by omega)⟩ | exact ⟨HDKA.out.clo.cell, (HDKA.out.cells.2.2.2.2).trans (by rw [HTA.out]), (HP.out.below HDKA.out.b).kid1 HTA.out (by omega)⟩ | exact ⟨HDK.out.clo.cell, (HDK.out.cells.2.2.2.2).trans (by rw [HTA.out]), (HP.out.below HDK.out.b).kid1 HTA.out (by omega)⟩ | exact ⟨HDZ.out.clo.cell, (HDZ.out.cells.2.2.2.2).trans (by rw [HTA.out]), (HP.out.below HDZ.out.b).kid1 HTA.out (by omega)⟩ | exact ⟨HD1.out.drew.clo.cell, (HD1.out.drew.cells.2.2.2.2).trans (by rw [HTA.out]), (HP.out.below HD1.out.drew.b).kid1 HTA.out (by omega)⟩)
        clear hK K
        (try simp only [Act.put, List.setIfInBounds_toArray, List.set_cons_zero, List.set_cons_succ])
        refine take_w (i := 8) (oi := ?oZ50) (v := ?vZ50) ?hiZ50 (by kernel_rfl) (by kernel_rfl) (by kernel_rfl) ?hQZ50 ?hwZ50 ?hyZ50 (by assumption) ?restZ50
        case hiZ50 => (simp only [List.getElem?_toArray, List.getElem?_cons_succ, List.getElem?_cons_zero] <;> rfl)
        case hQZ50 => exact (fun _ _ _ h => h)
        case hwZ50 => rfl
        case hyZ50 => (intro w hSw; (try dsimp only at hSw); go_simp; try with_reducible rfl)
        (try simp only [Act.put, List.setIfInBounds_toArray, List.set_cons_zero, List.set_cons_succ])
        refine take_w (i := 9) (oi := ?oZ51) (v := ?vZ51) ?hiZ51 (by kernel_rfl) (by kernel_rfl) (by kernel_rfl) ?hQZ51 ?hwZ51 ?hyZ51 (by assumption) ?restZ51
        case hiZ51 => (simp only [List.getElem?_toArray, List.getElem?_cons_succ, List.getElem?_cons_zero] <;> rfl)
        case hQZ51 => exact (fun _ _ _ h => h)
        case hwZ51 => rfl
        case hyZ51 => (intro w hSw; (try dsimp only at hSw); go_simp; try with_reducible rfl)
        (try simp only [Act.put, List.setIfInBounds_toArray, List.set_cons_zero, List.set_cons_succ])
        refine take_w (i := 10) (oi := ?oZ52) (v := ?vZ52) ?hiZ52 (by kernel_rfl) (by kernel_rfl) (by kernel_rfl) ?hQZ52 ?hwZ52 ?hyZ52 (by assumption) ?restZ52
        case hiZ52 => (simp only [List.getElem?_toArray, List.getElem?_cons_succ, List.getElem?_cons_zero] <;> rfl)
        case hQZ52 => exact (fun _ _ _ h => h)
        case hwZ52 => rfl
        case hyZ52 => (intro w hSw; (try dsimp only at hSw); go_simp; try with_reducible rfl)
        (try simp only [Act.put, List.setIfInBounds_toArray, List.set_cons_zero, List.set_cons_succ])
        refine wpAnyH_ready (rs := [11]) (by kernel_rfl) (by simp) ?_
        refine AllReadyH.cons (o := ?oZ53) ?hiZ53 (fun K hK => ?stZ53) AllReadyH.nil
        case hiZ53 => (simp only [List.getElem?_toArray, List.getElem?_cons_succ, List.getElem?_cons_zero] <;> rfl)
        go_simp
        refine hK.out _ _ ?_ (fun hHeld => ?_)
        · (first | exact ⟨HDL.out.clo.cell, (HDL.out.cells.2.2.2.2).trans (by rw [HTA.out]), (HP.out.below HDL.out.b).kid1 HTA.out (by omega)⟩ | exact ⟨HDKA.out.clo.cell, (HDKA.out.cells.2.2.2.2).trans (by rw [HTA.out]), (HP.out.below HDKA.out.b).kid1 HTA.out (by omega)⟩ | exact ⟨HDK.out.clo.cell, (HDK.out.cells.2.2.2.2).trans (by rw [HTA.out]), (HP.out.below HDK.out.b).kid1 HTA.out (by omega)⟩ | exact ⟨HDZ.out.clo.cell, (HDZ.out.cells.2.2.2.2).trans (by rw [HTA.out]), (HP.out.below HDZ.out.b).kid1 HTA.out (by omega)⟩ | exact ⟨HD1.out.drew.clo.cell, (HD1.out.drew.cells.2.2.2.2).trans (by rw [HTA.out]), (HP.out.below HD1.out.drew.b).kid1 HTA.out (by omega)⟩)
        clear hK K
        (try simp only [Act.put, List.setIfInBounds_toArray, List.set_cons_zero, List.set_cons_succ])
        refine wpAnyH_ready (rs := [12]) (by kernel_rfl) (by simp) ?_
        refine AllReadyH.cons (o := ?oZ54) ?hiZ54 (fun K hK => ?stZ54) AllReadyH.nil
        case hiZ54 => (simp only [List.getElem?_toArray, List.getElem?_cons_succ, List.getElem?_cons_zero] <;> rfl)
        refine step_store_box rfl 25 (.tmp 13) (.tmp 59) rfl wk.heap.size hZ hk rfl (by unfold TH.v; rfl) 25 HBK.out infoTree5 ?_
        intro wl hbl hgl
        have hkp := KidPost.one HVK.out HOK.out HHK.out HKK2.out HSK.out hgl hbl
        have HKP := Lib.hid hkp
        obtain ⟨vl, hsl, hdl⟩ := LC.kid HD1.out.drew hkp
        have HDL := Lib.hid hdl
        clear hbl hgl hkp hdl
        refine hK.out _ _ ?_ (fun hHeld => ?_)
        · (first | exact ⟨HDL.out.clo.cell, (HDL.out.cells.2.2.2.2).trans (by rw [HTA.out]), (HP.out.below HDL.out.b).kid1 HTA.out (by omega)⟩ | exact ⟨HDKA.out.clo.cell, (HDKA.out.cells.2.2.2.2).trans (by rw [HTA.out]), (HP.out.below HDKA.out.b).kid1 HTA.out (by omega)⟩ | exact ⟨HDK.out.clo.cell, (HDK.out.cells.2.2.2.2).trans (by rw [HTA.out]), (HP.out.below HDK.out.b).kid1 HTA.out (by omega)⟩ | exact ⟨HDZ.out.clo.cell, (HDZ.out.cells.2.2.2.2).trans (by rw [HTA.out]), (HP.out.below HDZ.out.b).kid1 HTA.out (by omega)⟩ | exact ⟨HD1.out.drew.clo.cell, (HD1.out.drew.cells.2.2.2.2).trans (by rw [HTA.out]), (HP.out.below HD1.out.drew.b).kid1 HTA.out (by omega)⟩)
        clear hK K
        (try simp only [Act.put])
        refine wpAnyH_ready (rs := [13]) (by kernel_rfl) (by simp) ?_
        refine AllReadyH.cons (o := ?oZ55) ?hiZ55 (fun K hK => ?stZ55) AllReadyH.nil
        case hiZ55 => (simp only [List.getElem?_toArray, List.getElem?_cons_succ, List.getElem?_cons_zero] <;> rfl)
        go_simp
        refine hK.out _ _ ?_ (fun hHeld => ?_)
        · (first | exact ⟨HDL.out.clo.cell, (HDL.out.cells.2.2.2.2).trans (by rw [HTA.out]), (HP.out.below HDL.out.b).kid1 HTA.out (by omega)⟩ | exact ⟨HDKA.out.clo.cell, (HDKA.out.cells.2.2.2.2).trans (by rw [HTA.out]), (HP.out.below HDKA.out.b).kid1 HTA.out (by omega)⟩ | exact ⟨HDK.out.clo.cell, (HDK.out.cells.2.2.2.2).trans (by rw [HTA.out]), (HP.out.below HDK.out.b).kid1 HTA.out (by omega)⟩ | exact ⟨HDZ.out.clo.cell, (HDZ.out.cells.2.2.2.2).trans (by rw [HTA.out]), (HP.out.below HDZ.out.b).kid1 HTA.out (by omega)⟩ | exact ⟨HD1.out.drew.clo.cell, (HD1.out.drew.cells.2.2.2.2).trans (by rw [HTA.out]), (HP.out.below HD1.out.drew.b).kid1 HTA.out (by omega)⟩)
        clear hK K
        (try simp only [Act.put, List.setIfInBounds_toArray, List.set_cons_zero, List.set_cons_succ])
        refine wpAnyH_done (by kernel_rfl) ?_ _
        go_wp2_with fail
        go_meet
        exact HKP.out
      case stZ49 =>
        go_simp
        refine hK.out _ _ ?_ (fun hHeld => ?_)
        · (first | exact ⟨HDL.out.clo.cell, (HDL.out.cells.2.2.2.2).trans (by rw [HTA.out]), (HP.out.below HDL.out.b).kid1 HTA.out (by omega)⟩ | exact ⟨HDKA.out.clo.cell, (HDKA.out.cells.2.2.2.2).trans (by rw [HTA.out]), (HP.out.below HDKA.out.b).kid1 HTA.out (by omega)⟩ | exact ⟨HDK.out.clo.cell, (HDK.out.cells.2.2.2.2).trans (by rw [HTA.out]), (HP.out.below HDK.out.b).kid1 HTA.out (by omega)⟩ | exact ⟨HDZ.out.clo.cell, (HDZ.out.cells.2.2.2.2).trans (by rw [HTA.out]), (HP.out.below HDZ.out.b).kid1 HTA.out (by omega)⟩ | exact ⟨HD1.out.drew.clo.cell, (HD1.out.drew.cells.2.2.2.2).trans (by rw [HTA.out]), (HP.out.below HD1.out.drew.b).kid1 HTA.out (by omega)⟩)
        clear hK K
        (try simp only [Act.put, List.setIfInBounds_toArray, List.set_cons_zero, List.set_cons_succ])
        refine wpAnyH_ready (rs := [7]) (by kernel_rfl) (by simp) ?_
        refine AllReadyH.cons (o := ?oZ56) ?hiZ56 (fun K hK => ?stZ56) AllReadyH.nil
        case hiZ56 => (simp only [List.getElem?_toArray, List.getElem?_cons_succ, List.getElem?_cons_zero] <;> rfl)
        go_simp
        go_at_call 37
        refine (IHR.out (H 1) _ v1 (hs ++ hs1) (HP.out.kids 1 l1) hbd1 HDZ.out.b HDZ.out.clo HDZ.out.wid HDZ.out.var HDZ.out.own).mono ?_
        rintro _ wk ⟨hk, vk, hsk, rfl, hvk, hok, hhk, hkk, hsk2⟩
        unfold TH.v
        have HVK := Lib.hid hvk
        have HOK := Lib.hid hok
        have HHK := Lib.hid hhk
        have HKK2 := Lib.hid hkk
        have HSK := Lib.hid hsk2
        have HDK := Lib.hid (HDZ.out.step hvk hok hkk)
        clear hvk hok hhk hkk hsk2
        have HBK := Lib.hid (HBZ.out.step HKK2.out)
        go_simp
        refine hK.out _ _ ?_ (fun hHeld => ?_)
        · (first | exact ⟨HDL.out.clo.cell, (HDL.out.cells.2.2.2.2).trans (by rw [HTA.out]), (HP.out.below HDL.out.b).kid1 HTA.out (by omega)⟩ | exact ⟨HDKA.out.clo.cell, (HDKA.out.cells.2.2.2.2).trans (by rw [HTA.out]), (HP.out.below HDKA.out.b).kid1 HTA.out (by omega)⟩ | exact ⟨HDK.out.clo.cell, (HDK.out.cells.2.2.2.2).trans (by rw [HTA.out]), (HP.out.below HDK.out.b).kid1 HTA.out (by omega)⟩ | exact ⟨HDZ.out.clo.cell, (HDZ.out.cells.2.2.2.2).trans (by rw [HTA.out]), (HP.out.below HDZ.out.b).kid1 HTA.out (by omega)⟩ | exact ⟨HD1.out.drew.clo.cell, (HD1.out.drew.cells.2.2.2.2).trans (by rw [HTA.out]), (HP.out.below HD1.out.drew.b).kid1 HTA.out (by omega)⟩)
        clear hK K
        (try simp only [Act.put, List.setIfInBounds_toArray, List.set_cons_zero, List.set_cons_succ])
        refine take_w (i := 8) (oi := ?oZ57) (v := ?vZ57) ?hiZ57 (by kernel_rfl) (by kernel_rfl) (by kernel_rfl) ?hQZ57 ?hwZ57 ?hyZ57 (by assumption) ?restZ57
        case hiZ57 => (simp only [List.getElem?_toArray, List.getElem?_cons_succ, List.getElem?_cons_zero] <;> rfl)
        case hQZ57 => exact (fun _ _ _ h => h)
        case hwZ57 => rfl
        case hyZ57 => (intro w hSw; (try dsimp only at hSw); go_simp; try with_reducible rfl)
        (try simp only [Act.put, List.setIfInBounds_toArray, List.set_cons_zero, List.set_cons_succ])
        refine take_w (i := 9) (oi := ?oZ58) (v := ?vZ58) ?hiZ58 (by kernel_rfl) (by kernel_rfl) (by kernel_rfl) ?hQZ58 ?hwZ58 ?hyZ58 (by assumption) ?restZ58
        case hiZ58 => (simp only [List.getElem?_toArray, List.getElem?_cons_succ, List.getElem?_cons_zero] <;> rfl)
        case hQZ58 => exact (fun _ _ _ h => h)
        case hwZ58 => rfl
        case hyZ58 => (intro w hSw; (try dsimp only at hSw); go_simp; try with_reducible rfl)
        (try simp only [Act.put, List.setIfInBounds_toArray, List.set_cons_zero, List.set_cons_succ])
        refine take_w (i := 10) (oi := ?oZ59) (v := ?vZ59) ?hiZ59 (by kernel_rfl) (by kernel_rfl) (by kernel_rfl) ?hQZ59 ?hwZ59 ?hyZ59 (by assumption) ?restZ59
        case hiZ59 => (simp only [List.getElem?_toArray, List.getElem?_cons_succ, List.getElem?_cons_zero] <;> rfl)
        case hQZ59 => exact (fun _ _ _ h => h)
        case hwZ59 => rfl
        case hyZ59 => (intro w hSw; (try dsimp only at hSw); go_simp; try with_reducible rfl)
        (try simp only [Act.put, List.setIfInBounds_toArray, List.set_cons_zero, List.set_cons_succ])
        refine wpAnyH_ready (rs := [12]) (by kernel_rfl) (by simp) ?_
        refine AllReadyH.cons (o := ?oZ60) ?hiZ60 (fun K hK => ?stZ60) AllReadyH.nil
        case hiZ60 => (simp only [List.getElem?_toArray, List.getElem?_cons_succ, List.getElem?_cons_zero] <;> rfl)
        refine step_store_box rfl 25 (.tmp 13) (.tmp 59) rfl wa.heap.size hZ hk rfl (by unfold TH.v; rfl) 25 HBK.out.box infoTree5 ?_
        intro wl hbl hgl
        have hkp := KidPost.two (wd := wa.drew) HSZ.out HBZ.out HVK.out HOK.out HHK.out HKK2.out HSK.out hgl hbl
        have HKP := Lib.hid hkp
        obtain ⟨vl, hsl, hdl⟩ := LC.kid HD1.out.drew hkp
        have HDL := Lib.hid hdl
        clear hbl hgl hkp hdl
        refine hK.out _ _ ?_ (fun hHeld => ?_)
        · (first | exact ⟨HDL.out.clo.cell, (HDL.out.cells.2.2.2.2).trans (by rw [HTA.out]), (HP.out.below HDL.out.b).kid1 HTA.out (by omega)⟩ | exact ⟨HDKA.out.clo.cell, (HDKA.out.cells.2.2.2.2).trans (by rw [HTA.out]), (HP.out.below HDKA.out.b).kid1 HTA.out (by omega)⟩ | exact ⟨HDK.out.clo.cell, (HDK.out.cells.2.2.2.2).trans (by rw [HTA.out]), (HP.out.below HDK.out.b).kid1 HTA.out (by omega)⟩ | exact ⟨HDZ.out.clo.cell, (HDZ.out.cells.2.2.2.2).trans (by rw [HTA.out]), (HP.out.below HDZ.out.b).kid1 HTA.out (by omega)⟩ | exact ⟨HD1.out.drew.clo.cell, (HD1.out.drew.cells.2.2.2.2).trans (by rw [HTA.out]), (HP.out.below HD1.out.drew.b).kid1 HTA.out (by omega)⟩)
        clear hK K
        (try simp only [Act.put])
        refine wpAnyH_ready (rs := [13]) (by kernel_rfl) (by simp) ?_
        refine AllReadyH.cons (o := ?oZ61) ?hiZ61 (fun K hK => ?stZ61) AllReadyH.nil
        case hiZ61 => (simp only [List.getElem?_toArray, List.getElem?_cons_succ, List.getElem?_cons_zero] <;> rfl)
        go_simp
        refine hK.out _ _ ?_ (fun hHeld => ?_)
        · (first | exact ⟨HDL.out.clo.cell, (HDL.out.cells.2.2.2.2).trans (by rw [HTA.out]), (HP.out.below HDL.out.b).kid1 HTA.out (by omega)⟩ | exact ⟨HDKA.out.clo.cell, (HDKA.out.cells.2.2.2.2).trans (by rw [HTA.out]), (HP.out.below HDKA.out.b).kid1 HTA.out (by omega)⟩ | exact ⟨HDK.out.clo.cell, (HDK.out.cells.2.2.2.2).trans (by rw [HTA.out]), (HP.out.below HDK.out.b).kid1 HTA.out (by omega)⟩ | exact ⟨HDZ.out.clo.cell, (HDZ.out.cells.2.2.2.2).trans (by rw [HTA.out]), (HP.out.below HDZ.out.b).kid1 HTA.out (by omega)⟩ | exact ⟨HD1.out.drew.clo.cell, (HD1.out.drew.cells.2.2.2.2).trans (by rw [HTA.out]), (HP.out.below HD1.out.drew.b).kid1 HTA.out (by omega)⟩)
        clear hK K
        (try simp only [Act.put, List.setIfInBounds_toArray, List.set_cons_zero, List.set_cons_succ])
        refine wpAnyH_done (by kernel_rfl) ?_ _
        go_wp2_with fail
        go_meet
        exact HKP.out
    case rest =>
      obtain ⟨h2, v2, hs2, L2, rfl, rfl, hv2, ho2, hh2, hk2', hs2', hb2⟩ := hcut
      obtain ⟨wq, hwq⟩ : ∃ x, x = wc := ⟨_, rfl⟩
      subst hwq
      have HD2 := Lib.hid (HD1.out.drew.step hv2 ho2 hk2')
      have HH2 := Lib.hid hh2
      have HBL := Lib.hid ((HB1.out.below (Below.refl _ _).drew).step hk2')
      have HSL := Lib.hid ((HS1.out.below (Below.refl _ _).drew).step hk2')
      have HBR := Lib.hid hb2
      have HSR : Hid (StayT wb.heap.size (w.heap.size + 2) wq gn v2 h2 (headA k n r).tr) := Lib.hid (hs2'.wide HD1.out.ws)
      clear hv2 ho2 hh2 hk2' hs2' hb2 hbd1 HD1 HB1 HS1
      obtain ⟨x0, x1, x2, x3, x4⟩ := HD2.out.cells
      obtain ⟨y0, y1, y2, y3, y4⟩ := HBL.out.box.cells
      obtain ⟨z0, z1, z2, z3, z4⟩ := HBR.out.box.cells
      go_wp2_with (first
        | (go_at_call 38
           refine (withKids_any h h1 h2 _).mono ?_
           rintro _ w5 ⟨g5, rfl, hge5, hx5, hb5⟩
           unfold TH.v
           have HD5 := Lib.hid (HD2.out.below hb5)
           have HT5 : Hid (Two5 w5 25 g5 h1 h2 ∧ wq.heap.size ≤ g5) := Lib.hid ⟨hx5, hge5⟩
           have HSL5 := Lib.hid (HSL.out.below hb5)
           have HSR5 := Lib.hid (HSR.out.below hb5)
           clear hge5 hx5 hb5 x0 x1 x2 x3 x4 y0 y1 y2 y3 y4 z0 z1 z2 z3 z4)
        | (refine wpList_store_box rfl 25 (.tmp 7) (.tmp 68) rfl (w.heap.size + 1) hZ ⟨h.k, h.ka, h.kn, h.kc, h.va, h.vn, h.vc, h.da, h.dn, h.dc, some ⟨g5, 0, none⟩, 2, 2⟩ rfl rfl 25 HD5.out.res.box infoTree5 ?_
           intro w9 hbx9 hg9
           have HX9 := Lib.hid hbx9
           have HG9 := Lib.hid hg9
           have HF9 := Lib.hid (HD5.out.fin hg9)
           clear hbx9 hg9))
      refine bodyPost_ret (v := .tuple #[TH.v ⟨h.k, h.ka, h.kn, h.kc, h.va, h.vn, h.vc, h.da, h.dn, h.dc, some ⟨g5, 0, none⟩, 2, 2⟩, .nilIface]) (Box.result Tryz.results37 _ HX9.out rfl Tryz.underlying25 infoTree5) rfl ⟨⟨h.k, h.ka, h.kn, h.kc, h.va, h.vn, h.vc, h.da, h.dn, h.dc, some ⟨g5, 0, none⟩, 2, 2⟩, v2, hs1 ++ hs2, rfl, HF9.out.1, ?_, ?_, HF9.out.2.2.1, ?_⟩
      · rw [← List.append_assoc]
        exact HF9.out.2.1
      · rw [← HEQ.out.2]
        exact HH1.out.app HH2.out
      · rw [← HEQ.out.1]
        have q0 := HT5.out.2
        have q1 := HD2.out.ws
        have q2 := HD2.out.var.lt
        have q3 := HD2.out.sz
        have hx9 : Two5 w9 25 g5 h1 h2 := (HG9.out.block g5 HT5.out.1.lt (fun e => by injection e; omega)).trans HT5.out.1
        have hh1 : h.k = 1 := HKK.out
        rw [hh1]
        have hlo : wb.heap.size ≤ w.heap.size + 1 := by omega
        have own : ∀ j, v2.ownBlock = some j → wb.heap.size ≤ j := fun j e => (HD2.out.own.lt j e).1
        have hB9 := HF9.out.2.2.2
        exact (StayT.node (lo := w.heap.size + 2) hx9 (by omega) (by omega) (fun e => by have := (HD2.out.own.lt _ e.symm).2; omega) (HSL5.out.box HG9.out hlo (Nat.lt_succ_self _)) (HSR5.out.box HG9.out hlo (Nat.lt_succ_self _)) (k := 1) (by omega) (by omega) (StayB.low HP.out.key hB9 HHC.out own) (StayB.low HP.out.val hB9 HHC.out own) (StayB.low HP.out.dig hB9 HHC.out own)).wide (Nat.le_add_right _ _)
end Go.Proofs.YtkcmohmfejmfoaaGreatDoor

/- A row of trees of one's own is trees side by side. -/
namespace Go.Proofs.YtkcmohmfejmfoaaGreatDoor
open Go.RowKit
set_option linter.unusedVariables false

/-- A row of one's own is trees side by side. -/
theorem trees_of_own {W : World} {base : Nat} {v : Value} {hs : List TH} {ts : List Tr} (ho : OwnT W base 25 v hs) (hh : Heads W hs ts) : ∃ a c, v = .slice a hs.length c ∧ TreesAt W a hs.length c ts (fun i => hs.getD i hZ) := by
  have hall : ∀ i (hi : i < ts.length), InTree W (hs.getD i hZ) ts[i] := fun i hi => by
    have h1 : i < hs.length := by rw [hh.1]; exact hi
    have q := hh.2 i h1 hi
    rwa [List.getD, List.getElem?_eq_getElem h1, Option.getD_some]
  rcases ho.form with ⟨rfl, rfl⟩ | ⟨g, c, rfl, hb, hlt, hle, hm, hc⟩
  · exact ⟨none, 0, rfl, ⟨Nat.le_refl _, by simp [maxLen], fun _ => rfl, fun q => absurd q (Nat.lt_irrefl 0)⟩, hh.1.symm, hall⟩
  · refine ⟨some ⟨g, 0, none⟩, c, rfl, ⟨hle, hm, (fun q => by cases q), fun _ => ⟨g, 0, rfl, hlt, fun i hi => ?_⟩⟩, hh.1.symm, hall⟩
    have h5 : i / 5 < hs.length := by omega
    have q := cellsT_get hs (i / 5) (i % 5) h5 (Nat.mod_lt _ (by omega))
    rw [show i / 5 * 5 + i % 5 = i by omega] at q
    rw [Nat.zero_add]
    have q2 := hc i _ q
    rw [q2]
    simp only [List.getD, List.getElem?_eq_getElem h5, Option.getD_some]
/-- The cells of the i-th tree, in memory that grew. -/
theorem TreesAt.place {w : World} {a : Option Addr} {n c : Nat} {ts : List Tr} {H : Nat → TH} (x : TreesAt w a n c ts H) (h0 : 0 < n) : ∃ g off, a = some ⟨g, off, none⟩ ∧ ∀ W, Below w.heap.size w W → ∀ i, i < n → (W.cell? ⟨g, off + i * 5, none⟩ = some (.int .i64 (H i).k) ∧ W.cell? ⟨g, off + i * 5 + 1, none⟩ = some (.slice (H i).ka (H i).kn (H i).kc) ∧ W.cell? ⟨g, off + i * 5 + 2, none⟩ = some (.slice (H i).va (H i).vn (H i).vc) ∧ W.cell? ⟨g, off + i * 5 + 3, none⟩ = some (.slice (H i).da (H i).dn (H i).dc) ∧ W.cell? ⟨g, off + i * 5 + 4, none⟩ = some (.slice (H i).ta (H i).tn (H i).tc)) := by
  obtain ⟨g, off, e, hg, hc⟩ := x.sl.place h0
  refine ⟨g, off, e, fun W hb i hi => ?_⟩
  have key : ∀ j, j < 5 → W.cell? ⟨g, off + i * 5 + j, none⟩ = some ((H i).cell j) := fun j hj => by
    have h1 := hc (i * 5 + j) (by omega)
    try dsimp only at h1
    rw [show (i * 5 + j) / 5 = i by omega, show (i * 5 + j) % 5 = j by omega, ← Nat.add_assoc] at h1
    exact (hb.cell (p := ⟨g, off + i * 5 + j, none⟩) hg).trans h1
  exact ⟨key 0 (by omega), key 1 (by omega), key 2 (by omega), key 3 (by omega), key 4 (by omega)⟩
end Go.Proofs.YtkcmohmfejmfoaaGreatDoor

/- The program's digest of any tree by any width: bytes in new memory, or an error. -/
namespace Go.Proofs.YtkcmohmfejmfoaaGreatDoor
open Go.RowKit
set_option linter.unusedVariables false

/-- There is a digest. -/
def DigIs (x : Int) (p : Tr) (k : Nat) (zs : List Int) : Prop := x = k ∧ 1 ≤ k ∧ k ≤ 32 ∧ checkT p = 0 ∧ digT k p = some zs
theorem digest_is (x : Int) (p : Tr) (h : TH) (w : World) (ht : InTree w h p) (hT : TabLies w) {k : Nat} {zs : List Int} (hi : DigIs x p k zs) : Calls Tryz.prog 35 #[.int .i64 x, h.v] w (fun e w' => ∃ a c, e = .returned (.tuple #[.slice a k c, .nilIface]) ∧ InBytes w' a k c zs ∧ Below w.heap.size w w') := by
  obtain ⟨rfl, h1, h2, h3, h4⟩ := hi
  have hl := digT_len h2 h4
  refine (digest_ok k h1 h2 p h w ht hT h3 h4).mono ?_
  rintro _ w' ⟨a, c, rfl, hn, hb⟩
  rw [hl] at hn
  exact ⟨a, c, by rw [hl], hn.inb, hb⟩
end Go.Proofs.YtkcmohmfejmfoaaGreatDoor

/- What Cut tells of grown trees, and of arguments out of bounds. -/
namespace Go.Proofs.YtkcmohmfejmfoaaGreatDoor
open Go.RowKit
set_option linter.unusedVariables false

theorem cut_bad {x n : Int} {t : Tr} (h : ¬ (0 ≤ n ∧ n ≤ 64) ∨ ¬ (1 ≤ x ∧ x ≤ 32)) : cutX x t n = (1, tNil, []) := by
  unfold cutX
  rw [if_pos h]
theorem cut_good {k m : Nat} {a : AT} (h1 : 1 ≤ k) (h2 : k ≤ 32) (hm : m ≤ 64) (hc : checkT a.tr = 0) : cutX k a.tr m = (0, (headA k m a).tr, (partsA m a).map AT.tr) := by
  unfold cutX
  rw [if_neg (by simp only [not_or, Classical.not_not]; omega), if_neg (by rw [toldD_some h1 h2 hc (AT.digs h2 a)]; simp), if_neg (by rw [AT.tr_full]; simp), toA_tr]
  rfl
end Go.Proofs.YtkcmohmfejmfoaaGreatDoor

/- The contract of the program's Cut. -/
namespace Go.Proofs.YtkcmohmfejmfoaaGreatDoor
open Go.RowKit
set_option linter.unusedVariables false

theorem cutC_any (wb : World) (k : Nat) (hk1 : 1 ≤ k) (hk2 : k ≤ 32) (gw gc : Nat) (hT : TabLies wb) (gn : Nat) (hge : wb.heap.size ≤ gn) : ∀ (a : AT) (n : Nat), n ≤ 64 → Lim a.pairs → a.depth ≤ 64 → ∀ (h : TH) (w : World) (v : Value) (hs : List TH), InTree wb h a.tr → hs.length + countT a.tr ≤ 1000 → Below wb.heap.size wb w → Var1 w 77 gc (.func (.func 37) #[] #[.pointer (some ⟨gn, 0, none⟩), .pointer (some ⟨gw, 0, none⟩), .pointer (some ⟨gc, 0, none⟩)]) → Var1 w 3 gw (.int .i64 k) → Var1 w 23 gn v → OwnT w wb.heap.size 25 v hs → Calls Tryz.prog 37 #[.agg #[.int .i64 h.k, .slice h.ka h.kn h.kc, .slice h.va h.vn h.vc, .slice h.da h.dn h.dc, .slice h.ta h.tn h.tc], .int .i64 (n : Int), .pointer (some ⟨gn, 0, none⟩), .pointer (some ⟨gw, 0, none⟩), .pointer (some ⟨gc, 0, none⟩)] w (CutCPost wb w gn v hs (headA k n a).tr ((partsA n a).map AT.tr)) := by
  intro a
  induction a with
  | nil => exact fun n hn hl hd h w v hs ht hcn hbw hc hw hv ho => cutNil_any wb k hk1 hk2 gw gc hT n h w gn v hs ht hbw hge hc hw hv ho
  | node l key val r ihl ihr =>
    intro n hn hl hd h w v hs ht hcn hbw hc hw hv ho
    have hdl : l.depth ≤ 64 ∧ r.depth ≤ 64 := by
      have q : max l.depth r.depth + 1 ≤ 64 := hd
      omega
    have hcp : 1 ≤ countT (AT.node l key val r).tr := by rw [countT_eq]; omega
    cases n with
    | zero => exact cutLeaf_any wb k hk1 hk2 gw gc hT l key val r hl hd h w gn v hs ht hbw hge hc hw hv ho (by omega)
    | succ n => exact cutNode_any wb k hk1 hk2 gw gc hT n hn l key val r h w gn v hs ht hbw hge hc hw hv ho hcn (ihl n (by omega) hl.node.1 hdl.1) (ihr n (by omega) hl.node.2.2.2 hdl.2)
/-- A tree, a slice and an error as results. -/
theorem result_cut {P : Program} {fn : Func} {p q r : Tmp} {ty : TypeId} (hr : fn.results = #[.cell p ty, .tmp q, .tmp r]) (tmps : Array Value) {w : World} {g : Nat} {t : TypeId} {h : TH} {fs : Array Field} (hx : Box w t g h)
    (hp : tmps.getD p undef = .pointer (some ⟨g, 0, none⟩)) (hu : P.underlying ty = some (.struct fs)) (hi : (P.info? ty).map (·.size) = some 5) :
    (results fn tmps).run P w = .ok (.tuple #[h.v, tmps.getD q undef, tmps.getD r undef]) w := by
  have hp' : tmps[p]?.getD undef = .pointer (some ⟨g, 0, none⟩) := by simpa using hp
  have hl := run_loadVar_row (P := P) w g t ty _ _ (.struct fs) hx hu rfl hi
  simp [results, hr, hp', asAddr, hl, TH.v]
theorem trees_none (w : World) : TreesAt w none 0 0 [] (fun _ => hZ) := ⟨⟨Nat.le_refl _, by simp [maxLen], fun _ => rfl, fun q => absurd q (Nat.lt_irrefl 0)⟩, rfl, fun i hi => absurd hi (by simp)⟩
theorem full_lim {t : Tr} (hc : checkT t = 0) (hf : fullT t = true) : ∃ a : AT, t = a.tr ∧ Lim a.pairs ∧ a.depth ≤ 64 := by
  obtain ⟨hfo, hde⟩ := check_zero hc
  obtain ⟨a, rfl⟩ := AT.of_full t hfo hf
  rw [AT.tr_deep a 64 (by omega), decide_eq_false_iff_not] at hde
  exact ⟨a, rfl, (AT.tr_formed a).1 hfo, by omega⟩
/-- Cut's boxes: the width, the tree, the result. -/
structure KC (w W : World) (x : Int) (h : TH) : Prop where
  wv : Var1 W 3 w.heap.size (.int .i64 x)
  box : Box W 25 (w.heap.size + 1) h
  res : Box W 25 (w.heap.size + 2) hZ
  b : Below w.heap.size w W
theorem KC.below {w W W' : World} {x : Int} {h : TH} (d : KC w W x h) (hb : Below W.heap.size W W') : KC w W' x h := ⟨d.wv.below hb d.wv.lt, d.box.below hb d.box.lt, d.res.below hb d.res.lt, d.b.trans (hb.mono d.b.size)⟩
theorem KC.enter (w : World) (x : Int) (h : TH) : KC w (((w.alloc (.cells #[.int .i64 x] 3)).alloc (.cells #[.int .i64 h.k, .slice h.ka h.kn h.kc, .slice h.va h.vn h.vc, .slice h.da h.dn h.dc, .slice h.ta h.tn h.tc] 25)).alloc (.cells #[.int .i64 0, .slice none 0 0, .slice none 0 0, .slice none 0 0, .slice none 0 0] 25)) x h := by
  have q1 : Below w.heap.size w (w.alloc (.cells #[.int .i64 x] 3)) := (Below.refl _ _).alloc (Nat.le_refl _) _
  have s1 : (w.alloc (.cells #[.int .i64 x] 3)).heap.size = w.heap.size + 1 := by simp
  have s2 : ((w.alloc (.cells #[.int .i64 x] 3)).alloc (.cells #[.int .i64 h.k, .slice h.ka h.kn h.kc, .slice h.va h.vn h.vc, .slice h.da h.dn h.dc, .slice h.ta h.tn h.tc] 25)).heap.size = w.heap.size + 2 := by simp
  have q2 : Below (w.alloc (.cells #[.int .i64 x] 3)).heap.size (w.alloc (.cells #[.int .i64 x] 3)) ((w.alloc (.cells #[.int .i64 x] 3)).alloc (.cells #[.int .i64 h.k, .slice h.ka h.kn h.kc, .slice h.va h.vn h.vc, .slice h.da h.dn h.dc, .slice h.ta h.tn h.tc] 25)) := (Below.refl _ _).alloc (Nat.le_refl _) _
  have q3 : Below ((w.alloc (.cells #[.int .i64 x] 3)).alloc (.cells #[.int .i64 h.k, .slice h.ka h.kn h.kc, .slice h.va h.vn h.vc, .slice h.da h.dn h.dc, .slice h.ta h.tn h.tc] 25)).heap.size ((w.alloc (.cells #[.int .i64 x] 3)).alloc (.cells #[.int .i64 h.k, .slice h.ka h.kn h.kc, .slice h.va h.vn h.vc, .slice h.da h.dn h.dc, .slice h.ta h.tn h.tc] 25)) (((w.alloc (.cells #[.int .i64 x] 3)).alloc (.cells #[.int .i64 h.k, .slice h.ka h.kn h.kc, .slice h.va h.vn h.vc, .slice h.da h.dn h.dc, .slice h.ta h.tn h.tc] 25)).alloc (.cells #[.int .i64 0, .slice none 0 0, .slice none 0 0, .slice none 0 0, .slice none 0 0] 25)) := (Below.refl _ _).alloc (Nat.le_refl _) _
  have x0 := Var1.new w 3 (.int .i64 x)
  have x1 := Box.new (w.alloc (.cells #[.int .i64 x] 3)) 25 h
  have x2 := Box.new ((w.alloc (.cells #[.int .i64 x] 3)).alloc (.cells #[.int .i64 h.k, .slice h.ka h.kn h.kc, .slice h.va h.vn h.vc, .slice h.da h.dn h.dc, .slice h.ta h.tn h.tc] 25)) 25 hZ
  rw [s1] at x1
  rw [s2] at x2
  exact ⟨(x0.below q2 x0.lt).below q3 (x0.below q2 x0.lt).lt, x1.below q3 x1.lt, x2, (q1.trans (q2.mono q1.size)).trans (q3.mono (by rw [s2]; omega))⟩

set_option maxRecDepth 100000 in
set_option maxHeartbeats 8000000 in
theorem ccut_any (x : Int) (hx1 : -9223372036854775808 ≤ x) (hx2 : x ≤ 9223372036854775807) (t : Tr) (h : TH) (n : Int) (hn1 : -9223372036854775808 ≤ n) (hn2 : n ≤ 9223372036854775807) (w : World) (ht : InTree w h t) (hc : countT t ≤ 500) (hT : TabLies w) : Calls Tryz.prog 14 #[.int .i64 x, h.v, .int .i64 n] w (CutTold w (cutX x t n)) := by
  have hmf : ∀ (fn : Fn) (first cap : Array Value) (w : World), (Instr.makeFunc fn first cap).run Tryz.prog w = .ok (.func fn first cap) w := fun _ _ _ _ => rfl
  unfold TH.v
  have HD := Lib.hid (KC.enter w x h)
  have HT := Lib.hid ht
  have HTT := Lib.hid hT
  obtain ⟨rr, hrr⟩ : ∃ rr, cutX x t n = rr := ⟨_, rfl⟩
  rw [hrr]
  have HRR := Lib.hid hrr
  clear ht hT hrr
  go_enter Tryz.func14, Tryz.ntmps14
  go_upto_region 1 with fail
  generalize (((w.alloc (.cells #[.int .i64 x] 3)).alloc (.cells #[.int .i64 h.k, .slice h.ka h.kn h.kc, .slice h.va h.vn h.vc, .slice h.da h.dn h.dc, .slice h.ta h.tn h.tc] 25)).alloc (.cells #[.int .i64 0, .slice none 0 0, .slice none 0 0, .slice none 0 0, .slice none 0 0] 25)) = w0 at *
  have xw := HD.out.wv.cell
  obtain ⟨x0, x1, x2, x3, x4⟩ := HD.out.box.cells
  by_cases hx : 1 ≤ x ∧ x ≤ 32
  case neg =>
    have HE : Hid (rr = (1, tNil, [])) := Lib.hid (by rw [← HRR.out]; exact cut_bad (.inr hx))
    go_wp2_with (first
    | (go_at_call 17
       (with_reducible refine (chWidth_no x _ hx1 hx2 hx).mono ?_)
       rintro _ w9 ⟨rfl, hw9⟩
       rw [hw9]
       clear hw9)
    | (refine wpList_store_box rfl 25 (.tmp 6) (.tmp 26) rfl (w.heap.size + 2) hZ hZ rfl rfl 25 HD.out.res infoTree5 ?_
       intro w9 hbx9 hg9
       have HX9 := Lib.hid hbx9
       have HB9 : Hid (Below w.heap.size w w9) := Lib.hid (HD.out.b.grown hg9 HD.out.b.size (fun j hj => by injection hj; omega))
       clear hbx9 hg9))
    exact bodyPost_ret (v := .tuple #[TH.v hZ, .slice none 0 0, .iface 42 (.int .i64 1)]) (result_cut Tryz.results14 _ HX9.out rfl Tryz.underlying25 infoTree5) rfl ⟨hZ, none, 0, 0, fun _ => hZ, by rw [HE.out]; rfl, by rw [HE.out]; exact inTree_nil w9, by rw [HE.out]; exact trees_none w9, HB9.out⟩
  by_cases hn0 : n < 0
  · have HE : Hid (rr = (1, tNil, [])) := Lib.hid (by rw [← HRR.out]; exact cut_bad (.inl (by omega)))
    go_wp2_with (first
    | (go_at_call 17
       (with_reducible refine (chWidth_ok x _ hx.1 hx.2).mono ?_)
       rintro _ w9 ⟨rfl, hw9⟩
       rw [hw9]
       clear hw9)
    | (refine wpList_store_box rfl 25 (.tmp 6) (.tmp 26) rfl (w.heap.size + 2) hZ hZ rfl rfl 25 HD.out.res infoTree5 ?_
       intro w9 hbx9 hg9
       have HX9 := Lib.hid hbx9
       have HB9 : Hid (Below w.heap.size w w9) := Lib.hid (HD.out.b.grown hg9 HD.out.b.size (fun j hj => by injection hj; omega))
       clear hbx9 hg9))
    exact bodyPost_ret (v := .tuple #[TH.v hZ, .slice none 0 0, .iface 42 (.int .i64 1)]) (result_cut Tryz.results14 _ HX9.out rfl Tryz.underlying25 infoTree5) rfl ⟨hZ, none, 0, 0, fun _ => hZ, by rw [HE.out]; rfl, by rw [HE.out]; exact inTree_nil w9, by rw [HE.out]; exact trees_none w9, HB9.out⟩
  by_cases hn64 : 64 < n
  · have HE : Hid (rr = (1, tNil, [])) := Lib.hid (by rw [← HRR.out]; exact cut_bad (.inl (by omega)))
    go_wp2_with (first
    | (go_at_call 17
       (with_reducible refine (chWidth_ok x _ hx.1 hx.2).mono ?_)
       rintro _ w9 ⟨rfl, hw9⟩
       rw [hw9]
       clear hw9)
    | (refine wpList_store_box rfl 25 (.tmp 6) (.tmp 26) rfl (w.heap.size + 2) hZ hZ rfl rfl 25 HD.out.res infoTree5 ?_
       intro w9 hbx9 hg9
       have HX9 := Lib.hid hbx9
       have HB9 : Hid (Below w.heap.size w w9) := Lib.hid (HD.out.b.grown hg9 HD.out.b.size (fun j hj => by injection hj; omega))
       clear hbx9 hg9))
    exact bodyPost_ret (v := .tuple #[TH.v hZ, .slice none 0 0, .iface 42 (.int .i64 1)]) (result_cut Tryz.results14 _ HX9.out rfl Tryz.underlying25 infoTree5) rfl ⟨hZ, none, 0, 0, fun _ => hZ, by rw [HE.out]; rfl, by rw [HE.out]; exact inTree_nil w9, by rw [HE.out]; exact trees_none w9, HB9.out⟩
  by_cases hno : toldD x t = 0
  case neg =>
    have HNO := Lib.hid hno
    have HE : Hid (rr = (toldD x t, tNil, [])) := Lib.hid (by rw [← HRR.out]; unfold cutX; rw [if_neg (by omega), if_pos hno])
    have HCV : Hid (codeV (toldD x t) = .iface 42 (.int .i64 (toldD x t : Nat))) := Lib.hid (codeV_pos hno)
    clear hno
    go_wp2_with (first
    | (go_at_call 17
       (with_reducible refine (chWidth_ok x _ hx.1 hx.2).mono ?_)
       rintro _ w9 ⟨rfl, hw9⟩
       rw [hw9]
       clear hw9)
    | (go_at_call 35
       refine (digest_told x t h _ (HT.out.lower HD.out.b) (HTT.out.below HD.out.b (Nat.le_refl _)) hx1 hx2 HNO.out).mono ?_
       rintro _ w1 ⟨a1, c1, rfl, hb1⟩
       have HD1 := Lib.hid (HD.out.below hb1)
       clear hb1 xw x0 x1 x2 x3 x4)
    | (refine wpList_store_box rfl 25 (.tmp 6) (.tmp 36) rfl (w.heap.size + 2) hZ hZ rfl rfl 25 HD1.out.res infoTree5 ?_
       intro w9 hbx9 hg9
       have HX9 := Lib.hid hbx9
       have HB9 : Hid (Below w.heap.size w w9) := Lib.hid (HD1.out.b.grown hg9 HD1.out.b.size (fun j hj => by injection hj; omega))
       clear hbx9 hg9))
    exact bodyPost_ret (v := .tuple #[TH.v hZ, .slice none 0 0, .iface 42 (.int .i64 (toldD x t : Nat))]) (result_cut Tryz.results14 _ HX9.out rfl Tryz.underlying25 infoTree5) rfl ⟨hZ, none, 0, 0, fun _ => hZ, by rw [HE.out]; show _ = Ending.returned (.tuple #[_, _, codeV (toldD x t)]); first | (rw [HCV.out]; done) | (rw [HCV.out]; rfl), by rw [HE.out]; exact inTree_nil w9, by rw [HE.out]; exact trees_none w9, HB9.out⟩
  obtain ⟨k', zs, hxk, hk1, hk2, hck, hzs⟩ := toldD_zero hno
  have HIS : Hid (DigIs x t k' zs) := Lib.hid ⟨hxk, hk1, hk2, hck, hzs⟩
  have HNO := Lib.hid hno
  cases hfb : fullT t with
  | false =>
    have HFB : Hid ((decide (checkT t = 0) && fullT t) = false) := Lib.hid (by rw [hfb, Bool.and_false])
    have HE : Hid (rr = (3, tNil, [])) := Lib.hid (by rw [← HRR.out]; unfold cutX; rw [if_neg (by omega), if_neg (by rw [hno]; simp), if_pos hfb])
    clear hno hfb hck hzs hxk hk1 hk2
    go_wp2_with (first
    | (go_at_call 17
       (with_reducible refine (chWidth_ok x _ hx.1 hx.2).mono ?_)
       rintro _ w9 ⟨rfl, hw9⟩
       rw [hw9]
       clear hw9)
    | (go_at_call 35
       refine (digest_is x _ h _ (HT.out.lower HD.out.b) (HTT.out.below HD.out.b (Nat.le_refl _)) HIS.out).mono ?_
       rintro _ w1 ⟨a1, c1, rfl, hi1, hb1⟩
       have HD1 := Lib.hid (HD.out.below hb1)
       clear hi1 hb1 xw x0 x1 x2 x3 x4
       obtain ⟨x0, x1, x2, x3, x4⟩ := HD1.out.box.cells)
    | (go_at_call 36
       refine (full_any _ h _ (HT.out.lower HD1.out.b)).mono ?_
       rintro _ w2 ⟨rfl, hb2⟩
       rw [HFB.out]
       have HD2 := Lib.hid (HD1.out.below hb2)
       clear hb2 x0 x1 x2 x3 x4
       obtain ⟨x0, x1, x2, x3, x4⟩ := HD2.out.box.cells)
    | (refine wpList_store_box rfl 25 (.tmp 6) (.tmp 41) rfl (w.heap.size + 2) hZ hZ rfl rfl 25 HD2.out.res infoTree5 ?_
       intro w9 hbx9 hg9
       have HX9 := Lib.hid hbx9
       have HB9 : Hid (Below w.heap.size w w9) := Lib.hid (HD2.out.b.grown hg9 HD2.out.b.size (fun j hj => by injection hj; omega))
       clear hbx9 hg9))
    exact bodyPost_ret (v := .tuple #[TH.v hZ, .slice none 0 0, .iface 42 (.int .i64 3)]) (result_cut Tryz.results14 _ HX9.out rfl Tryz.underlying25 infoTree5) rfl ⟨hZ, none, 0, 0, fun _ => hZ, by rw [HE.out]; rfl, by rw [HE.out]; exact inTree_nil w9, by rw [HE.out]; exact trees_none w9, HB9.out⟩
  | true =>
  obtain ⟨a, rfl, hla, hda⟩ := full_lim hck hfb
  obtain ⟨m, rfl⟩ : ∃ m : Nat, n = (m : Int) := ⟨n.toNat, by omega⟩
  have HFB : Hid ((decide (checkT a.tr = 0) && fullT a.tr) = true) := Lib.hid (by rw [hfb, hck]; rfl)
  have HKR : Hid (1 ≤ x.toNat ∧ x.toNat ≤ 32) := Lib.hid (by omega)
  have HXX : Hid (x = (x.toNat : Int)) := Lib.hid (by omega)
  have HMM : Hid (m ≤ 64) := Lib.hid (by omega)
  have HLI := Lib.hid (And.intro hla hda)
  have HE : Hid (rr = (0, (headA x.toNat m a).tr, (partsA m a).map AT.tr)) := Lib.hid (by
    have q := cut_good (k := x.toNat) (m := m) (a := a) HKR.out.1 HKR.out.2 HMM.out hck
    rw [← HXX.out] at q
    rw [← HRR.out]
    exact q)
  clear hno hfb hck hzs hla hda hxk hk1 hk2
  go_upto_region 8 with (first
  | (go_at_call 17
     (with_reducible refine (chWidth_ok x _ hx.1 hx.2).mono ?_)
     rintro _ w9 ⟨rfl, hw9⟩
     rw [hw9]
     clear hw9)
  | (go_at_call 35
     refine (digest_is x _ h _ (HT.out.lower HD.out.b) (HTT.out.below HD.out.b (Nat.le_refl _)) HIS.out).mono ?_
     rintro _ w1 ⟨a1, c1, rfl, hi1, hb1⟩
     have HD1 := Lib.hid (HD.out.below hb1)
     clear hi1 hb1 xw x0 x1 x2 x3 x4
     obtain ⟨x0, x1, x2, x3, x4⟩ := HD1.out.box.cells)
  | (go_at_call 36
     refine (full_any _ h _ (HT.out.lower HD1.out.b)).mono ?_
     rintro _ w2 ⟨rfl, hb2⟩
     rw [HFB.out]
     have HD2 := Lib.hid (HD1.out.below hb2)
     clear hb2 x0 x1 x2 x3 x4
     obtain ⟨x0, x1, x2, x3, x4⟩ := HD2.out.box.cells))
  clear x0 x1 x2 x3 x4
  have b3 : Below w2.heap.size w2 (w2.alloc (.cells #[.slice none 0 0] 23)) := (Below.refl _ _).alloc (Nat.le_refl _) _
  have b4 : Below (w2.alloc (.cells #[.slice none 0 0] 23)).heap.size (w2.alloc (.cells #[.slice none 0 0] 23)) ((w2.alloc (.cells #[.slice none 0 0] 23)).alloc (.cells #[.nilFunc] 77)) := (Below.refl _ _).alloc (Nat.le_refl _) _
  have e3 : (w2.alloc (.cells #[.slice none 0 0] 23)).heap.size = w2.heap.size + 1 := by simp
  have v3 := Var1.new w2 23 (.slice none 0 0)
  have v4 := Var1.new (w2.alloc (.cells #[.slice none 0 0] 23)) 77 .nilFunc
  rw [e3] at v4
  have b24 : Below w2.heap.size w2 ((w2.alloc (.cells #[.slice none 0 0] 23)).alloc (.cells #[.nilFunc] 77)) := b3.trans (b4.mono b3.size)
  have HD4 := Lib.hid (HD2.out.below b24)
  have HV4 : Hid (Var1 ((w2.alloc (.cells #[.slice none 0 0] 23)).alloc (.cells #[.nilFunc] 77)) 23 w2.heap.size (.slice none 0 0) ∧ Var1 ((w2.alloc (.cells #[.slice none 0 0] 23)).alloc (.cells #[.nilFunc] 77)) 77 (w2.heap.size + 1) .nilFunc) := Lib.hid ⟨v3.below b4 v3.lt, v4⟩
  have HG4 : Hid (w.heap.size + 2 < w2.heap.size) := Lib.hid HD2.out.res.lt
  have HS4 : Hid (((w2.alloc (.cells #[.slice none 0 0] 23)).alloc (.cells #[.nilFunc] 77)).heap.size = w2.heap.size + 2) := Lib.hid (by simp)
  clear b3 b4 e3 v3 v4 b24
  go_upto_region 10 with fail
  generalize ((w2.alloc (.cells #[.slice none 0 0] 23)).alloc (.cells #[.nilFunc] 77)) = w4 at *
  generalize w2.heap.size = gn at *
  have cf4 := HV4.out.2.cell
  have ff4 := HV4.out.2.frozen 0
  go_upto_region 11 with fail
  clear cf4 ff4
  have hg5 : w4.grownBy (w4.setCell ⟨gn + 1, 0, none⟩ (.func (.func 37) #[] #[.pointer (some ⟨gn, 0, none⟩), .pointer (some ⟨w.heap.size, 0, none⟩), .pointer (some ⟨(gn + 1), 0, none⟩)])) (some (gn + 1)) := only_set (only_refl _ _) 0 _
  have HC5 : Hid (Var1 (w4.setCell ⟨gn + 1, 0, none⟩ (.func (.func 37) #[] #[.pointer (some ⟨gn, 0, none⟩), .pointer (some ⟨w.heap.size, 0, none⟩), .pointer (some ⟨(gn + 1), 0, none⟩)])) 77 (gn + 1) (.func (.func 37) #[] #[.pointer (some ⟨gn, 0, none⟩), .pointer (some ⟨w.heap.size, 0, none⟩), .pointer (some ⟨(gn + 1), 0, none⟩)])) := Lib.hid (HV4.out.2.set _)
  have HV5 : Hid (Var1 (w4.setCell ⟨gn + 1, 0, none⟩ (.func (.func 37) #[] #[.pointer (some ⟨gn, 0, none⟩), .pointer (some ⟨w.heap.size, 0, none⟩), .pointer (some ⟨(gn + 1), 0, none⟩)])) 23 gn (.slice none 0 0)) := Lib.hid (HV4.out.1.grown hg5 (fun e => by injection e; omega))
  have HW5 : Hid (Var1 (w4.setCell ⟨gn + 1, 0, none⟩ (.func (.func 37) #[] #[.pointer (some ⟨gn, 0, none⟩), .pointer (some ⟨w.heap.size, 0, none⟩), .pointer (some ⟨(gn + 1), 0, none⟩)])) 3 w.heap.size (.int .i64 (x.toNat : Int))) := Lib.hid (by rw [← HXX.out]; exact HD4.out.wv.grown hg5 (fun e => by injection e; have := HG4.out; omega))
  have HX5 := Lib.hid (HD4.out.box.grown hg5 (fun e => by injection e; have := HG4.out; omega))
  have HB5 : Hid (Below w.heap.size w (w4.setCell ⟨gn + 1, 0, none⟩ (.func (.func 37) #[] #[.pointer (some ⟨gn, 0, none⟩), .pointer (some ⟨w.heap.size, 0, none⟩), .pointer (some ⟨(gn + 1), 0, none⟩)]))) := Lib.hid (HD4.out.b.grown hg5 HD4.out.b.size (fun j hj => by injection hj; have := HG4.out; omega))
  have HR5 : Hid (BN (w4.setCell ⟨gn + 1, 0, none⟩ (.func (.func 37) #[] #[.pointer (some ⟨gn, 0, none⟩), .pointer (some ⟨w.heap.size, 0, none⟩), .pointer (some ⟨(gn + 1), 0, none⟩)])) gn (.slice none 0 0) (w.heap.size + 2) hZ) := Lib.hid ⟨HD4.out.res.grown hg5 (fun e => by injection e; have := HG4.out; omega), by have := HG4.out; omega, fun e => by cases e⟩
  have HGN : Hid (w.heap.size ≤ gn ∧ w.heap.size + 2 < (w4.setCell ⟨gn + 1, 0, none⟩ (.func (.func 37) #[] #[.pointer (some ⟨gn, 0, none⟩), .pointer (some ⟨w.heap.size, 0, none⟩), .pointer (some ⟨(gn + 1), 0, none⟩)])).heap.size) := Lib.hid ⟨by have := HG4.out; omega, by have q1 := hg5.size; have q2 := HS4.out; have q3 := HG4.out; omega⟩
  clear hg5 HV4 HD4 HD2 HD1 HD
  generalize (w4.setCell ⟨gn + 1, 0, none⟩ (.func (.func 37) #[] #[.pointer (some ⟨gn, 0, none⟩), .pointer (some ⟨w.heap.size, 0, none⟩), .pointer (some ⟨(gn + 1), 0, none⟩)])) = w5 at *
  have xc := HC5.out.cell
  obtain ⟨x0, x1, x2, x3, x4⟩ := HX5.out.cells
  go_upto_region 14 with (first
  | (go_at_call 37
     refine (cutC_any w x.toNat HKR.out.1 HKR.out.2 w.heap.size (gn + 1) HTT.out gn HGN.out.1 a m HMM.out HLI.out.1 HLI.out.2 h _ (.slice none 0 0) [] HT.out (by simp only [List.length_nil]; omega) HB5.out HC5.out HW5.out HV5.out (OwnT.nil _ _ _)).mono ?_
     rintro _ w6 ⟨h6, v6, hs6, rfl, hv6, ho6, hh6, hk6, hst6⟩
     unfold TH.v
     rw [List.nil_append] at ho6
     have HR6 := Lib.hid (HR5.out.step hk6)
     have HB6 : Hid (Below w.heap.size w w6) := Lib.hid (hk6.below HB5.out HB5.out.size HGN.out.1 (fun k e => by cases e))
     have HV6 := Lib.hid hv6
     have HO6 := Lib.hid ho6
     have HH6 := Lib.hid hh6
     have HS6 := Lib.hid hst6
     clear hv6 ho6 hh6 hk6 hst6 x0 x1 x2 x3 x4 xc))
  have b7 : Below w6.heap.size w6 (w6.alloc (.cells #[.int .i64 h6.k, .slice h6.ka h6.kn h6.kc, .slice h6.va h6.vn h6.vc, .slice h6.da h6.dn h6.dc, .slice h6.ta h6.tn h6.tc] 25)) := (Below.refl _ _).alloc (Nat.le_refl _) _
  have HX7 := Lib.hid (Box.new w6 25 h6)
  have HV7 := Lib.hid (HV6.out.below b7 HV6.out.lt)
  have HO7 := Lib.hid (HO6.out.keep b7)
  have HR7 := Lib.hid (HR6.out.below b7)
  have HS7 := Lib.hid (HS6.out.below b7)
  have HB7 : Hid (Below w.heap.size w (w6.alloc (.cells #[.int .i64 h6.k, .slice h6.ka h6.kn h6.kc, .slice h6.va h6.vn h6.vc, .slice h6.da h6.dn h6.dc, .slice h6.ta h6.tn h6.tc] 25))) := Lib.hid (HB6.out.trans (b7.mono HB6.out.size))
  have HLN : Hid (w6.heap.size ≠ w.heap.size + 2) := Lib.hid (by have := HR6.out.box.lt; omega)
  have HLO : Hid (w.heap.size + 2 < w5.heap.size) := Lib.hid HGN.out.2
  obtain ⟨a6, c6, hv6⟩ := HO7.out.sl
  generalize hn6 : hs6.length = n6 at hv6
  subst hv6
  clear b7 HV6 HO6 HR6 HS6 HB6
  generalize (w6.alloc (.cells #[.int .i64 h6.k, .slice h6.ka h6.kn h6.kc, .slice h6.va h6.vn h6.vc, .slice h6.da h6.dn h6.dc, .slice h6.ta h6.tn h6.tc] 25)) = w7 at *
  generalize w6.heap.size = L at *
  have bd : Below w7.heap.size w7 w7.drew := (Below.refl _ _).drew
  replace HX7 := Lib.hid (HX7.out.below bd HX7.out.lt)
  replace HV7 := Lib.hid (HV7.out.below bd HV7.out.lt)
  replace HO7 := Lib.hid (HO7.out.keep bd)
  replace HR7 := Lib.hid (HR7.out.below bd)
  replace HS7 := Lib.hid (HS7.out.below bd)
  replace HB7 := Lib.hid (HB7.out.trans (bd.mono HB7.out.size))
  clear bd
  refine wp_region_held_drew (S := (fun W => W.cell? ⟨L, 0, none⟩ = some (.int .i64 h6.k) ∧ W.cell? ⟨L, 1, none⟩ = some (.slice h6.ka h6.kn h6.kc) ∧ W.cell? ⟨L, 2, none⟩ = some (.slice h6.va h6.vn h6.vc) ∧ W.cell? ⟨L, 3, none⟩ = some (.slice h6.da h6.dn h6.dc) ∧ W.cell? ⟨L, 4, none⟩ = some (.slice h6.ta h6.tn h6.tc) ∧ W.cell? ⟨gn, 0, none⟩ = some (.slice a6 n6 c6))) (by kernel_rfl) (by exact ⟨HX7.out.cells.1, HX7.out.cells.2.1, HX7.out.cells.2.2.1, HX7.out.cells.2.2.2.1, HX7.out.cells.2.2.2.2, HV7.out.cell⟩) (fun hHeld => ?_)
  refine take_w (i := 0) (oi := ?oZ62) (v := ?vZ62) ?hiZ62 (by kernel_rfl) (by kernel_rfl) (by kernel_rfl) ?hQZ62 ?hwZ62 ?hyZ62 (by assumption) ?restZ62
  case hiZ62 => (simp only [List.getElem?_toArray, List.getElem?_cons_zero] <;> rfl)
  case hQZ62 => exact (fun _ _ _ h => h)
  case hwZ62 => rfl
  case hyZ62 => (intro w hSw; (try dsimp only at hSw); go_simp; try with_reducible rfl)
  (try simp only [Act.put, List.setIfInBounds_toArray, List.set_cons_zero, List.set_cons_succ])
  refine take_w (i := 1) (oi := ?oZ63) (v := ?vZ63) ?hiZ63 (by kernel_rfl) (by kernel_rfl) (by kernel_rfl) ?hQZ63 ?hwZ63 ?hyZ63 (by assumption) ?restZ63
  case hiZ63 => (simp only [List.getElem?_toArray, List.getElem?_cons_succ, List.getElem?_cons_zero] <;> rfl)
  case hQZ63 => exact (fun _ _ _ h => h)
  case hwZ63 => rfl
  case hyZ63 => (intro w hSw; (try dsimp only at hSw); go_simp; try with_reducible rfl)
  (try simp only [Act.put, List.setIfInBounds_toArray, List.set_cons_zero, List.set_cons_succ])
  refine wpAnyH_ready (rs := [2]) (by kernel_rfl) (by simp) ?_
  refine AllReadyH.cons (o := ?oZ64) ?hiZ64 (fun K hK => ?stZ64) AllReadyH.nil
  case hiZ64 => (simp only [List.getElem?_toArray, List.getElem?_cons_succ, List.getElem?_cons_zero] <;> rfl)
  refine step_store_box rfl 25 (.tmp 6) (.tmp 55) rfl (w.heap.size + 2) hZ h6 rfl (by unfold TH.v; rfl) 25 HR7.out.box infoTree5 ?_
  intro w9 hbx9 hg9
  have HX9 := Lib.hid hbx9
  have HB9 : Hid (Below w.heap.size w w9) := Lib.hid (HB7.out.grown hg9 HB7.out.size (fun j hj => by injection hj; omega))
  have HL9 : Hid (Box w9 25 L h6 ∧ Var1 w9 23 gn (.slice a6 n6 c6)) := Lib.hid ⟨HX7.out.grown hg9 (fun e => by injection e with e; exact HLN.out e), HV7.out.grown hg9 (fun e => by injection e with e; exact HR7.out.ne e.symm)⟩
  have HO9 := Lib.hid (HO7.out.off hg9 HR7.out.nb)
  have HT9 : Hid (InTree w9 h6 (headA x.toNat m a).tr) := Lib.hid ((HS7.out.box hg9 (Nat.le_add_right _ _) HLO.out).self)
  clear hbx9 hg9
  refine hK.out _ _ ?_ (fun hHeld => ?_)
  · (first | exact ⟨HL9.out.1.cells.1, HL9.out.1.cells.2.1, HL9.out.1.cells.2.2.1, HL9.out.1.cells.2.2.2.1, HL9.out.1.cells.2.2.2.2, HL9.out.2.cell⟩ | exact ⟨HX7.out.cells.1, HX7.out.cells.2.1, HX7.out.cells.2.2.1, HX7.out.cells.2.2.2.1, HX7.out.cells.2.2.2.2, HV7.out.cell⟩)
  clear hK K
  (try simp only [Act.put])
  refine wpAnyH_ready (rs := [3]) (by kernel_rfl) (by simp) ?_
  refine AllReadyH.cons (o := ?oZ65) ?hiZ65 (fun K hK => ?stZ65) AllReadyH.nil
  case hiZ65 => (simp only [List.getElem?_toArray, List.getElem?_cons_succ, List.getElem?_cons_zero] <;> rfl)
  go_simp
  refine hK.out _ _ ?_ (fun hHeld => ?_)
  · (first | exact ⟨HL9.out.1.cells.1, HL9.out.1.cells.2.1, HL9.out.1.cells.2.2.1, HL9.out.1.cells.2.2.2.1, HL9.out.1.cells.2.2.2.2, HL9.out.2.cell⟩ | exact ⟨HX7.out.cells.1, HX7.out.cells.2.1, HX7.out.cells.2.2.1, HX7.out.cells.2.2.2.1, HX7.out.cells.2.2.2.2, HV7.out.cell⟩)
  clear hK K
  (try simp only [Act.put, List.setIfInBounds_toArray, List.set_cons_zero, List.set_cons_succ])
  refine wpAnyH_ready (rs := [4]) (by kernel_rfl) (by simp) ?_
  refine AllReadyH.cons (o := ?oZ66) ?hiZ66 (fun K hK => ?stZ66) AllReadyH.nil
  case hiZ66 => (simp only [List.getElem?_toArray, List.getElem?_cons_succ, List.getElem?_cons_zero] <;> rfl)
  go_simp
  refine hK.out _ _ ?_ (fun hHeld => ?_)
  · (first | exact ⟨HL9.out.1.cells.1, HL9.out.1.cells.2.1, HL9.out.1.cells.2.2.1, HL9.out.1.cells.2.2.2.1, HL9.out.1.cells.2.2.2.2, HL9.out.2.cell⟩ | exact ⟨HX7.out.cells.1, HX7.out.cells.2.1, HX7.out.cells.2.2.1, HX7.out.cells.2.2.2.1, HX7.out.cells.2.2.2.2, HV7.out.cell⟩)
  clear hK K
  (try simp only [Act.put, List.setIfInBounds_toArray, List.set_cons_zero, List.set_cons_succ])
  refine wpAnyH_done (by kernel_rfl) ?_ _
  clear hHeld
  go_wp2_with fail
  obtain ⟨a8, c8, e8, ht8⟩ := trees_of_own HO9.out (HH6.out.lower HB9.out)
  have e9 : n6 = hs6.length := by injection e8
  have e10 : a6 = a8 := by injection e8
  have e11 : c6 = c8 := by injection e8
  subst e9 e10 e11
  exact bodyPost_ret (v := .tuple #[TH.v h6, .slice a6 hs6.length c6, .nilIface]) (result_cut Tryz.results14 _ HX9.out rfl Tryz.underlying25 infoTree5) rfl ⟨h6, a6, _, c6, _, by rw [HE.out]; rfl, by rw [HE.out]; exact HT9.out, by rw [HE.out]; exact ht8, HB9.out⟩
end Go.Proofs.YtkcmohmfejmfoaaGreatDoor

/- What the digest of a part tells, by cases; Fits by the part's own number. -/
namespace Go.Proofs.YtkcmohmfejmfoaaGreatDoor
open Go.RowKit
set_option linter.unusedVariables false

theorem part_no (k : Nat) (hk1 : 1 ≤ k) (hk2 : k ≤ 32) (p : Tr) (h : TH) (w : World) (ht : InTree w h p) (hT : TabLies w) (hno : partX k p ≠ 0) : Calls Tryz.prog 23 #[.int .i64 k, .agg #[.int .i64 h.k, .slice h.ka h.kn h.kc, .slice h.va h.vn h.vc, .slice h.da h.dn h.dc, .slice h.ta h.tn h.tc]] w (fun e w' => ∃ a c, e = .returned (.tuple #[.slice a 0 c, .iface 42 (.int .i64 (partX k p : Nat))]) ∧ Below w.heap.size w w') := by
  refine (part_any k hk1 hk2 p h w ht hT).mono ?_
  rintro e w' ⟨a, c, hb, ⟨-, q⟩ | ⟨q, -⟩⟩
  · exact ⟨a, c, q, hb⟩
  · exact absurd q hno
theorem part_yes (k : Nat) (hk1 : 1 ≤ k) (hk2 : k ≤ 32) (p : Tr) (h : TH) (w : World) (ht : InTree w h p) (hT : TabLies w) (hy : partX k p = 0) {zs : List Int} (hz : digT k p = some zs) : Calls Tryz.prog 23 #[.int .i64 k, .agg #[.int .i64 h.k, .slice h.ka h.kn h.kc, .slice h.va h.vn h.vc, .slice h.da h.dn h.dc, .slice h.ta h.tn h.tc]] w (fun e w' => ∃ a c, e = .returned (.tuple #[.slice a k c, .nilIface]) ∧ InBytes w' a k c zs ∧ Below w.heap.size w w') := by
  refine (part_any k hk1 hk2 p h w ht hT).mono ?_
  rintro e w' ⟨a, c, hb, ⟨q, -⟩ | ⟨-, ys, q1, q2, q3⟩⟩
  · exact absurd hy q
  · rw [hz] at q1
    injection q1 with q1
    subst q1
    exact ⟨a, c, q2, q3, hb⟩
theorem partX_dig {k : Nat} {p : Tr} (h : partX k p = 0) : ∃ zs, digT k p = some zs ∧ checkT p = 0 ∧ fullT p = true ∧ p.k ≠ 0 := by
  unfold partX at h
  by_cases q : toldD k p = 0
  · obtain ⟨k', zs, e, -, -, hc, hz⟩ := toldD_zero q
    obtain rfl : k = k' := by omega
    rw [if_neg (by rw [q]; simp)] at h
    by_cases q2 : fullT p = false ∨ p.k = 0
    · rw [if_pos q2] at h
      omega
    · rw [not_or] at q2
      exact ⟨zs, hz, hc, by simpa using q2.1, q2.2⟩
  · rw [if_pos q] at h
    exact absurd h q
theorem fitsX_no {k : Nat} (h1 : 1 ≤ k) (h2 : k ≤ 32) {t p : Tr} {i : Int} (ht : checkT t = 0) (h : partX k p ≠ 0) : fitsX k t i p = partX k p := by
  by_cases hc : checkT p = 0
  · cases hd : digT k p with
    | none =>
      have e3 : toldD k p = 3 := by
        unfold toldD
        rw [if_pos ⟨by omega, by omega⟩, if_neg (by rw [hc]; simp)]
        exact if_pos hd
      have e4 : partX k p = 3 := by
        unfold partX
        rw [e3, if_pos (by omega)]
      rw [e4, fitsX_ok h1 h2 ht hc, hd]
    | some zs =>
      have e0 : toldD k p = 0 := toldD_some h1 h2 hc hd
      have e1 : partX k p = if fullT p = false ∨ p.k = 0 then 3 else 0 := by
        unfold partX
        rw [e0, if_neg (by omega)]
      rw [e1] at h ⊢
      by_cases q : fullT p = false ∨ p.k = 0
      · rw [fitsX_ok h1 h2 ht hc, hd, if_pos q]
        exact if_pos q
      · rw [if_neg q] at h
        exact absurd rfl h
  · have e0 : toldD k p = checkT p := by
      unfold toldD
      rw [if_pos ⟨by omega, by omega⟩, if_pos hc]
    have e1 : partX k p = checkT p := by
      unfold partX
      rw [e0, if_pos hc]
    rw [e1]
    unfold fitsX
    rw [if_neg (by simp only [Classical.not_not]; omega), if_neg (by rw [ht]; simp), if_pos hc]
theorem fitsX_yes {k : Nat} (h1 : 1 ≤ k) (h2 : k ≤ 32) {t p : Tr} {i : Int} (ht : checkT t = 0) (h : partX k p = 0) {zs : List Int} (hz : digT k p = some zs) : fitsX k t i p = if i < 0 ∨ ((cutsT t).length : Int) ≤ i then 9 else if (cutsT t).getD i.toNat [] = zs then 0 else 6 := by
  obtain ⟨ys, q1, q2, q3, q4⟩ := partX_dig h
  rw [fitsX_ok h1 h2 ht q2, hz]
  show (if fullT p = false ∨ p.k = 0 then 3 else _) = _
  rw [if_neg (by rw [q3]; simp [q4])]
end Go.Proofs.YtkcmohmfejmfoaaGreatDoor

/- The contract of bytes.Equal. -/
namespace Go.Proofs.YtkcmohmfejmfoaaGreatDoor
open Go.RowKit
set_option linter.unusedVariables false

set_option maxRecDepth 100000 in
set_option maxHeartbeats 4000000 in
theorem equal_any (xs ys : List Int) (a b : Option Addr) (n m c d : Nat) (w : World) (hx : InBytes w a n c xs) (hy : InBytes w b m d ys) : Calls Tryz.prog 24 #[.slice a n c, .slice b m d] w (fun e w' => e = .returned (.bool (xs == ys)) ∧ w' = w) := by
  have cvx := conv_key hx
  have cvy := conv_key hy
  have hse := str_eq hx.bytes hy.bytes
  clear hx hy
  generalize (xs == ys) = bb at *
  go_enter Tryz.func24, Tryz.ntmps24
  go_wp2_with fail
  go_ret
  exact ⟨rfl, rfl⟩
end Go.Proofs.YtkcmohmfejmfoaaGreatDoor

/- What lies there in a call of the closure of the program's filled. -/
namespace Go.Proofs.YtkcmohmfejmfoaaGreatDoor
open Go.RowKit
set_option linter.unusedVariables false

/-- The world inside the closure of filled: i is what the variable holds. -/
structure LF (wb w W : World) (gx gp gc : Nat) (a : Option Addr) (n c : Nat) (h : TH) (i : Nat) : Prop where
  box : BN W gx (.slice none 0 0) w.heap.size h
  res : BN W gx (.slice none 0 0) (w.heap.size + 1) hZ
  clo : Var1 W 82 gc (.func (.func 46) #[] #[.pointer (some ⟨gx, 0, none⟩), .pointer (some ⟨gp, 0, none⟩), .pointer (some ⟨gc, 0, none⟩)])
  par : Var1 W 23 gp (.slice a n c)
  var : Var1 W 3 gx (.int .i64 (i : Nat))
  b : Below wb.heap.size wb W
  ge : wb.heap.size ≤ gx
  sz : wb.heap.size ≤ w.heap.size
  kp : Keeps w W gx (.slice none 0 0) (.slice none 0 0)
section
variable {wb w W W' : World} {gx gp gc n c i j : Nat} {a : Option Addr} {h : TH}
theorem LF.step (d : LF wb w W gx gp gc a n c h i) (hvar : Var1 W' 3 gx (.int .i64 (j : Nat))) (hk : Keeps W W' gx (.slice none 0 0) (.slice none 0 0)) : LF wb w W' gx gp gc a n c h j :=
  ⟨d.box.step hk, d.res.step hk, (hk.block _ d.clo.lt (d.clo.ne d.var (by decide)) (fun e => by cases e)).trans d.clo, (hk.block _ d.par.lt (d.par.ne d.var (by decide)) (fun e => by cases e)).trans d.par, hvar,
    hk.below d.b d.b.size d.ge (fun k e => by cases e), d.ge, d.sz, d.kp.trans hk⟩
theorem LF.below (d : LF wb w W gx gp gc a n c h i) (hb : Below W.heap.size W W') : LF wb w W' gx gp gc a n c h i :=
  d.step (d.var.below hb d.var.lt) (Keeps.of_below gx (.slice none 0 0) hb)
theorem LF.drew (d : LF wb w W gx gp gc a n c h i) : LF wb w W.drew gx gp gc a n c h i := d.below (Below.refl _ _).drew
theorem LF.put (d : LF wb w W gx gp gc a n c h i) (j : Nat) : LF wb w (W.setCell ⟨gx, 0, none⟩ (.int .i64 (j : Nat))) gx gp gc a n c h j :=
  d.step (d.var.set _) (Keeps.of_set W gx (.slice none 0 0) _)
theorem LF.cells (d : LF wb w W gx gp gc a n c h i) : W.cell? ⟨w.heap.size, 0, none⟩ = some (.int .i64 h.k) ∧ W.cell? ⟨w.heap.size, 1, none⟩ = some (.slice h.ka h.kn h.kc) ∧ W.cell? ⟨w.heap.size, 2, none⟩ = some (.slice h.va h.vn h.vc) ∧ W.cell? ⟨w.heap.size, 3, none⟩ = some (.slice h.da h.dn h.dc) ∧ W.cell? ⟨w.heap.size, 4, none⟩ = some (.slice h.ta h.tn h.tc) := d.box.box.cells
theorem LF.ws (d : LF wb w W gx gp gc a n c h i) : w.heap.size + 2 ≤ W.heap.size := d.res.box.lt
/-- The result was written. -/
theorem LF.fin (d : LF wb w W gx gp gc a n c h i) (hg : W.grownBy W' (some (w.heap.size + 1))) : Var1 W' 3 gx (.int .i64 (i : Nat)) ∧ Keeps w W' gx (.slice none 0 0) (.slice none 0 0) ∧ Below wb.heap.size wb W' :=
  have q := d.sz
  ⟨d.var.grown hg (fun e => d.res.ne (by injection e with e; exact e.symm)), d.kp.tail hg (Nat.le_succ _), d.b.grown hg d.b.size (fun j hj => by injection hj; omega)⟩
end
theorem LF.enter {wb w : World} {gx gp gc n c i : Nat} {a : Option Addr} (h : TH) (hb : Below wb.heap.size wb w) (hge : wb.heap.size ≤ gx) (hc : Var1 w 82 gc (.func (.func 46) #[] #[.pointer (some ⟨gx, 0, none⟩), .pointer (some ⟨gp, 0, none⟩), .pointer (some ⟨gc, 0, none⟩)])) (hp : Var1 w 23 gp (.slice a n c)) (hv : Var1 w 3 gx (.int .i64 (i : Nat))) : LF wb w ((w.alloc (.cells #[.int .i64 h.k, .slice h.ka h.kn h.kc, .slice h.va h.vn h.vc, .slice h.da h.dn h.dc, .slice h.ta h.tn h.tc] 25)).alloc (.cells #[.int .i64 0, .slice none 0 0, .slice none 0 0, .slice none 0 0, .slice none 0 0] 25)) gx gp gc a n c h i :=
  have q1 : Below w.heap.size w (w.alloc (.cells #[.int .i64 h.k, .slice h.ka h.kn h.kc, .slice h.va h.vn h.vc, .slice h.da h.dn h.dc, .slice h.ta h.tn h.tc] 25)) := (Below.refl _ _).alloc (Nat.le_refl _) _
  have s1 : (w.alloc (.cells #[.int .i64 h.k, .slice h.ka h.kn h.kc, .slice h.va h.vn h.vc, .slice h.da h.dn h.dc, .slice h.ta h.tn h.tc] 25)).heap.size = w.heap.size + 1 := by simp
  have q2 : Below (w.alloc (.cells #[.int .i64 h.k, .slice h.ka h.kn h.kc, .slice h.va h.vn h.vc, .slice h.da h.dn h.dc, .slice h.ta h.tn h.tc] 25)).heap.size (w.alloc (.cells #[.int .i64 h.k, .slice h.ka h.kn h.kc, .slice h.va h.vn h.vc, .slice h.da h.dn h.dc, .slice h.ta h.tn h.tc] 25)) ((w.alloc (.cells #[.int .i64 h.k, .slice h.ka h.kn h.kc, .slice h.va h.vn h.vc, .slice h.da h.dn h.dc, .slice h.ta h.tn h.tc] 25)).alloc (.cells #[.int .i64 0, .slice none 0 0, .slice none 0 0, .slice none 0 0, .slice none 0 0] 25)) := (Below.refl _ _).alloc (Nat.le_refl _) _
  have q3 : Below w.heap.size w ((w.alloc (.cells #[.int .i64 h.k, .slice h.ka h.kn h.kc, .slice h.va h.vn h.vc, .slice h.da h.dn h.dc, .slice h.ta h.tn h.tc] 25)).alloc (.cells #[.int .i64 0, .slice none 0 0, .slice none 0 0, .slice none 0 0, .slice none 0 0] 25)) := q1.trans (q2.mono q1.size)
  have x0 : Box (w.alloc (.cells #[.int .i64 h.k, .slice h.ka h.kn h.kc, .slice h.va h.vn h.vc, .slice h.da h.dn h.dc, .slice h.ta h.tn h.tc] 25)) 25 w.heap.size h := Box.new w 25 h
  have x1 : Box ((w.alloc (.cells #[.int .i64 h.k, .slice h.ka h.kn h.kc, .slice h.va h.vn h.vc, .slice h.da h.dn h.dc, .slice h.ta h.tn h.tc] 25)).alloc (.cells #[.int .i64 0, .slice none 0 0, .slice none 0 0, .slice none 0 0, .slice none 0 0] 25)) 25 (w.heap.size + 1) hZ := by
    have x := Box.new (w.alloc (.cells #[.int .i64 h.k, .slice h.ka h.kn h.kc, .slice h.va h.vn h.vc, .slice h.da h.dn h.dc, .slice h.ta h.tn h.tc] 25)) 25 hZ
    rw [s1] at x
    exact x
  have l1 := hv.lt
  ⟨⟨x0.below q2 x0.lt, by omega, fun e => by cases e⟩, ⟨x1, by omega, fun e => by cases e⟩, hc.below q3 hc.lt, hp.below q3 hp.lt, hv.below q3 hv.lt, hb.trans (q3.mono hb.size), hge, hb.size, Keeps.of_below gx (.slice none 0 0) q3⟩
/-- What the closure of filled does. -/
def FillPost (wb w : World) (gx j : Nat) (t : Tr) (e : Ending) (w' : World) : Prop := ∃ h', e = .returned h'.v ∧ Var1 w' 3 gx (.int .i64 (j : Nat)) ∧ Keeps w w' gx (.slice none 0 0) (.slice none 0 0) ∧ StayT wb.heap.size w.heap.size w' gx (.slice none 0 0) h' t
/-- A call's answer, in a box of its own. -/
def FKid (wb wd : World) (gx j : Nat) (t : Tr) (b : Value) (w2 : World) : Prop := ∃ h' L, b = .pointer (some ⟨L, 0, none⟩) ∧ Var1 w2 3 gx (.int .i64 (j : Nat)) ∧ Keeps wd w2 gx (.slice none 0 0) (.slice none 0 0) ∧ StayT wb.heap.size wd.heap.size w2 gx (.slice none 0 0) h' t ∧ BN w2 gx (.slice none 0 0) L h'
theorem FKid.one {wb wd w1 w2 : World} {gx j : Nat} {t : Tr} {h' : TH} (hv : Var1 w1 3 gx (.int .i64 (j : Nat))) (hk : Keeps wd w1 gx (.slice none 0 0) (.slice none 0 0)) (hs' : StayT wb.heap.size wd.heap.size w1 gx (.slice none 0 0) h' t)
    (hg : (w1.alloc (.cells #[.int .i64 0, .slice none 0 0, .slice none 0 0, .slice none 0 0, .slice none 0 0] 25)).grownBy w2 (some w1.heap.size)) (hx : Box w2 25 w1.heap.size h') : FKid wb wd gx j t (.pointer (some ⟨w1.heap.size, 0, none⟩)) w2 := by
  have b1 : Below w1.heap.size w1 (w1.alloc (.cells #[.int .i64 0, .slice none 0 0, .slice none 0 0, .slice none 0 0, .slice none 0 0] 25)) := (Below.refl _ _).alloc (Nat.le_refl _) _
  have b2 : Below w1.heap.size w1 w2 := b1.grown hg b1.size (fun j hj => by injection hj; omega)
  have l1 := hv.lt
  exact ⟨h', _, rfl, hv.below b2 hv.lt, hk.trans (Keeps.of_below gx (.slice none 0 0) b2), hs'.below b2, hx, by omega, fun e => by cases e⟩
theorem FKid.two {wb wd w1 w2 : World} {gx j : Nat} {t : Tr} {h' : TH} (hsz : wb.heap.size ≤ wd.heap.size) (hbn : BN (wd.alloc (.cells #[.int .i64 0, .slice none 0 0, .slice none 0 0, .slice none 0 0, .slice none 0 0] 25)) gx (.slice none 0 0) wd.heap.size hZ) (hv : Var1 w1 3 gx (.int .i64 (j : Nat))) (hk : Keeps (wd.alloc (.cells #[.int .i64 0, .slice none 0 0, .slice none 0 0, .slice none 0 0, .slice none 0 0] 25)) w1 gx (.slice none 0 0) (.slice none 0 0)) (hs' : StayT wb.heap.size (wd.alloc (.cells #[.int .i64 0, .slice none 0 0, .slice none 0 0, .slice none 0 0, .slice none 0 0] 25)).heap.size w1 gx (.slice none 0 0) h' t)
    (hg : w1.grownBy w2 (some wd.heap.size)) (hx : Box w2 25 wd.heap.size h') : FKid wb wd gx j t (.pointer (some ⟨wd.heap.size, 0, none⟩)) w2 := by
  have b1 : Below wd.heap.size wd (wd.alloc (.cells #[.int .i64 0, .slice none 0 0, .slice none 0 0, .slice none 0 0, .slice none 0 0] 25)) := (Below.refl _ _).alloc (Nat.le_refl _) _
  have bn := hbn.step hk
  exact ⟨h', _, rfl, hv.grown hg (fun e => bn.ne (by injection e with e; exact e.symm)), ((Keeps.of_below gx (.slice none 0 0) b1).trans hk).tail hg (Nat.le_refl _), (hs'.box hg hsz (by simp)).wide (by simp), hx, bn.ne, bn.nb⟩
theorem LF.kid {wb w W w2 : World} {gx gp gc n c i j : Nat} {a : Option Addr} {h : TH} {t : Tr} {b : Value} (d : LF wb w W gx gp gc a n c h i) (q : FKid wb W gx j t b w2) : LF wb w w2 gx gp gc a n c h j := by
  obtain ⟨h', L, -, hv, hk, -, -⟩ := q
  exact d.step hv hk
end Go.Proofs.YtkcmohmfejmfoaaGreatDoor

/- The contract of the closure of the program's filled: nothing, a cut. -/
namespace Go.Proofs.YtkcmohmfejmfoaaGreatDoor
open Go.RowKit
set_option linter.unusedVariables false

set_option maxRecDepth 100000 in
set_option maxHeartbeats 8000000 in
theorem fillNil_any (wb : World) (gx gp gc : Nat) (a : Option Addr) (n c : Nat) (ps : List AT) (Hs : Nat → TH) (hps : TreesAt wb a n c (ps.map AT.tr) Hs) (hn : n ≤ 500) (i : Nat) (h : TH) (w : World) (ht : InTree wb h PT.nil.tr) (hbw : Below wb.heap.size wb w) (hge : wb.heap.size ≤ gx) (hc : Var1 w 82 gc (.func (.func 46) #[] #[.pointer (some ⟨gx, 0, none⟩), .pointer (some ⟨gp, 0, none⟩), .pointer (some ⟨gc, 0, none⟩)])) (hp : Var1 w 23 gp (.slice a n c)) (hv : Var1 w 3 gx (.int .i64 (i : Nat))) : Calls Tryz.prog 46 #[.agg #[.int .i64 h.k, .slice h.ka h.kn h.kc, .slice h.va h.vn h.vc, .slice h.da h.dn h.dc, .slice h.ta h.tn h.tc], .pointer (some ⟨gx, 0, none⟩), .pointer (some ⟨gp, 0, none⟩), .pointer (some ⟨gc, 0, none⟩)] w (FillPost wb w gx i AT.nil.tr) := by
  have HD := Lib.hid (LF.enter h hbw hge hc hp hv)
  obtain ⟨H, hpt⟩ := ht.parts
  have HP := Lib.hid hpt
  have HTI := Lib.hid ht
  have HKK := Lib.hid hpt.hk
  clear hbw hge hc hp hv hpt ht
  have e0 : (h.k == 0) = true := by rw [HKK.out]; rfl
  clear hps
  go_enter Tryz.func46, Tryz.ntmps46
  go_upto_region 1 with fail
  generalize ((w.alloc (.cells #[.int .i64 h.k, .slice h.ka h.kn h.kc, .slice h.va h.vn h.vc, .slice h.da h.dn h.dc, .slice h.ta h.tn h.tc] 25)).alloc (.cells #[.int .i64 0, .slice none 0 0, .slice none 0 0, .slice none 0 0, .slice none 0 0] 25)) = w0 at *
  obtain ⟨x0, x1, x2, x3, x4⟩ := HD.out.cells
  go_wp2_with (first
    | (refine wpList_store_box rfl 25 (.tmp 5) (.tmp 11) rfl (w.heap.size + 1) hZ (h) rfl rfl 25 HD.out.res.box infoTree5 ?_
       intro w9 hbx9 hg9
       have HX9 := Lib.hid hbx9
       have HG9 := Lib.hid hg9
       have HF9 := Lib.hid (HD.out.fin hg9)
       clear hbx9 hg9))
  exact bodyPost_ret (v := TH.v h) (result_tree Tryz.results46 _ HX9.out rfl Tryz.underlying25 infoTree5) rfl ⟨h, rfl, HF9.out.1, HF9.out.2.1, StayT.low HTI.out HF9.out.2.2 HD.out.ge (fun k e => by cases e)⟩

set_option maxRecDepth 100000 in
set_option maxHeartbeats 8000000 in
theorem fillCut_any (wb : World) (gx gp gc : Nat) (a : Option Addr) (n c : Nat) (ps : List AT) (Hs : Nat → TH) (hps : TreesAt wb a n c (ps.map AT.tr) Hs) (hn : n ≤ 500) (d : List Int) (i : Nat) (h : TH) (w : World) (ht : InTree wb h (PT.cut d).tr) (hbw : Below wb.heap.size wb w) (hge : wb.heap.size ≤ gx) (hc : Var1 w 82 gc (.func (.func 46) #[] #[.pointer (some ⟨gx, 0, none⟩), .pointer (some ⟨gp, 0, none⟩), .pointer (some ⟨gc, 0, none⟩)])) (hp : Var1 w 23 gp (.slice a n c)) (hv : Var1 w 3 gx (.int .i64 (i : Nat))) (hi : i < ps.length) : Calls Tryz.prog 46 #[.agg #[.int .i64 h.k, .slice h.ka h.kn h.kc, .slice h.va h.vn h.vc, .slice h.da h.dn h.dc, .slice h.ta h.tn h.tc], .pointer (some ⟨gx, 0, none⟩), .pointer (some ⟨gp, 0, none⟩), .pointer (some ⟨gc, 0, none⟩)] w (FillPost wb w gx (i + 1) (ps[i]).tr) := by
  have hlen : ps.length = n := by
    have q := hps.len
    rwa [List.length_map] at q
  have hin : i < n := by omega
  obtain ⟨ga, offa, hae, hcell⟩ := hps.place (by omega)
  subst hae
  have HTR : Hid (InTree wb (Hs i) (ps[i]).tr) := Lib.hid (by
    have q := hps.all i (by rw [List.length_map]; exact hi)
    rwa [List.getElem_map] at q)
  have HCE := Lib.hid hcell
  have HD := Lib.hid (LF.enter h hbw hge hc hp hv)
  obtain ⟨H, hpt⟩ := ht.parts
  have HP := Lib.hid hpt
  have HTI := Lib.hid ht
  have HKK := Lib.hid hpt.hk
  clear hbw hge hc hp hv hpt ht
  clear hps hcell
  have e0 : (h.k == 0) = false := by rw [HKK.out]; rfl
  have e3 : (h.k == 3) = true := by rw [HKK.out]; rfl
  have hin1 : (i : Int) < (n : Int) := by omega
  have e1 : IntKind.i64.wrap ((i : Int) + 1) = (i : Int) + 1 := IntWalk.i64_in _ (by omega)
  have e2 : IntKind.i64.wrap (i : Int) = (i : Int) := IntWalk.i64_in _ (by omega)
  go_enter Tryz.func46, Tryz.ntmps46
  go_upto_region 1 with fail
  generalize ((w.alloc (.cells #[.int .i64 h.k, .slice h.ka h.kn h.kc, .slice h.va h.vn h.vc, .slice h.da h.dn h.dc, .slice h.ta h.tn h.tc] 25)).alloc (.cells #[.int .i64 0, .slice none 0 0, .slice none 0 0, .slice none 0 0, .slice none 0 0] 25)) = w0 at *
  obtain ⟨x0, x1, x2, x3, x4⟩ := HD.out.cells
  have xv := HD.out.var.cell
  have fv := HD.out.var.frozen 0
  go_upto_region 6 with fail
  have HD5 : Hid (LF wb w (w0.setCell ⟨gx, 0, none⟩ (.int .i64 ((i : Int) + 1))) gx gp gc (some ⟨ga, offa, none⟩) n c h (i + 1)) := Lib.hid (HD.out.put (i + 1))
  clear x0 x1 x2 x3 x4 xv fv e0 e3 HD
  generalize (w0.setCell ⟨gx, 0, none⟩ (.int .i64 ((i : Int) + 1))) = w5 at *
  have xv : w5.cell? ⟨gx, 0, none⟩ = some (.int .i64 ((i : Int) + 1)) := HD5.out.var.cell
  have xp := HD5.out.par.cell
  obtain ⟨y0, y1, y2, y3, y4⟩ := HCE.out w5 HD5.out.b i hin
  go_wp2_with (first
    | (refine wpList_store_box rfl 25 (.tmp 5) (.tmp 20) rfl (w.heap.size + 1) hZ (Hs i) rfl rfl 25 HD5.out.res.box infoTree5 ?_
       intro w9 hbx9 hg9
       have HX9 := Lib.hid hbx9
       have HG9 := Lib.hid hg9
       have HF9 := Lib.hid (HD5.out.fin hg9)
       clear hbx9 hg9))
  exact bodyPost_ret (v := TH.v (Hs i)) (result_tree Tryz.results46 _ HX9.out rfl Tryz.underlying25 infoTree5) rfl ⟨Hs i, rfl, HF9.out.1, HF9.out.2.1, StayT.low HTR.out HF9.out.2.2 HD5.out.ge (fun k e => by cases e)⟩
end Go.Proofs.YtkcmohmfejmfoaaGreatDoor

/- A region that draws its order and whose last operation waits for all others: what the reads lean on need not hold behind that last one. No program is named here. -/
namespace Go.Proofs.YtkcmohmfejmfoaaGreatDoor
open Go.RowKit
set_option linter.unusedVariables false

section
variable {P : Program} {md : Region.Mode} {ops : Array Oper} {Q : Exit → Act → World → Prop} {S : World → Prop} {f : Nat}
/-- Whatever order is picked: behind every operation but number f the world meets S. -/
def wpL (P : Program) (md : Region.Mode) (ops : Array Oper) (Q : Exit → Act → World → Prop) (S : World → Prop) (f : Nat) : Nat → Array Bool → Act → World → Prop
  | 0, l, a, w => Region.ready md ops l = [] ∧ Q .normal a w
  | n + 1, l, a, w => (Region.ready md ops l = [] → Q .normal a w) ∧ ∀ j ∈ Region.ready md ops l, wpOp P ops Q j (fun a' w' => (j ≠ f → S w') ∧ wpL P md ops Q S f n (l.setIfInBounds j true) a' w') a w
theorem wpL_any : ∀ (n : Nat) (l : Array Bool) (a : Act) (w : World), wpL P md ops Q S f n l a w → wpAny P md ops Q n l a w
  | 0, _, _, _, h => h
  | n + 1, _, _, _, h => ⟨h.1, fun j hj => wpOp_mono (fun a' w' q => wpL_any n _ a' w' q.2) (h.2 j hj)⟩
/-- Number f waits for number i. -/
def waits (md : Region.Mode) (ops : Array Oper) (f i : Nat) : Bool := match ops[f]? with
  | some o => o.after.any fun e => Region.binds md e && e.on == i
  | none => false
theorem waits_not {i : Nat} {l : Array Bool} (hw : waits md ops f i = true) (hi : i ∈ Region.ready md ops l) : f ∉ Region.ready md ops l := fun hf => by
  obtain ⟨_, o, ho, hall⟩ := mem_ready.1 hf
  have h0 := (mem_ready.1 hi).1
  unfold waits at hw
  rw [ho] at hw
  simp only [Array.any_eq_true'] at hw
  obtain ⟨e, he, hb⟩ := hw
  rw [Bool.and_eq_true, beq_iff_eq] at hb
  have h1 := hall e he hb.1
  rw [hb.2] at h1
  by_cases hlt : i < l.size
  · simp [hlt] at h0 h1
    rw [h0] at h1
    cases h1
  · simp [Array.getElem?_eq_none (Nat.le_of_not_lt hlt)] at h0
/-- What yields its value in every world that meets S, and for which number f waits, may be taken first. -/
theorem wpL_take_all {i : Nat} {oi : Oper} {v : Value} (hi : ops[i]? = some oi) (hsel : ∀ (j : Nat) (o : Oper) cs b, ops[j]? = some o → o.op ≠ .select cs b) (hQ : ∀ c a w, Q (.panic c) (a.put oi.dst v) w → Q (.panic c) a w) (hw : waits md ops f i = true) :
    ∀ (n : Nat) (l : Array Bool) (a : Act) (w : World), (∀ j oj, ops[j]? = some oj → j ≠ i → l.getD j true = false → (∀ e ∈ oj.after, Region.binds md e = true → e.on ≠ i) → oi.apart ops oj = true) →
      i ∈ Region.ready md ops l → YieldsIf P ops S oi v a → S w → wpL P md ops Q S f n (l.setIfInBounds i true) (a.put oi.dst v) w → wpL P md ops Q S f (n + 1) l a w := by
  intro n
  induction n with
  | zero =>
    intro l a w _ hr hy hS H
    refine ⟨fun e => absurd hr (by rw [e]; simp), fun j hj => ?_⟩
    by_cases hji : j = i
    · rw [hji]
      exact hy.wpOp hi hS ⟨fun _ => hS, H⟩
    · exact absurd (ready_mono hj hji) (by rw [H.1]; simp)
  | succ n ih =>
    intro l a w hfr hr hy hS H
    refine ⟨fun e => absurd hr (by rw [e]; simp), fun j hj => ?_⟩
    by_cases hji : j = i
    · rw [hji]
      exact hy.wpOp hi hS ⟨fun _ => hS, H⟩
    have hjf : j ≠ f := fun e => waits_not hw hr (e ▸ hj)
    obtain ⟨hun, oj, hoj, hall⟩ := mem_ready.1 hj
    have hno : ∀ e ∈ oj.after, Region.binds md e = true → e.on ≠ i := fun e he hb q => by
      have h1 := hall e he hb
      have h0 := (mem_ready.1 hr).1
      rw [q] at h1
      by_cases hlt : i < l.size
      · simp [hlt] at h0 h1
        rw [h0] at h1
        cases h1
      · simp [Array.getElem?_eq_none (Nat.le_of_not_lt hlt)] at h0
    have h2 := wpOp_putIf hoj (hfr j oj hoj hji hun hno) (fun cs b => hsel i oi cs b hi) (fun cs b => hsel j oj cs b hoj) hQ hy (H.2 j (ready_mono hj hji))
    refine wpOp_mono (fun a' w' q => ⟨q.2.1, ih _ a' w' (fun k ok hk hki hku hkn => hfr k ok hk hki ?_ hkn) (ready_mono hr (Ne.symm hji)) q.1 (q.2.1 hjf) ?_⟩) h2
    · by_cases hjk : j = k
      · rw [← hjk]
        exact hun
      · rw [getD_set_ne true hjk] at hku
        exact hku
    · rw [Array.setIfInBounds_comm _ _ hji]
      exact q.2.2
theorem take_l {i : Nat} {oi : Oper} {v : Value} {n : Nat} {l : Array Bool} {a : Act} {w : World} (hi : ops[i]? = some oi) (hs : Region.noSelect ops = true) (hf : Region.free md ops l i = true) (hr : (Region.ready md ops l).contains i = true) (hwt : waits md ops f i = true)
    (hQ : ∀ c a w, Q (.panic c) (a.put oi.dst v) w → Q (.panic c) a w) (hw : Region.wanted oi (yielded ops a.tmps) = true) (hy : ∀ w, S w → (execOp a.eval oi).run P w = .ok (.value v) w) (hS : S w)
    (h : wpL P md ops Q S f n (l.setIfInBounds i true) (a.put oi.dst v) w) : wpL P md ops Q S f (n + 1) l a w :=
  wpL_take_all hi (Region.noSelect_spec hs) hQ hwt n l a w (Region.free_spec hi hf) (by simpa using hr) (.inl ⟨hw, hy⟩) hS h
/-- The only one ready, not the last. -/
theorem one_l {i : Nat} {o : Oper} {n : Nat} {l : Array Bool} {a : Act} {w : World} (hr : Region.ready md ops l = [i]) (ho : ops[i]? = some o)
    (h : ∀ K' : Act → World → Prop, Shut (∀ a w, S w → (S w → wpL P md ops Q S f n (l.setIfInBounds i true) a w) → K' a w) → if Region.wanted o (yielded ops a.tmps) = true then Oper.wp P o a w K' Q else K' (a.put o.dst undef) w) : wpL P md ops Q S f (n + 1) l a w := by
  refine ⟨fun e => absurd (hr.symm.trans e) (by simp), fun j hj => ?_⟩
  rw [hr, List.mem_singleton] at hj
  subst hj
  exact wpOp_step ho fun K' hK => h K' fun a w h1 h2 => hK a w ⟨fun _ => h1, h2 h1⟩
/-- The last one. -/
theorem last_l {o : Oper} {n : Nat} {l : Array Bool} {a : Act} {w : World} (hr : Region.ready md ops l = [f]) (ho : ops[f]? = some o) (hd : Region.ready md ops (l.setIfInBounds f true) = [])
    (h : ∀ K' : Act → World → Prop, Shut (∀ a w, Q .normal a w → K' a w) → if Region.wanted o (yielded ops a.tmps) = true then Oper.wp P o a w K' Q else K' (a.put o.dst undef) w) : wpL P md ops Q S f (n + 1) l a w := by
  refine ⟨fun e => absurd (hr.symm.trans e) (by simp), fun j hj => ?_⟩
  rw [hr, List.mem_singleton] at hj
  subst hj
  refine wpOp_step ho fun K' hK => h K' fun a w h1 => hK a w ⟨fun q => absurd rfl q, ?_⟩
  cases n with
  | zero => exact ⟨hd, h1⟩
  | succ n => exact ⟨fun _ => h1, by rw [hd]; simp⟩
theorem region_l (f : Nat) {id : Nat} {a : Act} {w : World} (hm : P.follows .mixedOrders = true) (hS : S w.drew) (h : S w.drew → wpL P .any ops Q S f ops.size (Array.replicate ops.size false) a w.drew) : (Code.region id ops true).wp P Q a w :=
  wp_region_any hm (wpL_any _ _ _ _ (h hS))
end
end Go.Proofs.YtkcmohmfejmfoaaGreatDoor
