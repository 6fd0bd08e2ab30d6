/- What stands in memory while changes are made to a tree, and to a list of pairs. -/
import Derived.Test.YtolpdidjabbipaaAvlUp
import Derived.Test.YtolpdidjabbipaaPair
namespace Go.Proofs.Ytolpdidjabbipaa
open Go.RowKit
set_option linter.unusedVariables false

/-- A change: its key, its value, whether it is a deletion. -/
structure DH where
  ka : Option Addr
  kn : Nat
  kc : Nat
  va : Option Addr
  vn : Nat
  vc : Nat
  out : Bool
def recD : Rec DH where
  cells := fun p => [.slice p.ka p.kn p.kc, .slice p.va p.vn p.vc, .bool p.out]
  sz := 3
  pos := by omega
  len := fun _ => rfl
  one := fun r u hu => by
    simp at hu
    rcases hu with rfl | rfl | rfl <;> rfl
def dZ : DH := ⟨none, 0, 0, none, 0, 0, false⟩

def isK (key : List Int) (p : KV) : Bool := p.1 == key
theorem any_hit {kvs : List KV} {key : List Int} {k : Nat} {p : KV} (e : kvs[k]? = some p) (h : isK key p = true) : (kvs.take (k + 1)).any (isK key) = true := by
  rw [List.take_add_one, e, List.any_append]
  simp [h]
theorem any_miss {kvs : List KV} {key : List Int} {k : Nat} {p : KV} (e : kvs[k]? = some p) (h : isK key p = false) : (kvs.take (k + 1)).any (isK key) = (kvs.take k).any (isK key) := by
  rw [List.take_add_one, e, List.any_append]
  simp [h]
theorem filter_hit {kvs : List KV} {key : List Int} {k : Nat} {p : KV} (e : kvs[k]? = some p) (h : isK key p = true) : (kvs.take (k + 1)).filter (fun p => !isK key p) = (kvs.take k).filter (fun p => !isK key p) := by
  rw [List.take_add_one, e, List.filter_append]
  simp [h]
theorem filter_miss {kvs : List KV} {key : List Int} {k : Nat} {p : KV} (e : kvs[k]? = some p) (h : isK key p = false) : (kvs.take (k + 1)).filter (fun p => !isK key p) = (kvs.take k).filter (fun p => !isK key p) ++ [p] := by
  rw [List.take_add_one, e, List.filter_append]
  simp [h]
theorem get_any {a : AT} {kvs : List KV} (hp : kvs.Perm a.pairs) (key : List Int) : (a.get key).isSome = kvs.any (isK key) := by
  unfold AT.get
  rw [Option.isSome_map, Bool.eq_iff_iff, List.find?_isSome, List.any_eq_true]
  constructor
  · rintro ⟨x, hx, h⟩
    exact ⟨x, hp.mem_iff.2 hx, h⟩
  · rintro ⟨x, hx, h⟩
    exact ⟨x, hp.mem_iff.1 hx, h⟩
theorem del_perm {a : AT} {kvs : List KV} (h : Good a) (hp : kvs.Perm a.pairs) (key : List Int) : (kvs.filter (fun p => !isK key p)).Perm (a.del key).pairs := by
  rw [AT.del_pairs key a h.rise]
  exact perm_filter hp _
theorem put_perm2 {a : AT} {kvs : List KV} (h : Good a) (hp : kvs.Perm a.pairs) (key val : List Int) : (kvs.filter (fun p => !isK key p) ++ [(key, val)]).Perm (a.put key val).pairs := by
  rw [AT.put_pairs key val a h.rise]
  exact ((perm_filter hp _).append_right _).trans (put_perm key val a.pairs).symm
theorem get_of_mem {a : AT} (h : Good a) {p : KV} (hp : p ∈ a.pairs) : a.get p.1 = some p.2 := by
  unfold AT.get
  rw [find_rise h.rise hp]
  rfl
theorem AT.count (a : AT) : countT a.tr = 2 * a.pairs.length + 1 := by
  induction a with
  | nil => rw [countT_eq]; rfl
  | node l k v r ihl ihr =>
    rw [countT_eq, AT.tr_kids]
    simp only [List.map_cons, List.map_nil, List.sum_cons, List.sum_nil, ihl, ihr, AT.pairs, List.length_append, List.length_cons]
    omega

/-- The tree in its box, the list of pairs in its row. -/
structure HW (w W : World) (g4 : Nat) (ht : TH) (a : AT) (pv : Value) (ps : List PH) (kvs : List KV) (i : Nat) : Prop where
  b : Below w.heap.size w W
  box : Box W 25 g4 ht
  ge : w.heap.size ≤ g4
  ti : InTree W ht a.tr
  row : OwnR recP W w.heap.size 50 pv ps
  pin : PairsIn w ps kvs
  good : Good a
  perm : kvs.Perm a.pairs
  cnt : a.pairs.length ≤ i
theorem HW.below {w W W' : World} {g4 : Nat} {ht : TH} {a : AT} {pv : Value} {ps : List PH} {kvs : List KV} {i : Nat} (x : HW w W g4 ht a pv ps kvs i) (hb : Below W.heap.size W W') : HW w W' g4 ht a pv ps kvs i :=
  ⟨x.b.trans (hb.mono x.b.size), x.box.below hb x.box.lt, x.ge, x.ti.lower hb, x.row.keep hb, x.pin, x.good, x.perm, x.cnt⟩
theorem HW.drew {w W : World} {g4 : Nat} {ht : TH} {a : AT} {pv : Value} {ps : List PH} {kvs : List KV} {i : Nat} (x : HW w W g4 ht a pv ps kvs i) : HW w W.drew g4 ht a pv ps kvs i := x.below (Below.refl _ _).drew
theorem HW.more {w W : World} {g4 : Nat} {ht : TH} {a : AT} {pv : Value} {ps : List PH} {kvs : List KV} {i j : Nat} (x : HW w W g4 ht a pv ps kvs i) (h : i ≤ j) : HW w W g4 ht a pv ps kvs j := ⟨x.b, x.box, x.ge, x.ti, x.row, x.pin, x.good, x.perm, Nat.le_trans x.cnt h⟩
theorem HW.len {w W : World} {g4 : Nat} {ht : TH} {a : AT} {pv : Value} {ps : List PH} {kvs : List KV} {i : Nat} (x : HW w W g4 ht a pv ps kvs i) : ps.length = a.pairs.length ∧ kvs.length = a.pairs.length := ⟨x.pin.1.trans x.perm.length_eq, x.perm.length_eq⟩
theorem HW.cells {w W : World} {g4 : Nat} {ht : TH} {a : AT} {gp m pc : Nat} {ps : List PH} {kvs : List KV} {i : Nat} (x : HW w W g4 ht a (.slice (some ⟨gp, 0, none⟩) m pc) ps kvs i) (k : Nat) (hk : k < ps.length) : W.cell? ⟨gp, k * 2, none⟩ = some (.slice (ps[k]).ka (ps[k]).kn (ps[k]).kc) ∧ W.cell? ⟨gp, k * 2 + 1, none⟩ = some (.slice (ps[k]).va (ps[k]).vn (ps[k]).vc) := by
  obtain ⟨g, e, h⟩ := x.row.at k hk
  injection e with e
  injection e with e
  subst e
  exact ⟨h 0 _ rfl, h 1 _ rfl⟩
theorem HW.at {w W : World} {g4 : Nat} {ht : TH} {a : AT} {pa : Option Addr} {m pc : Nat} {ps : List PH} {kvs : List KV} {i : Nat} (x : HW w W g4 ht a (.slice pa m pc) ps kvs i) (k : Nat) (hk : k < ps.length) : ∃ gp, pa = some ⟨gp, 0, none⟩ := by
  obtain ⟨g, e, h⟩ := x.row.at k hk
  exact ⟨g, e⟩
/-- The new list, which grows from the world w3 on. -/
structure RW (w w3 W : World) (rv : Value) (rs : List PH) (kvs : List KV) : Prop where
  b : Below w3.heap.size w3 W
  row : OwnR recP W w3.heap.size 50 rv rs
  all : AllP isSl W rv
  pin : PairsIn w rs kvs
theorem RW.below {w w3 W W' : World} {rv : Value} {rs : List PH} {kvs : List KV} (x : RW w w3 W rv rs kvs) (hb : Below W.heap.size W W') : RW w w3 W' rv rs kvs :=
  ⟨x.b.trans (hb.mono x.b.size), x.row.keep hb, x.all.keep x.row hb, x.pin⟩
theorem RW.drew {w w3 W : World} {rv : Value} {rs : List PH} {kvs : List KV} (x : RW w w3 W rv rs kvs) : RW w w3 W.drew rv rs kvs := x.below (Below.refl _ _).drew
theorem RW.nil (w w3 : World) : RW w w3 w3 (.slice none 0 0) [] [] := ⟨Below.refl _ _, OwnR.nil _ _ _ _, AllP.nil _ _, PairsIn.nil _⟩
theorem RW.ne {w w3 W : World} {rv : Value} {rs : List PH} {kvs : List KV} (x : RW w w3 W rv rs kvs) {g : Nat} (hg : g < w3.heap.size) : rv.ownBlock ≠ some g := fun q => by
  have := (x.row.base_le q).1
  omega
/-- The new tree is in its box; the new list is about to grow by one. -/
structure PW (w W : World) (g4 : Nat) (hn : TH) (t : AT) (rv : Value) (rs : List PH) (kvs : List KV) : Prop where
  b : Below w.heap.size w W
  box : Box W 25 g4 hn
  ge : w.heap.size ≤ g4
  ti : InTree W hn t.tr
  row : OwnR recP W w.heap.size 50 rv rs
  all : AllP isSl W rv
  ne : rv.ownBlock ≠ some g4
  pin : PairsIn w rs kvs
theorem PW.below {w W W' : World} {g4 : Nat} {hn : TH} {t : AT} {rv : Value} {rs : List PH} {kvs : List KV} (x : PW w W g4 hn t rv rs kvs) (hb : Below W.heap.size W W') : PW w W' g4 hn t rv rs kvs :=
  ⟨x.b.trans (hb.mono x.b.size), x.box.below hb x.box.lt, x.ge, x.ti.lower hb, x.row.keep hb, x.all.keep x.row hb, x.ne, x.pin⟩
theorem PW.of {w W W' w3 : World} {g4 : Nat} {ht hn : TH} {a t : AT} {pv rv : Value} {ps rs : List PH} {kvs kvs' : List KV} {i : Nat} (x : HW w W g4 ht a pv ps kvs i) (y : RW w w3 W rv rs kvs') (h3 : g4 < w3.heap.size) (hw3 : w.heap.size ≤ w3.heap.size)
    (ti : InTree W hn t.tr) (hx : Box W' 25 g4 hn) (hg : W.grownBy W' (some g4)) : PW w W' g4 hn t rv rs kvs' :=
  ⟨x.b.grown hg x.b.size (fun k hk => by injection hk with hk; have := x.ge; omega), hx, x.ge, AT.outBox x.box hg t hn ti, (y.row.grown hg (.inr (y.ne h3))).weak hw3, y.all.grown y.row hg (y.ne h3), y.ne h3, y.pin⟩
theorem PW.add {w W W' : World} {g4 : Nat} {hn : TH} {t : AT} {rv rv' : Value} {rs : List PH} {kvs kvs' : List KV} {p : PH} {j : Nat} (x : PW w W g4 hn t rv rs kvs) (hg : W.grownBy W' rv.ownBlock) (ho : OwnR recP W' w.heap.size 50 rv' (rs ++ [p])) (hpin : PairsIn w (rs ++ [p]) kvs') (hgood : Good t) (hperm : kvs'.Perm t.pairs) (hc : t.pairs.length ≤ j) : HW w W' g4 hn t rv' (rs ++ [p]) kvs' j := by
  refine ⟨x.b.grown hg x.b.size (fun j hj => (x.row.base_le hj).1), x.box.grown hg (fun q => x.ne q.symm), x.ge, ?_, ho, hpin, hgood, hperm, hc⟩
  cases hb : rv.ownBlock with
  | none =>
    rw [hb] at hg
    exact x.ti.lower ⟨hg.os, hg.tape, hg.output, hg.size, fun j hj => hg.block j hj (by simp)⟩
  | some g =>
    rw [hb] at hg
    exact AT.outRow (x.all g hb) hg t hn x.ti
/-- The tree's own box is written: with a new tree that lies in W. -/
theorem HW.store {w W W' w3 : World} {g4 : Nat} {ht hn : TH} {a b : AT} {pv rv : Value} {ps rs : List PH} {kvs kvs' : List KV} {i j : Nat} (x : HW w W g4 ht a pv ps kvs i) (y : RW w w3 W rv rs kvs') (h3 : g4 < w3.heap.size) (hw3 : w.heap.size ≤ w3.heap.size)
    (ti : InTree W hn b.tr) (hx : Box W' 25 g4 hn) (hg : W.grownBy W' (some g4)) (hgood : Good b) (hperm : kvs'.Perm b.pairs) (hc : b.pairs.length ≤ j) : HW w W' g4 hn b rv rs kvs' j :=
  ⟨x.b.grown hg x.b.size (fun k hk => by injection hk with hk; have := x.ge; omega), hx, x.ge, AT.outBox x.box hg b hn ti, (y.row.grown hg (.inr (y.ne h3))).weak hw3, y.pin, hgood, hperm, hc⟩
end Go.Proofs.Ytolpdidjabbipaa
