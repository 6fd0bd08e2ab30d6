/- Trees as arguments: the view of a tree that lies somewhere. No program is named here. -/
import Derived.Test.YtpjojhmdgeejmaaArg
namespace Go.Proofs.Ytpjojhmdgeejmaa
open Go.ChangeShapes Go.WideShapes Go.RowKit Go.Deep
set_option linter.unusedVariables false

/-- A tree: its kind, key, value, digest and kids. -/
inductive Tr where
  | mk (k : Int) (key val dig : List Int) (kids : List Tr)
def Tr.k : Tr → Int | .mk k _ _ _ _ => k
def Tr.key : Tr → List Int | .mk _ key _ _ _ => key
def Tr.val : Tr → List Int | .mk _ _ val _ _ => val
def Tr.dig : Tr → List Int | .mk _ _ _ dig _ => dig
def Tr.kids : Tr → List Tr | .mk _ _ _ _ kids => kids
theorem Tr.ind {P : Tr → Prop} (h : ∀ t : Tr, (∀ x ∈ t.kids, P x) → P t) : ∀ t, P t
  | .mk k key val dig kids => h (.mk k key val dig kids) (fun x hx => Tr.ind h x)
termination_by t => SizeOf.sizeOf t
decreasing_by
  have := List.sizeOf_lt_of_mem hx
  simp only [Tr.kids] at *
  simp
  omega
theorem Tr.size_lt {t x : Tr} (hx : x ∈ t.kids) : SizeOf.sizeOf x < SizeOf.sizeOf t := by
  cases t with
  | mk k key val dig kids =>
    have := List.sizeOf_lt_of_mem (show x ∈ kids from hx)
    simp
    omega

/-- The head of a tree's value: its five cells. -/
structure TH where
  k : Int
  ka : Option Addr
  kn : Nat
  kc : Nat
  va : Option Addr
  vn : Nat
  vc : Nat
  da : Option Addr
  dn : Nat
  dc : Nat
  ta : Option Addr
  tn : Nat
  tc : Nat
def TH.cells (h : TH) : List Value := [.int .i64 h.k, .slice h.ka h.kn h.kc, .slice h.va h.vn h.vc, .slice h.da h.dn h.dc, .slice h.ta h.tn h.tc]
def TH.cell (h : TH) (j : Nat) : Value := h.cells.getD j .nilIface
def TH.v (h : TH) : Value := .agg #[.int .i64 h.k, .slice h.ka h.kn h.kc, .slice h.va h.vn h.vc, .slice h.da h.dn h.dc, .slice h.ta h.tn h.tc]

/-- A tree that lies in world w; h is its head. -/
inductive InTree (w : World) : TH → Tr → Prop
  | mk (h : TH) (t : Tr) (H : Nat → TH) (hk : h.k = t.k) (hk1 : -9223372036854775808 ≤ h.k) (hk2 : h.k ≤ 9223372036854775807)
      (key : InBytes w h.ka h.kn h.kc t.key) (val : InBytes w h.va h.vn h.vc t.val) (dig : InBytes w h.da h.dn h.dc t.dig)
      (sl : InSl w h.ta h.tn h.tc 5 (fun i => (H (i / 5)).cell (i % 5))) (len : t.kids.length = h.tn)
      (kids : ∀ i (hi : i < t.kids.length), InTree w (H i) t.kids[i]) : InTree w h t

theorem InTree.lower {w w' : World} (hb : Below w.heap.size w w') {h : TH} {t : Tr} (ht : InTree w h t) : InTree w' h t := by
  induction ht with
  | mk h t H hk hk1 hk2 key val dig sl len kids ih => exact .mk h t H hk hk1 hk2 (key.below hb) (val.below hb) (dig.below hb) (sl.below hb) len ih

/-- What a tree's parts are. -/
structure TreeAt (w : World) (h : TH) (t : Tr) (H : Nat → TH) : Prop where
  hk : h.k = t.k
  hk1 : -9223372036854775808 ≤ h.k
  hk2 : h.k ≤ 9223372036854775807
  key : InBytes w h.ka h.kn h.kc t.key
  val : InBytes w h.va h.vn h.vc t.val
  dig : InBytes w h.da h.dn h.dc t.dig
  sl : InSl w h.ta h.tn h.tc 5 (fun i => (H (i / 5)).cell (i % 5))
  len : t.kids.length = h.tn
  kids : ∀ i (hi : i < t.kids.length), InTree w (H i) t.kids[i]
theorem InTree.parts {w : World} {h : TH} {t : Tr} (ht : InTree w h t) : ∃ H, TreeAt w h t H := by
  cases ht with
  | mk h t H hk hk1 hk2 key val dig sl len kids => exact ⟨H, hk, hk1, hk2, key, val, dig, sl, len, kids⟩
theorem TreeAt.inTree {w : World} {h : TH} {t : Tr} {H : Nat → TH} (ht : TreeAt w h t H) : InTree w h t := .mk h t H ht.hk ht.hk1 ht.hk2 ht.key ht.val ht.dig ht.sl ht.len ht.kids
theorem TreeAt.below {w w' : World} {h : TH} {t : Tr} {H : Nat → TH} (ht : TreeAt w h t H) (hb : Below w.heap.size w w') : TreeAt w' h t H :=
  ⟨ht.hk, ht.hk1, ht.hk2, ht.key.below hb, ht.val.below hb, ht.dig.below hb, ht.sl.below hb, ht.len, fun i hi => (ht.kids i hi).lower hb⟩
/-- Where the kids lie, cell by cell. -/
theorem TreeAt.place {w : World} {h : TH} {t : Tr} {H : Nat → TH} (ht : TreeAt w h t H) (h0 : 0 < h.tn) : ∃ g off, h.ta = some ⟨g, off, none⟩ ∧ g < w.heap.size ∧
    ∀ i, i < h.tn → w.cell? ⟨g, off + i * 5, none⟩ = some (.int .i64 (H i).k) ∧ w.cell? ⟨g, off + i * 5 + 1, none⟩ = some (.slice (H i).ka (H i).kn (H i).kc) ∧ w.cell? ⟨g, off + i * 5 + 2, none⟩ = some (.slice (H i).va (H i).vn (H i).vc) ∧
      w.cell? ⟨g, off + i * 5 + 3, none⟩ = some (.slice (H i).da (H i).dn (H i).dc) ∧ w.cell? ⟨g, off + i * 5 + 4, none⟩ = some (.slice (H i).ta (H i).tn (H i).tc) := by
  obtain ⟨g, off, e, hg, hc⟩ := ht.sl.place h0
  refine ⟨g, off, e, hg, fun i hi => ?_⟩
  have key : ∀ j, j < 5 → w.cell? ⟨g, off + i * 5 + j, none⟩ = some ((H i).cell j) := fun j hj => by
    have h1 := hc (i * 5 + j) (by omega)
    try dsimp only at h1
    rw [show (i * 5 + j) / 5 = i by omega, show (i * 5 + j) % 5 = j by omega, ← Nat.add_assoc] at h1
    exact h1
  exact ⟨key 0 (by omega), key 1 (by omega), key 2 (by omega), key 3 (by omega), key 4 (by omega)⟩
/-- The same, where the kids' place is known. -/
theorem TreeAt.cellsAt {w : World} {h : TH} {t : Tr} {H : Nat → TH} (ht : TreeAt w h t H) {g off : Nat} (hta : h.ta = some ⟨g, off, none⟩) (i : Nat) (hi : i < h.tn) : w.cell? ⟨g, off + i * 5, none⟩ = some (.int .i64 (H i).k) ∧ w.cell? ⟨g, off + i * 5 + 1, none⟩ = some (.slice (H i).ka (H i).kn (H i).kc) ∧ w.cell? ⟨g, off + i * 5 + 2, none⟩ = some (.slice (H i).va (H i).vn (H i).vc) ∧ w.cell? ⟨g, off + i * 5 + 3, none⟩ = some (.slice (H i).da (H i).dn (H i).dc) ∧ w.cell? ⟨g, off + i * 5 + 4, none⟩ = some (.slice (H i).ta (H i).tn (H i).tc) := by
  obtain ⟨g', off', e, _, hc⟩ := ht.place (by omega)
  rw [hta] at e
  injection e with e
  injection e with e1 e2
  subst e1 e2
  exact hc i hi
theorem TreeAt.kid0 {w : World} {h : TH} {t : Tr} {H : Nat → TH} (ht : TreeAt w h t H) {g off : Nat} (hta : h.ta = some ⟨g, off, none⟩) (hi : 0 < h.tn) : w.cell? ⟨g, off, none⟩ = some (.int .i64 (H 0).k) ∧ w.cell? ⟨g, off + 1, none⟩ = some (.slice (H 0).ka (H 0).kn (H 0).kc) ∧ w.cell? ⟨g, off + 2, none⟩ = some (.slice (H 0).va (H 0).vn (H 0).vc) ∧ w.cell? ⟨g, off + 3, none⟩ = some (.slice (H 0).da (H 0).dn (H 0).dc) ∧ w.cell? ⟨g, off + 4, none⟩ = some (.slice (H 0).ta (H 0).tn (H 0).tc) := by
  have h1 := ht.cellsAt hta 0 hi
  simpa only [Nat.zero_mul, Nat.add_zero] using h1
theorem TreeAt.kid1 {w : World} {h : TH} {t : Tr} {H : Nat → TH} (ht : TreeAt w h t H) {g off : Nat} (hta : h.ta = some ⟨g, off, none⟩) (hi : 1 < h.tn) : w.cell? ⟨g, off + 5, none⟩ = some (.int .i64 (H 1).k) ∧ w.cell? ⟨g, off + 5 + 1, none⟩ = some (.slice (H 1).ka (H 1).kn (H 1).kc) ∧ w.cell? ⟨g, off + 5 + 2, none⟩ = some (.slice (H 1).va (H 1).vn (H 1).vc) ∧ w.cell? ⟨g, off + 5 + 3, none⟩ = some (.slice (H 1).da (H 1).dn (H 1).dc) ∧ w.cell? ⟨g, off + 5 + 4, none⟩ = some (.slice (H 1).ta (H 1).tn (H 1).tc) := by
  have h1 := ht.cellsAt hta 1 hi
  simpa only [Nat.one_mul] using h1
/-- Block g holds a tree's five cells. -/
def Box (w : World) (ty : TypeId) (g : Nat) (h : TH) : Prop := w.heap[g]? = some (.cells #[.int .i64 h.k, .slice h.ka h.kn h.kc, .slice h.va h.vn h.vc, .slice h.da h.dn h.dc, .slice h.ta h.tn h.tc] ty (0, 0))
theorem Box.new (w : World) (ty : TypeId) (h : TH) : Box (w.alloc (.cells #[.int .i64 h.k, .slice h.ka h.kn h.kc, .slice h.va h.vn h.vc, .slice h.da h.dn h.dc, .slice h.ta h.tn h.tc] ty)) ty w.heap.size h := heap_alloc_new w _
section
variable {w w' : World} {ty : TypeId} {g : Nat} {h : TH}
theorem Box.below {B : Nat} (hx : Box w ty g h) (hb : Below B w w') (hg : g < B) : Box w' ty g h := (hb.block g hg).trans hx
theorem Box.lt (hx : Box w ty g h) : g < w.heap.size := by
  rcases Nat.lt_or_ge g w.heap.size with hlt | hge
  · exact hlt
  · unfold Box at hx; rw [Array.getElem?_eq_none hge] at hx; cases hx
theorem Box.drew (hx : Box w ty g h) : Box w.drew ty g h := hx
theorem Box.cells (hx : Box w ty g h) : w.cell? ⟨g, 0, none⟩ = some (.int .i64 h.k) ∧ w.cell? ⟨g, 1, none⟩ = some (.slice h.ka h.kn h.kc) ∧ w.cell? ⟨g, 2, none⟩ = some (.slice h.va h.vn h.vc) ∧ w.cell? ⟨g, 3, none⟩ = some (.slice h.da h.dn h.dc) ∧ w.cell? ⟨g, 4, none⟩ = some (.slice h.ta h.tn h.tc) := by
  unfold Box at hx
  refine ⟨?_, ?_, ?_, ?_, ?_⟩
  all_goals
    rw [cell_of_row w g _ _ _ (0, 0) hx]
    rfl
end
/-- Small enough: the bounds that the document's measure lays. -/
inductive LightOK : Tr → Prop
  | mk (t : Tr) (hk : t.key.length ≤ 3000) (hv : t.val.length ≤ 3000) (hd : t.dig.length ≤ 3000) (hn : t.kids.length ≤ 500) (kids : ∀ i (hi : i < t.kids.length), LightOK t.kids[i]) : LightOK t
end Go.Proofs.Ytpjojhmdgeejmaa
