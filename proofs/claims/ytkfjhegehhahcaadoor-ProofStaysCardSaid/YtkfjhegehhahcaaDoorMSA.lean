/- Words for memory, for arguments that are slices of bytes or arrays, and for appends: what the walks of all layers share. No program is named here. Arguments that are slices of anything: their cells, one behind the other, and what each element is. No program is named here. Trees as arguments: the view of a tree that lies somewhere. No program is named here. What the document says of trees, as functions. No program is named here. The byte's type, as the program has it; slices of new memory. The contracts of the document's checks of trees. The contracts of the document's checks of trees: Check, Full, Depth. Errors that are Codes. A variable of one cell: a closure's, a number's. No program is named here. The contracts of the program's checks of trees. In a region that draws its order: what may be taken first. No program is named here. The contracts of the program's Check and Full. What stands in memory inside a closure over a tree. The contracts of the program's look at the widths of a tree's digests. Plain facts on a number's bytes: written, and read again. No program is named here. Plain facts on preimages. No program is named here. Plain facts on 32 bit words: turning to the right, the two sums of a round. No program is named here. Plain facts on the tail: its bytes as a list. No program is named here. Plain facts on a block's words. No program is named here. Plain facts on a step: 64 rounds and a sum; the tables as lists. No program is named here. Plain facts on steps one behind the other. No program is named here. Plain functions after the document's reckoning of roots by digits of 16 bits. No program is named here. -/
import Derived.WalkKit
import Derived.WalkSmall
import Derived.Below
import Derived.Deep.Draws
import Derived.Laws.OwnMore
import Derived.Laws.Rows
import Derived.Deep.RegionLaw
import Derived.Laws.AppendOwnNone
import Derived.OwnWalk
import Derived.Laws.BytesArg
import Derived.Deep.AppendLies
import Derived.ProofKit
import Derived.OpenShut
import Derived.LaidMore
import Derived.Stop.Joined
import Derived.WalkLawsBesides
import Derived.WalkSpells
import Derived.Outline
import Derived.Lib.Hide
import Derived.LoopTactic
import Derived.Deep.RegionWith
import Derived.Deep.DeepCutAuto
import Derived.Lib.IfaceEq
import Derived.Deep.QuietTactic
import Derived.BigQuiet
import Derived.BigRegion
import Derived.StillTailTactics
import Derived.Deep.RegionHeld3
import Derived.IntWalk
import Derived.SizedLaws
import Derived.Deep.Slices
import Derived.Test.YtkfjhegehhahcaaDoorProg
import Derived.Deep.CutBlock
import Derived.Lib.IfaceNeq
import Derived.Laws.EntriesVeiled
/- Words for memory, for arguments that are slices of bytes or arrays, and for appends: what the walks of all layers share. No program is named here. -/
namespace Go.Proofs.YtkfjhegehhahcaaDoor
open Go.ChangeShapes Go.WideShapes Go.RowKit
set_option linter.unusedVariables false

def Bytes8 (bs : List Int) : Prop := ∀ z ∈ bs, 0 ≤ z ∧ z ≤ 255
theorem byte_at {bs : List Int} (h : Bytes8 bs) (i : Nat) : 0 ≤ bs.getD i 0 ∧ bs.getD i 0 ≤ 255 := by
  by_cases hi : i < bs.length
  · have := h bs[i] (List.getElem_mem hi)
    simpa [List.getD, hi] using this
  · simp [List.getD, List.getElem?_eq_none (by omega : bs.length ≤ i)]
/-- Block g holds just the integers zs, of element type t; it may be written. -/
def Row (k : IntKind) (w : World) (t : TypeId) (g : Nat) (zs : List Int) : Prop := w.heap[g]? = some (.cells (zs.map (Value.int k)).toArray t (0, 0))
/-- From the place off of block g on the integers zs lie. -/
def Seg (k : IntKind) (w : World) (g off : Nat) (zs : List Int) : Prop := ∀ (i : Nat) (h : i < zs.length), w.cell? ⟨g, off + i, none⟩ = some (.int k zs[i])

section
variable {k : IntKind} {w w' : World} {t : TypeId} {g off : Nat} {zs : List Int}
theorem Row.lt (h : Row k w t g zs) : g < w.heap.size := by
  rcases Nat.lt_or_ge g w.heap.size with hlt | hge
  · exact hlt
  · unfold Row at h; rw [Array.getElem?_eq_none hge] at h; cases h
theorem Row.cell (h : Row k w t g zs) (i : Nat) (hi : i < zs.length) : w.cell? ⟨g, i, none⟩ = some (.int k zs[i]) := by
  have h1 := cell_of_row w g i _ t (0, 0) h
  rw [h1]
  simp [hi]
theorem Row.has (h : Row k w t g zs) (i : Nat) (hi : i < zs.length) : ∃ z, w.cell? ⟨g, i, none⟩ = some (.int k z) := ⟨_, h.cell i hi⟩
theorem Row.frozen (h : Row k w t g zs) (i : Nat) : w.frozen? ⟨g, i, none⟩ = false := by
  unfold Row at h
  simp [World.frozen?, h]
theorem Row.seg (h : Row k w t g zs) : Seg k w g 0 zs := fun i hi => by
  rw [Nat.zero_add]
  exact h.cell i hi
theorem Row.new (w : World) (t : TypeId) (zs : List Int) : Row k (w.alloc (.cells (zs.map (Value.int k)).toArray t)) t w.heap.size zs := heap_alloc_new w _
theorem Row.drew (h : Row k w t g zs) : Row k w.drew t g zs := h
theorem Row.drewN (h : Row k w t g zs) (n : Nat) : Row k (w.drewN n) t g zs := h
theorem Row.alloc (h : Row k w t g zs) (o : Obj) : Row k (w.alloc o) t g zs := (Below.heap_alloc w o g h.lt).trans h
theorem Row.set (h : Row k w t g zs) (i : Nat) (z : Int) : Row k (w.setCell ⟨g, i, none⟩ (.int k z)) t g (zs.set i z) := by
  unfold Row at h ⊢
  simp [World.setCell, Array.getElem?_modify, h, List.map_set]
theorem Row.far (h : Row k w t g zs) {p : Addr} (hp : g ≠ p.block) (u : Value) : Row k (w.setCell p u) t g zs := (Below.heap_setCell w p u g hp).trans h
theorem Row.below {B : Nat} (h : Row k w t g zs) (hb : Below B w w') (hg : g < B) : Row k w' t g zs := (hb.block g hg).trans h
theorem Row.grown {row : Option Nat} (h : Row k w t g zs) (hb : w.grownBy w' row) (hg : some g ≠ row) : Row k w' t g zs := (hb.block g h.lt hg).trans h

theorem Seg.keep (h : Seg k w g off zs) (hk : ∀ o, w'.cell? ⟨g, o, none⟩ = w.cell? ⟨g, o, none⟩) : Seg k w' g off zs := fun i hi => (hk _).trans (h i hi)
theorem Seg.below {B : Nat} (h : Seg k w g off zs) (hb : Below B w w') (hg : g < B) : Seg k w' g off zs := h.keep fun o => hb.cell (p := ⟨g, o, none⟩) hg
theorem Seg.drew (h : Seg k w g off zs) : Seg k w.drew g off zs := h
theorem Seg.drewN (h : Seg k w g off zs) (n : Nat) : Seg k (w.drewN n) g off zs := h
theorem Seg.drop (h : Seg k w g off zs) (j : Nat) : Seg k w g (off + j) (zs.drop j) := fun i hi => by
  rw [List.length_drop] at hi
  have h1 := h (j + i) (by omega)
  rw [List.getElem_drop, show off + j + i = off + (j + i) by omega]
  exact h1
theorem Seg.take (h : Seg k w g off zs) (j : Nat) : Seg k w g off (zs.take j) := fun i hi => by
  rw [List.length_take] at hi
  rw [List.getElem_take]
  exact h i (by omega)
theorem Seg.cellD (h : Seg k w g off zs) (i : Nat) (hi : i < zs.length) : w.cell? ⟨g, off + i, none⟩ = some (.int k (zs.getD i 0)) := by
  rw [h i hi]; simp [List.getD, hi]

theorem Seg.news (h : Seg k w g off zs) : ∀ (j : Nat) (u : Value), (zs.map (Value.int k))[j]? = some u → w.cell? ((⟨g, off, none⟩ : Addr).add j) = some u := by
  intro j u hu
  have hj : j < zs.length := by
    rcases Nat.lt_or_ge j zs.length with h | h
    · exact h
    · rw [List.getElem?_eq_none (by simpa using h)] at hu; cases hu
  have hp : (⟨g, off, none⟩ : Addr).add j = ⟨g, off + j, none⟩ := by unfold Addr.add; split <;> simp_all
  rw [hp, h j hj]
  simpa [hj] using hu
theorem only_refl (a : World) (row : Option Nat) : a.grownBy a row := ⟨rfl, rfl, rfl, Nat.le_refl _, fun _ _ _ => rfl⟩
theorem only_set {a w : World} {g : Nat} (h : a.grownBy w (some g)) (i : Nat) (u : Value) : a.grownBy (w.setCell ⟨g, i, none⟩ u) (some g) :=
  ⟨h.os, h.tape, h.output, by simpa [World.setCell] using h.size, fun j hj hne => (Below.heap_setCell w ⟨g, i, none⟩ u j (by rintro rfl; exact hne rfl)).trans (h.block j hj hne)⟩
theorem only_drawn {a w : World} {row : Option Nat} (h : a.grownBy w row) (n : Nat) : a.grownBy (w.drewN n) row := ⟨h.os, h.tape, h.output, h.size, h.block⟩
theorem only_below {a w : World} (h : Below a.heap.size a w) (row : Option Nat) : a.grownBy w row := ⟨h.os, h.tape, h.output, h.size, fun i hi _ => h.block i hi⟩
/-- What has turned block g alone has left all below B as it was, where B ≤ g. -/
theorem below_only {a b w : World} {B g : Nat} (h : Below B a b) (hg : b.grownBy w (some g)) (hB : B ≤ b.heap.size) (hBg : B ≤ g) : Below B a w :=
  h.grown hg hB (fun j hj => by injection hj; omega)
end

theorem Row.cellD {k : IntKind} {w : World} {t : TypeId} {g : Nat} {zs : List Int} (h : Row k w t g zs) (i : Nat) (hi : i < zs.length) : w.cell? ⟨g, i, none⟩ = some (.int k (zs.getD i 0)) := by
  rw [h.cell i hi]; simp [List.getD, hi]
theorem ints_size (k : IntKind) (zs : List Int) : (zs.map (Value.int k)).toArray.size = zs.length := by simp
theorem ints_one (k : IntKind) (zs : List Int) : (zs.map (Value.int k)).toArray.all (·.oneCell') = true := by
  simp [Value.oneCell']

/-- A whole array of integers, read. -/
theorem wpList_load_ints {P : Program} {ops : Array Oper} {rest : List Oper} {o : Oper} {a : Act} {w : World} {Q : Exit → Act → World → Prop} (hgd : o.guard = none) (ty : TypeId) (x : Operand) (ho : o.op = .load ty x)
    (g : Nat) (hx : a.eval x = .pointer (some ⟨g, 0, none⟩)) (t : TypeId) (k : IntKind) (zs : List Int) (hr : Row k w t g zs) (n : Nat) (e : TypeId)
    (hu : P.underlying ty = some (.array n e)) (hi : (P.info? ty).map (·.size) = some zs.length)
    (h : wpList P ops Q rest (a.put o.dst (.agg (zs.map (Value.int k)).toArray)) w) : wpList P ops Q (o :: rest) a w :=
  wpList_load_row hgd ty x ho g hx t _ _ _ hr hu rfl (by rw [ints_size]; exact hi) h

/-- A whole array of integers, written. -/
theorem wpList_store_ints {P : Program} {ops : Array Oper} {rest : List Oper} {o : Oper} {a : Act} {w : World} {Q : Exit → Act → World → Prop} (hgd : o.guard = none) (ty : TypeId) (x y : Operand) (ho : o.op = .store ty x y)
    (g : Nat) (k : IntKind) (zs : List Int) (hx : a.eval x = .pointer (some ⟨g, 0, none⟩)) (hy : a.eval y = .agg (zs.map (Value.int k)).toArray)
    (t : TypeId) (old : List Int) (hr : Row k w t g old) (hi : (P.info? ty).map (·.size) = some zs.length) (hold : old.length = zs.length)
    (h : ∀ w', Row k w' t g zs → w.grownBy w' (some g) → w'.heap.size = w.heap.size → wpList P ops Q rest (a.put o.dst undef) w') : wpList P ops Q (o :: rest) a w := by
  refine wpList_store_row hgd ty x y ho g _ hx hy t _ hr (by rw [ints_size]; exact hi) (by simp [hold]) (ints_one k zs) ?_
  refine h _ (setRow_heap w g _ _ t _ hr) ⟨rfl, rfl, rfl, by simp, fun j hj hne => setRow_other w g j _ (fun e => hne (by rw [e]))⟩ (by simp)

theorem madeCells_ints (k : IntKind) (n : Nat) : madeCells (Value.int k 0).cells n = ((List.replicate n (0 : Int)).map (Value.int k)).toArray := by
  apply Array.ext
  · simp [madeCells]
  · intro i h1 h2
    simp [madeCells, Value.cells, Nat.mod_one]

/-- make([]T, n) of integers: a new block of n noughts. -/
theorem wpList_make_ints {P : Program} (w : World) {ops : Array Oper} {rest : List Oper} {o : Oper} {a : Act} {Q : Exit → Act → World → Prop}
    (hg : o.guard = none) (l c : Operand) (t : TypeId) (hop : o.op = Op.makeSlice t l c)
    (e : TypeId) (i : TypeInfo) (k : IntKind) (h1 : P.underlying t = some (.slice e)) (h2 : P.info? e = some i) (h3 : i.zero = some (.int k 0)) (h4 : i.size = 1)
    (kl kc : IntKind) (L C : Int) (n : Nat) (hl : a.eval l = .int kl L) (hc : a.eval c = .int kc C) (hL : L = (n : Int)) (hC : C = (n : Int)) (b2 : i.bytes * n ≤ 281474976710656) (b3 : n ≤ maxLen)
    (hK : ∀ w', Row k w' e w.heap.size (List.replicate n 0) → Below w.heap.size w w' → w'.heap.size = w.heap.size + 1 → wpList P ops Q rest (a.put o.dst (.slice (some ⟨w.heap.size, 0, none⟩) n n)) w') :
    wpList P ops Q (o :: rest) a w := by
  refine wpList_plain hg fun K hK' => ?_
  subst hL
  subst hC
  have hb : (i.bytes : Int) * (n : Int) ≤ 281474976710656 := by
    have h : ((i.bytes * n : Nat) : Int) ≤ 281474976710656 := by omega
    rwa [Int.natCast_mul] at h
  simp only [maxLen] at b3
  have hrun := run_make (P := P) w t e i _ h1 h2 h3 kl kc n n (by omega) (by omega) hb (by omega)
  rw [Int.toNat_natCast, h4, Nat.mul_one, madeCells_ints] at hrun
  unfold Oper.wp
  simp only [execOp, hop, hl, hc, Sem.run_bind, hrun, Result.andThen_ok, Sem.run_pure]
  exact hK' _ _ (hK _ (Row.new w e _) ((Below.refl _ _).alloc (Nat.le_refl _) _) (by simp))

/-- A whole array of integers, read, at a step of a region that draws its order. -/
theorem step_load_ints {P : Program} {ops : Array Oper} {o : Oper} {a : Act} {w : World} {K : Act → World → Prop} {Q : Exit → Act → World → Prop} {E : Prop} (hgd : o.guard = none) (ty : TypeId) (x : Operand) (ho : o.op = .load ty x)
    (g : Nat) (hx : a.eval x = .pointer (some ⟨g, 0, none⟩)) (t : TypeId) (k : IntKind) (zs : List Int) (hr : Row k w t g zs) (n : Nat) (e : TypeId)
    (hu : P.underlying ty = some (.array n e)) (hi : (P.info? ty).map (·.size) = some zs.length)
    (h : K (a.put o.dst (.agg (zs.map (Value.int k)).toArray)) w) : if Region.wanted o (yielded ops a.tmps) = true then Oper.wp P o a w K Q else E := by
  have hw : Region.wanted o (yielded ops a.tmps) = true := by simp [Region.wanted, hgd]
  rw [if_pos hw]
  exact wp_load_row ty x ho g hx t _ _ _ hr hu rfl (by rw [ints_size]; exact hi) h
theorem step_store_ints {P : Program} {ops : Array Oper} {o : Oper} {a : Act} {w : World} {K : Act → World → Prop} {Q : Exit → Act → World → Prop} {E : Prop} (hgd : o.guard = none) (ty : TypeId) (x y : Operand) (ho : o.op = .store ty x y)
    (g : Nat) (k : IntKind) (zs : List Int) (hx : a.eval x = .pointer (some ⟨g, 0, none⟩)) (hy : a.eval y = .agg (zs.map (Value.int k)).toArray)
    (t : TypeId) (old : List Int) (hr : Row k w t g old) (hi : (P.info? ty).map (·.size) = some zs.length) (hold : old.length = zs.length)
    (h : ∀ w', Row k w' t g zs → w.grownBy w' (some g) → w'.heap.size = w.heap.size → K (a.put o.dst undef) w') : if Region.wanted o (yielded ops a.tmps) = true then Oper.wp P o a w K Q else E := by
  have hw : Region.wanted o (yielded ops a.tmps) = true := by simp [Region.wanted, hgd]
  rw [if_pos hw]
  refine wp_store_row ty x y ho g _ hx hy t _ hr (by rw [ints_size]; exact hi) (by simp [hold]) (ints_one k zs) ?_
  exact h _ (setRow_heap w g _ _ t _ hr) ⟨rfl, rfl, rfl, by simp, fun j hj hne => setRow_other w g j _ (fun e => hne (by rw [e]))⟩ (by simp)
/-- Two results, the first an array in memory. -/
theorem results_cell_tmp {P : Program} {fn : Func} {p q : Tmp} {ty : TypeId} (h : fn.results = #[.cell p ty, .tmp q]) (tmps : Array Value) (w : World) (g : Nat) (t : TypeId) (cs : Array Value) (fr : Nat × Nat) (d : TypeDesc)
    (hp : tmps.getD p undef = .pointer (some ⟨g, 0, none⟩)) (hg : w.heap[g]? = some (.cells cs t fr))
    (hu : P.underlying ty = some d) (hd : (match d with | .struct _ | .array _ _ => true | _ => false) = true) (hi : (P.info? ty).map (·.size) = some cs.size) :
    (results fn tmps).run P w = .ok (.tuple #[.agg cs, tmps.getD q undef]) w := by
  have hp' : tmps[p]?.getD undef = .pointer (some ⟨g, 0, none⟩) := by simpa using hp
  simp [results, h, hp', asAddr, run_loadVar_row w g t ty cs fr d hg hu hd hi]

theorem ints_of_each {k : IntKind} : ∀ (l : List Value), (∀ (i : Nat) (v : Value), l[i]? = some v → ∃ a, v = .int k a ∧ (Lit.int k a).wf = true) →
    ∃ zs : List Int, l = zs.map (Value.int k) ∧ ∀ z ∈ zs, (Lit.int k z).wf = true
  | [], _ => ⟨[], rfl, by simp⟩
  | v :: l, h => by
    obtain ⟨a, rfl, wa⟩ := h 0 v rfl
    obtain ⟨zs, rfl, hz⟩ := ints_of_each l fun i u hu => h (i + 1) u hu
    refine ⟨a :: zs, rfl, ?_⟩
    intro z hm
    rcases List.mem_cons.1 hm with rfl | hm
    · exact wa
    · exact hz z hm

section
variable {H : Type} {enc : TypeId × Value → H} {P : Program} {w : World} {base : Nat} {spare : Nat → Bool} {held : Bool}
theorem open_arr_ints {t e : TypeId} {n : Nat} {k : IntKind} {r : Reach} {b0 : Nat} {v : Value} {d : DataW H} {p : List MemPlace}
    (hu : P.underlying t = some (.array n e)) (he : P.underlying e = some (.int k)) (hce : P.cellsOf e = 1) (hct : P.cellsOf t = n)
    (hv : Value.okWide P w r b0 t v) (h : DataW.Trod enc P w base spare held t v d p) :
    ∃ zs : List Int, v = .agg (zs.map (Value.int k)).toArray ∧ zs.length = n ∧ ∀ z ∈ zs, (Lit.int k z).wf = true := by
  simp only [Value.okWide, hu] at hv
  obtain ⟨cs, rfl, hs, _⟩ := hv
  obtain ⟨fuel, hf⟩ := h
  obtain ⟨xs, m, _, _, hl, hxl, hi⟩ := DataW.trod_array hu hf
  obtain ⟨zs, hz, hw⟩ := ints_of_each (k := k) cs.toList fun i u hu => by
    have hin : i < cs.toList.length := by
      rcases Nat.lt_or_ge i cs.toList.length with h | h
      · exact h
      · rw [List.getElem?_eq_none h] at hu; cases hu
    have hlen : cs.toList.length = n := by simpa [hct] using hs
    have hx := hi i (by omega)
    have h1 : ((Value.agg cs).cells.toList.drop (i * P.cellsOf e)).take (P.cellsOf e) = [u] := by
      rw [hce]
      simp only [Value.cells, Nat.mul_one]
      rw [List.drop_eq_getElem_cons hin]
      have : cs.toList[i] = u := by
        rw [List.getElem?_eq_getElem hin] at hu
        exact Option.some.inj hu
      simp [this]
    rw [h1, List.getElem?_eq_getElem (by omega)] at hx
    obtain ⟨a, e1, _, wa⟩ := DataW.trod_int he hx
    exact ⟨a, by simpa using e1, wa⟩
  refine ⟨zs, ?_, ?_, hw⟩
  · rw [← hz]
  · have : cs.toList.length = zs.length := by rw [hz]; simp
    rw [← this]; simpa [hct] using hs
end

theorem list8 {α : Type} : ∀ (l : List α), l.length = 8 → ∃ a b c d e f g h : α, l = [a, b, c, d, e, f, g, h]
  | [a, b, c, d, e, f, g, h], _ => ⟨a, b, c, d, e, f, g, h, rfl⟩
theorem u32_bd {n : Int} (h : (Lit.int .u32 n).wf = true) : 0 ≤ n ∧ n ≤ 4294967295 := bounds_u32 h

/-- What a walk is told of a slice of bytes: bs: its bytes; where it has one, its place. -/
structure InBytes (w : World) (a : Option Addr) (n cap : Nat) (bs : List Int) : Prop where
  len : bs.length = n
  bytes : Bytes8 bs
  le : n ≤ cap
  max : cap ≤ maxLen
  nil : a = none → cap = 0
  place : 0 < n → ∃ g off, a = some ⟨g, off, none⟩ ∧ g < w.heap.size ∧ Seg .u8 w g off bs

theorem InBytes.below {w w' : World} {a : Option Addr} {n cap : Nat} {bs : List Int} (h : InBytes w a n cap bs) (hb : Below w.heap.size w w') : InBytes w' a n cap bs :=
  ⟨h.len, h.bytes, h.le, h.max, h.nil, fun h0 => by
    obtain ⟨g, off, e, hg, hs⟩ := h.place h0
    exact ⟨g, off, e, Nat.lt_of_lt_of_le hg hb.size, hs.below hb hg⟩⟩
section
variable {H : Type} {enc : TypeId × Value → H} {P : Program} {w : World} {base : Nat} {spare : Nat → Bool} {held : Bool}
theorem open_bytes {t e : TypeId} {a : Option Addr} {n cap : Nat} {d : DataW H} {p : List MemPlace}
    (hu : P.underlying t = some (.slice e)) (he : P.underlying e = some (.int .u8)) (hce : P.cellsOf e = 1)
    (h : DataW.Trod enc P w base spare held t (.slice a n cap) d p) : ∃ bs, InBytes w a n cap bs := by
  obtain ⟨fuel, hf⟩ := h
  rcases open_ints hu he hce hf with ⟨hcs, _⟩ | ⟨x, l, c, zs, hcs, _, hl, hm, hz, _, hcell, hwz⟩
  · simp [Value.cells] at hcs
    obtain ⟨rfl, rfl, rfl⟩ := hcs
    exact ⟨[], { len := rfl, bytes := (fun z hz => by cases hz), le := Nat.le_refl _, max := by simp [maxLen], nil := fun _ => rfl, place := fun h => by omega }⟩
  · simp [Value.cells] at hcs
    obtain ⟨rfl, rfl, rfl⟩ := hcs
    have hlz : n ≤ zs.length := by rw [hz]; split <;> omega
    refine ⟨zs.take n, { len := by simp; omega, bytes := fun z h => bounds_u8 (hwz z (List.mem_of_mem_take h)), le := hl, max := hm, nil := (fun h => by cases h), place := fun h0 => ?_ }⟩
    obtain ⟨g, off, spot⟩ := x
    have h1 := hcell 0 (by omega)
    have hspot : spot = none := by simpa [Addr.add] using World.cell?_spot h1
    subst hspot
    have hlt := World.block_lt_of_cell? w _ h1
    refine ⟨g, off, rfl, by simpa [Addr.add] using hlt, fun i hi => ?_⟩
    have hi2 : i < zs.length := by simp at hi; omega
    have h2 := hcell i hi2
    have hp : (⟨g, off, none⟩ : Addr).add i = ⟨g, off + i, none⟩ := by unfold Addr.add; split <;> simp_all
    rw [hp] at h2
    rw [h2]
    simp [List.getD, hi2]
end

/-- A slice that came in is no longer than what any machine reaches. -/
theorem len_sized {H : Type} {enc : TypeId × Value → H} {P : Program} {w : World} {base : Nat} {spare : Nat → Bool} {held : Bool} {t e : TypeId} {a : Option Addr} {n cap : Nat} {d : DataW H} {p : List MemPlace}
    (hu : P.underlying t = some (.slice e)) (hb : P.bytesOf e = 1) (h : DataW.Trod enc P w base spare held t (.slice a n cap) d p)
    (hw : ∀ elems sp, d = .slice elems sp → (elems.length + sp.length) * P.bytesOf e ≤ reachBytes) : n ≤ 140737488351232 := by
  obtain ⟨fuel, hf⟩ := h
  rcases DataW.trod_slice hu hf with ⟨hcs, _⟩ | ⟨x, l, c, elems, rest, m, _, hcs, hx, _, _, _, hl, _⟩
  · simp [Value.cells] at hcs
    omega
  · simp [Value.cells] at hcs
    obtain ⟨rfl, rfl, rfl⟩ := hcs
    injection hx with hx _
    have h1 := hw _ _ hx
    rw [hb] at h1
    simp only [List.length_map, Nat.mul_one, reachBytes] at h1
    omega

theorem wpList_append_bytes {P : Program} (w : World) {ops : Array Oper} {rest : List Oper} {o : Oper} {a : Act} {Q : Exit → Act → World → Prop} (hgd : o.guard = none) (s x : Operand) (t : TypeId)
    (ho : o.op = .call { callee := .builtin .append, args := #[s, x], argTypes := #[t, t] })
    (base : Nat) (e : TypeId) (i : TypeInfo) (z : Value) (bytes : Nat) (ht : P.underlying t = some (.slice e)) (hi : P.info? e = some i) (hz : i.zero = some z)
    (hsize : i.size = 1) (hby : i.bytes = bytes) (hzs : z.cells.size = 1)
    (v : Value) (n : Nat) (xs : List Value) (hs : a.eval s = v) (hown : w.ownsRow base e 1 v n xs)
    (ad : Option Addr) (k cap : Nat) (r : List Int) (hx : a.eval x = .slice ad k cap) (hin : InBytes w ad k cap r)
    (h63 : n + k ≤ maxLen) (hbytes : (n + k) * bytes ≤ 140737488355328) (hbase : base ≤ w.heap.size)
    (h : ∀ v' w', w'.ownsRow base e 1 v' (n + k) (xs ++ r.map (Value.int .u8)) → w.grownBy w' v.ownBlock → wpList P ops Q rest (a.put o.dst v') w') : wpList P ops Q (o :: rest) a w := by
  cases ad with
  | none =>
    have hc := hin.nil rfl
    have hk : k = 0 := by have := hin.le; omega
    subst hc
    subst hk
    have hr : r = [] := List.eq_nil_of_length_eq_zero hin.len
    subst hr
    refine wpList_append_own_none hgd s x t ho base e i 1 ht hi v n xs hs hown hx ?_
    exact h v w (by simpa using hown) (only_refl w _)
  | some ad =>
    have hnews : ∀ (j : Nat) (u : Value), (r.map (Value.int .u8))[j]? = some u → w.cell? (ad.add j) = some u := by
      intro j u hu
      have hj : j < r.length := by
        rcases Nat.lt_or_ge j r.length with h | h
        · exact h
        · rw [List.getElem?_eq_none (by simpa using h)] at hu; cases hu
      have hl := hin.len
      obtain ⟨g, off, e1, _, hseg⟩ := hin.place (by omega)
      obtain rfl := Option.some.inj e1
      exact hseg.news j u hu
    refine wpList_append_own w hgd s x t ho base e i z 1 bytes ht hi hz hsize hby hzs (by omega) v n xs hs hown ad k cap (r.map (Value.int .u8)) hx (by simp [hin.len]) hnews (by simp [Value.oneCell']) h63 hbytes hbase ?_
    intro v' w' h1 h2 _
    exact h v' w' h1 h2

theorem conv_in {P : Program} {w : World} {a : Option Addr} {n cap : Nat} {bs : List Int} (h : InBytes w a n cap bs) (src e dst : TypeId) (hs : P.underlying src = some (.slice e)) (he : P.underlying e = some (.int .u8)) (hd : P.underlying dst = some .string) :
    (convert src dst (.slice a n cap)).run P w = .ok (.string (strOfNums bs)) w := by
  by_cases h0 : 0 < n
  · obtain ⟨g, off, rfl, _, hseg⟩ := h.place h0
    exact run_convert_bytes_arg w src e hs he g off n cap bs h.len (fun i hi => hseg.cellD i (by rw [h.len]; exact hi)) dst hd
  · have hn : n = 0 := by omega
    subst hn
    have hb : bs = [] := List.eq_nil_of_length_eq_zero h.len
    subst hb
    rw [run_convert_bytes_string w src dst e a 0 cap hs he hd]
    cases a with
    | none => simp [Conv.bytesToString, strOfNums]; rfl
    | some x =>
      have hl : (loadCells x 0).run P w = .ok (([] : List Int).map (Value.int .u8)).toArray w := by
        simpa using run_loadCells_list (P := P) w x [] (fun j v hj => by simp at hj)
      rw [run_bytesToString w x 0 cap [] hl]
      simp [strOfNums]; rfl

theorem wpList_append_bytes' {P : Program} (w : World) {ops : Array Oper} {rest : List Oper} {o : Oper} {a : Act} {Q : Exit → Act → World → Prop} (hgd : o.guard = none) (s x : Operand) (t : TypeId)
    (ho : o.op = .call { callee := .builtin .append, args := #[s, x], argTypes := #[t, t] })
    (base : Nat) (e : TypeId) (i : TypeInfo) (z : Value) (bytes : Nat) (ht : P.underlying t = some (.slice e)) (hi : P.info? e = some i) (hz : i.zero = some z)
    (hsize : i.size = 1) (hby : i.bytes = bytes) (hzs : z.cells.size = 1)
    (g0 n c0 : Nat) (xs : List Value) (hs : a.eval s = .slice (some ⟨g0, 0, none⟩) n c0) (hown : w.ownsRow base e 1 (.slice (some ⟨g0, 0, none⟩) n c0) n xs)
    (ad : Option Addr) (k cap : Nat) (r : List Int) (hx : a.eval x = .slice ad k cap) (hin : InBytes w ad k cap r)
    (h63 : n + k ≤ maxLen) (hbytes : (n + k) * bytes ≤ 140737488355328) (hbase : base ≤ w.heap.size)
    (h : ∀ g c w', w'.ownsRow base e 1 (.slice (some ⟨g, 0, none⟩) (n + k) c) (n + k) (xs ++ r.map (Value.int .u8)) → w.grownBy w' (some g0) → wpList P ops Q rest (a.put o.dst (.slice (some ⟨g, 0, none⟩) (n + k) c)) w') : wpList P ops Q (o :: rest) a w := by
  cases ad with
  | none =>
    have hc := hin.nil rfl
    have hk : k = 0 := by have := hin.le; omega
    subst hc
    subst hk
    have hr : r = [] := List.eq_nil_of_length_eq_zero hin.len
    subst hr
    refine wpList_append_own_none hgd s x t ho base e i 1 ht hi _ n xs hs hown hx ?_
    exact h g0 c0 w (by simpa using hown) (only_refl w _)
  | some ad =>
    have hnews : ∀ (j : Nat) (u : Value), (r.map (Value.int .u8))[j]? = some u → w.cell? (ad.add j) = some u := by
      intro j u hu
      have hj : j < r.length := by
        rcases Nat.lt_or_ge j r.length with h | h
        · exact h
        · rw [List.getElem?_eq_none (by simpa using h)] at hu; cases hu
      have hl := hin.len
      obtain ⟨g, off, e1, _, hseg⟩ := hin.place (by omega)
      obtain rfl := Option.some.inj e1
      exact hseg.news j u hu
    refine wpList_append_own w hgd s x t ho base e i z 1 bytes ht hi hz hsize hby hzs (by omega) _ n xs hs hown ad k cap (r.map (Value.int .u8)) hx (by simp [hin.len]) hnews (by simp [Value.oneCell']) h63 hbytes hbase ?_
    intro v' w' h1 h2 h3
    rcases h1.2 with ⟨hv, _⟩ | ⟨g, cap', cur, hv, _⟩
    · have := (h3.1 hv).1
      cases this
    · rw [hv] at h1 ⊢
      exact h g cap' w' h1 h2

theorem InBytes.upto {w : World} {a : Option Addr} {n cap : Nat} {bs : List Int} (h : InBytes w a n cap bs) (j : Nat) (hj : j ≤ n) : InBytes w a j cap (bs.take j) :=
  ⟨by have := h.len; simp; omega, fun z hz => h.bytes z (List.mem_of_mem_take hz), Nat.le_trans hj h.le, h.max, h.nil, fun h0 => by
    obtain ⟨g, off, e, hg, hs⟩ := h.place (by omega)
    exact ⟨g, off, e, hg, hs.take j⟩⟩
theorem InBytes.behind {w : World} {a : Option Addr} {n cap : Nat} {bs : List Int} (h : InBytes w a n cap bs) (j : Nat) (hj : j ≤ n) : InBytes w (if cap = j then a else a.map (·.add j)) (n - j) (cap - j) (bs.drop j) := by
  have hle := h.le
  refine ⟨by simp [h.len], fun z hz => h.bytes z (List.mem_of_mem_drop hz), by omega, by have := h.max; omega, fun hn => ?_, fun h0 => ?_⟩
  · have : a = none := by
      split at hn
      · exact hn
      · simpa using hn
    have := h.nil this
    omega
  · obtain ⟨g, off, rfl, hg, hs⟩ := h.place (by omega)
    refine ⟨g, off + j, ?_, hg, hs.drop j⟩
    rw [if_neg (by omega)]
    simp [Addr.add]

theorem InBytes.of_own {w : World} {base g n cap : Nat} {t : TypeId} {zs : List Int} (h : w.ownsRow base t 1 (.slice (some ⟨g, 0, none⟩) n cap) n (zs.map (Value.int .u8))) (hb : Bytes8 zs) : InBytes w (some ⟨g, 0, none⟩) n cap zs := by
  have hl : zs.length = n := by simpa using h.1
  have hlt := (h.lt g rfl).2
  have h2 := h.2
  rcases h2 with ⟨hv, _⟩ | ⟨g', cap', cur, hv, _, hh, hnc, hcm, _, _⟩
  · cases hv
  · injection hv with e1 e2 e3
    subst e3
    refine ⟨hl, hb, hnc, hcm, (fun hn => by cases hn), fun _ => ⟨g, 0, rfl, hlt, fun i hi => ?_⟩⟩
    have h3 := h.cells (g := g) rfl i (.int .u8 zs[i]) (by simp [hi])
    have hp : (⟨g, 0, none⟩ : Addr).add i = ⟨g, 0 + i, none⟩ := by unfold Addr.add; split <;> simp_all
    rw [hp] at h3
    exact h3

theorem InBytes.of_row {w : World} {g : Nat} {t : TypeId} {zs : List Int} (h : Row .u8 w t g zs) (hb : Bytes8 zs) (hl : zs.length ≤ 1000) : InBytes w (some ⟨g, 0, none⟩) zs.length zs.length zs :=
  ⟨rfl, hb, Nat.le_refl _, by simp only [maxLen]; omega, (fun h => by cases h), fun _ => ⟨g, 0, rfl, h.lt, h.seg⟩⟩
theorem own_seg {w : World} {base g n cap : Nat} {t : TypeId} {k : IntKind} {zs : List Int} (h : w.ownsRow base t 1 (.slice (some ⟨g, 0, none⟩) n cap) n (zs.map (Value.int k))) : Seg k w g 0 zs := fun i hi => by
  have h2 := h.cells (g := g) rfl i (.int k zs[i]) (by simp [hi])
  have hp : (⟨g, 0, none⟩ : Addr).add i = ⟨g, 0 + i, none⟩ := by unfold Addr.add; split <;> simp_all
  rw [hp] at h2
  exact h2
theorem InBytes.grown {w w' : World} {a : Option Addr} {n cap : Nat} {bs : List Int} {row : Option Nat} (h : InBytes w a n cap bs) (hg : w.grownBy w' row) (hne : ∀ ad, a = some ad → some ad.block ≠ row) : InBytes w' a n cap bs :=
  ⟨h.len, h.bytes, h.le, h.max, h.nil, fun h0 => by
    obtain ⟨g, off, e, hlt, hs⟩ := h.place h0
    exact ⟨g, off, e, Nat.lt_of_lt_of_le hlt hg.size, hs.keep fun o => World.cell?_of_block (hg.block g hlt (hne _ e))⟩⟩
/-- A block that was just made, as a row of one's own. -/
theorem own_new (w : World) (t : TypeId) (k : IntKind) (zs : List Int) (base : Nat) (hb : base ≤ w.heap.size) (hl : zs.length ≤ maxLen) :
    (w.alloc (.cells (zs.map (Value.int k)).toArray t)).ownsRow base t 1 (.slice (some ⟨w.heap.size, 0, none⟩) zs.length zs.length) zs.length (zs.map (Value.int k)) :=
  ⟨by simp, .inr ⟨w.heap.size, zs.length, (zs.map (Value.int k)).toArray, rfl, hb, heap_alloc_new w _, Nat.le_refl _, hl, by simp, by rw [Nat.mul_one]; exact List.take_of_length_le (by simp)⟩⟩
theorem own_form {w : World} {base : Nat} {e : TypeId} {v : Value} {n : Nat} {xs : List Value} (h : w.ownsRow base e 1 v n xs) (hv : v ≠ .slice none 0 0) : ∃ g c, v = .slice (some ⟨g, 0, none⟩) n c := by
  rcases h.2 with ⟨h1, _⟩ | ⟨g, c, _, h1, _⟩
  · exact absurd h1 hv
  · exact ⟨g, c, h1⟩
theorem only_trans {a b c : World} {row : Option Nat} (h1 : a.grownBy b row) (h2 : b.grownBy c row) : a.grownBy c row :=
  ⟨h2.os.trans h1.os, h2.tape.trans h1.tape, h2.output.trans h1.output, Nat.le_trans h1.size h2.size, fun j hj hne => (h2.block j (Nat.lt_of_lt_of_le hj h1.size) hne).trans (h1.block j hj hne)⟩
theorem own_drew' {w : World} {base : Nat} {e : TypeId} {size : Nat} {v : Value} {n : Nat} {xs : List Value} (h : w.ownsRow base e size v n xs) : w.drew.ownsRow base e size v n xs := h
/-- Rows of unlike element types lie in unlike blocks. -/
theorem own_ne {w : World} {b b' : Nat} {e e' : TypeId} {g n c : Nat} {v : Value} {n' : Nat} {xs xs' : List Value} (h : w.ownsRow b e 1 (.slice (some ⟨g, 0, none⟩) n c) n xs) (h' : w.ownsRow b' e' 1 v n' xs') (hne : e ≠ e') : v.ownBlock ≠ some g := by
  rcases h'.2 with ⟨rfl, _⟩ | ⟨g2, c2, cur2, rfl, _, hh2, _⟩
  · simp [Value.ownBlock]
  · intro e1
    have : g2 = g := by simpa [Value.ownBlock] using e1
    subst this
    rcases h.2 with ⟨hv, _⟩ | ⟨g3, c3, cur3, hv, _, hh3, _⟩
    · cases hv
    · injection hv with e2
      injection e2 with e2
      injection e2 with e2
      subst e2
      rw [hh2] at hh3
      injection hh3 with hh3
      injection hh3 with _ hh3
      exact hne hh3.symm
def lenV : Value → Nat
  | .slice _ l _ => l
  | _ => 0
theorem ints_of_trod {H : Type} {enc : TypeId × Value → H} {P : Program} {w : World} {base : Nat} {sp : Nat → Bool} {held : Bool} {fuel : Nat} {t e : TypeId} {n : Nat} {k : IntKind} {cs : List Value} {zs : List Int} {ps : List MemPlace}
    (hu : P.underlying t = some (.array n e)) (he : P.underlying e = some (.int k)) (hce : P.cellsOf e = 1) (hct : P.cellsOf t = n) (hn : zs.length = n)
    (h : DataW.trod enc P w base sp held fuel t cs = some (.agg (zs.map fun z => .lit (.int k z)), ps)) : cs = zs.map (Value.int k) := by
  obtain ⟨xs, m, _, hx, hl, hxl, hi⟩ := DataW.trod_array hu h
  simp only [Prod.mk.injEq, DataW.agg.injEq] at hx
  apply List.ext_getElem
  · rw [hl, hct, List.length_map, hn]
  · intro i h1 h2
    have hin : i < n := by omega
    have hx1 := hi i hin
    rw [hce, Nat.mul_one, List.drop_eq_getElem_cons h1, List.getElem?_eq_getElem (by omega)] at hx1
    obtain ⟨a, e1, e2, _⟩ := DataW.trod_int he hx1
    have e3 : (xs.map (·.1))[i]? = (zs.map fun z => DataW.lit (H := H) (.int k z))[i]? := by rw [← hx.1]
    have hzi : i < zs.length := by omega
    have hxi : i < xs.length := by omega
    simp only [List.getElem?_map, List.getElem?_eq_getElem hxi, List.getElem?_eq_getElem hzi, Option.map_some, Option.some.injEq, e2, DataW.lit.injEq, Lit.int.injEq, true_and] at e3
    simp only [List.take_succ_cons, List.take_zero, List.cons.injEq, and_true] at e1
    rw [e1, e3]
    simp


/-! ### append of bytes that lie somewhere, or of a nil slice, onto a row of one's own, or onto nil -/
theorem InBytes.news {w : World} {ad : Addr} {k cap : Nat} {r : List Int} (hin : InBytes w (some ad) k cap r) : ∀ (j : Nat) (u : Value), (r.map (Value.int .u8))[j]? = some u → w.cell? (ad.add j) = some u := by
  intro j u hu
  have hj : j < r.length := by
    rcases Nat.lt_or_ge j r.length with h | h
    · exact h
    · rw [List.getElem?_eq_none (by simpa using h)] at hu; cases hu
  have hl := hin.len
  obtain ⟨g, off, e1, _, hseg⟩ := hin.place (by omega)
  obtain rfl := Option.some.inj e1
  exact hseg.news j u hu
theorem run_append_in {P : Program} (w : World) (t ty : TypeId) (base : Nat) (e : TypeId) (i : TypeInfo) (z : Value) (bytes : Nat) (ht : P.underlying t = some (.slice e)) (hi : P.info? e = some i) (hz : i.zero = some z)
    (hsize : i.size = 1) (hby : i.bytes = bytes) (hzs : z.cells.size = 1) (v : Value) (n : Nat) (xs : List Value) (hown : w.ownsRow base e 1 v n xs)
    (ad : Option Addr) (k cap : Nat) (r : List Int) (hin : InBytes w ad k cap r) (h63 : n + k ≤ maxLen) (hbytes : (n + k) * bytes ≤ 140737488355328) (hbase : base ≤ w.heap.size) :
    ∃ v' w', (Builtin.append_ #[t, t] ty #[v, .slice ad k cap]).run P w = .ok v' w' ∧ w'.ownsRow base e 1 v' (n + k) (xs ++ r.map (Value.int .u8)) ∧ w.grownBy w' v.ownBlock ∧ (v' = .slice none 0 0 ↔ v = .slice none 0 0 ∧ k = 0) := by
  cases ad with
  | none =>
    have hc := hin.nil rfl
    have hk : k = 0 := by have := hin.le; omega
    subst hc
    subst hk
    have hr : r = [] := List.eq_nil_of_length_eq_zero hin.len
    subst hr
    exact ⟨v, w, run_append_owned_none (P := P) (w := w) base t ty e i 1 ht hi v n xs hown, by simpa using hown, only_refl w _, by simp⟩
  | some ad => exact run_append_own w base t ty e i z 1 bytes ht hi hz hsize hby hzs (by omega) v n xs hown ad k cap (r.map (Value.int .u8)) (by simp [hin.len]) hin.news (by simp [Value.oneCell']) h63 hbytes hbase
theorem wp_append_in {P : Program} {w : World} {o : Oper} {a : Act} {K : Act → World → Prop} {Q : Exit → Act → World → Prop} (s x : Operand) (t : TypeId)
    (ho : o.op = .call { callee := .builtin .append, args := #[s, x], argTypes := #[t, t] })
    (base : Nat) (e : TypeId) (i : TypeInfo) (z : Value) (bytes : Nat) (ht : P.underlying t = some (.slice e)) (hi : P.info? e = some i) (hz : i.zero = some z)
    (hsize : i.size = 1) (hby : i.bytes = bytes) (hzs : z.cells.size = 1) (v : Value) (n : Nat) (xs : List Value) (hs : a.eval s = v) (hown : w.ownsRow base e 1 v n xs)
    (ad : Option Addr) (k cap : Nat) (r : List Int) (hx : a.eval x = .slice ad k cap) (hin : InBytes w ad k cap r) (h63 : n + k ≤ maxLen) (hbytes : (n + k) * bytes ≤ 140737488355328) (hbase : base ≤ w.heap.size)
    (h : ∀ v' w', w'.ownsRow base e 1 v' (n + k) (xs ++ r.map (Value.int .u8)) → w.grownBy w' v.ownBlock → (v' = .slice none 0 0 ↔ v = .slice none 0 0 ∧ k = 0) → K (a.put o.dst v') w') : Oper.wp P o a w K Q := by
  obtain ⟨v', w', hr, h2, h3, h4⟩ := run_append_in (P := P) w t o.type base e i z bytes ht hi hz hsize hby hzs v n xs hown ad k cap r hin h63 hbytes hbase
  unfold Oper.wp execOp
  simp only [ho, resolve, invoke, builtin, Sem.run_bind, Sem.run_pure, Result.andThen_ok, List.map_toArray, List.map_cons, List.map_nil, hs, hx, hr]
  exact h v' w' h2 h3 h4
theorem wpList_append_in {P : Program} {w : World} {ops : Array Oper} {rest : List Oper} {o : Oper} {a : Act} {Q : Exit → Act → World → Prop} (hgd : o.guard = none) (s x : Operand) (t : TypeId)
    (ho : o.op = .call { callee := .builtin .append, args := #[s, x], argTypes := #[t, t] })
    (base : Nat) (e : TypeId) (i : TypeInfo) (z : Value) (bytes : Nat) (ht : P.underlying t = some (.slice e)) (hi : P.info? e = some i) (hz : i.zero = some z)
    (hsize : i.size = 1) (hby : i.bytes = bytes) (hzs : z.cells.size = 1) (v : Value) (n : Nat) (xs : List Value) (hs : a.eval s = v) (hown : w.ownsRow base e 1 v n xs)
    (ad : Option Addr) (k cap : Nat) (r : List Int) (hx : a.eval x = .slice ad k cap) (hin : InBytes w ad k cap r) (h63 : n + k ≤ maxLen) (hbytes : (n + k) * bytes ≤ 140737488355328) (hbase : base ≤ w.heap.size)
    (h : ∀ v' w', w'.ownsRow base e 1 v' (n + k) (xs ++ r.map (Value.int .u8)) → w.grownBy w' v.ownBlock → (v' = .slice none 0 0 ↔ v = .slice none 0 0 ∧ k = 0) → wpList P ops Q rest (a.put o.dst v') w') : wpList P ops Q (o :: rest) a w :=
  wpList_plain hgd fun _ hK => wp_append_in s x t ho base e i z bytes ht hi hz hsize hby hzs v n xs hs hown ad k cap r hx hin h63 hbytes hbase fun v' w' h2 h3 h4 => hK _ _ (h v' w' h2 h3 h4)
/-- At a step of a region that draws its order: for go_region_law. -/
theorem step_append_in {P : Program} {w : World} {ops : Array Oper} {o : Oper} {a : Act} {K : Act → World → Prop} {Q : Exit → Act → World → Prop} {E : Prop} (hgd : o.guard = none) (s x : Operand) (t : TypeId)
    (ho : o.op = .call { callee := .builtin .append, args := #[s, x], argTypes := #[t, t] })
    (base : Nat) (e : TypeId) (i : TypeInfo) (z : Value) (bytes : Nat) (ht : P.underlying t = some (.slice e)) (hi : P.info? e = some i) (hz : i.zero = some z)
    (hsize : i.size = 1) (hby : i.bytes = bytes) (hzs : z.cells.size = 1) (v : Value) (n : Nat) (xs : List Value) (hs : a.eval s = v) (hown : w.ownsRow base e 1 v n xs)
    (ad : Option Addr) (k cap : Nat) (r : List Int) (hx : a.eval x = .slice ad k cap) (hin : InBytes w ad k cap r) (h63 : n + k ≤ maxLen) (hbytes : (n + k) * bytes ≤ 140737488355328) (hbase : base ≤ w.heap.size)
    (h : ∀ v' w', w'.ownsRow base e 1 v' (n + k) (xs ++ r.map (Value.int .u8)) → w.grownBy w' v.ownBlock → (v' = .slice none 0 0 ↔ v = .slice none 0 0 ∧ k = 0) → K (a.put o.dst v') w') :
    if Region.wanted o (yielded ops a.tmps) = true then Oper.wp P o a w K Q else E := by
  have hw : Region.wanted o (yielded ops a.tmps) = true := by simp [Region.wanted, hgd]
  rw [if_pos hw]
  exact wp_append_in s x t ho base e i z bytes ht hi hz hsize hby hzs v n xs hs hown ad k cap r hx hin h63 hbytes hbase h
theorem own_below {w w' : World} {base B g n c : Nat} {e : TypeId} {xs : List Value} (h : w.ownsRow base e 1 (.slice (some ⟨g, 0, none⟩) n c) n xs) (hb : Below B w w') (hg : g < B) : w'.ownsRow base e 1 (.slice (some ⟨g, 0, none⟩) n c) n xs := by
  rcases h.2 with ⟨h1, _⟩ | ⟨g', c', cur, h1, h2, h3, h4⟩
  · cases h1
  · injection h1 with e1 e2 e3
    injection e1 with e1
    injection e1 with e1
    subst e1
    exact ⟨h.1, .inr ⟨g, c', cur, by rw [e3], h2, (hb.block g hg).trans h3, h4⟩⟩
theorem ofNat_inj : ∀ {xs ys : List Int}, Bytes8 xs → Bytes8 ys → (xs.map fun n => UInt8.ofNat n.toNat) = (ys.map fun n => UInt8.ofNat n.toNat) → xs = ys
  | [], [], _, _, _ => rfl
  | [], _ :: _, _, _, h => by simp at h
  | _ :: _, [], _, _, h => by simp at h
  | x :: xs, y :: ys, hx, hy, h => by
    simp only [List.map_cons, List.cons.injEq] at h
    have h1 := hx x (by simp)
    have h2 := hy y (by simp)
    have h3 := congrArg UInt8.toNat h.1
    rw [UInt8.toNat_ofNat', UInt8.toNat_ofNat'] at h3
    rw [ofNat_inj (fun z hz => hx z (List.mem_cons_of_mem _ hz)) (fun z hz => hy z (List.mem_cons_of_mem _ hz)) h.2, show x = y by omega]
theorem str_ne {xs ys : List Int} (hx : Bytes8 xs) (hy : Bytes8 ys) (h : xs ≠ ys) : ((strOfNums xs).toList == (strOfNums ys).toList) = false := by
  rw [beq_eq_false_iff_ne]
  intro h1
  unfold strOfNums at h1
  rw [ByteArray.toList_mk, ByteArray.toList_mk] at h1
  exact h (ofNat_inj hx hy h1)
theorem own_bump {w : World} {base g n c i : Nat} {zs : List Int} {e : TypeId} (h : w.ownsRow base e 1 (.slice (some ⟨g, 0, none⟩) n c) n (zs.map (Value.int .u8))) (z : Int) :
    (w.setCell ⟨g, i, none⟩ (.int .u8 z)).ownsRow base e 1 (.slice (some ⟨g, 0, none⟩) n c) n ((zs.set i z).map (Value.int .u8)) := by
  rw [List.map_set]
  exact (h.stored i _).1
theorem none_in (w : World) : InBytes w none 0 0 [] := ⟨rfl, (fun z hz => by cases hz), Nat.le_refl _, by simp [maxLen], fun _ => rfl, (fun h => by omega)⟩
theorem own_any {w : World} {base n : Nat} {t : TypeId} {v : Value} {zs : List Int} (h : w.ownsRow base t 1 v n (zs.map (Value.int .u8))) (hb : Bytes8 zs) : ∃ a c, v = .slice a n c ∧ InBytes w a n c zs := by
  have h0 := h
  rcases h.2 with ⟨rfl, rfl⟩ | ⟨g, c, cur, rfl, _⟩
  · have : zs = [] := by have := h.1; simpa using this
    subst this
    exact ⟨none, 0, rfl, none_in w⟩
  · exact ⟨some ⟨g, 0, none⟩, c, rfl, InBytes.of_own h0 hb⟩
theorem own_keep {w w' : World} {base n : Nat} {t : TypeId} {v : Value} {xs : List Value} (h : w.ownsRow base t 1 v n xs) (hb : Below w.heap.size w w') : w'.ownsRow base t 1 v n xs :=
  h.kept (only_below hb none) (by by_cases h : v.ownBlock = none; exact .inl h; exact .inr h)
theorem below_drawn {B : Nat} {a w : World} (h : Below B a w) (m : Nat) : Below B a (w.drewN m) := ⟨h.os, h.tape, h.output, h.size, h.block⟩
theorem own_app {w : World} {base g n k c : Nat} {t : TypeId} {xs ys : List Int} (h : w.ownsRow base t 1 (.slice (some ⟨g, 0, none⟩) (n + k) c) (n + k) (xs.map (Value.int .u8) ++ ys.map (Value.int .u8))) (hn : n = xs.length) (hk : k = ys.length) :
    w.ownsRow base t 1 (.slice (some ⟨g, 0, none⟩) (xs ++ ys).length c) (xs ++ ys).length ((xs ++ ys).map (Value.int .u8)) := by
  subst hn; subst hk
  rw [List.length_append, List.map_append]
  exact h
end Go.Proofs.YtkfjhegehhahcaaDoor

/- Arguments that are slices of anything: their cells, one behind the other, and what each element is. No program is named here. -/
namespace Go.Proofs.YtkfjhegehhahcaaDoor
open Go.ChangeShapes Go.WideShapes Go.RowKit Go.Deep
set_option linter.unusedVariables false

/-- A slice that lies somewhere: n elements of sz cells each; V: the cells' values. -/
structure InSl (w : World) (a : Option Addr) (n cap sz : Nat) (V : Nat → Value) : Prop where
  le : n ≤ cap
  max : cap ≤ maxLen
  nil : a = none → cap = 0
  place : 0 < n → ∃ g off, a = some ⟨g, off, none⟩ ∧ g < w.heap.size ∧ ∀ i, i < n * sz → w.cell? ⟨g, off + i, none⟩ = some (V i)
theorem InSl.below {w w' : World} {a : Option Addr} {n cap sz : Nat} {V : Nat → Value} (h : InSl w a n cap sz V) (hb : Below w.heap.size w w') : InSl w' a n cap sz V :=
  ⟨h.le, h.max, h.nil, fun h0 => by
    obtain ⟨g, off, e, hg, hc⟩ := h.place h0
    exact ⟨g, off, e, Nat.lt_of_lt_of_le hg hb.size, fun i hi => (hb.cell (p := ⟨g, off + i, none⟩) hg).trans (hc i hi)⟩⟩
theorem InSl.grown {w w' : World} {a : Option Addr} {n cap sz : Nat} {V : Nat → Value} {row : Option Nat} (h : InSl w a n cap sz V) (hg : w.grownBy w' row) (hne : ∀ ad, a = some ad → some ad.block ≠ row) : InSl w' a n cap sz V :=
  ⟨h.le, h.max, h.nil, fun h0 => by
    obtain ⟨g, off, e, hlt, hc⟩ := h.place h0
    exact ⟨g, off, e, Nat.lt_of_lt_of_le hlt hg.size, fun i hi => (World.cell?_of_block (hg.block g hlt (hne _ e))).trans (hc i hi)⟩⟩

section
variable {H : Type} {enc : TypeId × Value → H} {P : Program} {w : World} {base : Nat} {spare : Nat → Bool} {held : Bool}
theorem open_sl {t e : TypeId} {a : Option Addr} {n cap sz : Nat} {d : DataW H} {p : List MemPlace}
    (hu : P.underlying t = some (.slice e)) (hc : P.cellsOf e = sz) (hsz : 0 < sz)
    (h : DataW.Trod enc P w base spare held t (.slice a n cap) d p) :
    ∃ V, InSl w a n cap sz V ∧ ∀ i, i < n → ∃ fuel x, DataW.trod enc P w base spare held fuel e ((List.range sz).map fun j => V (i * sz + j)) = some x := by
  obtain ⟨fuel, hf⟩ := h
  rcases open_slice hu hf with ⟨hcs, _⟩ | ⟨x, l, c, m, k, D, Pl, hcs, hb, hl, hm, hmm, _, hx⟩
  · simp [Value.cells] at hcs
    obtain ⟨rfl, rfl, rfl⟩ := hcs
    exact ⟨fun _ => .nilIface, ⟨Nat.le_refl _, by simp [maxLen], fun _ => rfl, fun h => by omega⟩, fun i hi => by omega⟩
  · simp [Value.cells] at hcs
    obtain ⟨rfl, rfl, rfl⟩ := hcs
    rw [hc] at hx
    have hnm : n ≤ m := by rw [hmm]; split <;> omega
    by_cases h0 : 0 < n
    · obtain ⟨g, off, spot⟩ := x
      have hspot : spot = none := by
        obtain ⟨cs', h1, _⟩ := hx 0 (by omega)
        obtain ⟨_, hlen, hcc⟩ := World.cells?_some h1
        have h2 := hcc 0 hsz
        rw [List.getElem?_eq_getElem (by omega)] at h2
        simpa [Addr.add] using World.cell?_spot h2
      subst hspot
      have hadd : ∀ k, (⟨g, off, none⟩ : Addr).add k = ⟨g, off + k, none⟩ := fun k => by unfold Addr.add; split <;> simp_all
      have hadd2 : ∀ k j, ((⟨g, off, none⟩ : Addr).add k).add j = ⟨g, off + (k + j), none⟩ := fun k j => by
        rw [hadd k]
        unfold Addr.add
        split <;> simp_all
        omega
      have hcs : ∀ i, i < n → ∃ cs', cs'.length = sz ∧ (∀ j, j < sz → w.cell? ⟨g, off + (i * sz + j), none⟩ = cs'[j]?) ∧ DataW.trod enc P w base spare held k e cs' = some (D i, Pl i) := by
        intro i hi
        obtain ⟨cs', h1, h2⟩ := hx i (by omega)
        obtain ⟨_, hlen, hcc⟩ := World.cells?_some h1
        exact ⟨cs', hlen, fun j hj => by have := hcc j hj; rwa [hadd2] at this, h2⟩
      refine ⟨fun i => (w.cell? ⟨g, off + i, none⟩).getD .nilIface, ⟨hl, hm, (fun h => by cases h), fun _ => ⟨g, off, rfl, ?_, fun i hi => ?_⟩⟩, fun i hi => ?_⟩
      · obtain ⟨cs', hlen, hcc, _⟩ := hcs 0 h0
        have h2 := hcc 0 hsz
        rw [List.getElem?_eq_getElem (by omega)] at h2
        exact World.block_lt_of_cell? w _ h2
      · obtain ⟨cs', hlen, hcc, _⟩ := hcs (i / sz) (Nat.div_lt_of_lt_mul (by rw [Nat.mul_comm]; exact hi))
        have h2 := hcc (i % sz) (Nat.mod_lt _ hsz)
        rw [show i / sz * sz + i % sz = i by rw [Nat.mul_comm]; exact Nat.div_add_mod i sz] at h2
        have h3 := Nat.mod_lt i hsz
        rw [List.getElem?_eq_getElem (by omega)] at h2
        simp only [h2, Option.getD_some]
      · obtain ⟨cs', hlen, hcc, ht⟩ := hcs i hi
        refine ⟨k, (D i, Pl i), ?_⟩
        have e : ((List.range sz).map fun j => (w.cell? ⟨g, off + (i * sz + j), none⟩).getD .nilIface) = cs' := by
          apply List.ext_getElem
          · simp [hlen]
          · intro j h1 h2
            simp only [List.getElem_map, List.getElem_range]
            rw [hcc j (by omega), List.getElem?_eq_getElem h2]
            rfl
        rw [e]
        exact ht
    · obtain rfl : n = 0 := by omega
      exact ⟨fun _ => .nilIface, ⟨hl, hm, (fun h => by cases h), fun h => by omega⟩, fun i hi => by omega⟩

/-- A slice of integers. -/
theorem open_intsl {t e : TypeId} {k : IntKind} {a : Option Addr} {n cap : Nat} {d : DataW H} {p : List MemPlace}
    (hu : P.underlying t = some (.slice e)) (he : P.underlying e = some (.int k)) (hc : P.cellsOf e = 1)
    (h : DataW.Trod enc P w base spare held t (.slice a n cap) d p) :
    ∃ z : Nat → Int, InSl w a n cap 1 (fun i => .int k (z i)) ∧ ∀ i, i < n → (Lit.int k (z i)).wf = true := by
  obtain ⟨V, hin, hV⟩ := open_sl hu hc (by omega) h
  have hz : ∀ i, i < n → ∃ z, V i = .int k z ∧ (Lit.int k z).wf = true := by
    intro i hi
    obtain ⟨fuel, x, hx⟩ := hV i hi
    obtain ⟨z, h1, _, h3⟩ := DataW.trod_int he hx
    simp only [List.range_one, List.map_cons, List.map_nil, Nat.mul_one, Nat.add_zero, List.cons.injEq, and_true] at h1
    exact ⟨z, h1, h3⟩
  obtain ⟨z, hq⟩ := choose_lt (α := Int) (p := fun i z => V i = .int k z ∧ (Lit.int k z).wf = true) hz
  refine ⟨z, ⟨hin.le, hin.max, hin.nil, fun h0 => ?_⟩, fun i hi => (hq i hi).2⟩
  obtain ⟨g, off, e1, hg, hcc⟩ := hin.place h0
  exact ⟨g, off, e1, hg, fun i hi => by rw [hcc i hi, (hq i (by omega)).1]⟩
/-- A slice of pairs of integers. -/
theorem open_pairsl {t e : TypeId} {f0 f1 : Field} {k0 k1 : IntKind} {a : Option Addr} {n cap : Nat} {d : DataW H} {p : List MemPlace}
    (hu : P.underlying t = some (.slice e)) (he : P.underlying e = some (.struct #[f0, f1])) (hc : P.cellsOf e = 2) (o0 : f0.offset = 0) (o1 : f1.offset = 1) (c0 : P.cellsOf f0.type = 1) (c1 : P.cellsOf f1.type = 1)
    (u0 : P.underlying f0.type = some (.int k0)) (u1 : P.underlying f1.type = some (.int k1))
    (h : DataW.Trod enc P w base spare held t (.slice a n cap) d p) :
    ∃ (V : Nat → Value) (x y : Nat → Int), InSl w a n cap 2 V ∧ ∀ i, i < n → V (i * 2) = .int k0 (x i) ∧ V (i * 2 + 1) = .int k1 (y i) ∧ (Lit.int k0 (x i)).wf = true ∧ (Lit.int k1 (y i)).wf = true := by
  obtain ⟨V, hin, hV⟩ := open_sl hu hc (by omega) h
  have hz : ∀ i, i < n → ∃ q : Int × Int, V (i * 2) = .int k0 q.1 ∧ V (i * 2 + 1) = .int k1 q.2 ∧ (Lit.int k0 q.1).wf = true ∧ (Lit.int k1 q.2).wf = true := by
    intro i hi
    obtain ⟨fuel, x, hx⟩ := hV i hi
    have e2 : ((List.range 2).map fun j => V (i * 2 + j)) = [V (i * 2), V (i * 2 + 1)] := rfl
    rw [e2] at hx
    obtain ⟨xs, m, _, _, _, hl, hf⟩ := DataW.trod_struct he hx
    have h0 := hf 0 f0 rfl
    have h1 := hf 1 f1 rfl
    rw [o0, c0, List.getElem?_eq_getElem (by rw [hl]; simp)] at h0
    rw [o1, c1, List.getElem?_eq_getElem (by rw [hl]; simp)] at h1
    obtain ⟨z0, p0, _, w0⟩ := DataW.trod_int u0 h0
    obtain ⟨z1, p1, _, w1⟩ := DataW.trod_int u1 h1
    simp at p0 p1
    exact ⟨(z0, z1), p0, p1, w0, w1⟩
  obtain ⟨q, hq⟩ := choose_lt (α := Int × Int) (p := fun i q => V (i * 2) = .int k0 q.1 ∧ V (i * 2 + 1) = .int k1 q.2 ∧ (Lit.int k0 q.1).wf = true ∧ (Lit.int k1 q.2).wf = true) hz
  exact ⟨V, fun i => (q i).1, fun i => (q i).2, hin, hq⟩
/-- A slice of byte strings. -/
theorem open_bytessl {t e b : TypeId} {a : Option Addr} {n cap : Nat} {d : DataW H} {p : List MemPlace}
    (hu : P.underlying t = some (.slice e)) (he : P.underlying e = some (.slice b)) (hb : P.underlying b = some (.int .u8)) (hc : P.cellsOf e = 1) (hcb : P.cellsOf b = 1)
    (h : DataW.Trod enc P w base spare held t (.slice a n cap) d p) :
    ∃ (A : Nat → Option Addr) (L C : Nat → Nat) (B : Nat → List Int), InSl w a n cap 1 (fun i => .slice (A i) (L i) (C i)) ∧ ∀ i, i < n → InBytes w (A i) (L i) (C i) (B i) := by
  obtain ⟨V, hin, hV⟩ := open_sl hu hc (by omega) h
  have hz : ∀ i, i < n → ∃ q : Option Addr × Nat × Nat × List Int, V i = .slice q.1 q.2.1 q.2.2.1 ∧ InBytes w q.1 q.2.1 q.2.2.1 q.2.2.2 := by
    intro i hi
    obtain ⟨fuel, x, hx⟩ := hV i hi
    have e1 : ((List.range 1).map fun j => V (i * 1 + j)) = [V i] := by simp
    rw [e1] at hx
    have hsl : ∃ a' n' c', V i = .slice a' n' c' := by
      rcases DataW.trod_slice he hx with ⟨h1, _⟩ | ⟨a', l', c', _, _, _, _, h1, _⟩
      · simp at h1; exact ⟨_, _, _, h1⟩
      · simp at h1; exact ⟨_, _, _, h1⟩
    obtain ⟨a', n', c', h1⟩ := hsl
    rw [h1] at hx
    obtain ⟨bs, hbs⟩ := open_bytes (d := x.1) (p := x.2) he hb hcb ⟨fuel, hx⟩
    exact ⟨(a', n', c', bs), h1, hbs⟩
  obtain ⟨q, hq⟩ := choose_lt (α := Option Addr × Nat × Nat × List Int) (p := fun i q => V i = .slice q.1 q.2.1 q.2.2.1 ∧ InBytes w q.1 q.2.1 q.2.2.1 q.2.2.2) hz
  refine ⟨fun i => (q i).1, fun i => (q i).2.1, fun i => (q i).2.2.1, fun i => (q i).2.2.2, ⟨hin.le, hin.max, hin.nil, fun h0 => ?_⟩, fun i hi => (hq i hi).2⟩
  obtain ⟨g, off, e1, hg, hcc⟩ := hin.place h0
  exact ⟨g, off, e1, hg, fun i hi => by rw [hcc i hi, (hq i (by omega)).1]⟩
end
end Go.Proofs.YtkfjhegehhahcaaDoor

/- Trees as arguments: the view of a tree that lies somewhere. No program is named here. -/
namespace Go.Proofs.YtkfjhegehhahcaaDoor
open Go.ChangeShapes Go.WideShapes Go.RowKit Go.Deep
set_option linter.unusedVariables false

/-- A tree: its kind, key, value, digest and kids. -/
inductive Tr where
  | mk (k : Int) (key val dig : List Int) (kids : List Tr)
def Tr.k : Tr → Int | .mk k _ _ _ _ => k
def Tr.key : Tr → List Int | .mk _ key _ _ _ => key
def Tr.val : Tr → List Int | .mk _ _ val _ _ => val
def Tr.dig : Tr → List Int | .mk _ _ _ dig _ => dig
def Tr.kids : Tr → List Tr | .mk _ _ _ _ kids => kids
theorem Tr.ind {P : Tr → Prop} (h : ∀ t : Tr, (∀ x ∈ t.kids, P x) → P t) : ∀ t, P t
  | .mk k key val dig kids => h (.mk k key val dig kids) (fun x hx => Tr.ind h x)
termination_by t => SizeOf.sizeOf t
decreasing_by
  have := List.sizeOf_lt_of_mem hx
  simp only [Tr.kids] at *
  simp
  omega
theorem Tr.size_lt {t x : Tr} (hx : x ∈ t.kids) : SizeOf.sizeOf x < SizeOf.sizeOf t := by
  cases t with
  | mk k key val dig kids =>
    have := List.sizeOf_lt_of_mem (show x ∈ kids from hx)
    simp
    omega

/-- The head of a tree's value: its five cells. -/
structure TH where
  k : Int
  ka : Option Addr
  kn : Nat
  kc : Nat
  va : Option Addr
  vn : Nat
  vc : Nat
  da : Option Addr
  dn : Nat
  dc : Nat
  ta : Option Addr
  tn : Nat
  tc : Nat
def TH.cells (h : TH) : List Value := [.int .i64 h.k, .slice h.ka h.kn h.kc, .slice h.va h.vn h.vc, .slice h.da h.dn h.dc, .slice h.ta h.tn h.tc]
def TH.cell (h : TH) (j : Nat) : Value := h.cells.getD j .nilIface
def TH.v (h : TH) : Value := .agg #[.int .i64 h.k, .slice h.ka h.kn h.kc, .slice h.va h.vn h.vc, .slice h.da h.dn h.dc, .slice h.ta h.tn h.tc]

/-- A tree that lies in world w; h is its head. -/
inductive InTree (w : World) : TH → Tr → Prop
  | mk (h : TH) (t : Tr) (H : Nat → TH) (hk : h.k = t.k) (hk1 : -9223372036854775808 ≤ h.k) (hk2 : h.k ≤ 9223372036854775807)
      (key : InBytes w h.ka h.kn h.kc t.key) (val : InBytes w h.va h.vn h.vc t.val) (dig : InBytes w h.da h.dn h.dc t.dig)
      (sl : InSl w h.ta h.tn h.tc 5 (fun i => (H (i / 5)).cell (i % 5))) (len : t.kids.length = h.tn)
      (kids : ∀ i (hi : i < t.kids.length), InTree w (H i) t.kids[i]) : InTree w h t

theorem InTree.lower {w w' : World} (hb : Below w.heap.size w w') {h : TH} {t : Tr} (ht : InTree w h t) : InTree w' h t := by
  induction ht with
  | mk h t H hk hk1 hk2 key val dig sl len kids ih => exact .mk h t H hk hk1 hk2 (key.below hb) (val.below hb) (dig.below hb) (sl.below hb) len ih

/-- What a tree's parts are. -/
structure TreeAt (w : World) (h : TH) (t : Tr) (H : Nat → TH) : Prop where
  hk : h.k = t.k
  hk1 : -9223372036854775808 ≤ h.k
  hk2 : h.k ≤ 9223372036854775807
  key : InBytes w h.ka h.kn h.kc t.key
  val : InBytes w h.va h.vn h.vc t.val
  dig : InBytes w h.da h.dn h.dc t.dig
  sl : InSl w h.ta h.tn h.tc 5 (fun i => (H (i / 5)).cell (i % 5))
  len : t.kids.length = h.tn
  kids : ∀ i (hi : i < t.kids.length), InTree w (H i) t.kids[i]
theorem InTree.parts {w : World} {h : TH} {t : Tr} (ht : InTree w h t) : ∃ H, TreeAt w h t H := by
  cases ht with
  | mk h t H hk hk1 hk2 key val dig sl len kids => exact ⟨H, hk, hk1, hk2, key, val, dig, sl, len, kids⟩
theorem TreeAt.inTree {w : World} {h : TH} {t : Tr} {H : Nat → TH} (ht : TreeAt w h t H) : InTree w h t := .mk h t H ht.hk ht.hk1 ht.hk2 ht.key ht.val ht.dig ht.sl ht.len ht.kids
theorem TreeAt.below {w w' : World} {h : TH} {t : Tr} {H : Nat → TH} (ht : TreeAt w h t H) (hb : Below w.heap.size w w') : TreeAt w' h t H :=
  ⟨ht.hk, ht.hk1, ht.hk2, ht.key.below hb, ht.val.below hb, ht.dig.below hb, ht.sl.below hb, ht.len, fun i hi => (ht.kids i hi).lower hb⟩
/-- Where the kids lie, cell by cell. -/
theorem TreeAt.place {w : World} {h : TH} {t : Tr} {H : Nat → TH} (ht : TreeAt w h t H) (h0 : 0 < h.tn) : ∃ g off, h.ta = some ⟨g, off, none⟩ ∧ g < w.heap.size ∧
    ∀ i, i < h.tn → w.cell? ⟨g, off + i * 5, none⟩ = some (.int .i64 (H i).k) ∧ w.cell? ⟨g, off + i * 5 + 1, none⟩ = some (.slice (H i).ka (H i).kn (H i).kc) ∧ w.cell? ⟨g, off + i * 5 + 2, none⟩ = some (.slice (H i).va (H i).vn (H i).vc) ∧
      w.cell? ⟨g, off + i * 5 + 3, none⟩ = some (.slice (H i).da (H i).dn (H i).dc) ∧ w.cell? ⟨g, off + i * 5 + 4, none⟩ = some (.slice (H i).ta (H i).tn (H i).tc) := by
  obtain ⟨g, off, e, hg, hc⟩ := ht.sl.place h0
  refine ⟨g, off, e, hg, fun i hi => ?_⟩
  have key : ∀ j, j < 5 → w.cell? ⟨g, off + i * 5 + j, none⟩ = some ((H i).cell j) := fun j hj => by
    have h1 := hc (i * 5 + j) (by omega)
    try dsimp only at h1
    rw [show (i * 5 + j) / 5 = i by omega, show (i * 5 + j) % 5 = j by omega, ← Nat.add_assoc] at h1
    exact h1
  exact ⟨key 0 (by omega), key 1 (by omega), key 2 (by omega), key 3 (by omega), key 4 (by omega)⟩
/-- The same, where the kids' place is known. -/
theorem TreeAt.cellsAt {w : World} {h : TH} {t : Tr} {H : Nat → TH} (ht : TreeAt w h t H) {g off : Nat} (hta : h.ta = some ⟨g, off, none⟩) (i : Nat) (hi : i < h.tn) : w.cell? ⟨g, off + i * 5, none⟩ = some (.int .i64 (H i).k) ∧ w.cell? ⟨g, off + i * 5 + 1, none⟩ = some (.slice (H i).ka (H i).kn (H i).kc) ∧ w.cell? ⟨g, off + i * 5 + 2, none⟩ = some (.slice (H i).va (H i).vn (H i).vc) ∧ w.cell? ⟨g, off + i * 5 + 3, none⟩ = some (.slice (H i).da (H i).dn (H i).dc) ∧ w.cell? ⟨g, off + i * 5 + 4, none⟩ = some (.slice (H i).ta (H i).tn (H i).tc) := by
  obtain ⟨g', off', e, _, hc⟩ := ht.place (by omega)
  rw [hta] at e
  injection e with e
  injection e with e1 e2
  subst e1 e2
  exact hc i hi
theorem TreeAt.kid0 {w : World} {h : TH} {t : Tr} {H : Nat → TH} (ht : TreeAt w h t H) {g off : Nat} (hta : h.ta = some ⟨g, off, none⟩) (hi : 0 < h.tn) : w.cell? ⟨g, off, none⟩ = some (.int .i64 (H 0).k) ∧ w.cell? ⟨g, off + 1, none⟩ = some (.slice (H 0).ka (H 0).kn (H 0).kc) ∧ w.cell? ⟨g, off + 2, none⟩ = some (.slice (H 0).va (H 0).vn (H 0).vc) ∧ w.cell? ⟨g, off + 3, none⟩ = some (.slice (H 0).da (H 0).dn (H 0).dc) ∧ w.cell? ⟨g, off + 4, none⟩ = some (.slice (H 0).ta (H 0).tn (H 0).tc) := by
  have h1 := ht.cellsAt hta 0 hi
  simpa only [Nat.zero_mul, Nat.add_zero] using h1
theorem TreeAt.kid1 {w : World} {h : TH} {t : Tr} {H : Nat → TH} (ht : TreeAt w h t H) {g off : Nat} (hta : h.ta = some ⟨g, off, none⟩) (hi : 1 < h.tn) : w.cell? ⟨g, off + 5, none⟩ = some (.int .i64 (H 1).k) ∧ w.cell? ⟨g, off + 5 + 1, none⟩ = some (.slice (H 1).ka (H 1).kn (H 1).kc) ∧ w.cell? ⟨g, off + 5 + 2, none⟩ = some (.slice (H 1).va (H 1).vn (H 1).vc) ∧ w.cell? ⟨g, off + 5 + 3, none⟩ = some (.slice (H 1).da (H 1).dn (H 1).dc) ∧ w.cell? ⟨g, off + 5 + 4, none⟩ = some (.slice (H 1).ta (H 1).tn (H 1).tc) := by
  have h1 := ht.cellsAt hta 1 hi
  simpa only [Nat.one_mul] using h1
/-- Block g holds a tree's five cells. -/
def Box (w : World) (ty : TypeId) (g : Nat) (h : TH) : Prop := w.heap[g]? = some (.cells #[.int .i64 h.k, .slice h.ka h.kn h.kc, .slice h.va h.vn h.vc, .slice h.da h.dn h.dc, .slice h.ta h.tn h.tc] ty (0, 0))
theorem Box.new (w : World) (ty : TypeId) (h : TH) : Box (w.alloc (.cells #[.int .i64 h.k, .slice h.ka h.kn h.kc, .slice h.va h.vn h.vc, .slice h.da h.dn h.dc, .slice h.ta h.tn h.tc] ty)) ty w.heap.size h := heap_alloc_new w _
section
variable {w w' : World} {ty : TypeId} {g : Nat} {h : TH}
theorem Box.below {B : Nat} (hx : Box w ty g h) (hb : Below B w w') (hg : g < B) : Box w' ty g h := (hb.block g hg).trans hx
theorem Box.lt (hx : Box w ty g h) : g < w.heap.size := by
  rcases Nat.lt_or_ge g w.heap.size with hlt | hge
  · exact hlt
  · unfold Box at hx; rw [Array.getElem?_eq_none hge] at hx; cases hx
theorem Box.drew (hx : Box w ty g h) : Box w.drew ty g h := hx
theorem Box.cells (hx : Box w ty g h) : w.cell? ⟨g, 0, none⟩ = some (.int .i64 h.k) ∧ w.cell? ⟨g, 1, none⟩ = some (.slice h.ka h.kn h.kc) ∧ w.cell? ⟨g, 2, none⟩ = some (.slice h.va h.vn h.vc) ∧ w.cell? ⟨g, 3, none⟩ = some (.slice h.da h.dn h.dc) ∧ w.cell? ⟨g, 4, none⟩ = some (.slice h.ta h.tn h.tc) := by
  unfold Box at hx
  refine ⟨?_, ?_, ?_, ?_, ?_⟩
  all_goals
    rw [cell_of_row w g _ _ _ (0, 0) hx]
    rfl
end
/-- Small enough: the bounds that the document's measure lays. -/
inductive LightOK : Tr → Prop
  | mk (t : Tr) (hk : t.key.length ≤ 3000) (hv : t.val.length ≤ 3000) (hd : t.dig.length ≤ 3000) (hn : t.kids.length ≤ 500) (kids : ∀ i (hi : i < t.kids.length), LightOK t.kids[i]) : LightOK t
end Go.Proofs.YtkfjhegehhahcaaDoor

/- What the document says of trees, as functions. No program is named here. -/
namespace Go.Proofs.YtkfjhegehhahcaaDoor
set_option linter.unusedVariables false

/-- A function over a tree, out of its kids' answers. -/
def Tr.fold {α : Type} (f : Tr → List α → α) (t : Tr) : α := f t (t.kids.attach.map fun x => Tr.fold f x.1)
termination_by SizeOf.sizeOf t
decreasing_by exact Tr.size_lt x.2
theorem Tr.fold_eq {α : Type} (f : Tr → List α → α) (t : Tr) : t.fold f = f t (t.kids.map (Tr.fold f)) := by
  rw [Tr.fold]
  congr 1
  exact List.attach_map_val

/-- How many parts it has. -/
def countT (t : Tr) : Nat := t.fold fun _ rs => 1 + rs.sum
theorem countT_eq (t : Tr) : countT t = 1 + (t.kids.map countT).sum := by
  unfold countT
  rw [Tr.fold_eq]
/-- Counts it as a node? -/
def isNode (t : Tr) : Bool := t.k == 1 || (t.k == 2 || decide (0 < t.kids.length))
/-- Is there a way of more than b nodes? -/
def deepT (t : Tr) (b : Int) : Bool := t.fold (fun t (rs : List (Int → Bool)) b => isNode t && b == 0 || rs.any (fun r => r (b - 1))) b
theorem deepT_eq (t : Tr) (b : Int) : deepT t b = (isNode t && b == 0 || t.kids.any (fun x => deepT x (b - 1))) := by
  unfold deepT
  rw [Tr.fold_eq]
  simp [List.any_map, Function.comp_def]

/-- Is a part as it should be, its kids aside? -/
def partB (t : Tr) : Bool :=
  if t.k = 0 then decide (t.key.length = 0) && (decide (t.val.length = 0) && (decide (t.dig.length = 0) && decide (t.kids.length = 0)))
  else if t.k = 1 then decide (t.key.length ≤ 80) && (decide (t.val.length ≤ 1024) && (decide (t.dig.length = 0) && decide (t.kids.length = 2)))
  else if t.k = 2 then decide (t.key.length ≤ 80) && (decide (t.val.length = 0) && decide (t.kids.length = 2))
  else if t.k = 3 then decide (t.key.length = 0) && (decide (t.val.length = 0) && decide (t.kids.length = 0))
  else false
def formedT (t : Tr) : Bool := t.fold fun t rs => partB t && rs.all id
theorem formedT_eq (t : Tr) : formedT t = (partB t && t.kids.all formedT) := by
  unfold formedT
  rw [Tr.fold_eq]
  simp [List.all_map, Function.comp_def]
/-- The number of the error, or 0. -/
def checkT (t : Tr) : Nat := if deepT t 64 then 5 else if formedT t then 0 else 3

def fullT (t : Tr) : Bool := t.fold fun t rs => decide (t.k ≤ 1) && rs.all id
theorem fullT_eq (t : Tr) : fullT t = (decide (t.k ≤ 1) && t.kids.all fullT) := by
  unfold fullT
  rw [Tr.fold_eq]
  simp [List.all_map, Function.comp_def]
def depthT (t : Tr) : Nat := t.fold fun t rs => if rs.length = 0 then 0 else max (rs.getD 0 0) (rs.getD 1 0) + 1
theorem depthT_eq (t : Tr) : depthT t = if t.kids.length = 0 then 0 else max ((t.kids.map depthT).getD 0 0) ((t.kids.map depthT).getD 1 0) + 1 := by
  unfold depthT
  rw [Tr.fold_eq]
  simp only [List.length_map]
/-- The nodes of a tree that is formed, by the order of their keys. -/
def listT (t : Tr) : List Tr := t.fold fun t rs => if rs.length = 0 then [] else rs.getD 0 [] ++ (t :: rs.getD 1 [])
theorem listT_0 {t : Tr} (h : t.kids.length = 0) : listT t = [] := by
  unfold listT
  rw [Tr.fold_eq, if_pos (by simpa using h)]
theorem listT_2 {t : Tr} (h : t.kids.length = 2) : listT t = listT (t.kids[0]'(by omega)) ++ (t :: listT (t.kids[1]'(by omega))) := by
  have e : listT t = if (t.kids.map listT).length = 0 then [] else (t.kids.map listT).getD 0 [] ++ (t :: (t.kids.map listT).getD 1 []) := by
    conv => lhs; unfold listT
    rw [Tr.fold_eq]
    rfl
  rw [e, if_neg (by rw [List.length_map]; omega)]
  simp [List.getD, h]
theorem sum_two {l : List Nat} (h : l.length = 2) : l.sum = l[0]'(by omega) + l[1]'(by omega) := by
  rcases l with _ | ⟨a, _ | ⟨b, _ | ⟨c, r⟩⟩⟩ <;> simp at h
  simp
end Go.Proofs.YtkfjhegehhahcaaDoor

/- The byte's type, as the program has it; slices of new memory. -/
namespace Go.Proofs.YtkfjhegehhahcaaDoor
open Go.RowKit
theorem infoU8 : (Tryd.prog.info? 5).map (fun i => (i.zero, i.size, i.bytes)) = some (some (.int .u8 0), 1, 1) := by kernel_rfl
theorem conv_own {w : World} {base g c : Nat} {zs : List Int} (h : w.ownsRow base 5 1 (.slice (some ⟨g, 0, none⟩) zs.length c) zs.length (zs.map (Value.int .u8))) (hb : Bytes8 zs) :
    (convert 22 9 (.slice (some ⟨g, 0, none⟩) zs.length c)).run Tryd.prog w = .ok (.string (strOfNums zs)) w :=
  conv_in (P := Tryd.prog) (InBytes.of_own h hb) 22 5 9 Tryd.underlying22 Tryd.underlying5 Tryd.underlying9
/-- A slice of new memory that holds the bytes zs. -/
def OwnPost (w : World) (zs : List Int) (e : Ending) (w' : World) : Prop :=
  ∃ g c, e = .returned (.slice (some ⟨g, 0, none⟩) zs.length c) ∧ w'.ownsRow w.heap.size 5 1 (.slice (some ⟨g, 0, none⟩) zs.length c) zs.length (zs.map (Value.int .u8)) ∧ Below w.heap.size w w'
end Go.Proofs.YtkfjhegehhahcaaDoor

/- The contracts of the document's checks of trees. -/
namespace Go.Proofs.YtkfjhegehhahcaaDoor
open Go.RowKit
set_option linter.unusedVariables false

/-- It answers v; what was there stays. -/
def Says (w : World) (v : Value) (e : Ending) (w' : World) : Prop := e = .returned v ∧ Below w.heap.size w w'

theorem any_take {α : Type} (l : List α) (p : α → Bool) (i : Nat) (hi : i < l.length) : (l.take (i + 1)).any p = ((l.take i).any p || p l[i]) := by
  rw [List.take_succ_eq_append_getElem hi, List.any_append]
  simp
theorem all_take {α : Type} (l : List α) (p : α → Bool) (i : Nat) (hi : i < l.length) : (l.take (i + 1)).all p = ((l.take i).all p && p l[i]) := by
  rw [List.take_succ_eq_append_getElem hi, List.all_append]
  simp
theorem any_at {α : Type} {l : List α} {p : α → Bool} (i : Nat) (hi : i < l.length) (h : p l[i] = true) : l.any p = true := List.any_eq_true.mpr ⟨_, List.getElem_mem hi, h⟩
theorem all_not {α : Type} {l : List α} {p : α → Bool} (i : Nat) (hi : i < l.length) (h : p l[i] = false) : l.all p = false := by
  rw [Bool.eq_false_iff]
  intro hc
  have := List.all_eq_true.mp hc _ (List.getElem_mem hi)
  rw [this] at h
  cases h
set_option maxRecDepth 100000 in
set_option maxHeartbeats 4000000 in
theorem refDeep_any : ∀ (t : Tr) (h : TH) (b : Int) (w : World), InTree w h t → 0 ≤ b → b ≤ 64 →
    Calls Tryd.prog 52 #[h.v, .int .i64 b] w (Says w (.bool (deepT t b))) := by
  intro t
  induction t using Tr.ind with
  | h t ih =>
  intro h b w ht hb0 hb1
  unfold TH.v
  obtain ⟨H, hp⟩ := ht.parts
  have hkl := hp.key.len
  have hvl := hp.val.len
  have hdl := hp.dig.len
  have htl := hp.len
  have HK := Lib.hid hp.hk
  have htm := Nat.le_trans hp.sl.le hp.sl.max
  have htc := hp.sl.le
  simp only [maxLen] at htm
  have HP := Lib.hid hp
  have IH := Lib.hid ih
  clear hp ht ih
  have hbox := Box.new w 25 h
  have HX := Lib.hid hbox
  obtain ⟨x0, x1, x2, x3, x4⟩ := hbox.cells
  clear hbox
  have hw1 : Below w.heap.size w (w.alloc (.cells #[.int .i64 h.k, .slice h.ka h.kn h.kc, .slice h.va h.vn h.vc, .slice h.da h.dn h.dc, .slice h.ta h.tn h.tc] 25)) := (Below.refl _ _).alloc (Nat.le_refl _) _
  have HB := Lib.hid hw1
  clear hw1
  go_enter Tryd.func52, Tryd.ntmps52
  go_upto_region 1 with fail
  go_cut [5] (fun s5 wx => s5 = .bool (isNode t) ∧ Box wx 25 w.heap.size h ∧ Below w.heap.size w wx)
  case first =>
    have hk := HK.out
    have hin : isNode t = (h.k == 1 || (h.k == 2 || decide (0 < h.tn))) := by unfold isNode; rw [hk, htl]
    have HI := Lib.hid hin
    clear hk hin
    cases hb1 : (h.k == 1)
    · cases hb2 : (h.k == 2)
      · go_wp2_with fail
        go_meet
        refine ⟨?_, HX.out, HB.out⟩
        rw [HI.out, hb1, hb2]
        simp
      · go_wp2_with fail
        go_meet
        refine ⟨?_, HX.out, HB.out⟩
        rw [HI.out, hb1, hb2]
        simp
    · go_wp2_with fail
      go_meet
      refine ⟨?_, HX.out, HB.out⟩
      rw [HI.out, hb1]
      simp
  case rest =>
    obtain ⟨rfl, hbx, hbw⟩ := hcut
    clear x0 x1 x2 x3 x4 HX HB
    have HBX := Lib.hid hbx
    have HBW := Lib.hid hbw
    have hx4 := hbx.cells.2.2.2.2
    clear hbx hbw
    by_cases hn : isNode t = true
    · by_cases hb : b = 0
      · subst hb
        go_wp2_with fail
        go_ret
        have hd : deepT t 0 = true := by rw [deepT_eq, hn]; rfl
        exact ⟨by rw [hd]; rfl, HBW.out⟩
      · have HNB : Hid (0 < h.tn → 1 ≤ b) := Lib.hid (by omega)
        have HC : Hid ((isNode t && b == 0) = false) := Lib.hid (by simp [hb])
        have hbb : (b == 0) = false := by simp [hb]
        go_wp2_with fail
        clear hx4
        go_loopw [6] (fun s6 wx => ∃ i : Nat, i ≤ h.tn ∧ s6 = .int .i64 i ∧ Box wx 25 w.heap.size h ∧ Below w.heap.size w wx ∧ (t.kids.take i).any (fun x => deepT x (b - 1)) = false) (fun s6 _ => h.tn - (intOf s6).toNat)
        case atStart => exact ⟨0, by omega, rfl, HBX.out, HBW.out, by simp⟩
        case round =>
          clear HBX HBW
          obtain ⟨i, hi, rfl, hbx, hbw, hany⟩ := hrel
          have hx4 := hbx.cells.2.2.2.2
          have HBX := Lib.hid hbx
          have HBW := Lib.hid hbw
          have HA := Lib.hid hany
          clear hbx hbw hany
          by_cases hlt : i < h.tn
          · have q1 : (i : Int) < (h.tn : Int) := by omega
            have hb1' := HNB.out (by omega)
            obtain ⟨g, off, hta, hg, hcs⟩ := (HP.out.below HBW.out).place (by omega)
            rw [hta] at hx4
            obtain ⟨k0, k1, k2, k3, k4⟩ := hcs i hlt
            have him : i < t.kids.length := by omega
            clear hcs hta
            go_upto_region 8 with (first
              | (go_at_call 52
                 refine (IH.out _ (List.getElem_mem him) (H i) (b - 1) _ ((HP.out.below HBW.out).kids i him) (by omega) (by omega)).mono ?_
                 rintro _ w1 ⟨rfl, hb1⟩
                 have HB1 : Hid (Below w.heap.size w w1) := Lib.hid (HBW.out.trans (hb1.mono HBW.out.size))
                 have HX1 := Lib.hid (HBX.out.below hb1 HBX.out.lt)
                 generalize hr : deepT t.kids[i] (b - 1) = r
                 have HR := Lib.hid hr
                 clear hb1 hr))
            clear hx4 k0 k1 k2 k3 k4
            cases r
            · go_wp2_with fail
              exact ⟨⟨i + 1, by omega, by go_num, HX1.out, HB1.out, by rw [any_take _ _ i him, HA.out, HR.out]; rfl⟩, by simp [intOf]; omega⟩
            · go_wp2_with fail
              go_ret
              have hd : deepT t b = true := by rw [deepT_eq, any_at i him HR.out, Bool.or_true]
              exact ⟨by rw [hd]; rfl, HB1.out⟩
          · obtain rfl : i = h.tn := by omega
            have q1 : ¬ (h.tn : Int) < (h.tn : Int) := by omega
            go_wp2_with fail
            go_ret
            have hA := HA.out
            rw [List.take_of_length_le (by omega)] at hA
            have hd : deepT t b = false := by rw [deepT_eq, HC.out, hA]; rfl
            exact ⟨by rw [hd]; rfl, HBW.out⟩
    · have hn2 : isNode t = false := by simpa using hn
      have HNB : Hid (0 < h.tn → 1 ≤ b) := Lib.hid (fun h0 => by
        exfalso
        apply hn
        unfold isNode
        rw [htl]
        simp [h0])
      have HC : Hid ((isNode t && b == 0) = false) := Lib.hid (by simp [hn2])
      clear hn
      go_wp2_with fail
      clear hx4
      go_loopw [6] (fun s6 wx => ∃ i : Nat, i ≤ h.tn ∧ s6 = .int .i64 i ∧ Box wx 25 w.heap.size h ∧ Below w.heap.size w wx ∧ (t.kids.take i).any (fun x => deepT x (b - 1)) = false) (fun s6 _ => h.tn - (intOf s6).toNat)
      case atStart => exact ⟨0, by omega, rfl, HBX.out, HBW.out, by simp⟩
      case round =>
        clear HBX HBW
        obtain ⟨i, hi, rfl, hbx, hbw, hany⟩ := hrel
        have hx4 := hbx.cells.2.2.2.2
        have HBX := Lib.hid hbx
        have HBW := Lib.hid hbw
        have HA := Lib.hid hany
        clear hbx hbw hany
        by_cases hlt : i < h.tn
        · have q1 : (i : Int) < (h.tn : Int) := by omega
          have hb1' := HNB.out (by omega)
          obtain ⟨g, off, hta, hg, hcs⟩ := (HP.out.below HBW.out).place (by omega)
          rw [hta] at hx4
          obtain ⟨k0, k1, k2, k3, k4⟩ := hcs i hlt
          have him : i < t.kids.length := by omega
          clear hcs hta
          go_upto_region 8 with (first
            | (go_at_call 52
               refine (IH.out _ (List.getElem_mem him) (H i) (b - 1) _ ((HP.out.below HBW.out).kids i him) (by omega) (by omega)).mono ?_
               rintro _ w1 ⟨rfl, hb1⟩
               have HB1 : Hid (Below w.heap.size w w1) := Lib.hid (HBW.out.trans (hb1.mono HBW.out.size))
               have HX1 := Lib.hid (HBX.out.below hb1 HBX.out.lt)
               generalize hr : deepT t.kids[i] (b - 1) = r
               have HR := Lib.hid hr
               clear hb1 hr))
          clear hx4 k0 k1 k2 k3 k4
          cases r
          · go_wp2_with fail
            exact ⟨⟨i + 1, by omega, by go_num, HX1.out, HB1.out, by rw [any_take _ _ i him, HA.out, HR.out]; rfl⟩, by simp [intOf]; omega⟩
          · go_wp2_with fail
            go_ret
            have hd : deepT t b = true := by rw [deepT_eq, any_at i him HR.out, Bool.or_true]
            exact ⟨by rw [hd]; rfl, HB1.out⟩
        · obtain rfl : i = h.tn := by omega
          have q1 : ¬ (h.tn : Int) < (h.tn : Int) := by omega
          go_wp2_with fail
          go_ret
          have hA := HA.out
          rw [List.take_of_length_le (by omega)] at hA
          have hd : deepT t b = false := by rw [deepT_eq, HC.out, hA]; rfl
          exact ⟨by rw [hd]; rfl, HBW.out⟩
set_option maxRecDepth 100000 in
set_option maxHeartbeats 4000000 in
theorem partB_head {w : World} {h : TH} {t : Tr} {H : Nat → TH} (hp : TreeAt w h t H) : partB t = (if h.k == 0 then (((h.kn : Int) == 0) && (((h.vn : Int) == 0) && (((h.dn : Int) == 0) && ((h.tn : Int) == 0)))) else if h.k == 1 then (decide ((h.kn : Int) ≤ 80) && (decide ((h.vn : Int) ≤ 1024) && (((h.dn : Int) == 0) && ((h.tn : Int) == 2)))) else if h.k == 2 then (decide ((h.kn : Int) ≤ 80) && (((h.vn : Int) == 0) && ((h.tn : Int) == 2))) else if h.k == 3 then (((h.kn : Int) == 0) && (((h.vn : Int) == 0) && ((h.tn : Int) == 0))) else false) := by
  have e1 := hp.hk
  have e2 := hp.key.len
  have e3 := hp.val.len
  have e4 := hp.dig.len
  have e5 := hp.len
  unfold partB
  rw [← e1, e2, e3, e4, e5]
  have q : ∀ (x : Nat) (y : Nat), decide (x = y) = ((x : Int) == (y : Int)) := fun x y => by rw [Bool.eq_iff_iff]; simp; omega
  have q2 : ∀ (x : Nat) (y : Nat), decide (x ≤ y) = decide ((x : Int) ≤ (y : Int)) := fun x y => by rw [Bool.eq_iff_iff]; simp
  rw [q, q, q, q, q, q2, q2]
  simp only [beq_iff_eq]
  rfl
set_option maxRecDepth 100000 in
set_option maxHeartbeats 4000000 in
theorem refFormed_any : ∀ (t : Tr) (h : TH) (w : World), InTree w h t →
    Calls Tryd.prog 53 #[h.v] w (Says w (.bool (formedT t))) := by
  intro t
  induction t using Tr.ind with
  | h t ih =>
  intro h w ht
  unfold TH.v
  obtain ⟨H, hp⟩ := ht.parts
  have hkl := hp.key.len
  have hvl := hp.val.len
  have hdl := hp.dig.len
  have htl := hp.len
  have HK := Lib.hid hp.hk
  have htm := Nat.le_trans hp.sl.le hp.sl.max
  have htc := hp.sl.le
  simp only [maxLen] at htm
  have HP := Lib.hid hp
  have IH := Lib.hid ih
  clear hp ht ih
  have hbox := Box.new w 25 h
  have HX := Lib.hid hbox
  obtain ⟨x0, x1, x2, x3, x4⟩ := hbox.cells
  clear hbox
  have hw1 : Below w.heap.size w (w.alloc (.cells #[.int .i64 h.k, .slice h.ka h.kn h.kc, .slice h.va h.vn h.vc, .slice h.da h.dn h.dc, .slice h.ta h.tn h.tc] 25)) := (Below.refl _ _).alloc (Nat.le_refl _) _
  have HB := Lib.hid hw1
  clear hw1
  have HI := Lib.hid (partB_head HP.out)
  go_enter Tryd.func53, Tryd.ntmps53
  go_upto_block 0 with fail
  go_cut [7] (fun s7 wx => s7 = .bool (partB t) ∧ Box wx 25 w.heap.size h ∧ Below w.heap.size w wx)
  case first =>
    cases f0 : (h.k == 0)
    · cases f1 : (h.k == 1)
      · cases f2 : (h.k == 2)
        · cases f3 : (h.k == 3)
          · go_wp2_with fail
            go_meet
            refine ⟨?_, HX.out, HB.out⟩
            rw [HI.out]
            simp [f0, f1, f2, f3]
          · cases f4 : ((h.kn : Int) == 0)
            · go_wp2_with fail
              go_meet
              refine ⟨?_, HX.out, HB.out⟩
              rw [HI.out]
              simp [f0, f1, f2, f3, f4]
            · cases f5 : ((h.vn : Int) == 0)
              · go_wp2_with fail
                go_meet
                refine ⟨?_, HX.out, HB.out⟩
                rw [HI.out]
                simp [f0, f1, f2, f3, f5]
              · cases f6 : ((h.tn : Int) == 0)
                · go_wp2_with fail
                  go_meet
                  refine ⟨?_, HX.out, HB.out⟩
                  rw [HI.out]
                  simp [f0, f1, f2, f3, f6]
                · go_wp2_with fail
                  go_meet
                  refine ⟨?_, HX.out, HB.out⟩
                  rw [HI.out]
                  simp [f0, f1, f2, f3, f4, f5, f6]
        · by_cases f3 : (h.kn : Int) ≤ 80
          · cases f4 : ((h.vn : Int) == 0)
            · go_wp2_with fail
              go_meet
              refine ⟨?_, HX.out, HB.out⟩
              rw [HI.out]
              simp [f0, f1, f2, f4]
            · cases f5 : ((h.tn : Int) == 2)
              · go_wp2_with fail
                go_meet
                refine ⟨?_, HX.out, HB.out⟩
                rw [HI.out]
                simp [f0, f1, f2, f5]
              · go_wp2_with fail
                go_meet
                refine ⟨?_, HX.out, HB.out⟩
                rw [HI.out]
                simp [f0, f1, f2, f3, f4, f5]
          · go_wp2_with fail
            go_meet
            refine ⟨?_, HX.out, HB.out⟩
            rw [HI.out]
            simp [f0, f1, f2, show ¬ (h.kn : Int) ≤ 80 by omega]
      · by_cases f2 : (h.kn : Int) ≤ 80
        · by_cases f3 : (h.vn : Int) ≤ 1024
          · cases f4 : ((h.dn : Int) == 0)
            · go_wp2_with fail
              go_meet
              refine ⟨?_, HX.out, HB.out⟩
              rw [HI.out]
              simp [f0, f1, f4]
            · cases f5 : ((h.tn : Int) == 2)
              · go_wp2_with fail
                go_meet
                refine ⟨?_, HX.out, HB.out⟩
                rw [HI.out]
                simp [f0, f1, f5]
              · go_wp2_with fail
                go_meet
                refine ⟨?_, HX.out, HB.out⟩
                rw [HI.out]
                simp [f0, f1, f2, f3, f4, f5]
          · go_wp2_with fail
            go_meet
            refine ⟨?_, HX.out, HB.out⟩
            rw [HI.out]
            simp [f0, f1, show ¬ (h.vn : Int) ≤ 1024 by omega]
        · go_wp2_with fail
          go_meet
          refine ⟨?_, HX.out, HB.out⟩
          rw [HI.out]
          simp [f0, f1, show ¬ (h.kn : Int) ≤ 80 by omega]
    · cases f1 : ((h.kn : Int) == 0)
      · go_wp2_with fail
        go_meet
        refine ⟨?_, HX.out, HB.out⟩
        rw [HI.out]
        simp [f0, f1]
      · cases f2 : ((h.vn : Int) == 0)
        · go_wp2_with fail
          go_meet
          refine ⟨?_, HX.out, HB.out⟩
          rw [HI.out]
          simp [f0, f2]
        · cases f3 : ((h.dn : Int) == 0)
          · go_wp2_with fail
            go_meet
            refine ⟨?_, HX.out, HB.out⟩
            rw [HI.out]
            simp [f0, f3]
          · cases f4 : ((h.tn : Int) == 0)
            · go_wp2_with fail
              go_meet
              refine ⟨?_, HX.out, HB.out⟩
              rw [HI.out]
              simp [f0, f4]
            · go_wp2_with fail
              go_meet
              refine ⟨?_, HX.out, HB.out⟩
              rw [HI.out]
              simp [f0, f1, f2, f3, f4]
  case rest =>
    obtain ⟨rfl, hbx, hbw⟩ := hcut
    clear x0 x1 x2 x3 x4
    have HBX := Lib.hid hbx
    have HBW := Lib.hid hbw
    clear hbx hbw HX HB HI
    go_wp2_with fail
    go_loopw [7, 8] (fun s7 s8 wx => ∃ i : Nat, i ≤ h.tn ∧ s7 = .bool (partB t && (t.kids.take i).all formedT) ∧ s8 = .int .i64 i ∧ Box wx 25 w.heap.size h ∧ Below w.heap.size w wx) (fun _ s8 _ => h.tn - (intOf s8).toNat)
    case atStart => exact ⟨0, by omega, by simp, rfl, HBX.out, HBW.out⟩
    case round =>
      clear HBX HBW
      obtain ⟨i, hi, rfl, rfl, hbx, hbw⟩ := hrel
      have hx4 := hbx.cells.2.2.2.2
      have HBX := Lib.hid hbx
      have HBW := Lib.hid hbw
      clear hbx hbw
      by_cases hlt : i < h.tn
      · have q1 : (i : Int) < (h.tn : Int) := by omega
        have him : i < t.kids.length := by omega
        by_cases hok : (partB t && (t.kids.take i).all formedT) = true
        · obtain ⟨g, off, hta, hg, hcs⟩ := (HP.out.below HBW.out).place (by omega)
          rw [hta] at hx4
          obtain ⟨k0, k1, k2, k3, k4⟩ := hcs i hlt
          have HOK := Lib.hid hok
          clear hcs hta
          rw [hok]
          clear hok
          go_wp2_with (first
            | (go_at_call 53
               refine (IH.out _ (List.getElem_mem him) (H i) _ ((HP.out.below HBW.out).kids i him)).mono ?_
               rintro _ w1 ⟨rfl, hb1⟩
               have HB1 : Hid (Below w.heap.size w w1) := Lib.hid (HBW.out.trans (hb1.mono HBW.out.size))
               have HX1 := Lib.hid (HBX.out.below hb1 HBX.out.lt)
               clear hb1))
          exact ⟨⟨i + 1, by omega, by rw [all_take _ _ i him, ← Bool.and_assoc, HOK.out, Bool.true_and], by go_num, HX1.out, HB1.out⟩, by simp [intOf]; omega⟩
        · have hok2 : (partB t && (t.kids.take i).all formedT) = false := by simpa using hok
          have HOK := Lib.hid hok2
          rw [hok2]
          clear hok hok2 hx4
          go_wp2_with fail
          go_ret
          refine ⟨?_, HBW.out⟩
          rw [formedT_eq]
          have h1 := HOK.out
          rw [Bool.and_eq_false_iff] at h1
          rcases h1 with h1 | h1
          · rw [h1]; rfl
          · have h2 : t.kids.all formedT = false := by
              rw [Bool.eq_false_iff]
              intro hc
              rw [List.all_eq_true] at hc
              rw [Bool.eq_false_iff] at h1
              apply h1
              rw [List.all_eq_true]
              exact fun x hx => hc x (List.mem_of_mem_take hx)
            rw [h2, Bool.and_false]
            rfl
      · obtain rfl : i = h.tn := by omega
        have q1 : ¬ (h.tn : Int) < (h.tn : Int) := by omega
        rw [List.take_of_length_le (by omega), ← formedT_eq]
        go_wp2_with fail
        go_ret
        exact ⟨rfl, HBW.out⟩
end Go.Proofs.YtkfjhegehhahcaaDoor

/- The contracts of the document's checks of trees: Check, Full, Depth. -/
namespace Go.Proofs.YtkfjhegehhahcaaDoor
open Go.RowKit
set_option linter.unusedVariables false

set_option maxRecDepth 100000 in
set_option maxHeartbeats 4000000 in
theorem refCheck_any (t : Tr) (h : TH) (w : World) (ht : InTree w h t) :
    Calls Tryd.prog 22 #[h.v] w (Says w (.int .i64 (checkT t : Nat))) := by
  unfold TH.v
  have hbox := Box.new w 25 h
  have HX := Lib.hid hbox
  have HT := Lib.hid ht
  obtain ⟨x0, x1, x2, x3, x4⟩ := hbox.cells
  clear hbox ht
  go_enter Tryd.func22, Tryd.ntmps22
  go_upto_region 2 with (first
    | (go_at_call 52
       refine (refDeep_any t h 64 _ ?_ (by omega) (by omega)).mono ?_
       · exact HT.out.lower ((Below.refl _ _).alloc (Nat.le_refl _) _)
       rintro _ w1 ⟨rfl, hb1⟩
       have HB1 : Hid (Below w.heap.size w w1) := Lib.hid (((Below.refl w.heap.size w).alloc (Nat.le_refl _) _).trans (hb1.mono (by simp)))
       obtain ⟨y0, y1, y2, y3, y4⟩ := (HX.out.below hb1 HX.out.lt).cells
       generalize hr : deepT t 64 = r
       have HR := Lib.hid hr
       clear hb1 hr x0 x1 x2 x3 x4))
  cases r
  · go_upto_region 5 with (first
      | (go_at_call 53
         refine (refFormed_any t h _ ?_).mono ?_
         · exact HT.out.lower HB1.out
         rintro _ w2 ⟨rfl, hb2⟩
         have HB2 : Hid (Below w.heap.size w w2) := Lib.hid (HB1.out.trans (hb2.mono HB1.out.size))
         generalize hq : formedT t = q
         have HQ := Lib.hid hq
         clear hb2 hq y0 y1 y2 y3 y4))
    cases q
    · go_wp2_with fail
      go_ret
      have e : checkT t = 3 := by unfold checkT; rw [HR.out, HQ.out]; rfl
      exact ⟨by rw [e]; rfl, HB2.out⟩
    · go_wp2_with fail
      go_ret
      have e : checkT t = 0 := by unfold checkT; rw [HR.out, HQ.out]; rfl
      exact ⟨by rw [e]; rfl, HB2.out⟩
  · go_wp2_with fail
    go_ret
    have e : checkT t = 5 := by unfold checkT; rw [HR.out]; rfl
    exact ⟨by rw [e]; rfl, HB1.out⟩
theorem formed_kids {t : Tr} (hf : formedT t = true) : partB t = true ∧ ∀ i (hi : i < t.kids.length), formedT t.kids[i] = true := by
  rw [formedT_eq, Bool.and_eq_true, List.all_eq_true] at hf
  exact ⟨hf.1, fun i hi => hf.2 _ (List.getElem_mem hi)⟩
theorem part_kids {t : Tr} (hp : partB t = true) : (t.kids.length = 0 ∧ (t.k = 0 ∨ t.k = 3)) ∨ (t.kids.length = 2 ∧ (t.k = 1 ∨ t.k = 2)) := by
  unfold partB at hp
  split at hp
  · simp only [Bool.and_eq_true, decide_eq_true_eq] at hp; omega
  · split at hp
    · simp only [Bool.and_eq_true, decide_eq_true_eq] at hp; omega
    · split at hp
      · simp only [Bool.and_eq_true, decide_eq_true_eq] at hp; omega
      · split at hp
        · simp only [Bool.and_eq_true, decide_eq_true_eq] at hp; omega
        · cases hp
theorem deep_kids {t : Tr} {b : Int} (hd : deepT t b = false) (h0 : 0 < t.kids.length) : b ≠ 0 ∧ ∀ i (hi : i < t.kids.length), deepT t.kids[i] (b - 1) = false := by
  rw [deepT_eq, Bool.or_eq_false_iff] at hd
  have hn : isNode t = true := by unfold isNode; simp [h0]
  rw [hn, Bool.true_and] at hd
  exact ⟨by simpa using hd.1, fun i hi => by
    have := hd.2
    rw [List.any_eq_false] at this
    simpa using this _ (List.getElem_mem hi)⟩
theorem depth_two {t : Tr} (h2 : t.kids.length = 2) : depthT t = max (depthT (t.kids[0]'(by omega))) (depthT (t.kids[1]'(by omega))) + 1 := by
  rw [depthT_eq, if_neg (by omega)]
  simp [List.getD, h2]
theorem depth_le : ∀ (t : Tr) (b : Int), formedT t = true → deepT t b = false → 0 ≤ b → (depthT t : Int) ≤ b := by
  intro t
  induction t using Tr.ind with
  | h t ih =>
  intro b hf hd hb
  obtain ⟨hp, hk⟩ := formed_kids hf
  rcases part_kids hp with ⟨h0, _⟩ | ⟨h2, _⟩
  · rw [depthT_eq, if_pos h0]
    exact hb
  · obtain ⟨hb0, hdk⟩ := deep_kids hd (by omega)
    have i0 := ih _ (List.getElem_mem (by omega : 0 < t.kids.length)) (b - 1) (hk 0 (by omega)) (hdk 0 (by omega)) (by omega)
    have i1 := ih _ (List.getElem_mem (by omega : 1 < t.kids.length)) (b - 1) (hk 1 (by omega)) (hdk 1 (by omega)) (by omega)
    rw [depth_two h2]
    omega
set_option maxRecDepth 100000 in
set_option maxHeartbeats 4000000 in
theorem refDepth_any : ∀ (t : Tr) (h : TH) (b : Int) (w : World), InTree w h t → formedT t = true → deepT t b = false → 0 ≤ b → b ≤ 64 →
    Calls Tryd.prog 24 #[h.v] w (Says w (.int .i64 (depthT t))) := by
  intro t
  induction t using Tr.ind with
  | h t ih =>
  intro h b w ht hf hd hb0 hb1
  obtain ⟨hpb, hfk⟩ := formed_kids hf
  unfold TH.v
  obtain ⟨H, hp⟩ := ht.parts
  have hkl := hp.key.len
  have hvl := hp.val.len
  have hdl := hp.dig.len
  have htl := hp.len
  have HK := Lib.hid hp.hk
  have htm := Nat.le_trans hp.sl.le hp.sl.max
  have htc := hp.sl.le
  simp only [maxLen] at htm
  have HP := Lib.hid hp
  have IH := Lib.hid ih
  clear hp ht ih
  have hbox := Box.new w 25 h
  have HX := Lib.hid hbox
  obtain ⟨x0, x1, x2, x3, x4⟩ := hbox.cells
  clear hbox
  have hw1 : Below w.heap.size w (w.alloc (.cells #[.int .i64 h.k, .slice h.ka h.kn h.kc, .slice h.va h.vn h.vc, .slice h.da h.dn h.dc, .slice h.ta h.tn h.tc] 25)) := (Below.refl _ _).alloc (Nat.le_refl _) _
  have HB := Lib.hid hw1
  clear hw1
  rcases part_kids hpb with ⟨h0, _⟩ | ⟨h2, _⟩
  · have htn : ((h.tn : Int) == 0) = true := by simp; omega
    go_enter Tryd.func24, Tryd.ntmps24
    go_wp2_with fail
    go_ret
    have e : depthT t = 0 := by rw [depthT_eq, if_pos h0]
    exact ⟨by rw [e]; rfl, HB.out⟩
  · obtain ⟨hbn, hdk⟩ := deep_kids hd (by omega)
    have htn : ((h.tn : Int) == 0) = false := by simp; omega
    have l0 : 0 < t.kids.length := by omega
    have l1 : 1 < t.kids.length := by omega
    have e := depth_two h2
    have b0 := depth_le _ (b - 1) (hfk 0 l0) (hdk 0 l0) (by omega)
    have b1 := depth_le _ (b - 1) (hfk 1 l1) (hdk 1 l1) (by omega)
    have HE := Lib.hid (And.intro e (And.intro hfk hdk))
    clear e hfk hdk hf hd
    go_enter Tryd.func24, Tryd.ntmps24
    go_upto_region 3 with fail
    generalize w.alloc (.cells #[.int .i64 h.k, .slice h.ka h.kn h.kc, .slice h.va h.vn h.vc, .slice h.da h.dn h.dc, .slice h.ta h.tn h.tc] 25) = w0 at *
    obtain ⟨g, off, hta, hg, hcs⟩ := (HP.out.below HB.out).place (by omega)
    have ht1 : (1 : Int) < (h.tn : Int) := by omega
    have ht0 : 0 < h.tn := by omega
    rw [hta] at x4
    obtain ⟨k0, k1, k2, k3, k4⟩ := hcs 0 (by omega)
    simp only [Nat.zero_mul, Nat.add_zero] at k0 k1 k2 k3 k4
    clear hcs
    go_upto_region 4 with (first
        | (go_at_call 24
           refine (IH.out _ (List.getElem_mem l0) (H 0) (b - 1) _ ((HP.out.below HB.out).kids 0 l0) (HE.out.2.1 0 l0) (HE.out.2.2 0 l0) (by omega) (by omega)).mono ?_
           rintro _ w1 ⟨rfl, hb1⟩
           have HB1 : Hid (Below w.heap.size w w1) := Lib.hid (HB.out.trans (hb1.mono HB.out.size))
           have hx1 := HX.out.below hb1 HX.out.lt
           have y4 := hx1.cells.2.2.2.2
           clear hb1 hx1))
    clear x0 x1 x2 x3 x4 k0 k1 k2 k3 k4
    obtain ⟨g', off', hta', hg', hcs'⟩ := (HP.out.below HB1.out).place (by omega)
    rw [hta'] at y4
    obtain ⟨k0, k1, k2, k3, k4⟩ := hcs' 1 (by omega)
    simp only [Nat.one_mul] at k0 k1 k2 k3 k4
    clear hcs' hta hta'
    go_upto_region 5 with (first
        | (go_at_call 24
           refine (IH.out _ (List.getElem_mem l1) (H 1) (b - 1) _ ((HP.out.below HB1.out).kids 1 l1) (HE.out.2.1 1 l1) (HE.out.2.2 1 l1) (by omega) (by omega)).mono ?_
           rintro _ w2 ⟨rfl, hb2⟩
           have HB2 : Hid (Below w.heap.size w w2) := Lib.hid (HB1.out.trans (hb2.mono HB1.out.size))
           clear hb2))
    have he := HE.out.1
    generalize depthT t.kids[0] = d0 at *
    generalize depthT t.kids[1] = d1 at *
    have HE2 := Lib.hid he
    clear he HE
    by_cases hc : (d1 : Int) < (d0 : Int)
    · go_wp2_with fail
      go_ret
      have e : (depthT t : Int) = (d0 : Int) + 1 := by rw [HE2.out]; omega
      exact ⟨by rw [e]; rfl, HB2.out⟩
    · go_wp2_with fail
      go_ret
      have e : (depthT t : Int) = (d1 : Int) + 1 := by rw [HE2.out]; omega
      exact ⟨by rw [e]; rfl, HB2.out⟩
end Go.Proofs.YtkfjhegehhahcaaDoor

/- Errors that are Codes. -/
namespace Go.Proofs.YtkfjhegehhahcaaDoor
open Go.RowKit
set_option linter.unusedVariables false

/-- An error that is one of api's Codes, itself; 0: none. -/
def codeV (k : Nat) : Value := if k = 0 then .nilIface else .iface 34 (.int .i64 k)
theorem compCode : (Tryd.prog.info? 34).map (·.comparable) = some true := by kernel_rfl
theorem eql_code (a b : Int) (w : World) : (binOp .eql 31 (.iface 34 (.int .i64 a)) (.iface 34 (.int .i64 b))).run Tryd.prog w = .ok (.bool (a == b)) w :=
  Lib.run_eql_iface_int w a b Tryd.underlying31 compCode Tryd.underlying34

theorem neq_code (a b : Int) (w : World) : (binOp .neq 31 (.iface 34 (.int .i64 a)) (.iface 34 (.int .i64 b))).run Tryd.prog w = .ok (.bool (a != b)) w :=
  Lib.run_neq_iface_int w a b Tryd.underlying31 compCode Tryd.underlying34
end Go.Proofs.YtkfjhegehhahcaaDoor

/- A variable of one cell: a closure's, a number's. No program is named here. -/
namespace Go.Proofs.YtkfjhegehhahcaaDoor
open Go.RowKit
set_option linter.unusedVariables false

/-- Block g is a variable of one cell, which holds v. -/
def Var1 (w : World) (ty : TypeId) (g : Nat) (v : Value) : Prop := w.heap[g]? = some (.cells #[v] ty (0, 0))
section
variable {w w' : World} {ty : TypeId} {g : Nat} {v : Value}
theorem Var1.new (w : World) (ty : TypeId) (v : Value) : Var1 (w.alloc (.cells #[v] ty)) ty w.heap.size v := heap_alloc_new w _
theorem Var1.lt (h : Var1 w ty g v) : g < w.heap.size := by
  rcases Nat.lt_or_ge g w.heap.size with hlt | hge
  · exact hlt
  · unfold Var1 at h; rw [Array.getElem?_eq_none hge] at h; cases h
theorem Var1.below {B : Nat} (h : Var1 w ty g v) (hb : Below B w w') (hg : g < B) : Var1 w' ty g v := (hb.block g hg).trans h
theorem Var1.grown {row : Option Nat} (h : Var1 w ty g v) (hb : w.grownBy w' row) (hg : some g ≠ row) : Var1 w' ty g v := (hb.block g h.lt hg).trans h
theorem Var1.drew (h : Var1 w ty g v) : Var1 w.drew ty g v := h
theorem Var1.cell (h : Var1 w ty g v) : w.cell? ⟨g, 0, none⟩ = some v := by
  rw [cell_of_row w g 0 _ _ (0, 0) h]
  rfl
theorem Var1.frozen (h : Var1 w ty g v) (i : Nat) : w.frozen? ⟨g, i, none⟩ = false := by
  unfold Var1 at h
  simp [World.frozen?, h]
theorem Var1.set (h : Var1 w ty g v) (u : Value) : Var1 (w.setCell ⟨g, 0, none⟩ u) ty g u := by
  unfold Var1 at h ⊢
  simp [World.setCell, Array.getElem?_modify, h]
theorem Var1.far (h : Var1 w ty g v) {p : Addr} (hp : g ≠ p.block) (u : Value) : Var1 (w.setCell p u) ty g v := (Below.heap_setCell w p u g hp).trans h
end
end Go.Proofs.YtkfjhegehhahcaaDoor

/- The contracts of the program's checks of trees. -/
namespace Go.Proofs.YtkfjhegehhahcaaDoor
open Go.RowKit
set_option linter.unusedVariables false

/-- A pointer to a variable. -/
def ptrV (g : Nat) : Value := .pointer (some ⟨g, 0, none⟩)
/-- Counts a part as a node by its kind? -/
def nodeK (t : Tr) : Bool := t.k == 1 || t.k == 2
/-- Is a part told itself? -/
def toldK (t : Tr) : Bool := t.k != 2 && t.k != 3
/-- Is a part told itself, or has its digest the width? -/
def fitsK (k : Nat) (t : Tr) : Bool := toldK t || decide (t.dig.length = k)
/-- All parts of a tree. -/
def allT (p : Tr → Bool) (t : Tr) : Bool := t.fold fun t rs => p t && rs.all id
theorem allT_eq (p : Tr → Bool) (t : Tr) : allT p t = (p t && t.kids.all (allT p)) := by
  unfold allT
  rw [Tr.fold_eq]
  simp [List.all_map, Function.comp_def]
theorem allT_part (t : Tr) : allT partB t = formedT t := rfl
theorem allT_told : ∀ t : Tr, formedT t = true → allT toldK t = fullT t := by
  intro t
  induction t using Tr.ind with
  | h t ih =>
  intro hf
  obtain ⟨hp, hk⟩ := formed_kids hf
  rw [allT_eq, fullT_eq]
  have e1 : toldK t = decide (t.k ≤ 1) := by
    unfold toldK
    rcases part_kids hp with ⟨_, h | h⟩ | ⟨_, h | h⟩ <;> rw [h] <;> rfl
  have e2 : t.kids.all (allT toldK) = t.kids.all fullT := by
    rw [Bool.eq_iff_iff, List.all_eq_true, List.all_eq_true]
    constructor
    · intro h x hx
      obtain ⟨i, hi, rfl⟩ := List.getElem_of_mem hx
      rw [← ih _ hx (hk i hi)]
      exact h _ hx
    · intro h x hx
      obtain ⟨i, hi, rfl⟩ := List.getElem_of_mem hx
      rw [ih _ hx (hk i hi)]
      exact h _ hx
  rw [e1, e2]

set_option maxRecDepth 100000 in
set_option maxHeartbeats 4000000 in
theorem isNode_any (t : Tr) (h : TH) (w : World) (ht : InTree w h t) : Calls Tryd.prog 42 #[h.v] w (Says w (.bool (nodeK t))) := by
  unfold TH.v
  obtain ⟨H, hp⟩ := ht.parts
  have HK := Lib.hid hp.hk
  have hk1 := hp.hk1
  have hk2 := hp.hk2
  clear hp ht
  have hbox := Box.new w 25 h
  obtain ⟨x0, x1, x2, x3, x4⟩ := hbox.cells
  clear hbox
  have hw1 : Below w.heap.size w (w.alloc (.cells #[.int .i64 h.k, .slice h.ka h.kn h.kc, .slice h.va h.vn h.vc, .slice h.da h.dn h.dc, .slice h.ta h.tn h.tc] 25)) := (Below.refl _ _).alloc (Nat.le_refl _) _
  have HB := Lib.hid hw1
  clear hw1
  go_enter Tryd.func42, Tryd.ntmps42
  cases f1 : (h.k == 1)
  · go_wp2_with fail
    go_ret
    refine ⟨?_, HB.out⟩
    unfold nodeK
    rw [← HK.out, f1]
    rfl
  · go_wp2_with fail
    go_ret
    refine ⟨?_, HB.out⟩
    unfold nodeK
    rw [← HK.out, f1]
    rfl

set_option maxRecDepth 100000 in
set_option maxHeartbeats 4000000 in
theorem isTold_any (t : Tr) (h : TH) (w : World) (ht : InTree w h t) : Calls Tryd.prog 33 #[h.v] w (Says w (.bool (toldK t))) := by
  unfold TH.v
  obtain ⟨H, hp⟩ := ht.parts
  have HK := Lib.hid hp.hk
  have hk1 := hp.hk1
  have hk2 := hp.hk2
  clear hp ht
  have hbox := Box.new w 25 h
  obtain ⟨x0, x1, x2, x3, x4⟩ := hbox.cells
  clear hbox
  have hw1 : Below w.heap.size w (w.alloc (.cells #[.int .i64 h.k, .slice h.ka h.kn h.kc, .slice h.va h.vn h.vc, .slice h.da h.dn h.dc, .slice h.ta h.tn h.tc] 25)) := (Below.refl _ _).alloc (Nat.le_refl _) _
  have HB := Lib.hid hw1
  clear hw1
  go_enter Tryd.func33, Tryd.ntmps33
  cases f1 : (h.k == 2)
  · have f2 : (h.k != 2) = true := by rw [bne, f1]; rfl
    go_wp2_with fail
    go_ret
    refine ⟨?_, HB.out⟩
    unfold toldK
    rw [← HK.out, f2]
    rfl
  · have f2 : (h.k != 2) = false := by rw [bne, f1]; rfl
    go_wp2_with fail
    go_ret
    refine ⟨?_, HB.out⟩
    unfold toldK
    rw [← HK.out, f2]
    rfl

set_option maxRecDepth 100000 in
set_option maxHeartbeats 4000000 in
theorem wellFormed_any (t : Tr) (h : TH) (w : World) (ht : InTree w h t) : Calls Tryd.prog 60 #[h.v] w (Says w (.bool (partB t))) := by
  unfold TH.v
  obtain ⟨H, hp⟩ := ht.parts
  have hk1 := hp.hk1
  have hk2 := hp.hk2
  have HI := Lib.hid (partB_head hp)
  clear hp ht
  have hbox := Box.new w 25 h
  obtain ⟨x0, x1, x2, x3, x4⟩ := hbox.cells
  clear hbox
  have hw1 : Below w.heap.size w (w.alloc (.cells #[.int .i64 h.k, .slice h.ka h.kn h.kc, .slice h.va h.vn h.vc, .slice h.da h.dn h.dc, .slice h.ta h.tn h.tc] 25)) := (Below.refl _ _).alloc (Nat.le_refl _) _
  have HB := Lib.hid (fun m => below_drewN hw1 m)
  clear hw1
  go_enter Tryd.func60, Tryd.ntmps60
  go_upto_region 1 with fail
  go_quiet (fail)
  cases k0 : (h.k == 0)
  · cases k1 : (h.k == 1)
    · cases k2 : (h.k == 2)
      · cases k3 : (h.k == 3)
        · go_wp2_with fail
          go_ret
          refine ⟨?_, HB.out _⟩
          rw [HI.out]
          simp [k0, k1, k2, k3]
        · cases f5 : ((h.kn : Int) == 0)
          · go_wp2_with fail
            go_ret
            refine ⟨?_, HB.out _⟩
            rw [HI.out]
            simp [k0, k1, k2, k3, f5]
          · cases f6 : ((h.vn : Int) == 0)
            · go_wp2_with fail
              go_ret
              refine ⟨?_, HB.out _⟩
              rw [HI.out]
              simp [k0, k1, k2, k3, f6]
            · cases f7 : ((h.tn : Int) == 0)
              · go_wp2_with fail
                go_ret
                refine ⟨?_, HB.out _⟩
                rw [HI.out]
                simp [k0, k1, k2, k3, f7]
              · go_wp2_with fail
                go_ret
                refine ⟨?_, HB.out _⟩
                rw [HI.out]
                simp [k0, k1, k2, k3, f5, f6, f7]
      · by_cases f5 : (h.kn : Int) ≤ 80
        · cases f6 : ((h.vn : Int) == 0)
          · go_wp2_with fail
            go_ret
            refine ⟨?_, HB.out _⟩
            rw [HI.out]
            simp [k0, k1, k2, f6]
          · cases f7 : ((h.tn : Int) == 2)
            · go_wp2_with fail
              go_ret
              refine ⟨?_, HB.out _⟩
              rw [HI.out]
              simp [k0, k1, k2, f7]
            · go_wp2_with fail
              go_ret
              refine ⟨?_, HB.out _⟩
              rw [HI.out]
              simp [k0, k1, k2, f5, f6, f7]
        · go_wp2_with fail
          go_ret
          refine ⟨?_, HB.out _⟩
          rw [HI.out]
          simp [k0, k1, k2, show ¬ (h.kn : Int) ≤ 80 by omega]
    · by_cases f5 : (h.kn : Int) ≤ 80
      · by_cases f6 : (h.vn : Int) ≤ 1024
        · cases f7 : ((h.dn : Int) == 0)
          · go_wp2_with fail
            go_ret
            refine ⟨?_, HB.out _⟩
            rw [HI.out]
            simp [k0, k1, f7]
          · cases f8 : ((h.tn : Int) == 2)
            · go_wp2_with fail
              go_ret
              refine ⟨?_, HB.out _⟩
              rw [HI.out]
              simp [k0, k1, f8]
            · go_wp2_with fail
              go_ret
              refine ⟨?_, HB.out _⟩
              rw [HI.out]
              simp [k0, k1, f5, f6, f7, f8]
        · go_wp2_with fail
          go_ret
          refine ⟨?_, HB.out _⟩
          rw [HI.out]
          simp [k0, k1, show ¬ (h.vn : Int) ≤ 1024 by omega]
      · go_wp2_with fail
        go_ret
        refine ⟨?_, HB.out _⟩
        rw [HI.out]
        simp [k0, k1, show ¬ (h.kn : Int) ≤ 80 by omega]
  · cases f5 : ((h.kn : Int) == 0)
    · go_wp2_with fail
      go_ret
      refine ⟨?_, HB.out _⟩
      rw [HI.out]
      simp [k0, f5]
    · cases f6 : ((h.vn : Int) == 0)
      · go_wp2_with fail
        go_ret
        refine ⟨?_, HB.out _⟩
        rw [HI.out]
        simp [k0, f6]
      · cases f7 : ((h.dn : Int) == 0)
        · go_wp2_with fail
          go_ret
          refine ⟨?_, HB.out _⟩
          rw [HI.out]
          simp [k0, f7]
        · cases f8 : ((h.tn : Int) == 0)
          · go_wp2_with fail
            go_ret
            refine ⟨?_, HB.out _⟩
            rw [HI.out]
            simp [k0, f8]
          · go_wp2_with fail
            go_ret
            refine ⟨?_, HB.out _⟩
            rw [HI.out]
            simp [k0, f5, f6, f7, f8]

/-- A variable that holds the closure of a function which calls itself, and has pointers to variables. -/
def CloV (fn : Nat) (caps : Array Value) : Value := .func (.func fn) #[] caps
theorem deep_node {t : Tr} (hn : nodeK t = false) (h0 : t.kids.length = 0) (b : Int) : deepT t b = false := by
  have hk : t.kids = [] := List.length_eq_zero_iff.1 h0
  have e : isNode t = false := by
    unfold nodeK at hn
    unfold isNode
    rw [Bool.or_eq_false_iff] at hn
    rw [hn.1, hn.2, hk]
    rfl
  rw [deepT_eq, e, hk]
  rfl
theorem node_is {t : Tr} (h : nodeK t = true ∨ t.kids.length ≠ 0) : isNode t = true := by
  unfold isNode
  rcases h with h | h
  · unfold nodeK at h
    rw [← Bool.or_assoc, h]
    rfl
  · have : decide (0 < t.kids.length) = true := by simp; omega
    rw [this]
    simp

set_option maxRecDepth 100000 in
set_option maxHeartbeats 4000000 in
theorem deepC_any : ∀ (t : Tr) (h : TH) (a : Int) (w : World) (gc : Nat), InTree w h t → 0 ≤ a → a ≤ 64 → Var1 w 78 gc (.func (.func 76) #[] #[.pointer (some ⟨gc, 0, none⟩)]) →
    Calls Tryd.prog 76 #[h.v, .int .i64 a, .pointer (some ⟨gc, 0, none⟩)] w (Says w (.bool (deepT t (64 - a)))) := by
  intro t
  induction t using Tr.ind with
  | h t ih =>
  intro h a w gc ht ha0 ha1 hcl
  unfold TH.v
  obtain ⟨H, hp⟩ := ht.parts
  have htl := hp.len
  have htc := hp.sl.le
  have htm := Nat.le_trans hp.sl.le hp.sl.max
  simp only [maxLen] at htm
  have HP := Lib.hid hp
  have HTT := Lib.hid ht
  have IH := Lib.hid ih
  have HCL := Lib.hid hcl
  clear hp ht ih hcl
  have hbox := Box.new w 25 h
  have HX := Lib.hid hbox
  obtain ⟨x0, x1, x2, x3, x4⟩ := hbox.cells
  clear hbox
  have hw1 : Below w.heap.size w (w.alloc (.cells #[.int .i64 h.k, .slice h.ka h.kn h.kc, .slice h.va h.vn h.vc, .slice h.da h.dn h.dc, .slice h.ta h.tn h.tc] 25)) := (Below.refl _ _).alloc (Nat.le_refl _) _
  have HB := Lib.hid hw1
  clear hw1
  go_enter Tryd.func76, Tryd.ntmps76
  cases hr : nodeK t
  · have HR := Lib.hid hr
    clear hr
    cases ftn : ((h.tn : Int) == 0)
    · have HNI : Hid (nodeK t = true ∨ t.kids.length ≠ 0) := Lib.hid (Or.inr (by rw [beq_eq_false_iff_ne] at ftn; omega))
      go_upto_if 18 with (first
        | (go_at_call 42
           refine (isNode_any t h _ (HTT.out.lower HB.out)).mono ?_
           rintro _ w1 ⟨rfl, hb1⟩
           rw [HR.out]
           have HB1 : Hid (Below w.heap.size w w1) := Lib.hid (HB.out.trans (hb1.mono HB.out.size))
           have hx1 := HX.out.below hb1 HX.out.lt
           obtain ⟨y0, y1, y2, y3, y4⟩ := hx1.cells
           have HX1 := Lib.hid hx1
           clear hb1 hx1 x0 x1 x2 x3 x4))
      have HN : Hid (isNode t = true) := Lib.hid (node_is HNI.out)
      by_cases fa : ¬ a = 64
      · have HNB : Hid ((isNode t && (64 - a == 0)) = false) := Lib.hid (by rw [Bool.and_eq_false_iff]; right; rw [beq_eq_false_iff_ne]; omega)
        have ha2 : a ≤ 63 := by omega
        have fb : (a == 64) = false := by simp [fa]
        rw [fb]
        have HCL1 := Lib.hid (HCL.out.below HB1.out HCL.out.lt)
        go_wp2_with fail
        clear y0 y1 y2 y3 y4 fa fb
        go_loopw [22] (fun s22 wx => ∃ i : Nat, i ≤ h.tn ∧ s22 = .int .i64 i ∧ Var1 wx 78 gc (.func (.func 76) #[] #[.pointer (some ⟨gc, 0, none⟩)]) ∧ Below w.heap.size w wx ∧ (t.kids.take i).any (fun x => deepT x (64 - (a + 1))) = false) (fun s22 _ => h.tn - (intOf s22).toNat)
        case atStart => exact ⟨0, by omega, rfl, HCL1.out, HB1.out, by simp⟩
        case round =>
          clear HCL1 HB1 HX1
          obtain ⟨i, hi, rfl, hcl, hbw, hall⟩ := hrel
          have hcc := hcl.cell
          have HC := Lib.hid hcl
          have HBW := Lib.hid hbw
          have HA := Lib.hid hall
          clear hcl hbw hall
          by_cases hlt : i < h.tn
          · have q1 : (i : Int) < (h.tn : Int) := by omega
            obtain ⟨g, off, hta, hg, hcs⟩ := (HP.out.below HBW.out).place (by omega)
            obtain ⟨k0, k1, k2, k3, k4⟩ := hcs i hlt
            have him : i < t.kids.length := by omega
            clear hcs
            rw [hta]
            go_upto_region 8 with fail
            have b2 : Below wr.heap.size wr (wr.alloc (.cells #[.int .i64 (H i).k, .slice (H i).ka (H i).kn (H i).kc, .slice (H i).va (H i).vn (H i).vc, .slice (H i).da (H i).dn (H i).dc, .slice (H i).ta (H i).tn (H i).tc] 25)) := (Below.refl _ _).alloc (Nat.le_refl _) _
            have bx := Box.new wr 25 (H i)
            generalize (wr.alloc (.cells #[.int .i64 (H i).k, .slice (H i).ka (H i).kn (H i).kc, .slice (H i).va (H i).vn (H i).vc, .slice (H i).da (H i).dn (H i).dc, .slice (H i).ta (H i).tn (H i).tc] 25)) = w2 at *
            have HB2 : Hid (Below w.heap.size w w2) := Lib.hid (HBW.out.trans (b2.mono HBW.out.size))
            have HC2 := Lib.hid (HC.out.below b2 HC.out.lt)
            have hc2 := HC2.out.cell
            obtain ⟨y0, y1, y2, y3, y4⟩ := bx.cells
            clear b2 bx k0 k1 k2 k3 k4 hcc
            go_upto_if 30 with (first
              | (go_at_call 76
                 refine (IH.out _ (List.getElem_mem him) (H i) (a + 1) _ gc ((HP.out.below HB2.out).kids i him) (by omega) (by omega) HC2.out).mono ?_
                 rintro _ w3 ⟨rfl, hb3⟩
                 have HB3 : Hid (Below w.heap.size w w3) := Lib.hid (HB2.out.trans (hb3.mono HB2.out.size))
                 have HC3 := Lib.hid (HC2.out.below hb3 HC2.out.lt)
                 generalize hr : deepT t.kids[i] (64 - (a + 1)) = q
                 have HQ := Lib.hid hr
                 clear hb3 hr))
            clear y0 y1 y2 y3 y4 hc2
            cases q
            · clear hta
              go_wp2_with fail
              exact ⟨⟨i + 1, by omega, by go_num, HC3.out, HB3.out, by rw [any_take _ _ i him, HA.out, HQ.out]; rfl⟩, by simp [intOf]; omega⟩
            · go_wp2_with fail
              go_ret
              have e : deepT t (64 - a) = true := by
                rw [deepT_eq, show (64 : Int) - a - 1 = 64 - (a + 1) by omega, any_at (p := fun x => deepT x (64 - (a + 1))) i him HQ.out, Bool.or_true]
              exact ⟨by rw [e]; rfl, HB3.out⟩
          · obtain rfl : i = h.tn := by omega
            have q1 : ¬ (h.tn : Int) < (h.tn : Int) := by omega
            go_wp2_with fail
            go_ret
            have hA := HA.out
            rw [List.take_of_length_le (by omega)] at hA
            have e : deepT t (64 - a) = false := by
              rw [deepT_eq, HNB.out, show (64 : Int) - a - 1 = 64 - (a + 1) by omega, hA]
              rfl
            exact ⟨by rw [e]; rfl, HBW.out⟩
      · obtain rfl : a = 64 := by omega
        go_wp2_with fail
        go_ret
        have e : deepT t 0 = true := by
          rw [deepT_eq, HN.out]
          rfl
        exact ⟨by rw [e]; rfl, HB1.out⟩
    · have HT0 : Hid (t.kids.length = 0) := Lib.hid (by rw [beq_iff_eq] at ftn; omega)
      go_upto_if 16 with (first
        | (go_at_call 42
           refine (isNode_any t h _ (HTT.out.lower HB.out)).mono ?_
           rintro _ w1 ⟨rfl, hb1⟩
           rw [HR.out]
           have HB1 : Hid (Below w.heap.size w w1) := Lib.hid (HB.out.trans (hb1.mono HB.out.size))
           have hx1 := HX.out.below hb1 HX.out.lt
           obtain ⟨y0, y1, y2, y3, y4⟩ := hx1.cells
           have HX1 := Lib.hid hx1
           clear hb1 hx1 x0 x1 x2 x3 x4))
      go_wp2_with fail
      go_ret
      exact ⟨by rw [deep_node HR.out HT0.out]; rfl, HB1.out⟩
  · have HR := Lib.hid hr
    have HNI : Hid (nodeK t = true ∨ t.kids.length ≠ 0) := Lib.hid (Or.inl hr)
    clear hr
    go_upto_if 18 with (first
      | (go_at_call 42
         refine (isNode_any t h _ (HTT.out.lower HB.out)).mono ?_
         rintro _ w1 ⟨rfl, hb1⟩
         rw [HR.out]
         have HB1 : Hid (Below w.heap.size w w1) := Lib.hid (HB.out.trans (hb1.mono HB.out.size))
         have hx1 := HX.out.below hb1 HX.out.lt
         obtain ⟨y0, y1, y2, y3, y4⟩ := hx1.cells
         have HX1 := Lib.hid hx1
         clear hb1 hx1 x0 x1 x2 x3 x4))
    have HN : Hid (isNode t = true) := Lib.hid (node_is HNI.out)
    by_cases fa : ¬ a = 64
    · have HNB : Hid ((isNode t && (64 - a == 0)) = false) := Lib.hid (by rw [Bool.and_eq_false_iff]; right; rw [beq_eq_false_iff_ne]; omega)
      have ha2 : a ≤ 63 := by omega
      have fb : (a == 64) = false := by simp [fa]
      rw [fb]
      have HCL1 := Lib.hid (HCL.out.below HB1.out HCL.out.lt)
      go_wp2_with fail
      clear y0 y1 y2 y3 y4 fa fb
      go_loopw [22] (fun s22 wx => ∃ i : Nat, i ≤ h.tn ∧ s22 = .int .i64 i ∧ Var1 wx 78 gc (.func (.func 76) #[] #[.pointer (some ⟨gc, 0, none⟩)]) ∧ Below w.heap.size w wx ∧ (t.kids.take i).any (fun x => deepT x (64 - (a + 1))) = false) (fun s22 _ => h.tn - (intOf s22).toNat)
      case atStart => exact ⟨0, by omega, rfl, HCL1.out, HB1.out, by simp⟩
      case round =>
        clear HCL1 HB1 HX1
        obtain ⟨i, hi, rfl, hcl, hbw, hall⟩ := hrel
        have hcc := hcl.cell
        have HC := Lib.hid hcl
        have HBW := Lib.hid hbw
        have HA := Lib.hid hall
        clear hcl hbw hall
        by_cases hlt : i < h.tn
        · have q1 : (i : Int) < (h.tn : Int) := by omega
          obtain ⟨g, off, hta, hg, hcs⟩ := (HP.out.below HBW.out).place (by omega)
          obtain ⟨k0, k1, k2, k3, k4⟩ := hcs i hlt
          have him : i < t.kids.length := by omega
          clear hcs
          rw [hta]
          go_upto_region 8 with fail
          have b2 : Below wr.heap.size wr (wr.alloc (.cells #[.int .i64 (H i).k, .slice (H i).ka (H i).kn (H i).kc, .slice (H i).va (H i).vn (H i).vc, .slice (H i).da (H i).dn (H i).dc, .slice (H i).ta (H i).tn (H i).tc] 25)) := (Below.refl _ _).alloc (Nat.le_refl _) _
          have bx := Box.new wr 25 (H i)
          generalize (wr.alloc (.cells #[.int .i64 (H i).k, .slice (H i).ka (H i).kn (H i).kc, .slice (H i).va (H i).vn (H i).vc, .slice (H i).da (H i).dn (H i).dc, .slice (H i).ta (H i).tn (H i).tc] 25)) = w2 at *
          have HB2 : Hid (Below w.heap.size w w2) := Lib.hid (HBW.out.trans (b2.mono HBW.out.size))
          have HC2 := Lib.hid (HC.out.below b2 HC.out.lt)
          have hc2 := HC2.out.cell
          obtain ⟨y0, y1, y2, y3, y4⟩ := bx.cells
          clear b2 bx k0 k1 k2 k3 k4 hcc
          go_upto_if 30 with (first
            | (go_at_call 76
               refine (IH.out _ (List.getElem_mem him) (H i) (a + 1) _ gc ((HP.out.below HB2.out).kids i him) (by omega) (by omega) HC2.out).mono ?_
               rintro _ w3 ⟨rfl, hb3⟩
               have HB3 : Hid (Below w.heap.size w w3) := Lib.hid (HB2.out.trans (hb3.mono HB2.out.size))
               have HC3 := Lib.hid (HC2.out.below hb3 HC2.out.lt)
               generalize hr : deepT t.kids[i] (64 - (a + 1)) = q
               have HQ := Lib.hid hr
               clear hb3 hr))
          clear y0 y1 y2 y3 y4 hc2
          cases q
          · clear hta
            go_wp2_with fail
            exact ⟨⟨i + 1, by omega, by go_num, HC3.out, HB3.out, by rw [any_take _ _ i him, HA.out, HQ.out]; rfl⟩, by simp [intOf]; omega⟩
          · go_wp2_with fail
            go_ret
            have e : deepT t (64 - a) = true := by
              rw [deepT_eq, show (64 : Int) - a - 1 = 64 - (a + 1) by omega, any_at (p := fun x => deepT x (64 - (a + 1))) i him HQ.out, Bool.or_true]
            exact ⟨by rw [e]; rfl, HB3.out⟩
        · obtain rfl : i = h.tn := by omega
          have q1 : ¬ (h.tn : Int) < (h.tn : Int) := by omega
          go_wp2_with fail
          go_ret
          have hA := HA.out
          rw [List.take_of_length_le (by omega)] at hA
          have e : deepT t (64 - a) = false := by
            rw [deepT_eq, HNB.out, show (64 : Int) - a - 1 = 64 - (a + 1) by omega, hA]
            rfl
          exact ⟨by rw [e]; rfl, HBW.out⟩
    · obtain rfl : a = 64 := by omega
      go_wp2_with fail
      go_ret
      have e : deepT t 0 = true := by
        rw [deepT_eq, HN.out]
        rfl
      exact ⟨by rw [e]; rfl, HB1.out⟩

set_option maxRecDepth 100000 in
set_option maxHeartbeats 4000000 in
theorem tooDeep_any (t : Tr) (h : TH) (w : World) (ht : InTree w h t) : Calls Tryd.prog 59 #[h.v] w (Says w (.bool (deepT t 64))) := by
  have hmf : ∀ (fn : Fn) (first cap : Array Value) (w : World), (Instr.makeFunc fn first cap).run Tryd.prog w = .ok (.func fn first cap) w := fun _ _ _ _ => rfl
  unfold TH.v
  have HTT := Lib.hid ht
  clear ht
  go_enter Tryd.func59, Tryd.ntmps59
  have hnf : Var1 ((w.alloc (.cells #[.int .i64 h.k, .slice h.ka h.kn h.kc, .slice h.va h.vn h.vc, .slice h.da h.dn h.dc, .slice h.ta h.tn h.tc] 25)).alloc (.cells #[.nilFunc] 78)) 78 (w.heap.size + 1) .nilFunc := by
    have := Var1.new (w.alloc (.cells #[.int .i64 h.k, .slice h.ka h.kn h.kc, .slice h.va h.vn h.vc, .slice h.da h.dn h.dc, .slice h.ta h.tn h.tc] 25)) 78 .nilFunc
    simpa using this
  have hbx : Box ((w.alloc (.cells #[.int .i64 h.k, .slice h.ka h.kn h.kc, .slice h.va h.vn h.vc, .slice h.da h.dn h.dc, .slice h.ta h.tn h.tc] 25)).alloc (.cells #[.nilFunc] 78)) 25 w.heap.size h := (Box.new w 25 h).below ((Below.refl _ _).alloc (Nat.le_refl _) _) (by simp)
  have hb2 : Below w.heap.size w ((w.alloc (.cells #[.int .i64 h.k, .slice h.ka h.kn h.kc, .slice h.va h.vn h.vc, .slice h.da h.dn h.dc, .slice h.ta h.tn h.tc] 25)).alloc (.cells #[.nilFunc] 78)) := ((Below.refl w.heap.size w).alloc (Nat.le_refl _) _).alloc (by simp) _
  go_upto_region 2 with fail
  generalize (w.alloc (.cells #[.int .i64 h.k, .slice h.ka h.kn h.kc, .slice h.va h.vn h.vc, .slice h.da h.dn h.dc, .slice h.ta h.tn h.tc] 25)).alloc (.cells #[.nilFunc] 78) = w2 at *
  have c0 := hnf.cell
  have c1 := hnf.frozen 0
  have HN := Lib.hid (hnf.set (.func (.func 76) #[] #[.pointer (some ⟨w.heap.size + 1, 0, none⟩)]))
  have hbx3 : Box (w2.setCell ⟨w.heap.size + 1, 0, none⟩ (.func (.func 76) #[] #[.pointer (some ⟨w.heap.size + 1, 0, none⟩)])) 25 w.heap.size h := (Below.heap_setCell w2 ⟨w.heap.size + 1, 0, none⟩ _ w.heap.size (by simp)).trans hbx
  have hb3 : Below w.heap.size w (w2.setCell ⟨w.heap.size + 1, 0, none⟩ (.func (.func 76) #[] #[.pointer (some ⟨w.heap.size + 1, 0, none⟩)])) := hb2.setCell (by simp) _
  clear hnf hbx hb2
  go_upto_region 3 with fail
  generalize (w2.setCell ⟨w.heap.size + 1, 0, none⟩ (.func (.func 76) #[] #[.pointer (some ⟨w.heap.size + 1, 0, none⟩)])) = w3 at *
  obtain ⟨x0, x1, x2, x3, x4⟩ := hbx3.cells
  have c2 := HN.out.cell
  have HB3 := Lib.hid hb3
  clear c0 c1 hbx3 hb3
  go_wp2_with (first
    | (go_at_call 76
       refine (deepC_any t h 0 _ (w.heap.size + 1) (HTT.out.lower HB3.out) (by omega) (by omega) HN.out).mono ?_
       rintro _ w4 ⟨rfl, hb4⟩
       have HB4 : Hid (Below w.heap.size w w4) := Lib.hid (HB3.out.trans (hb4.mono HB3.out.size))
       clear hb4))
  go_ret
  exact ⟨rfl, HB4.out⟩

set_option maxRecDepth 100000 in
set_option maxHeartbeats 4000000 in
theorem everyPartC : ∀ (t : Tr) (h : TH) (w : World) (gp ga : Nat), InTree w h t → Var1 w 36 gp (.func (.func 60) #[] #[]) → Var1 w 36 ga (.func (.func 61) #[] #[.pointer (some ⟨gp, 0, none⟩), .pointer (some ⟨ga, 0, none⟩)]) →
    Calls Tryd.prog 61 #[h.v, .pointer (some ⟨gp, 0, none⟩), .pointer (some ⟨ga, 0, none⟩)] w (Says w (.bool (allT partB t))) := by
  intro t
  induction t using Tr.ind with
  | h t ih =>
  intro h w gp ga ht hpv hcl
  unfold TH.v
  obtain ⟨H, hp⟩ := ht.parts
  have htl := hp.len
  have htc := hp.sl.le
  have htm := Nat.le_trans hp.sl.le hp.sl.max
  simp only [maxLen] at htm
  have HP := Lib.hid hp
  have HTT := Lib.hid ht
  have IH := Lib.hid ih
  have hbox := Box.new w 25 h
  have HX := Lib.hid hbox
  obtain ⟨x0, x1, x2, x3, x4⟩ := hbox.cells
  have hw1 : Below w.heap.size w (w.alloc (.cells #[.int .i64 h.k, .slice h.ka h.kn h.kc, .slice h.va h.vn h.vc, .slice h.da h.dn h.dc, .slice h.ta h.tn h.tc] 25)) := (Below.refl _ _).alloc (Nat.le_refl _) _
  have HB := Lib.hid hw1
  have hpv1 := hpv.below hw1 hpv.lt
  have HCL1 := Lib.hid (hcl.below hw1 hcl.lt)
  have HPV1 := Lib.hid hpv1
  have xp := hpv1.cell
  skip
  clear hp ht ih hcl hpv hpv1 hw1 hbox
  go_enter Tryd.func61, Tryd.ntmps61
  go_upto_if 10 with (first
    | (go_at_call 60
       refine (wellFormed_any t h _ (HTT.out.lower HB.out)).mono ?_
       rintro _ w1 ⟨rfl, hb1⟩
       have HB1 : Hid (Below w.heap.size w w1) := Lib.hid (HB.out.trans (hb1.mono HB.out.size))
       have HX1 := Lib.hid (HX.out.below hb1 HX.out.lt)
       have HCL2 := Lib.hid (HCL1.out.below hb1 HCL1.out.lt)
       have HPV2 := Lib.hid (HPV1.out.below hb1 HPV1.out.lt)
       skip
       generalize hr : partB t = r
       have HR := Lib.hid hr
       clear hb1 hr))
  clear x0 x1 x2 x3 x4 xp HX HB HCL1 HPV1
  cases r
  · go_wp2_with fail
    go_ret
    have e : allT partB t = false := by rw [allT_eq, HR.out]; rfl
    exact ⟨by rw [e]; rfl, HB1.out⟩
  simp only [Bool.not_true]
  have x4 := HX1.out.cells.2.2.2.2
  go_wp2_with fail
  clear x4 HX1
  go_loopw [14] (fun s14 wx => ∃ i : Nat, i ≤ h.tn ∧ s14 = .int .i64 i ∧ Var1 wx 36 gp (.func (.func 60) #[] #[]) ∧ Var1 wx 36 ga (.func (.func 61) #[] #[.pointer (some ⟨gp, 0, none⟩), .pointer (some ⟨ga, 0, none⟩)]) ∧ Below w.heap.size w wx ∧ (t.kids.take i).all (allT partB) = true) (fun s14 _ => h.tn - (intOf s14).toNat)
  case atStart => exact ⟨0, by omega, rfl, HPV2.out, HCL2.out, HB1.out, by simp⟩
  case round =>
    clear HCL2 HB1 HPV2
    obtain ⟨i, hi, rfl, hpv, hcl, hbw, hall⟩ := hrel
    have hcc := hcl.cell
    have HC := Lib.hid hcl
    have HV := Lib.hid hpv
    have HBW := Lib.hid hbw
    have HA := Lib.hid hall
    skip
    clear hcl hbw hall hpv
    by_cases hlt : i < h.tn
    · have q1 : (i : Int) < (h.tn : Int) := by omega
      obtain ⟨g, off, hta, hg, hcs⟩ := (HP.out.below HBW.out).place (by omega)
      obtain ⟨k0, k1, k2, k3, k4⟩ := hcs i hlt
      have him : i < t.kids.length := by omega
      clear hcs
      rw [hta]
      go_upto_region 6 with fail
      have b2 : Below wr.heap.size wr (wr.alloc (.cells #[.int .i64 (H i).k, .slice (H i).ka (H i).kn (H i).kc, .slice (H i).va (H i).vn (H i).vc, .slice (H i).da (H i).dn (H i).dc, .slice (H i).ta (H i).tn (H i).tc] 25)) := (Below.refl _ _).alloc (Nat.le_refl _) _
      have bx := Box.new wr 25 (H i)
      generalize (wr.alloc (.cells #[.int .i64 (H i).k, .slice (H i).ka (H i).kn (H i).kc, .slice (H i).va (H i).vn (H i).vc, .slice (H i).da (H i).dn (H i).dc, .slice (H i).ta (H i).tn (H i).tc] 25)) = w2 at *
      have HB2 : Hid (Below w.heap.size w w2) := Lib.hid (HBW.out.trans (b2.mono HBW.out.size))
      have HC2 := Lib.hid (HC.out.below b2 HC.out.lt)
      have HV2 := Lib.hid (HV.out.below b2 HV.out.lt)
      skip
      have hc2 := HC2.out.cell
      obtain ⟨y0, y1, y2, y3, y4⟩ := bx.cells
      clear b2 bx k0 k1 k2 k3 k4 hcc
      go_upto_if 21 with (first
        | (go_at_call 61
           refine (IH.out _ (List.getElem_mem him) (H i) _ gp ga ((HP.out.below HB2.out).kids i him) HV2.out HC2.out).mono ?_
           rintro _ w3 ⟨rfl, hb3⟩
           have HB3 : Hid (Below w.heap.size w w3) := Lib.hid (HB2.out.trans (hb3.mono HB2.out.size))
           have HC3 := Lib.hid (HC2.out.below hb3 HC2.out.lt)
           have HV3 := Lib.hid (HV2.out.below hb3 HV2.out.lt)
           skip
           generalize hr : allT partB t.kids[i] = q
           have HQ := Lib.hid hr
           clear hb3 hr))
      clear y0 y1 y2 y3 y4 hc2
      cases q
      · go_wp2_with fail
        go_ret
        have e : allT partB t = false := by rw [allT_eq, all_not i him HQ.out, Bool.and_false]
        exact ⟨by rw [e]; rfl, HB3.out⟩
      · clear hta
        go_wp2_with fail
        exact ⟨⟨i + 1, by omega, by go_num, HV3.out, HC3.out, HB3.out, by rw [all_take _ _ i him, HA.out, HQ.out]; rfl⟩, by simp [intOf]; omega⟩
    · obtain rfl : i = h.tn := by omega
      have q1 : ¬ (h.tn : Int) < (h.tn : Int) := by omega
      go_wp2_with fail
      go_ret
      have hA := HA.out
      rw [List.take_of_length_le (by omega)] at hA
      have e : allT partB t = true := by rw [allT_eq, HR.out, hA]; rfl
      exact ⟨by rw [e]; rfl, HBW.out⟩
set_option maxRecDepth 100000 in
set_option maxHeartbeats 4000000 in
theorem everyPart (t : Tr) (h : TH) (w : World) (ht : InTree w h t) : Calls Tryd.prog 34 #[h.v, .func (.func 60) #[] #[]] w (Says w (.bool (allT partB t))) := by
  have hmf : ∀ (fn : Fn) (first cap : Array Value) (w : World), (Instr.makeFunc fn first cap).run Tryd.prog w = .ok (.func fn first cap) w := fun _ _ _ _ => rfl
  unfold TH.v
  have HTT := Lib.hid ht
  clear ht
  go_enter Tryd.func34, Tryd.ntmps34
  have hbw1 : Below w.heap.size w (w.alloc (.cells #[.int .i64 h.k, .slice h.ka h.kn h.kc, .slice h.va h.vn h.vc, .slice h.da h.dn h.dc, .slice h.ta h.tn h.tc] 25)) := (Below.refl _ _).alloc (Nat.le_refl _) _
  have hbx1 := Box.new w 25 h
  have e1 : (w.alloc (.cells #[.int .i64 h.k, .slice h.ka h.kn h.kc, .slice h.va h.vn h.vc, .slice h.da h.dn h.dc, .slice h.ta h.tn h.tc] 25)).heap.size = w.heap.size + 1 := by simp
  have hbw2 : Below w.heap.size w ((w.alloc (.cells #[.int .i64 h.k, .slice h.ka h.kn h.kc, .slice h.va h.vn h.vc, .slice h.da h.dn h.dc, .slice h.ta h.tn h.tc] 25)).alloc (.cells #[.func (.func 60) #[] #[]] 36)) := hbw1.alloc (by rw [e1]; omega) _
  have hbx2 := hbx1.below ((Below.refl _ _).alloc (Nat.le_refl _) (.cells #[.func (.func 60) #[] #[]] 36)) hbx1.lt
  have hpv2 := Var1.new (w.alloc (.cells #[.int .i64 h.k, .slice h.ka h.kn h.kc, .slice h.va h.vn h.vc, .slice h.da h.dn h.dc, .slice h.ta h.tn h.tc] 25)) 36 (.func (.func 60) #[] #[])
  have e2 : ((w.alloc (.cells #[.int .i64 h.k, .slice h.ka h.kn h.kc, .slice h.va h.vn h.vc, .slice h.da h.dn h.dc, .slice h.ta h.tn h.tc] 25)).alloc (.cells #[.func (.func 60) #[] #[]] 36)).heap.size = w.heap.size + 2 := by simp
  have hbw3 : Below w.heap.size w (((w.alloc (.cells #[.int .i64 h.k, .slice h.ka h.kn h.kc, .slice h.va h.vn h.vc, .slice h.da h.dn h.dc, .slice h.ta h.tn h.tc] 25)).alloc (.cells #[.func (.func 60) #[] #[]] 36)).alloc (.cells #[.nilFunc] 36)) := hbw2.alloc (by rw [e2]; omega) _
  have hbx3 := hbx2.below ((Below.refl _ _).alloc (Nat.le_refl _) (.cells #[.nilFunc] 36)) hbx2.lt
  have hpv3 := hpv2.below ((Below.refl _ _).alloc (Nat.le_refl _) (.cells #[.nilFunc] 36)) hpv2.lt
  have hnf := Var1.new ((w.alloc (.cells #[.int .i64 h.k, .slice h.ka h.kn h.kc, .slice h.va h.vn h.vc, .slice h.da h.dn h.dc, .slice h.ta h.tn h.tc] 25)).alloc (.cells #[.func (.func 60) #[] #[]] 36)) 36 .nilFunc
  rw [e2] at hnf
  rw [e1] at hpv3
  clear hbw1 hbx1 e1 hbw2 hbx2 hpv2 e2
  go_upto_region 2 with fail
  generalize (((w.alloc (.cells #[.int .i64 h.k, .slice h.ka h.kn h.kc, .slice h.va h.vn h.vc, .slice h.da h.dn h.dc, .slice h.ta h.tn h.tc] 25)).alloc (.cells #[.func (.func 60) #[] #[]] 36)).alloc (.cells #[.nilFunc] 36)) = w2 at *
  have c0 := hnf.cell
  have c1 := hnf.frozen 0
  have hn4 := hnf.set (.func (.func 61) #[] #[.pointer (some ⟨w.heap.size + 1, 0, none⟩), .pointer (some ⟨w.heap.size + 2, 0, none⟩)])
  have hbx4 : Box (w2.setCell ⟨w.heap.size + 2, 0, none⟩ (.func (.func 61) #[] #[.pointer (some ⟨w.heap.size + 1, 0, none⟩), .pointer (some ⟨w.heap.size + 2, 0, none⟩)])) 25 w.heap.size h := (Below.heap_setCell w2 ⟨w.heap.size + 2, 0, none⟩ _ w.heap.size (by simp)).trans hbx3
  have hpv4 := hpv3.far (p := ⟨w.heap.size + 2, 0, none⟩) (by simp) (.func (.func 61) #[] #[.pointer (some ⟨w.heap.size + 1, 0, none⟩), .pointer (some ⟨w.heap.size + 2, 0, none⟩)])
  have hb4 : Below w.heap.size w (w2.setCell ⟨w.heap.size + 2, 0, none⟩ (.func (.func 61) #[] #[.pointer (some ⟨w.heap.size + 1, 0, none⟩), .pointer (some ⟨w.heap.size + 2, 0, none⟩)])) := hbw3.setCell (by simp) _
  clear hnf hbx3 hpv3 hbw3
  go_upto_region 3 with fail
  generalize (w2.setCell ⟨w.heap.size + 2, 0, none⟩ (.func (.func 61) #[] #[.pointer (some ⟨w.heap.size + 1, 0, none⟩), .pointer (some ⟨w.heap.size + 2, 0, none⟩)])) = w3 at *
  obtain ⟨x0, x1, x2, x3, x4⟩ := hbx4.cells
  have c2 := hn4.cell
  have HN := Lib.hid hn4
  have HPV := Lib.hid hpv4
  have HB3 := Lib.hid hb4
  skip
  clear c0 c1 hbx4 hb4 hpv4 hn4
  go_wp2_with (first
    | (go_at_call 61
       refine (everyPartC t h _ (w.heap.size + 1) (w.heap.size + 2) (HTT.out.lower HB3.out) HPV.out HN.out).mono ?_
       rintro _ w4 ⟨rfl, hb4⟩
       have HB4 : Hid (Below w.heap.size w w4) := Lib.hid (HB3.out.trans (hb4.mono HB3.out.size))
       clear hb4))
  go_ret
  exact ⟨rfl, HB4.out⟩

set_option maxRecDepth 100000 in
set_option maxHeartbeats 4000000 in
theorem everyToldC : ∀ (t : Tr) (h : TH) (w : World) (gp ga : Nat), InTree w h t → Var1 w 36 gp (.func (.func 33) #[] #[]) → Var1 w 36 ga (.func (.func 61) #[] #[.pointer (some ⟨gp, 0, none⟩), .pointer (some ⟨ga, 0, none⟩)]) →
    Calls Tryd.prog 61 #[h.v, .pointer (some ⟨gp, 0, none⟩), .pointer (some ⟨ga, 0, none⟩)] w (Says w (.bool (allT toldK t))) := by
  intro t
  induction t using Tr.ind with
  | h t ih =>
  intro h w gp ga ht hpv hcl
  unfold TH.v
  obtain ⟨H, hp⟩ := ht.parts
  have htl := hp.len
  have htc := hp.sl.le
  have htm := Nat.le_trans hp.sl.le hp.sl.max
  simp only [maxLen] at htm
  have HP := Lib.hid hp
  have HTT := Lib.hid ht
  have IH := Lib.hid ih
  have hbox := Box.new w 25 h
  have HX := Lib.hid hbox
  obtain ⟨x0, x1, x2, x3, x4⟩ := hbox.cells
  have hw1 : Below w.heap.size w (w.alloc (.cells #[.int .i64 h.k, .slice h.ka h.kn h.kc, .slice h.va h.vn h.vc, .slice h.da h.dn h.dc, .slice h.ta h.tn h.tc] 25)) := (Below.refl _ _).alloc (Nat.le_refl _) _
  have HB := Lib.hid hw1
  have hpv1 := hpv.below hw1 hpv.lt
  have HCL1 := Lib.hid (hcl.below hw1 hcl.lt)
  have HPV1 := Lib.hid hpv1
  have xp := hpv1.cell
  skip
  clear hp ht ih hcl hpv hpv1 hw1 hbox
  go_enter Tryd.func61, Tryd.ntmps61
  go_upto_if 10 with (first
    | (go_at_call 33
       refine (isTold_any t h _ (HTT.out.lower HB.out)).mono ?_
       rintro _ w1 ⟨rfl, hb1⟩
       have HB1 : Hid (Below w.heap.size w w1) := Lib.hid (HB.out.trans (hb1.mono HB.out.size))
       have HX1 := Lib.hid (HX.out.below hb1 HX.out.lt)
       have HCL2 := Lib.hid (HCL1.out.below hb1 HCL1.out.lt)
       have HPV2 := Lib.hid (HPV1.out.below hb1 HPV1.out.lt)
       skip
       generalize hr : toldK t = r
       have HR := Lib.hid hr
       clear hb1 hr))
  clear x0 x1 x2 x3 x4 xp HX HB HCL1 HPV1
  cases r
  · go_wp2_with fail
    go_ret
    have e : allT toldK t = false := by rw [allT_eq, HR.out]; rfl
    exact ⟨by rw [e]; rfl, HB1.out⟩
  simp only [Bool.not_true]
  have x4 := HX1.out.cells.2.2.2.2
  go_wp2_with fail
  clear x4 HX1
  go_loopw [14] (fun s14 wx => ∃ i : Nat, i ≤ h.tn ∧ s14 = .int .i64 i ∧ Var1 wx 36 gp (.func (.func 33) #[] #[]) ∧ Var1 wx 36 ga (.func (.func 61) #[] #[.pointer (some ⟨gp, 0, none⟩), .pointer (some ⟨ga, 0, none⟩)]) ∧ Below w.heap.size w wx ∧ (t.kids.take i).all (allT toldK) = true) (fun s14 _ => h.tn - (intOf s14).toNat)
  case atStart => exact ⟨0, by omega, rfl, HPV2.out, HCL2.out, HB1.out, by simp⟩
  case round =>
    clear HCL2 HB1 HPV2
    obtain ⟨i, hi, rfl, hpv, hcl, hbw, hall⟩ := hrel
    have hcc := hcl.cell
    have HC := Lib.hid hcl
    have HV := Lib.hid hpv
    have HBW := Lib.hid hbw
    have HA := Lib.hid hall
    skip
    clear hcl hbw hall hpv
    by_cases hlt : i < h.tn
    · have q1 : (i : Int) < (h.tn : Int) := by omega
      obtain ⟨g, off, hta, hg, hcs⟩ := (HP.out.below HBW.out).place (by omega)
      obtain ⟨k0, k1, k2, k3, k4⟩ := hcs i hlt
      have him : i < t.kids.length := by omega
      clear hcs
      rw [hta]
      go_upto_region 6 with fail
      have b2 : Below wr.heap.size wr (wr.alloc (.cells #[.int .i64 (H i).k, .slice (H i).ka (H i).kn (H i).kc, .slice (H i).va (H i).vn (H i).vc, .slice (H i).da (H i).dn (H i).dc, .slice (H i).ta (H i).tn (H i).tc] 25)) := (Below.refl _ _).alloc (Nat.le_refl _) _
      have bx := Box.new wr 25 (H i)
      generalize (wr.alloc (.cells #[.int .i64 (H i).k, .slice (H i).ka (H i).kn (H i).kc, .slice (H i).va (H i).vn (H i).vc, .slice (H i).da (H i).dn (H i).dc, .slice (H i).ta (H i).tn (H i).tc] 25)) = w2 at *
      have HB2 : Hid (Below w.heap.size w w2) := Lib.hid (HBW.out.trans (b2.mono HBW.out.size))
      have HC2 := Lib.hid (HC.out.below b2 HC.out.lt)
      have HV2 := Lib.hid (HV.out.below b2 HV.out.lt)
      skip
      have hc2 := HC2.out.cell
      obtain ⟨y0, y1, y2, y3, y4⟩ := bx.cells
      clear b2 bx k0 k1 k2 k3 k4 hcc
      go_upto_if 21 with (first
        | (go_at_call 61
           refine (IH.out _ (List.getElem_mem him) (H i) _ gp ga ((HP.out.below HB2.out).kids i him) HV2.out HC2.out).mono ?_
           rintro _ w3 ⟨rfl, hb3⟩
           have HB3 : Hid (Below w.heap.size w w3) := Lib.hid (HB2.out.trans (hb3.mono HB2.out.size))
           have HC3 := Lib.hid (HC2.out.below hb3 HC2.out.lt)
           have HV3 := Lib.hid (HV2.out.below hb3 HV2.out.lt)
           skip
           generalize hr : allT toldK t.kids[i] = q
           have HQ := Lib.hid hr
           clear hb3 hr))
      clear y0 y1 y2 y3 y4 hc2
      cases q
      · go_wp2_with fail
        go_ret
        have e : allT toldK t = false := by rw [allT_eq, all_not i him HQ.out, Bool.and_false]
        exact ⟨by rw [e]; rfl, HB3.out⟩
      · clear hta
        go_wp2_with fail
        exact ⟨⟨i + 1, by omega, by go_num, HV3.out, HC3.out, HB3.out, by rw [all_take _ _ i him, HA.out, HQ.out]; rfl⟩, by simp [intOf]; omega⟩
    · obtain rfl : i = h.tn := by omega
      have q1 : ¬ (h.tn : Int) < (h.tn : Int) := by omega
      go_wp2_with fail
      go_ret
      have hA := HA.out
      rw [List.take_of_length_le (by omega)] at hA
      have e : allT toldK t = true := by rw [allT_eq, HR.out, hA]; rfl
      exact ⟨by rw [e]; rfl, HBW.out⟩
set_option maxRecDepth 100000 in
set_option maxHeartbeats 4000000 in
theorem everyTold (t : Tr) (h : TH) (w : World) (ht : InTree w h t) : Calls Tryd.prog 34 #[h.v, .func (.func 33) #[] #[]] w (Says w (.bool (allT toldK t))) := by
  have hmf : ∀ (fn : Fn) (first cap : Array Value) (w : World), (Instr.makeFunc fn first cap).run Tryd.prog w = .ok (.func fn first cap) w := fun _ _ _ _ => rfl
  unfold TH.v
  have HTT := Lib.hid ht
  clear ht
  go_enter Tryd.func34, Tryd.ntmps34
  have hbw1 : Below w.heap.size w (w.alloc (.cells #[.int .i64 h.k, .slice h.ka h.kn h.kc, .slice h.va h.vn h.vc, .slice h.da h.dn h.dc, .slice h.ta h.tn h.tc] 25)) := (Below.refl _ _).alloc (Nat.le_refl _) _
  have hbx1 := Box.new w 25 h
  have e1 : (w.alloc (.cells #[.int .i64 h.k, .slice h.ka h.kn h.kc, .slice h.va h.vn h.vc, .slice h.da h.dn h.dc, .slice h.ta h.tn h.tc] 25)).heap.size = w.heap.size + 1 := by simp
  have hbw2 : Below w.heap.size w ((w.alloc (.cells #[.int .i64 h.k, .slice h.ka h.kn h.kc, .slice h.va h.vn h.vc, .slice h.da h.dn h.dc, .slice h.ta h.tn h.tc] 25)).alloc (.cells #[.func (.func 33) #[] #[]] 36)) := hbw1.alloc (by rw [e1]; omega) _
  have hbx2 := hbx1.below ((Below.refl _ _).alloc (Nat.le_refl _) (.cells #[.func (.func 33) #[] #[]] 36)) hbx1.lt
  have hpv2 := Var1.new (w.alloc (.cells #[.int .i64 h.k, .slice h.ka h.kn h.kc, .slice h.va h.vn h.vc, .slice h.da h.dn h.dc, .slice h.ta h.tn h.tc] 25)) 36 (.func (.func 33) #[] #[])
  have e2 : ((w.alloc (.cells #[.int .i64 h.k, .slice h.ka h.kn h.kc, .slice h.va h.vn h.vc, .slice h.da h.dn h.dc, .slice h.ta h.tn h.tc] 25)).alloc (.cells #[.func (.func 33) #[] #[]] 36)).heap.size = w.heap.size + 2 := by simp
  have hbw3 : Below w.heap.size w (((w.alloc (.cells #[.int .i64 h.k, .slice h.ka h.kn h.kc, .slice h.va h.vn h.vc, .slice h.da h.dn h.dc, .slice h.ta h.tn h.tc] 25)).alloc (.cells #[.func (.func 33) #[] #[]] 36)).alloc (.cells #[.nilFunc] 36)) := hbw2.alloc (by rw [e2]; omega) _
  have hbx3 := hbx2.below ((Below.refl _ _).alloc (Nat.le_refl _) (.cells #[.nilFunc] 36)) hbx2.lt
  have hpv3 := hpv2.below ((Below.refl _ _).alloc (Nat.le_refl _) (.cells #[.nilFunc] 36)) hpv2.lt
  have hnf := Var1.new ((w.alloc (.cells #[.int .i64 h.k, .slice h.ka h.kn h.kc, .slice h.va h.vn h.vc, .slice h.da h.dn h.dc, .slice h.ta h.tn h.tc] 25)).alloc (.cells #[.func (.func 33) #[] #[]] 36)) 36 .nilFunc
  rw [e2] at hnf
  rw [e1] at hpv3
  clear hbw1 hbx1 e1 hbw2 hbx2 hpv2 e2
  go_upto_region 2 with fail
  generalize (((w.alloc (.cells #[.int .i64 h.k, .slice h.ka h.kn h.kc, .slice h.va h.vn h.vc, .slice h.da h.dn h.dc, .slice h.ta h.tn h.tc] 25)).alloc (.cells #[.func (.func 33) #[] #[]] 36)).alloc (.cells #[.nilFunc] 36)) = w2 at *
  have c0 := hnf.cell
  have c1 := hnf.frozen 0
  have hn4 := hnf.set (.func (.func 61) #[] #[.pointer (some ⟨w.heap.size + 1, 0, none⟩), .pointer (some ⟨w.heap.size + 2, 0, none⟩)])
  have hbx4 : Box (w2.setCell ⟨w.heap.size + 2, 0, none⟩ (.func (.func 61) #[] #[.pointer (some ⟨w.heap.size + 1, 0, none⟩), .pointer (some ⟨w.heap.size + 2, 0, none⟩)])) 25 w.heap.size h := (Below.heap_setCell w2 ⟨w.heap.size + 2, 0, none⟩ _ w.heap.size (by simp)).trans hbx3
  have hpv4 := hpv3.far (p := ⟨w.heap.size + 2, 0, none⟩) (by simp) (.func (.func 61) #[] #[.pointer (some ⟨w.heap.size + 1, 0, none⟩), .pointer (some ⟨w.heap.size + 2, 0, none⟩)])
  have hb4 : Below w.heap.size w (w2.setCell ⟨w.heap.size + 2, 0, none⟩ (.func (.func 61) #[] #[.pointer (some ⟨w.heap.size + 1, 0, none⟩), .pointer (some ⟨w.heap.size + 2, 0, none⟩)])) := hbw3.setCell (by simp) _
  clear hnf hbx3 hpv3 hbw3
  go_upto_region 3 with fail
  generalize (w2.setCell ⟨w.heap.size + 2, 0, none⟩ (.func (.func 61) #[] #[.pointer (some ⟨w.heap.size + 1, 0, none⟩), .pointer (some ⟨w.heap.size + 2, 0, none⟩)])) = w3 at *
  obtain ⟨x0, x1, x2, x3, x4⟩ := hbx4.cells
  have c2 := hn4.cell
  have HN := Lib.hid hn4
  have HPV := Lib.hid hpv4
  have HB3 := Lib.hid hb4
  skip
  clear c0 c1 hbx4 hb4 hpv4 hn4
  go_wp2_with (first
    | (go_at_call 61
       refine (everyToldC t h _ (w.heap.size + 1) (w.heap.size + 2) (HTT.out.lower HB3.out) HPV.out HN.out).mono ?_
       rintro _ w4 ⟨rfl, hb4⟩
       have HB4 : Hid (Below w.heap.size w w4) := Lib.hid (HB3.out.trans (hb4.mono HB3.out.size))
       clear hb4))
  go_ret
  exact ⟨rfl, HB4.out⟩
end Go.Proofs.YtkfjhegehhahcaaDoor

/- In a region that draws its order: what may be taken first. No program is named here. -/
namespace Go.Proofs.YtkfjhegehhahcaaDoor
open Go.RowKit
set_option linter.unusedVariables false

section
variable {P : Program} {md : Region.Mode} {ops : Array Oper} {Q : Exit → Act → World → Prop} {S : World → Prop}
/-- In a region that draws its order: an operation that yields v in every world that meets S is taken first. -/
theorem take_w {i : Nat} {oi : Oper} {v : Value} {fuel : Nat} {listed : Array Bool} {a : Act} {w : World} (hi : ops[i]? = some oi)
    (hs : Region.noSelect ops = true) (hf : Region.free md ops listed i = true) (hr : (Region.ready md ops listed).contains i = true)
    (hQ : ∀ c a w, Q (.panic c) (a.put oi.dst v) w → Q (.panic c) a w) (hw : Region.wanted oi (yielded ops a.tmps) = true) (hy : ∀ w, S w → (execOp a.eval oi).run P w = .ok (.value v) w) (hS : S w)
    (h : wpAnyH P md ops Q S fuel (listed.setIfInBounds i true) (a.put oi.dst v) w) : wpAnyH P md ops Q S (fuel + 1) listed a w :=
  wpAnyH_take hi hs hf hr hQ (.inl ⟨hw, hy⟩) hS h
/-- One whose guard is false. -/
theorem take_u {i : Nat} {oi : Oper} {fuel : Nat} {listed : Array Bool} {a : Act} {w : World} (hi : ops[i]? = some oi)
    (hs : Region.noSelect ops = true) (hf : Region.free md ops listed i = true) (hr : (Region.ready md ops listed).contains i = true)
    (hQ : ∀ c a w, Q (.panic c) (a.put oi.dst undef) w → Q (.panic c) a w) (hw : Region.wanted oi (yielded ops a.tmps) = false) (hS : S w)
    (h : wpAnyH P md ops Q S fuel (listed.setIfInBounds i true) (a.put oi.dst undef) w) : wpAnyH P md ops Q S (fuel + 1) listed a w :=
  wpAnyH_take hi hs hf hr hQ (.inr ⟨hw, rfl⟩) hS h
end
end Go.Proofs.YtkfjhegehhahcaaDoor

/- The contracts of the program's Check and Full. -/
namespace Go.Proofs.YtkfjhegehhahcaaDoor
open Go.RowKit
set_option linter.unusedVariables false
theorem check_cases (t : Tr) : checkT t = if deepT t 64 then 5 else if formedT t then 0 else 3 := rfl

set_option maxRecDepth 100000 in
set_option maxHeartbeats 4000000 in
theorem check_any (t : Tr) (h : TH) (w : World) (ht : InTree w h t) : Calls Tryd.prog 31 #[h.v] w (Says w (codeV (checkT t))) := by
  unfold TH.v
  have hbox := Box.new w 25 h
  have HX := Lib.hid hbox
  have HT := Lib.hid ht
  obtain ⟨x0, x1, x2, x3, x4⟩ := hbox.cells
  clear hbox ht
  go_enter Tryd.func31, Tryd.ntmps31
  go_upto_if 4 with (first
    | (go_at_call 59
       refine (tooDeep_any t h _ ?_).mono ?_
       · exact HT.out.lower ((Below.refl _ _).alloc (Nat.le_refl _) _)
       rintro _ w1 ⟨rfl, hb1⟩
       have HB1 : Hid (Below w.heap.size w w1) := Lib.hid (((Below.refl w.heap.size w).alloc (Nat.le_refl _) _).trans (hb1.mono (by simp)))
       obtain ⟨y0, y1, y2, y3, y4⟩ := (HX.out.below hb1 HX.out.lt).cells
       generalize hr : deepT t 64 = r
       have HR := Lib.hid hr
       clear hb1 hr x0 x1 x2 x3 x4))
  cases r
  · go_upto_if 8 with (first
      | (go_at_call 34
         refine (everyPart t h _ ?_).mono ?_
         · exact HT.out.lower HB1.out
         rintro _ w2 ⟨rfl, hb2⟩
         have HB2 : Hid (Below w.heap.size w w2) := Lib.hid (HB1.out.trans (hb2.mono HB1.out.size))
         rw [allT_part]
         generalize hq : formedT t = q
         have HQ := Lib.hid hq
         clear hb2 hq y0 y1 y2 y3 y4))
    cases q
    · go_wp2_with fail
      go_ret
      have e : checkT t = 3 := by unfold checkT; rw [HR.out, HQ.out]; rfl
      exact ⟨by rw [e]; rfl, HB2.out⟩
    · simp only [Bool.not_true]
      go_wp2_with fail
      go_ret
      have e : checkT t = 0 := by unfold checkT; rw [HR.out, HQ.out]; rfl
      exact ⟨by rw [e]; rfl, HB2.out⟩
  · go_wp2_with fail
    go_ret
    have e : checkT t = 5 := by unfold checkT; rw [HR.out]; rfl
    exact ⟨by rw [e]; rfl, HB1.out⟩
theorem check_zero {t : Tr} (h : checkT t = 0) : formedT t = true ∧ deepT t 64 = false := by
  unfold checkT at h
  split at h
  · cases h
  · split at h
    · exact ⟨by assumption, by rename_i q _; simpa using q⟩
    · cases h
theorem codeV_pos {k : Nat} (h : k ≠ 0) : codeV k = .iface 34 (.int .i64 k) := by
  unfold codeV
  rw [if_neg h]

set_option maxRecDepth 100000 in
set_option maxHeartbeats 4000000 in
theorem full_any (t : Tr) (h : TH) (w : World) (ht : InTree w h t) : Calls Tryd.prog 43 #[h.v] w (Says w (.bool (decide (checkT t = 0) && fullT t))) := by
  unfold TH.v
  have hbox := Box.new w 25 h
  have HX := Lib.hid hbox
  have HT := Lib.hid ht
  obtain ⟨x0, x1, x2, x3, x4⟩ := hbox.cells
  clear hbox ht
  go_enter Tryd.func43, Tryd.ntmps43
  by_cases hc : checkT t = 0
  · have HCZ := Lib.hid hc
    clear hc
    go_wp2_with (first
      | (go_at_call 31
         refine (check_any t h _ ?_).mono ?_
         · exact HT.out.lower ((Below.refl _ _).alloc (Nat.le_refl _) _)
         rintro _ w1 ⟨rfl, hb1⟩
         have HB1 : Hid (Below w.heap.size w w1) := Lib.hid (((Below.refl w.heap.size w).alloc (Nat.le_refl _) _).trans (hb1.mono (by simp)))
         obtain ⟨y0, y1, y2, y3, y4⟩ := (HX.out.below hb1 HX.out.lt).cells
         have hcv : codeV (checkT t) = .nilIface := by rw [HCZ.out]; rfl
         rw [hcv]
         clear hcv
         clear hb1 x0 x1 x2 x3 x4)
      | (go_at_call 34
         refine (everyTold t h _ ?_).mono ?_
         · exact HT.out.lower HB1.out
         rintro _ w2 ⟨rfl, hb2⟩
         have HB2 : Hid (Below w.heap.size w w2) := Lib.hid (HB1.out.trans (hb2.mono HB1.out.size))
         rw [allT_told t (check_zero HCZ.out).1]
         clear hb2 y0 y1 y2 y3 y4))
    go_ret
    refine ⟨?_, HB2.out⟩
    rw [HCZ.out]
    rfl
  · have HCZ := Lib.hid hc
    clear hc
    go_wp2_with (first
      | (go_at_call 31
         refine (check_any t h _ ?_).mono ?_
         · exact HT.out.lower ((Below.refl _ _).alloc (Nat.le_refl _) _)
         rintro _ w1 ⟨rfl, hb1⟩
         have HB1 : Hid (Below w.heap.size w w1) := Lib.hid (((Below.refl w.heap.size w).alloc (Nat.le_refl _) _).trans (hb1.mono (by simp)))
         rw [codeV_pos HCZ.out]
         clear hb1 x0 x1 x2 x3 x4))
    go_ret
    refine ⟨?_, HB1.out⟩
    rw [decide_eq_false HCZ.out]
    rfl
end Go.Proofs.YtkfjhegehhahcaaDoor

/- What stands in memory inside a closure over a tree. -/
namespace Go.Proofs.YtkfjhegehhahcaaDoor
open Go.RowKit
set_option linter.unusedVariables false
/-- What the world is like inside a closure: its own box of a tree, the closure's variable. -/
structure KW (ty : TypeId) (v : Value) (gc : Nat) (w W : World) (h : TH) : Prop where
  box : Box W 25 w.heap.size h
  clo : Var1 W ty gc v
  b : Below w.heap.size w W
theorem KW.below {ty : TypeId} {v : Value} {gc : Nat} {w W W' : World} {h : TH} (d : KW ty v gc w W h) (hb : Below W.heap.size W W') : KW ty v gc w W' h := ⟨d.box.below hb d.box.lt, d.clo.below hb d.clo.lt, d.b.trans (hb.mono d.b.size)⟩
theorem KW.drew {ty : TypeId} {v : Value} {gc : Nat} {w W : World} {h : TH} (d : KW ty v gc w W h) : KW ty v gc w W.drew h := d.below (Below.refl _ _).drew
theorem KW.new {ty : TypeId} {v : Value} {gc : Nat} (w : World) (h : TH) (hv : Var1 w ty gc v) : KW ty v gc w (w.alloc (.cells #[.int .i64 h.k, .slice h.ka h.kn h.kc, .slice h.va h.vn h.vc, .slice h.da h.dn h.dc, .slice h.ta h.tn h.tc] 25)) h :=
  ⟨Box.new w _ h, hv.below ((Below.refl _ _).alloc (Nat.le_refl _) _) hv.lt, (Below.refl _ _).alloc (Nat.le_refl _) _⟩
end Go.Proofs.YtkfjhegehhahcaaDoor

/- The contracts of the program's look at the widths of a tree's digests. -/
namespace Go.Proofs.YtkfjhegehhahcaaDoor
open Go.RowKit
set_option linter.unusedVariables false

set_option maxRecDepth 100000 in
set_option maxHeartbeats 4000000 in
theorem fits_any (k : Nat) (t : Tr) (h : TH) (w : World) (gw : Nat) (ht : InTree w h t) (hv : Var1 w 3 gw (.int .i64 k)) : Calls Tryd.prog 32 #[h.v, .pointer (some ⟨gw, 0, none⟩)] w (Says w (.bool (fitsK k t))) := by
  unfold TH.v
  obtain ⟨H, hp⟩ := ht.parts
  have HDL := Lib.hid hp.dig.len
  have HTT := Lib.hid ht
  clear hp ht
  have hbox := Box.new w 25 h
  have HX := Lib.hid hbox
  obtain ⟨x0, x1, x2, x3, x4⟩ := hbox.cells
  clear hbox
  have hw1 : Below w.heap.size w (w.alloc (.cells #[.int .i64 h.k, .slice h.ka h.kn h.kc, .slice h.va h.vn h.vc, .slice h.da h.dn h.dc, .slice h.ta h.tn h.tc] 25)) := (Below.refl _ _).alloc (Nat.le_refl _) _
  have HV1 := Lib.hid (hv.below hw1 hv.lt)
  have HB := Lib.hid hw1
  clear hw1 hv
  go_enter Tryd.func32, Tryd.ntmps32
  cases hr : toldK t
  all_goals
    have HR := Lib.hid hr
    clear hr
    go_wp2_with (first
      | (go_at_call 33
         refine (isTold_any t h _ (HTT.out.lower HB.out)).mono ?_
         rintro _ w1 ⟨rfl, hb1⟩
         rw [HR.out]
         have HB1 : Hid (Below w.heap.size w w1) := Lib.hid (HB.out.trans (hb1.mono HB.out.size))
         have hx1 := HX.out.below hb1 HX.out.lt
         obtain ⟨y0, y1, y2, y3, y4⟩ := hx1.cells
         have yv := (HV1.out.below hb1 HV1.out.lt).cell
         clear hb1 hx1 x0 x1 x2 x3 x4))
    go_ret
    refine ⟨?_, HB1.out⟩
    unfold fitsK
    rw [HR.out]
  · have e : decide (t.dig.length = k) = ((h.dn : Int) == (k : Int)) := by rw [HDL.out, Bool.eq_iff_iff]; simp; omega
    rw [e]
    rfl
  · rfl

set_option maxRecDepth 100000 in
set_option maxHeartbeats 4000000 in
theorem everyFitsC (k : Nat) (gw : Nat) : ∀ (t : Tr) (h : TH) (w : World) (gp ga : Nat), InTree w h t → Var1 w 3 gw (.int .i64 k) → Var1 w 36 gp (.func (.func 32) #[] #[.pointer (some ⟨gw, 0, none⟩)]) → Var1 w 36 ga (.func (.func 61) #[] #[.pointer (some ⟨gp, 0, none⟩), .pointer (some ⟨ga, 0, none⟩)]) →
    Calls Tryd.prog 61 #[h.v, .pointer (some ⟨gp, 0, none⟩), .pointer (some ⟨ga, 0, none⟩)] w (Says w (.bool (allT (fitsK k) t))) := by
  intro t
  induction t using Tr.ind with
  | h t ih =>
  intro h w gp ga ht hR hpv hcl
  unfold TH.v
  obtain ⟨H, hp⟩ := ht.parts
  have htl := hp.len
  have htc := hp.sl.le
  have htm := Nat.le_trans hp.sl.le hp.sl.max
  simp only [maxLen] at htm
  have HP := Lib.hid hp
  have HTT := Lib.hid ht
  have IH := Lib.hid ih
  have hbox := Box.new w 25 h
  have HX := Lib.hid hbox
  obtain ⟨x0, x1, x2, x3, x4⟩ := hbox.cells
  have hw1 : Below w.heap.size w (w.alloc (.cells #[.int .i64 h.k, .slice h.ka h.kn h.kc, .slice h.va h.vn h.vc, .slice h.da h.dn h.dc, .slice h.ta h.tn h.tc] 25)) := (Below.refl _ _).alloc (Nat.le_refl _) _
  have HB := Lib.hid hw1
  have hpv1 := hpv.below hw1 hpv.lt
  have HCL1 := Lib.hid (hcl.below hw1 hcl.lt)
  have HPV1 := Lib.hid hpv1
  have xp := hpv1.cell
  have HR1 := Lib.hid (hR.below hw1 hR.lt)
  clear hp ht ih hcl hpv hpv1 hw1 hbox hR
  go_enter Tryd.func61, Tryd.ntmps61
  go_upto_if 10 with (first
    | (go_at_call 32
       refine (fits_any k t h _ gw (HTT.out.lower HB.out) HR1.out).mono ?_
       rintro _ w1 ⟨rfl, hb1⟩
       have HB1 : Hid (Below w.heap.size w w1) := Lib.hid (HB.out.trans (hb1.mono HB.out.size))
       have HX1 := Lib.hid (HX.out.below hb1 HX.out.lt)
       have HCL2 := Lib.hid (HCL1.out.below hb1 HCL1.out.lt)
       have HPV2 := Lib.hid (HPV1.out.below hb1 HPV1.out.lt)
       have HR2 := Lib.hid (HR1.out.below hb1 HR1.out.lt)
       generalize hr : (fitsK k) t = r
       have HR := Lib.hid hr
       clear hb1 hr))
  clear x0 x1 x2 x3 x4 xp HX HB HCL1 HPV1 HR1
  cases r
  · go_wp2_with fail
    go_ret
    have e : allT (fitsK k) t = false := by rw [allT_eq, HR.out]; rfl
    exact ⟨by rw [e]; rfl, HB1.out⟩
  simp only [Bool.not_true]
  have x4 := HX1.out.cells.2.2.2.2
  go_wp2_with fail
  clear x4 HX1
  go_loopw [14] (fun s14 wx => ∃ i : Nat, i ≤ h.tn ∧ s14 = .int .i64 i ∧ Var1 wx 3 gw (.int .i64 k) ∧ Var1 wx 36 gp (.func (.func 32) #[] #[.pointer (some ⟨gw, 0, none⟩)]) ∧ Var1 wx 36 ga (.func (.func 61) #[] #[.pointer (some ⟨gp, 0, none⟩), .pointer (some ⟨ga, 0, none⟩)]) ∧ Below w.heap.size w wx ∧ (t.kids.take i).all (allT (fitsK k)) = true) (fun s14 _ => h.tn - (intOf s14).toNat)
  case atStart => exact ⟨0, by omega, rfl, HR2.out, HPV2.out, HCL2.out, HB1.out, by simp⟩
  case round =>
    clear HCL2 HB1 HPV2 HR2
    obtain ⟨i, hi, rfl, hR, hpv, hcl, hbw, hall⟩ := hrel
    have hcc := hcl.cell
    have HC := Lib.hid hcl
    have HV := Lib.hid hpv
    have HBW := Lib.hid hbw
    have HA := Lib.hid hall
    have HRR := Lib.hid hR
    clear hcl hbw hall hpv hR
    by_cases hlt : i < h.tn
    · have q1 : (i : Int) < (h.tn : Int) := by omega
      obtain ⟨g, off, hta, hg, hcs⟩ := (HP.out.below HBW.out).place (by omega)
      obtain ⟨k0, k1, k2, k3, k4⟩ := hcs i hlt
      have him : i < t.kids.length := by omega
      clear hcs
      rw [hta]
      go_upto_region 6 with fail
      have b2 : Below wr.heap.size wr (wr.alloc (.cells #[.int .i64 (H i).k, .slice (H i).ka (H i).kn (H i).kc, .slice (H i).va (H i).vn (H i).vc, .slice (H i).da (H i).dn (H i).dc, .slice (H i).ta (H i).tn (H i).tc] 25)) := (Below.refl _ _).alloc (Nat.le_refl _) _
      have bx := Box.new wr 25 (H i)
      generalize (wr.alloc (.cells #[.int .i64 (H i).k, .slice (H i).ka (H i).kn (H i).kc, .slice (H i).va (H i).vn (H i).vc, .slice (H i).da (H i).dn (H i).dc, .slice (H i).ta (H i).tn (H i).tc] 25)) = w2 at *
      have HB2 : Hid (Below w.heap.size w w2) := Lib.hid (HBW.out.trans (b2.mono HBW.out.size))
      have HC2 := Lib.hid (HC.out.below b2 HC.out.lt)
      have HV2 := Lib.hid (HV.out.below b2 HV.out.lt)
      have HRR2 := Lib.hid (HRR.out.below b2 HRR.out.lt)
      have hc2 := HC2.out.cell
      obtain ⟨y0, y1, y2, y3, y4⟩ := bx.cells
      clear b2 bx k0 k1 k2 k3 k4 hcc
      go_upto_if 21 with (first
        | (go_at_call 61
           refine (IH.out _ (List.getElem_mem him) (H i) _ gp ga ((HP.out.below HB2.out).kids i him) HRR2.out HV2.out HC2.out).mono ?_
           rintro _ w3 ⟨rfl, hb3⟩
           have HB3 : Hid (Below w.heap.size w w3) := Lib.hid (HB2.out.trans (hb3.mono HB2.out.size))
           have HC3 := Lib.hid (HC2.out.below hb3 HC2.out.lt)
           have HV3 := Lib.hid (HV2.out.below hb3 HV2.out.lt)
           have HRR3 := Lib.hid (HRR2.out.below hb3 HRR2.out.lt)
           generalize hr : allT (fitsK k) t.kids[i] = q
           have HQ := Lib.hid hr
           clear hb3 hr))
      clear y0 y1 y2 y3 y4 hc2
      cases q
      · go_wp2_with fail
        go_ret
        have e : allT (fitsK k) t = false := by rw [allT_eq, all_not i him HQ.out, Bool.and_false]
        exact ⟨by rw [e]; rfl, HB3.out⟩
      · clear hta
        go_wp2_with fail
        exact ⟨⟨i + 1, by omega, by go_num, HRR3.out, HV3.out, HC3.out, HB3.out, by rw [all_take _ _ i him, HA.out, HQ.out]; rfl⟩, by simp [intOf]; omega⟩
    · obtain rfl : i = h.tn := by omega
      have q1 : ¬ (h.tn : Int) < (h.tn : Int) := by omega
      go_wp2_with fail
      go_ret
      have hA := HA.out
      rw [List.take_of_length_le (by omega)] at hA
      have e : allT (fitsK k) t = true := by rw [allT_eq, HR.out, hA]; rfl
      exact ⟨by rw [e]; rfl, HBW.out⟩
set_option maxRecDepth 100000 in
set_option maxHeartbeats 4000000 in
theorem everyFits (k : Nat) (gw : Nat) (t : Tr) (h : TH) (w : World) (ht : InTree w h t) (hR : Var1 w 3 gw (.int .i64 k)) : Calls Tryd.prog 34 #[h.v, .func (.func 32) #[] #[.pointer (some ⟨gw, 0, none⟩)]] w (Says w (.bool (allT (fitsK k) t))) := by
  have hmf : ∀ (fn : Fn) (first cap : Array Value) (w : World), (Instr.makeFunc fn first cap).run Tryd.prog w = .ok (.func fn first cap) w := fun _ _ _ _ => rfl
  unfold TH.v
  have HTT := Lib.hid ht
  clear ht
  go_enter Tryd.func34, Tryd.ntmps34
  have hbw1 : Below w.heap.size w (w.alloc (.cells #[.int .i64 h.k, .slice h.ka h.kn h.kc, .slice h.va h.vn h.vc, .slice h.da h.dn h.dc, .slice h.ta h.tn h.tc] 25)) := (Below.refl _ _).alloc (Nat.le_refl _) _
  have hbx1 := Box.new w 25 h
  have e1 : (w.alloc (.cells #[.int .i64 h.k, .slice h.ka h.kn h.kc, .slice h.va h.vn h.vc, .slice h.da h.dn h.dc, .slice h.ta h.tn h.tc] 25)).heap.size = w.heap.size + 1 := by simp
  have hbw2 : Below w.heap.size w ((w.alloc (.cells #[.int .i64 h.k, .slice h.ka h.kn h.kc, .slice h.va h.vn h.vc, .slice h.da h.dn h.dc, .slice h.ta h.tn h.tc] 25)).alloc (.cells #[.func (.func 32) #[] #[.pointer (some ⟨gw, 0, none⟩)]] 36)) := hbw1.alloc (by rw [e1]; omega) _
  have hbx2 := hbx1.below ((Below.refl _ _).alloc (Nat.le_refl _) (.cells #[.func (.func 32) #[] #[.pointer (some ⟨gw, 0, none⟩)]] 36)) hbx1.lt
  have hpv2 := Var1.new (w.alloc (.cells #[.int .i64 h.k, .slice h.ka h.kn h.kc, .slice h.va h.vn h.vc, .slice h.da h.dn h.dc, .slice h.ta h.tn h.tc] 25)) 36 (.func (.func 32) #[] #[.pointer (some ⟨gw, 0, none⟩)])
  have e2 : ((w.alloc (.cells #[.int .i64 h.k, .slice h.ka h.kn h.kc, .slice h.va h.vn h.vc, .slice h.da h.dn h.dc, .slice h.ta h.tn h.tc] 25)).alloc (.cells #[.func (.func 32) #[] #[.pointer (some ⟨gw, 0, none⟩)]] 36)).heap.size = w.heap.size + 2 := by simp
  have hbw3 : Below w.heap.size w (((w.alloc (.cells #[.int .i64 h.k, .slice h.ka h.kn h.kc, .slice h.va h.vn h.vc, .slice h.da h.dn h.dc, .slice h.ta h.tn h.tc] 25)).alloc (.cells #[.func (.func 32) #[] #[.pointer (some ⟨gw, 0, none⟩)]] 36)).alloc (.cells #[.nilFunc] 36)) := hbw2.alloc (by rw [e2]; omega) _
  have hbx3 := hbx2.below ((Below.refl _ _).alloc (Nat.le_refl _) (.cells #[.nilFunc] 36)) hbx2.lt
  have hpv3 := hpv2.below ((Below.refl _ _).alloc (Nat.le_refl _) (.cells #[.nilFunc] 36)) hpv2.lt
  have hnf := Var1.new ((w.alloc (.cells #[.int .i64 h.k, .slice h.ka h.kn h.kc, .slice h.va h.vn h.vc, .slice h.da h.dn h.dc, .slice h.ta h.tn h.tc] 25)).alloc (.cells #[.func (.func 32) #[] #[.pointer (some ⟨gw, 0, none⟩)]] 36)) 36 .nilFunc
  rw [e2] at hnf
  rw [e1] at hpv3
  clear hbw1 hbx1 e1 hbw2 hbx2 hpv2 e2
  go_upto_region 2 with fail
  generalize (((w.alloc (.cells #[.int .i64 h.k, .slice h.ka h.kn h.kc, .slice h.va h.vn h.vc, .slice h.da h.dn h.dc, .slice h.ta h.tn h.tc] 25)).alloc (.cells #[.func (.func 32) #[] #[.pointer (some ⟨gw, 0, none⟩)]] 36)).alloc (.cells #[.nilFunc] 36)) = w2 at *
  have c0 := hnf.cell
  have c1 := hnf.frozen 0
  have hn4 := hnf.set (.func (.func 61) #[] #[.pointer (some ⟨w.heap.size + 1, 0, none⟩), .pointer (some ⟨w.heap.size + 2, 0, none⟩)])
  have hbx4 : Box (w2.setCell ⟨w.heap.size + 2, 0, none⟩ (.func (.func 61) #[] #[.pointer (some ⟨w.heap.size + 1, 0, none⟩), .pointer (some ⟨w.heap.size + 2, 0, none⟩)])) 25 w.heap.size h := (Below.heap_setCell w2 ⟨w.heap.size + 2, 0, none⟩ _ w.heap.size (by simp)).trans hbx3
  have hpv4 := hpv3.far (p := ⟨w.heap.size + 2, 0, none⟩) (by simp) (.func (.func 61) #[] #[.pointer (some ⟨w.heap.size + 1, 0, none⟩), .pointer (some ⟨w.heap.size + 2, 0, none⟩)])
  have hb4 : Below w.heap.size w (w2.setCell ⟨w.heap.size + 2, 0, none⟩ (.func (.func 61) #[] #[.pointer (some ⟨w.heap.size + 1, 0, none⟩), .pointer (some ⟨w.heap.size + 2, 0, none⟩)])) := hbw3.setCell (by simp) _
  clear hnf hbx3 hpv3 hbw3
  go_upto_region 3 with fail
  generalize (w2.setCell ⟨w.heap.size + 2, 0, none⟩ (.func (.func 61) #[] #[.pointer (some ⟨w.heap.size + 1, 0, none⟩), .pointer (some ⟨w.heap.size + 2, 0, none⟩)])) = w3 at *
  obtain ⟨x0, x1, x2, x3, x4⟩ := hbx4.cells
  have c2 := hn4.cell
  have HN := Lib.hid hn4
  have HPV := Lib.hid hpv4
  have HB3 := Lib.hid hb4
  have HR := Lib.hid (hR.below hb4 hR.lt)
  clear c0 c1 hbx4 hb4 hpv4 hn4 hR
  go_wp2_with (first
    | (go_at_call 61
       refine (everyFitsC k gw t h _ (w.heap.size + 1) (w.heap.size + 2) (HTT.out.lower HB3.out) HR.out HPV.out HN.out).mono ?_
       rintro _ w4 ⟨rfl, hb4⟩
       have HB4 : Hid (Below w.heap.size w w4) := Lib.hid (HB3.out.trans (hb4.mono HB3.out.size))
       clear hb4))
  go_ret
  exact ⟨rfl, HB4.out⟩
end Go.Proofs.YtkfjhegehhahcaaDoor

/- Plain facts on a number's bytes: written, and read again. No program is named here. -/
namespace Go.Proofs.YtkfjhegehhahcaaDoor
set_option linter.unusedVariables false

/-- How many bytes a number has. -/
def nd (v : Nat) : Nat := if h : v = 0 then 0 else nd (v / 256) + 1
termination_by v
decreasing_by omega
/-- The k lowest bytes of a number, the highest first. -/
def be : Nat → Nat → List Int
  | 0, _ => []
  | k + 1, v => ((v / 256 ^ k % 256 : Nat) : Int) :: be k v
/-- A number's bytes, by the document. -/
def numL (v : Nat) : List Int := if v < 248 then [(v : Int)] else ((247 + nd v : Nat) : Int) :: be (nd v) v
/-- The number that bytes tell. -/
def val (l : List Int) : Nat := l.foldl (fun a x => 256 * a + x.toNat) 0
/-- Bytes with their length in front, by the document. -/
def bytL (bs : List Int) : List Int := numL bs.length ++ bs

theorem nd_zero : nd 0 = 0 := by unfold nd; simp
theorem nd_pos {v : Nat} (h : 0 < v) : nd v = nd (v / 256) + 1 := by
  rw [nd, dif_neg (by omega)]
theorem nd_lt (v : Nat) : v < 256 ^ nd v := by
  induction v using Nat.strongRecOn with
  | ind v ih =>
    by_cases h : v = 0
    · subst h; simp [nd_zero]
    · rw [nd_pos (by omega), Nat.pow_succ]
      have := ih (v / 256) (by omega)
      omega
theorem nd_ge {v : Nat} (h : 0 < v) : 256 ^ (nd v - 1) ≤ v := by
  induction v using Nat.strongRecOn with
  | ind v ih =>
    rw [nd_pos h]
    by_cases h1 : v / 256 = 0
    · rw [h1, nd_zero]; simp; omega
    · have h2 := ih (v / 256) (by omega) (by omega)
      have h3 : nd (v / 256) = nd (v / 256) - 1 + 1 := by rw [nd_pos (by omega)]; rfl
      rw [Nat.add_sub_cancel, h3, Nat.pow_succ]
      omega
theorem nd_le {v k : Nat} (h : v < 256 ^ k) : nd v ≤ k := by
  rcases Nat.eq_zero_or_pos v with rfl | hp
  · simp [nd_zero]
  · have h2 := nd_ge hp
    rcases Nat.lt_or_ge k (nd v) with h3 | h3
    · have h4 : 256 ^ k ≤ 256 ^ (nd v - 1) := Nat.pow_le_pow_right (by omega) (by omega)
      omega
    · exact h3
/-- What a loop that divides finds: it ends at the number of bytes. -/
theorem nd_unique {v k : Nat} (h : v / 256 ^ k = 0) (h2 : k = 0 ∨ v / 256 ^ (k - 1) ≠ 0) : k = nd v := by
  have hp : 0 < 256 ^ k := Nat.pow_pos (by omega)
  have h3 : v < 256 ^ k := by
    rcases Nat.lt_or_ge v (256 ^ k) with h4 | h4
    · exact h4
    · have := Nat.div_pos h4 hp; omega
  have h5 := nd_le h3
  rcases h2 with rfl | h2
  · omega
  · rcases Nat.lt_or_ge (nd v) k with h6 | h6
    · exfalso
      apply h2
      apply Nat.div_eq_of_lt
      exact Nat.lt_of_lt_of_le (nd_lt v) (Nat.pow_le_pow_right (by omega) (by omega))
    · omega
theorem nd_64 {v : Nat} (h : v < 18446744073709551616) : nd v ≤ 8 := nd_le (by simpa using h)
theorem nd_one {v : Nat} (h : 0 < v) : 1 ≤ nd v := by rw [nd_pos h]; omega
theorem div_step (v k : Nat) : v / 256 ^ k / 256 = v / 256 ^ (k + 1) := by rw [Nat.div_div_eq_div_mul, Nat.pow_succ]

theorem be_length : ∀ k v, (be k v).length = k
  | 0, _ => rfl
  | k + 1, v => by simp [be, be_length k v]
theorem be_bytes : ∀ k v, Bytes8 (be k v)
  | 0, _ => fun z hz => by cases hz
  | k + 1, v => fun z hz => by
    rcases List.mem_cons.1 hz with rfl | hz
    · omega
    · exact be_bytes k v z hz
theorem be_at : ∀ k v i, i < k → (be k v).getD i 0 = ((v / 256 ^ (k - 1 - i) % 256 : Nat) : Int)
  | 0, _, i, h => by omega
  | k + 1, v, 0, _ => by simp [be]
  | k + 1, v, i + 1, h => by
    have := be_at k v i (by omega)
    simp only [be, List.getD, List.getElem?_cons_succ] at this ⊢
    rw [this, show k + 1 - 1 - (i + 1) = k - 1 - i by omega]
theorem numL_bytes {v : Nat} (h : v < 18446744073709551616) : Bytes8 (numL v) := by
  unfold numL
  split
  · intro z hz
    simp only [List.mem_cons, List.not_mem_nil, or_false] at hz
    omega
  · intro z hz
    rcases List.mem_cons.1 hz with rfl | hz
    · have := nd_64 h; omega
    · exact be_bytes _ _ z hz
theorem numL_length (v : Nat) : (numL v).length = if v < 248 then 1 else nd v + 1 := by
  unfold numL
  split <;> simp [be_length]
theorem numL_pos (v : Nat) : 0 < (numL v).length := by rw [numL_length]; split <;> omega
theorem numL_le {v : Nat} (h : v < 18446744073709551616) : (numL v).length ≤ 9 := by
  have := nd_64 h
  rw [numL_length]; split <;> omega
theorem bytL_bytes {bs : List Int} (h : Bytes8 bs) (hl : bs.length < 18446744073709551616) : Bytes8 (bytL bs) := by
  intro z hz
  rcases List.mem_append.1 hz with hz | hz
  · exact numL_bytes hl z hz
  · exact h z hz

theorem val_nil : val [] = 0 := rfl
theorem val_snoc (l : List Int) (x : Int) : val (l ++ [x]) = 256 * val l + x.toNat := by simp [val, List.foldl_append]
theorem val_foldl (l : List Int) : ∀ a, l.foldl (fun a x => 256 * a + x.toNat) a = 256 ^ l.length * a + val l := by
  induction l with
  | nil => intro a; simp [val]
  | cons x r ih =>
    intro a
    simp only [List.foldl_cons, List.length_cons, val]
    rw [ih, ih (256 * 0 + x.toNat), Nat.pow_succ]
    simp only [Nat.mul_zero, Nat.zero_add, Nat.mul_add]
    rw [show 256 ^ r.length * (256 * a) = 256 ^ r.length * 256 * a by rw [Nat.mul_assoc]]
    omega
theorem val_cons (x : Int) (l : List Int) : val (x :: l) = 256 ^ l.length * x.toNat + val l := by
  have e : val (x :: l) = l.foldl (fun a x => 256 * a + x.toNat) x.toNat := by simp [val]
  rw [e, val_foldl]
theorem val_lt {l : List Int} (h : Bytes8 l) : val l < 256 ^ l.length := by
  induction l with
  | nil => simp [val]
  | cons x r ih =>
    rw [val_cons, List.length_cons, Nat.pow_succ]
    have h1 := ih (fun z hz => h z (List.mem_cons_of_mem _ hz))
    have h2 := h x (by simp)
    have h3 : 256 ^ r.length * x.toNat ≤ 256 ^ r.length * 255 := Nat.mul_le_mul_left _ (by omega)
    omega
theorem val_be : ∀ k v, val (be k v) = v % 256 ^ k
  | 0, v => by simp [be, val, Nat.mod_one]
  | k + 1, v => by
    have e : be (k + 1) v = ((v / 256 ^ k % 256 : Nat) : Int) :: be k v := rfl
    rw [e, val_cons, be_length, val_be k v, Int.toNat_natCast, Nat.pow_succ]
    have h : v % (256 ^ k * 256) = v % 256 ^ k + 256 ^ k * (v / 256 ^ k % 256) := Nat.mod_mul
    omega
/-- Bytes are those of the number that they tell. -/
theorem be_val {l : List Int} (h : Bytes8 l) : be l.length (val l) = l := by
  induction l with
  | nil => rfl
  | cons x r ih =>
    have hr : Bytes8 r := fun z hz => h z (List.mem_cons_of_mem _ hz)
    have h1 := val_lt hr
    have h2 := h x (by simp)
    have hp : 0 < 256 ^ r.length := Nat.pow_pos (by omega)
    have e1 : val (x :: r) / 256 ^ r.length % 256 = x.toNat := by
      rw [val_cons, Nat.mul_add_div hp, Nat.div_eq_of_lt h1]
      omega
    have e2 : ∀ k, k ≤ r.length → be k (val (x :: r)) = be k (val r) := by
      intro k
      induction k with
      | zero => intro _; rfl
      | succ k ihk =>
        intro hk
        have e3 : 256 ^ r.length = 256 ^ k * (256 * 256 ^ (r.length - k - 1)) := by
          rw [← Nat.mul_assoc, ← Nat.pow_succ, ← Nat.pow_add]
          congr 1; omega
        simp only [be]
        rw [ihk (by omega), val_cons, e3]
        congr 2
        rw [Nat.mul_assoc, Nat.mul_add_div (Nat.pow_pos (by omega)), Nat.mul_assoc, Nat.mul_add_mod]
    simp only [List.length_cons, be]
    rw [e1, e2 r.length (Nat.le_refl _), ih hr, Int.toNat_of_nonneg h2.1]

/-- The number at the front, and what stands behind it. -/
def getNum : List Int → Option (Nat × List Int)
  | [] => none
  | c :: r =>
    if c < 248 then some (c.toNat, r)
    else if r.length < (c - 247).toNat then none
    else if r.getD 0 0 = 0 ∨ val (r.take (c - 247).toNat) < 248 then none
    else some (val (r.take (c - 247).toNat), r.drop (c - 247).toNat)
/-- What a reader tells of a number, a byte, bytes; and what is left. No list: the flag is set. -/
def rdNum : Option (List Int) → Nat × Option (List Int)
  | none => (0, none)
  | some r => match getNum r with
    | none => (0, none)
    | some (v, r') => (v, some r')
def rdByte : Option (List Int) → Int × Option (List Int)
  | none => (0, none)
  | some [] => (0, none)
  | some (c :: r) => (c, some r)
def rdBytes (most : Int) (s : Option (List Int)) : List Int × Option (List Int) :=
  match (rdNum s).2 with
  | none => ([], none)
  | some r => if most < 0 ∨ most < ((rdNum s).1 : Int) ∨ r.length < (rdNum s).1 then ([], none) else (r.take (rdNum s).1, some (r.drop (rdNum s).1))
def rdEnd : Option (List Int) → Int
  | none => 3
  | some [] => 0
  | some _ => 4

theorem getNum_lt {l r : List Int} {v : Nat} (hb : Bytes8 l) (h : getNum l = some (v, r)) : v < 18446744073709551616 := by
  cases l with
  | nil => simp [getNum] at h
  | cons c t =>
    have hc := hb c (by simp)
    simp only [getNum] at h
    split at h
    · injection h with h; injection h with h1 h2; omega
    · split at h
      · cases h
      · split at h
        · cases h
        · injection h with h; injection h with h1 h2
          subst h1
          have h3 := val_lt (l := t.take (c - 247).toNat) (fun z hz => hb z (List.mem_cons_of_mem _ (List.mem_of_mem_take hz)))
          have h4 : 256 ^ (t.take (c - 247).toNat).length ≤ 256 ^ 8 := Nat.pow_le_pow_right (by omega) (by rw [List.length_take]; omega)
          have h5 : (256 : Nat) ^ 8 = 18446744073709551616 := by decide
          omega
/-- What was written is read as it was, whatever stands behind it. -/
theorem getNum_numL {v : Nat} (h : v < 18446744073709551616) (r : List Int) : getNum (numL v ++ r) = some (v, r) := by
  unfold numL
  split
  · rename_i h1
    have : ((v : Int) < 248) := by omega
    simp [getNum, this]
  · rename_i h1
    have hn := nd_64 h
    have hn1 := nd_one (v := v) (by omega)
    have e1 : ¬ (((247 + nd v : Nat) : Int) < 248) := by omega
    have e2 : (((247 + nd v : Nat) : Int) - 247).toNat = nd v := by omega
    have e3 : (be (nd v) v ++ r).take (nd v) = be (nd v) v := by
      rw [List.take_append_of_le_length (by rw [be_length]; omega), List.take_of_length_le (by rw [be_length]; omega)]
    have e4 : (be (nd v) v ++ r).drop (nd v) = r := by
      have := List.drop_left (l₁ := be (nd v) v) (l₂ := r)
      rw [be_length] at this
      exact this
    have e5 : val (be (nd v) v) = v := by rw [val_be, Nat.mod_eq_of_lt (nd_lt v)]
    have e6 : (be (nd v) v ++ r).getD 0 0 = ((v / 256 ^ (nd v - 1) : Nat) : Int) := by
      have h2 := be_at (nd v) v 0 (by omega)
      have h3 : v / 256 ^ (nd v - 1) < 256 := by
        apply Nat.div_lt_of_lt_mul
        rw [← Nat.pow_succ, show (nd v - 1).succ = nd v by omega]
        exact nd_lt v
      rw [Nat.sub_zero, Nat.mod_eq_of_lt h3] at h2
      rw [← h2]
      simp only [List.getD]
      rw [List.getElem?_append_left (by rw [be_length]; omega)]
    have e7 : 0 < v / 256 ^ (nd v - 1) := Nat.div_pos (nd_ge (by omega)) (Nat.pow_pos (by omega))
    simp only [List.cons_append, getNum]
    rw [if_neg e1, e2, if_neg (by rw [List.length_append, be_length]; omega), e3, e4, e5, e6, if_neg (by omega)]
theorem rdNum_numL {v : Nat} (h : v < 18446744073709551616) (r : List Int) : rdNum (some (numL v ++ r)) = (v, some r) := by
  simp [rdNum, getNum_numL h r]
theorem rdBytes_bytL {bs : List Int} (h : bs.length < 18446744073709551616) (r : List Int) (most : Int) (hm : (bs.length : Int) ≤ most) : rdBytes most (some (bytL bs ++ r)) = (bs, some r) := by
  unfold bytL rdBytes
  rw [List.append_assoc, rdNum_numL h]
  simp
  omega
end Go.Proofs.YtkfjhegehhahcaaDoor

/- Plain facts on preimages. No program is named here. -/
namespace Go.Proofs.YtkfjhegehhahcaaDoor
set_option linter.unusedVariables false

def valL (v : List Int) : List Int := 0 :: v
def pairL (k d : List Int) : List Int := 1 :: (bytL k ++ d)
def nodeL (l p r : List Int) : List Int := 2 :: (l ++ (p ++ r))
theorem bytes_cons {x : Int} {l : List Int} (h0 : 0 ≤ x) (h1 : x ≤ 255) (h : Bytes8 l) : Bytes8 (x :: l) := fun z hz => by
  rcases List.mem_cons.1 hz with rfl | hz
  · exact ⟨h0, h1⟩
  · exact h z hz
theorem bytes_app {k l : List Int} (hk : Bytes8 k) (hl : Bytes8 l) : Bytes8 (k ++ l) := fun z hz => (List.mem_append.1 hz).elim (hk z) (hl z)
theorem valL_bytes {v : List Int} (h : Bytes8 v) : Bytes8 (valL v) := bytes_cons (by omega) (by omega) h
theorem pairL_bytes {k d : List Int} (hk : Bytes8 k) (hn : k.length < 18446744073709551616) (hd : Bytes8 d) : Bytes8 (pairL k d) := bytes_cons (by omega) (by omega) (bytes_app (bytL_bytes hk hn) hd)
theorem nodeL_bytes {l p r : List Int} (hl : Bytes8 l) (hp : Bytes8 p) (hr : Bytes8 r) : Bytes8 (nodeL l p r) := bytes_cons (by omega) (by omega) (bytes_app hl (bytes_app hp hr))
theorem bytL_length (k : List Int) : (bytL k).length = (numL k.length).length + k.length := by unfold bytL; rw [List.length_append]
theorem pairL_length (k d : List Int) : (pairL k d).length = 1 + (numL k.length).length + k.length + d.length := by unfold pairL; rw [List.length_cons, List.length_append, bytL_length]; omega
theorem nodeL_length (l p r : List Int) : (nodeL l p r).length = 1 + l.length + p.length + r.length := by unfold nodeL; rw [List.length_cons, List.length_append, List.length_append]; omega
theorem bytL_inj {a b x y : List Int} (ha : a.length < 9223372036854775807) (hb : b.length < 9223372036854775807) (h : bytL a ++ x = bytL b ++ y) : a = b ∧ x = y := by
  have h1 := rdBytes_bytL (bs := a) (by omega) x 9223372036854775807 (by omega)
  have h2 := rdBytes_bytL (bs := b) (by omega) y 9223372036854775807 (by omega)
  rw [h, h2] at h1
  injection h1 with h3 h4
  injection h4 with h4
  exact ⟨h3.symm, h4.symm⟩
theorem pairL_inj {a b x y : List Int} (ha : a.length < 9223372036854775807) (hb : b.length < 9223372036854775807) (h : pairL a x = pairL b y) : a = b ∧ x = y := by
  unfold pairL at h
  injection h with _ h
  exact bytL_inj ha hb h
theorem nodeL_inj {x y : List Int} (hl : x.length = y.length) (h : nodeL x y x = nodeL y x x) : x = y := by
  unfold nodeL at h
  injection h with _ h
  exact (List.append_inj h hl).1
end Go.Proofs.YtkfjhegehhahcaaDoor

/- Plain facts on 32 bit words: turning to the right, the two sums of a round. No program is named here. Plain facts on the tail: its bytes as a list. No program is named here. Plain facts on a block's words. No program is named here. Plain facts on a step: 64 rounds and a sum; the tables as lists. No program is named here. Plain facts on steps one behind the other. No program is named here. Plain functions after the document's reckoning of roots by digits of 16 bits. No program is named here. -/
/- Plain facts on 32 bit words: turning to the right, the two sums of a round. No program is named here. -/
namespace Go.Proofs.YtkfjhegehhahcaaDoor
set_option linter.unusedVariables false

/-- x turned to the right by k, 1 ≤ k ≤ 31. -/
def rotr (x k : Int) : Int := bits .or .u32 (x / 2 ^ k.toNat) (x * 2 ^ (32 - k).toNat % 4294967296)
def rot3 (x i j k : Int) : Int := bits .xor .u32 (bits .xor .u32 (rotr x i) (rotr x j)) (rotr x k)
def lowS (e f g h k v : Int) : Int :=
  (h + rot3 e 6 11 25 + bits .xor .u32 (bits .and .u32 e f) (bits .and .u32 (bits .xor .u32 IntKind.u32.max e) g) + k + v) % 4294967296
def upS (a b c : Int) : Int :=
  (rot3 a 2 13 22 + bits .xor .u32 (bits .xor .u32 (bits .and .u32 a b) (bits .and .u32 a c)) (bits .and .u32 b c)) % 4294967296

/-- The eight words as the model holds an array of them. -/
def agg8 (a b c d e f g h : Int) : Value := .agg #[.int .u32 a, .int .u32 b, .int .u32 c, .int .u32 d, .int .u32 e, .int .u32 f, .int .u32 g, .int .u32 h]
/-- The words behind a round. -/
def rndV (a b c d e f g h k v : Int) : Value :=
  agg8 ((lowS e f g h k v + upS a b c) % 4294967296) a b c ((d + lowS e f g h k v) % 4294967296) e f g

theorem bits_bd (op : BinOp) (a b : Int) : 0 ≤ bits op .u32 a b ∧ bits op .u32 a b ≤ 4294967295 := by
  unfold bits
  dsimp only
  rw [IntKind.wrap_u32']
  omega
theorem bits_or_comm (a b : Int) : bits .or .u32 a b = bits .or .u32 b a := by
  simp [bits, BitVec.or_comm]
theorem mask_neg (k : Int) (h1 : 1 ≤ k) (h2 : k ≤ 31) : bits .and .u64 (IntKind.u64.wrap (-k)) 31 = 32 - k := by
  rw [IntKind.wrap_u64, u64_and _ _ (by omega) (by omega) (by omega) (by omega)]
  rw [show (31 : Int).toNat = 31 from rfl, nat_mask5]
  omega
theorem rotr_other (x k : Int) : bits .or .u32 (x * 2 ^ (32 - k).toNat % 4294967296) (x / 2 ^ (32 - (32 - k)).toNat) = rotr x k := by
  rw [bits_or_comm, show (32 - (32 - k)) = k by omega]
  rfl
theorem rotr_bd (x k : Int) : 0 ≤ rotr x k ∧ rotr x k ≤ 4294967295 := bits_bd _ _ _
theorem rot3_bd (x i j k : Int) : 0 ≤ rot3 x i j k ∧ rot3 x i j k ≤ 4294967295 := bits_bd _ _ _
theorem lowS_bd (e f g h k v : Int) : 0 ≤ lowS e f g h k v ∧ lowS e f g h k v ≤ 4294967295 := by unfold lowS; omega
theorem upS_bd (a b c : Int) : 0 ≤ upS a b c ∧ upS a b c ≤ 4294967295 := by unfold upS; omega
theorem ret_int {k : IntKind} {a b : Int} (h : a = b) : Ending.returned (.int k a) = .returned (.int k b) := by rw [h]
end Go.Proofs.YtkfjhegehhahcaaDoor

/- Plain facts on the tail: its bytes as a list. No program is named here. -/
namespace Go.Proofs.YtkfjhegehhahcaaDoor
set_option linter.unusedVariables false

/-- zs, the first k of n bytes of x, the greatest first, laid at the place off. -/
def putB (zs : List Int) (off n : Nat) (x : Int) : Nat → List Int
  | 0 => zs
  | k + 1 => (putB zs off n x k).set (off + k) (x / 2 ^ (8 * (n - 1 - k)) % 256)
theorem putB_length (zs : List Int) (off n : Nat) (x : Int) : ∀ k, (putB zs off n x k).length = zs.length
  | 0 => rfl
  | k + 1 => by simp [putB, putB_length zs off n x k]
theorem putB_append (pre l : List Int) (n : Nat) (x : Int) : ∀ k, putB (pre ++ l) pre.length n x k = pre ++ putB l 0 n x k
  | 0 => rfl
  | k + 1 => by
    simp only [putB]
    rw [putB_append pre l n x k, List.set_append_right _ _ (by omega)]
    simp
def nils (n : Nat) : Nat := (119 - n % 64) % 64
def be8 (x : Int) : List Int := [x / 72057594037927936 % 256, x / 281474976710656 % 256, x / 1099511627776 % 256, x / 4294967296 % 256, x / 16777216 % 256, x / 65536 % 256, x / 256 % 256, x % 256]
/-- What stands behind n bytes. -/
def tailL (n : Nat) : List Int := 128 :: (List.replicate (nils n) 0 ++ be8 (8 * n))
theorem tailL_length (n : Nat) : (tailL n).length = nils n + 9 := by simp [tailL, be8]
theorem rep_snoc (j : Nat) : (128 :: List.replicate j (0 : Int)).map (Value.int .u8) ++ [.int .u8 0] = (128 :: List.replicate (j + 1) (0 : Int)).map (Value.int .u8) := by
  simp [List.replicate_succ']
/-- The bytes of x, of which the last 8 - m are laid. -/
def bitsAt (x : Int) (m : Nat) : List Int := List.replicate m 0 ++ (be8 x).drop m
theorem bitsAt_length (x : Int) (m : Nat) (h : m ≤ 8) : (bitsAt x m).length = 8 := by simp [bitsAt, be8]; omega
theorem bitsAt_step (x : Int) (m : Nat) (h : m < 8) : (bitsAt x (m + 1)).set m (x / 256 ^ (7 - m) % 256) = bitsAt x m := by
  have : m = 0 ∨ m = 1 ∨ m = 2 ∨ m = 3 ∨ m = 4 ∨ m = 5 ∨ m = 6 ∨ m = 7 := by omega
  rcases this with rfl | rfl | rfl | rfl | rfl | rfl | rfl | rfl <;> simp [bitsAt, be8, List.replicate]
theorem pow_step (x : Int) (m : Nat) (h : m < 8) : x / 256 ^ (7 - m) / 256 = x / 256 ^ (8 - m) := by
  rw [Int.ediv_ediv_of_nonneg (Int.pow_nonneg (by omega)), ← Int.pow_succ, show (7 - m).succ = 8 - m by omega]
theorem nils_lt (n : Nat) : nils n < 64 := by unfold nils; omega
theorem set_first (z : Nat) : (List.replicate (z + 9) (0 : Int)).set 0 128 = 128 :: (List.replicate z 0 ++ List.replicate 8 0) := by
  rw [show z + 9 = (z + 8) + 1 from rfl, List.replicate_succ, List.set_cons_zero, List.replicate_append_replicate]
theorem putB_tail (n : Nat) : putB (128 :: (List.replicate (nils n) 0 ++ List.replicate 8 0)) (1 + nils n) 8 (8 * n) 8 = tailL n := by
  have h := putB_append (128 :: List.replicate (nils n) 0) (List.replicate 8 0) 8 (8 * n) 8
  simp only [List.length_cons, List.length_replicate, List.cons_append] at h
  rw [Nat.add_comm 1, h]
  simp [tailL, be8, putB, List.replicate]
end Go.Proofs.YtkfjhegehhahcaaDoor

/- Plain facts on a block's words. No program is named here. -/
namespace Go.Proofs.YtkfjhegehhahcaaDoor
set_option linter.unusedVariables false

def wordOf (a b c d : Int) : Int := 16777216 * a + 65536 * b + 256 * c + d
def sp3 (x i j s : Int) : Int := bits .xor .u32 (bits .xor .u32 (rotr x i) (rotr x j)) (x / 2 ^ s.toNat)
def wordAt (bs : List Int) (i : Nat) : Int := wordOf (bs.getD (4 * i) 0) (bs.getD (4 * i + 1) 0) (bs.getD (4 * i + 2) 0) (bs.getD (4 * i + 3) 0)
def first16 (bs : List Int) (k : Nat) : List Int := (List.range k).map (wordAt bs)
/-- The word behind the words m, 16 ≤ m.length. -/
def nextW (m : List Int) : Int := (m.getD (m.length - 16) 0 + sp3 (m.getD (m.length - 15) 0) 7 18 3 + m.getD (m.length - 7) 0 + sp3 (m.getD (m.length - 2) 0) 17 19 10) % 4294967296
def extW (l : List Int) : Nat → List Int
  | 0 => l
  | k + 1 => extW l k ++ [nextW (extW l k)]
/-- The 64 words of a block. -/
def sched (bs : List Int) : List Int := extW (first16 bs 16) 48

theorem first16_length (bs : List Int) (k : Nat) : (first16 bs k).length = k := by simp [first16]
theorem extW_length (l : List Int) : ∀ k, (extW l k).length = l.length + k
  | 0 => rfl
  | k + 1 => by simp [extW, extW_length l k]; omega
theorem sched_length (bs : List Int) : (sched bs).length = 64 := by simp [sched, extW_length, first16_length]
theorem first16_succ (bs : List Int) (k : Nat) : first16 bs (k + 1) = first16 bs k ++ [wordAt bs k] := by simp [first16, List.range_succ]
theorem or_bytes (a b c d : Int) (ha : 0 ≤ a) (ha2 : a ≤ 255) (hb : 0 ≤ b) (hb2 : b ≤ 255) (hc : 0 ≤ c) (hc2 : c ≤ 255) (hd : 0 ≤ d) (hd2 : d ≤ 255) :
    bits .or .u32 (bits .or .u32 (bits .or .u32 (a * 16777216) (b * 65536)) (c * 256)) d = wordOf a b c d := by
  obtain ⟨a, rfl⟩ := Int.eq_ofNat_of_zero_le ha
  obtain ⟨b, rfl⟩ := Int.eq_ofNat_of_zero_le hb
  obtain ⟨c, rfl⟩ := Int.eq_ofNat_of_zero_le hc
  obtain ⟨d, rfl⟩ := Int.eq_ofNat_of_zero_le hd
  have e1 : (a : Int) * 16777216 = ((a * 16777216 : Nat) : Int) := by omega
  have e2 : (b : Int) * 65536 = ((b * 65536 : Nat) : Int) := by omega
  have e3 : (c : Int) * 256 = ((c * 256 : Nat) : Int) := by omega
  have j1 := nat_join 24 (a * 16777216) (b * 65536) (by omega) (by omega)
  have j2 := nat_join 16 (a * 16777216 + b * 65536) (c * 256) (by omega) (by omega)
  have j3 := nat_join 8 (a * 16777216 + b * 65536 + c * 256) d (by omega) (by omega)
  rw [e1, e2, e3, u32_or_nat _ _ (by omega) (by omega), j1, u32_or_nat _ _ (by omega) (by omega), j2, u32_or_nat _ _ (by omega) (by omega), j3]
  unfold wordOf
  omega
def Words32 (l : List Int) : Prop := ∀ z ∈ l, 0 ≤ z ∧ z ≤ 4294967295
theorem word_at {l : List Int} (h : Words32 l) (i : Nat) : 0 ≤ l.getD i 0 ∧ l.getD i 0 ≤ 4294967295 := by
  by_cases hi : i < l.length
  · have := h l[i] (List.getElem_mem hi)
    simpa [List.getD, hi] using this
  · simp [List.getD, List.getElem?_eq_none (by omega : l.length ≤ i)]
theorem wordAt_bd {bs : List Int} (h : Bytes8 bs) (i : Nat) : 0 ≤ wordAt bs i ∧ wordAt bs i ≤ 4294967295 := by
  have h0 := byte_at h (4 * i)
  have h1 := byte_at h (4 * i + 1)
  have h2 := byte_at h (4 * i + 2)
  have h3 := byte_at h (4 * i + 3)
  unfold wordAt wordOf
  omega
theorem first16_bd {bs : List Int} (h : Bytes8 bs) (k : Nat) : Words32 (first16 bs k) := by
  intro z hz
  simp only [first16, List.mem_map] at hz
  obtain ⟨i, _, rfl⟩ := hz
  exact wordAt_bd h i
theorem extW_bd {l : List Int} (h : Words32 l) : ∀ k, Words32 (extW l k)
  | 0 => h
  | k + 1 => by
    intro z hz
    simp only [extW, List.mem_append, List.mem_singleton] at hz
    rcases hz with hz | rfl
    · exact extW_bd h k z hz
    · unfold nextW; omega
theorem sched_bd {bs : List Int} (h : Bytes8 bs) : Words32 (sched bs) := extW_bd (first16_bd h 16) 48
theorem sp3_bd (x i j s : Int) : 0 ≤ sp3 x i j s ∧ sp3 x i j s ≤ 4294967295 := bits_bd _ _ _
theorem wrap_sum (a b c d : Int) : IntKind.u32.wrap (IntKind.u32.wrap (IntKind.u32.wrap (a + b) + c) + d) = (a + b + c + d) % 4294967296 := by
  simp only [IntKind.wrap_u32']
  omega
theorem mod_sum (a b c d : Int) : (((a + b) % 4294967296 + c) % 4294967296 + d) % 4294967296 = (a + b + c + d) % 4294967296 := by
  omega
theorem set_at (l : List Int) (n : Nat) (z : Int) : (l ++ List.replicate (n + 1) (0 : Int)).set l.length z = (l ++ [z]) ++ List.replicate n 0 := by
  rw [List.set_append_right _ _ (Nat.le_refl _), Nat.sub_self, List.replicate_succ, List.set_cons_zero, List.append_assoc]
  rfl
theorem getD_app (l r : List Int) (i : Nat) (h : i < l.length) : (l ++ r).getD i 0 = l.getD i 0 := by
  simp [List.getD, List.getElem?_append_left h]
end Go.Proofs.YtkfjhegehhahcaaDoor

/- Plain facts on a step: 64 rounds and a sum; the tables as lists. No program is named here. -/
namespace Go.Proofs.YtkfjhegehhahcaaDoor
set_option linter.unusedVariables false

/-- The 64 constants. -/
def kTab : List Int := [1116352408, 1899447441, 3049323471, 3921009573, 961987163, 1508970993, 2453635748, 2870763221, 3624381080, 310598401, 607225278, 1426881987, 1925078388, 2162078206, 2614888103, 3248222580, 3835390401, 4022224774, 264347078, 604807628, 770255983, 1249150122, 1555081692, 1996064986, 2554220882, 2821834349, 2952996808, 3210313671, 3336571891, 3584528711, 113926993, 338241895, 666307205, 773529912, 1294757372, 1396182291, 1695183700, 1986661051, 2177026350, 2456956037, 2730485921, 2820302411, 3259730800, 3345764771, 3516065817, 3600352804, 4094571909, 275423344, 430227734, 506948616, 659060556, 883997877, 958139571, 1322822218, 1537002063, 1747873779, 1955562222, 2024104815, 2227730452, 2361852424, 2428436474, 2756734187, 3204031479, 3329325298]
/-- The eight words at first. -/
def hTab : List Int := [1779033703, 3144134277, 1013904242, 2773480762, 1359893119, 2600822924, 528734635, 1541459225]
theorem kTab_length : kTab.length = 64 := rfl
theorem kTab_bd : Words32 kTab := by
  have h : ∀ z ∈ kTab, decide (0 ≤ z ∧ z ≤ 4294967295) = true := by decide +kernel
  exact fun z hz => of_decide_eq_true (h z hz)
theorem hTab_bd : Words32 hTab := by
  have h : ∀ z ∈ hTab, decide (0 ≤ z ∧ z ≤ 4294967295) = true := by decide +kernel
  exact fun z hz => of_decide_eq_true (h z hz)

def rnd (s : List Int) (k v : Int) : List Int :=
  match s with
  | [a, b, c, d, e, f, g, h] => [(lowS e f g h k v + upS a b c) % 4294967296, a, b, c, (d + lowS e f g h k v) % 4294967296, e, f, g]
  | _ => s
/-- The words behind the first n rounds. -/
def rnds (ws s : List Int) : Nat → List Int
  | 0 => s
  | n + 1 => rnd (rnds ws s n) (kTab.getD n 0) (ws.getD n 0)
def addW (x s : List Int) : List Int := List.zipWith (fun a b => (a + b) % 4294967296) x s
/-- A block's step. -/
def stepL (s bs : List Int) : List Int := addW (rnds (sched bs) s 64) s
/-- All the blocks' steps: n blocks. -/
def stepsL (s bs : List Int) : Nat → List Int
  | 0 => s
  | n + 1 => stepL (stepsL s bs n) ((bs.drop (64 * n)).take 64)
def be4 (x : Int) : List Int := [x / 16777216 % 256, x / 65536 % 256, x / 256 % 256, x % 256]
def bytesL (s : List Int) : List Int := s.flatMap be4
/-- The digest of bytes. -/
def sumL (bs : List Int) : List Int := bytesL (stepsL hTab (bs ++ tailL bs.length) ((bs.length + nils bs.length + 9) / 64))

theorem rnd_length {s : List Int} (h : s.length = 8) (k v : Int) : (rnd s k v).length = 8 := by
  match s, h with
  | [a, b, c, d, e, f, g, z], _ => rfl
theorem rnd_bd {s : List Int} (h : s.length = 8) (hs : Words32 s) (k v : Int) : Words32 (rnd s k v) := by
  match s, h with
  | [a, b, c, d, e, f, g, z], _ =>
    intro y hy
    simp only [rnd, List.mem_cons, List.not_mem_nil, or_false] at hy
    rcases hy with rfl | rfl | rfl | rfl | rfl | rfl | rfl | rfl
    · omega
    · exact hs _ (by simp)
    · exact hs _ (by simp)
    · exact hs _ (by simp)
    · omega
    · exact hs _ (by simp)
    · exact hs _ (by simp)
    · exact hs _ (by simp)
theorem rnds_length {ws s : List Int} (h : s.length = 8) : ∀ n, (rnds ws s n).length = 8
  | 0 => h
  | n + 1 => rnd_length (rnds_length h n) _ _
theorem rnds_bd {ws s : List Int} (h : s.length = 8) (hs : Words32 s) : ∀ n, Words32 (rnds ws s n)
  | 0 => hs
  | n + 1 => rnd_bd (rnds_length h n) (rnds_bd h hs n) _ _
theorem addW_length {x s : List Int} (hx : x.length = 8) (h : s.length = 8) : (addW x s).length = 8 := by simp [addW, hx, h]
theorem addW_bd (x s : List Int) : Words32 (addW x s) := by
  intro y hy
  unfold addW at hy
  obtain ⟨i, hi, rfl⟩ := List.getElem_of_mem hy
  rw [List.getElem_zipWith]
  omega
theorem stepL_length {s : List Int} (h : s.length = 8) (bs : List Int) : (stepL s bs).length = 8 := addW_length (rnds_length h 64) h
theorem stepL_bd (s bs : List Int) : Words32 (stepL s bs) := addW_bd _ _
theorem stepsL_length {s : List Int} (h : s.length = 8) (bs : List Int) : ∀ n, (stepsL s bs n).length = 8
  | 0 => h
  | n + 1 => stepL_length (stepsL_length h bs n) _
theorem stepsL_bd {s : List Int} (hs : Words32 s) (bs : List Int) : ∀ n, Words32 (stepsL s bs n)
  | 0 => hs
  | n + 1 => stepL_bd _ _
theorem list_8 {α : Type} : ∀ (l : List α), l.length = 8 → ∃ a b c d e f g h : α, l = [a, b, c, d, e, f, g, h]
  | [a, b, c, d, e, f, g, h], _ => ⟨a, b, c, d, e, f, g, h, rfl⟩
/-- x, to the first n words of which those of s are added. -/
def addN (x s : List Int) : Nat → List Int
  | 0 => x
  | n + 1 => (addN x s n).set n ((x.getD n 0 + s.getD n 0) % 4294967296)
theorem addN_length (x s : List Int) : ∀ n, (addN x s n).length = x.length
  | 0 => rfl
  | n + 1 => by simp [addN, addN_length x s n]
theorem addN_get (x s : List Int) (m : Nat) : ∀ n, n ≤ m → (addN x s n).getD m 0 = x.getD m 0
  | 0, _ => rfl
  | n + 1, h => by
    have ih := addN_get x s m n (by omega)
    simp only [List.getD] at ih ⊢
    simp only [addN]
    rw [List.getElem?_set_ne (by omega)]
    exact ih
theorem addN_all {x s : List Int} (hx : x.length = 8) (hs : s.length = 8) : addN x s 8 = addW x s := by
  obtain ⟨a, b, c, d, e, f, g, z, rfl⟩ := list_8 x hx
  obtain ⟨a', b', c', d', e', f', g', z', rfl⟩ := list_8 s hs
  simp [addN, addW]
/-- The words as the model holds an array of them. -/
def stV (s : List Int) : Value := .agg (s.map (Value.int .u32)).toArray
end Go.Proofs.YtkfjhegehhahcaaDoor

/- Plain facts on steps one behind the other. No program is named here. -/
namespace Go.Proofs.YtkfjhegehhahcaaDoor
set_option linter.unusedVariables false

theorem stepsL_head (s x y : List Int) : ∀ k, 64 * k ≤ x.length → stepsL s (x ++ y) k = stepsL s x k
  | 0, _ => rfl
  | k + 1, h => by
    simp only [stepsL]
    rw [stepsL_head s x y k (by omega)]
    congr 1
    rw [List.drop_append_of_le_length (by omega), List.take_append_of_le_length (by simp; omega)]
theorem stepsL_append (s x y : List Int) (m : Nat) (h : x.length = 64 * m) : ∀ q, stepsL s (x ++ y) (m + q) = stepsL (stepsL s x m) y q
  | 0 => stepsL_head s x y m (by omega)
  | q + 1 => by
    show stepL (stepsL s (x ++ y) (m + q)) (((x ++ y).drop (64 * (m + q))).take 64) = stepL (stepsL (stepsL s x m) y q) ((y.drop (64 * q)).take 64)
    rw [stepsL_append s x y m h q]
    congr 2
    rw [List.drop_append, List.drop_eq_nil_of_le (by omega), List.nil_append, h]
    congr 1
    omega
theorem whole_blocks (n m r : Nat) (hr : r < 64) (h : n = 64 * m + r) : ∃ q, 1 ≤ q ∧ q ≤ 2 ∧ r + (nils n + 9) = 64 * q ∧ (n + nils n + 9) / 64 = m + q := by
  subst h
  unfold nils
  by_cases h : r ≤ 55
  · refine ⟨1, by omega, by omega, ?_, ?_⟩ <;> omega
  · refine ⟨2, by omega, by omega, ?_, ?_⟩ <;> omega
theorem sumL_parts (bs : List Int) (m q r : Nat) (hr : r < 64) (h : bs.length = 64 * m + r) (hq : (bs.length + nils bs.length + 9) / 64 = m + q) :
    sumL bs = bytesL (stepsL (stepsL hTab (bs.take (64 * m)) m) (bs.drop (64 * m) ++ tailL bs.length) q) := by
  unfold sumL
  rw [hq, ← stepsL_append hTab (bs.take (64 * m)) (bs.drop (64 * m) ++ tailL bs.length) m (by simp; omega) q, ← List.append_assoc, List.take_append_drop]
theorem be8_bytes (x : Int) : Bytes8 (be8 x) := by
  intro z hz
  simp only [be8, List.mem_cons, List.not_mem_nil, or_false] at hz
  omega
theorem tailL_bytes (n : Nat) : Bytes8 (tailL n) := by
  intro z hz
  simp only [tailL, List.mem_cons, List.mem_append] at hz
  rcases hz with rfl | hz | hz
  · omega
  · rw [List.mem_replicate] at hz; omega
  · exact be8_bytes _ z hz
theorem bytesL_bytes (s : List Int) : Bytes8 (bytesL s) := by
  intro z hz
  simp only [bytesL, List.mem_flatMap] at hz
  obtain ⟨x, _, hx⟩ := hz
  simp only [be4, List.mem_cons, List.not_mem_nil, or_false] at hx
  omega
theorem app_bytes {x y : List Int} (hx : Bytes8 x) (hy : Bytes8 y) : Bytes8 (x ++ y) := by
  intro z hz
  rcases List.mem_append.1 hz with h | h
  · exact hx z h
  · exact hy z h
end Go.Proofs.YtkfjhegehhahcaaDoor

/- Plain functions after the document's reckoning of roots by digits of 16 bits. No program is named here. -/
namespace Go.Proofs.YtkfjhegehhahcaaDoor
set_option linter.unusedVariables false

def mulCol (out : List Int) (x : Int) (b : List Int) (i : Nat) : Nat → List Int
  | 0 => out
  | k + 1 => (mulCol out x b i k).set (i + k) (((mulCol out x b i k).getD (i + k) 0 + x * b.getD k 0) % 18446744073709551616)
def mulRow (a b : List Int) : Nat → List Int
  | 0 => List.replicate (a.length + b.length + 1) 0
  | i + 1 => mulCol (mulRow a b i) (a.getD i 0) b i b.length
def carry (o : List Int) : Nat → List Int
  | 0 => o
  | i + 1 => ((carry o i).set (i + 1) (((carry o i).getD (i + 1) 0 + (carry o i).getD i 0 / 65536) % 18446744073709551616)).set i ((carry o i).getD i 0 % 65536)
def timesL (a b : List Int) : List Int := carry (mulRow a b a.length) (a.length + b.length)
/-- From the place n - 1 down: is z below limit, or the same? -/
def cmpL (z limit : List Int) : Nat → Bool
  | 0 => true
  | n + 1 => if z.getD n 0 != limit.getD n 0 then decide (z.getD n 0 < limit.getD n 0) else cmpL z limit n
def digs (y : Int) : List Int := [y % 65536, y / 65536 % 65536, y / 4294967296]
def belowL (y p : Int) (cube : Bool) : Bool :=
  match cube with
  | true => cmpL (timesL (timesL (digs y) (digs y)) (digs y)) ((List.replicate 11 0).set 6 p) 11
  | false => cmpL (timesL (digs y) (digs y)) ((List.replicate 7 0).set 4 p) 7
/-- The search, n bits done: 36 bits, the greatest first. -/
def rootAt (p : Int) (cube : Bool) : Nat → Int
  | 0 => 0
  | n + 1 => if belowL (rootAt p cube n + 2 ^ (35 - n)) p cube then rootAt p cube n + 2 ^ (35 - n) else rootAt p cube n
def rootL (p : Int) (cube : Bool) : Int := rootAt p cube 36 % 4294967296
end Go.Proofs.YtkfjhegehhahcaaDoor
