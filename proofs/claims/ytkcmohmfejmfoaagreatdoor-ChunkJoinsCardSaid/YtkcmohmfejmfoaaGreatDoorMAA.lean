/- Words for memory, for arguments that are slices of bytes or arrays, and for appends: what the walks of all layers share. No program is named here. Arguments that are slices of anything: their cells, one behind the other, and what each element is. No program is named here. Trees as arguments: the view of a tree that lies somewhere. No program is named here. What the document says of trees, as functions. No program is named here. The byte's type, as the program has it; slices of new memory. The contracts of the document's checks of trees. The contracts of the document's checks of trees: Check, Full, Depth. Errors that are Codes. A variable of one cell: a closure's, a number's. No program is named here. The contracts of the program's checks of trees. In a region that draws its order: what may be taken first. No program is named here. The contract of the program's check of a tree. How many nodes a tree has. Rows of trees in one's own memory. No program is named here. Partial trees by their kinds. No program is named here. AVL trees: what the document says of them, as functions, and that they stay balanced. No program is named here. AVL trees: what pairs they have behind an insertion, and behind a deletion. No program is named here. AVL trees as trees of layer 4; which trees are balanced. No program is named here. Boxes of trees that are written; a tree of two that were made; appends of bytes at a step. No program is named here. A full tree does not lie in a box: what is written there leaves it as it is. No program is named here. Boxes of trees, results that are trees, strings of bytes: the types alone are named. -/
import Derived.WalkKit
import Derived.WalkSmall
import Derived.Below
import Derived.Deep.Draws
import Derived.Laws.OwnMore
import Derived.Laws.Rows
import Derived.Deep.RegionLaw
import Derived.Laws.AppendOwnNone
import Derived.OwnWalk
import Derived.Laws.BytesArg
import Derived.Deep.AppendLies
import Derived.ProofKit
import Derived.OpenShut
import Derived.LaidMore
import Derived.Stop.Joined
import Derived.WalkLawsBesides
import Derived.WalkSpells
import Derived.Outline
import Derived.Lib.Hide
import Derived.LoopTactic
import Derived.Deep.RegionWith
import Derived.Deep.DeepCutAuto
import Derived.Lib.IfaceEq
import Derived.Deep.QuietTactic
import Derived.BigQuiet
import Derived.BigRegion
import Derived.StillTailTactics
import Derived.Deep.RegionHeld3
import Derived.IntWalk
import Derived.SizedLaws
import Derived.Deep.Slices
import Derived.Test.YtkcmohmfejmfoaaGreatDoorProg
import Derived.Deep.CutBlock
import Derived.Lib.IfaceNeq
import Derived.Laws.EntriesVeiled
/- Words for memory, for arguments that are slices of bytes or arrays, and for appends: what the walks of all layers share. No program is named here. -/
namespace Go.Proofs.YtkcmohmfejmfoaaGreatDoor
open Go.ChangeShapes Go.WideShapes Go.RowKit
set_option linter.unusedVariables false

def Bytes8 (bs : List Int) : Prop := ∀ z ∈ bs, 0 ≤ z ∧ z ≤ 255
theorem byte_at {bs : List Int} (h : Bytes8 bs) (i : Nat) : 0 ≤ bs.getD i 0 ∧ bs.getD i 0 ≤ 255 := by
  by_cases hi : i < bs.length
  · have := h bs[i] (List.getElem_mem hi)
    simpa [List.getD, hi] using this
  · simp [List.getD, List.getElem?_eq_none (by omega : bs.length ≤ i)]
/-- Block g holds just the integers zs, of element type t; it may be written. -/
def Row (k : IntKind) (w : World) (t : TypeId) (g : Nat) (zs : List Int) : Prop := w.heap[g]? = some (.cells (zs.map (Value.int k)).toArray t (0, 0))
/-- From the place off of block g on the integers zs lie. -/
def Seg (k : IntKind) (w : World) (g off : Nat) (zs : List Int) : Prop := ∀ (i : Nat) (h : i < zs.length), w.cell? ⟨g, off + i, none⟩ = some (.int k zs[i])

section
variable {k : IntKind} {w w' : World} {t : TypeId} {g off : Nat} {zs : List Int}
theorem Row.lt (h : Row k w t g zs) : g < w.heap.size := by
  rcases Nat.lt_or_ge g w.heap.size with hlt | hge
  · exact hlt
  · unfold Row at h; rw [Array.getElem?_eq_none hge] at h; cases h
theorem Row.cell (h : Row k w t g zs) (i : Nat) (hi : i < zs.length) : w.cell? ⟨g, i, none⟩ = some (.int k zs[i]) := by
  have h1 := cell_of_row w g i _ t (0, 0) h
  rw [h1]
  simp [hi]
theorem Row.has (h : Row k w t g zs) (i : Nat) (hi : i < zs.length) : ∃ z, w.cell? ⟨g, i, none⟩ = some (.int k z) := ⟨_, h.cell i hi⟩
theorem Row.frozen (h : Row k w t g zs) (i : Nat) : w.frozen? ⟨g, i, none⟩ = false := by
  unfold Row at h
  simp [World.frozen?, h]
theorem Row.seg (h : Row k w t g zs) : Seg k w g 0 zs := fun i hi => by
  rw [Nat.zero_add]
  exact h.cell i hi
theorem Row.new (w : World) (t : TypeId) (zs : List Int) : Row k (w.alloc (.cells (zs.map (Value.int k)).toArray t)) t w.heap.size zs := heap_alloc_new w _
theorem Row.drew (h : Row k w t g zs) : Row k w.drew t g zs := h
theorem Row.drewN (h : Row k w t g zs) (n : Nat) : Row k (w.drewN n) t g zs := h
theorem Row.alloc (h : Row k w t g zs) (o : Obj) : Row k (w.alloc o) t g zs := (Below.heap_alloc w o g h.lt).trans h
theorem Row.set (h : Row k w t g zs) (i : Nat) (z : Int) : Row k (w.setCell ⟨g, i, none⟩ (.int k z)) t g (zs.set i z) := by
  unfold Row at h ⊢
  simp [World.setCell, Array.getElem?_modify, h, List.map_set]
theorem Row.far (h : Row k w t g zs) {p : Addr} (hp : g ≠ p.block) (u : Value) : Row k (w.setCell p u) t g zs := (Below.heap_setCell w p u g hp).trans h
theorem Row.below {B : Nat} (h : Row k w t g zs) (hb : Below B w w') (hg : g < B) : Row k w' t g zs := (hb.block g hg).trans h
theorem Row.grown {row : Option Nat} (h : Row k w t g zs) (hb : w.grownBy w' row) (hg : some g ≠ row) : Row k w' t g zs := (hb.block g h.lt hg).trans h

theorem Seg.keep (h : Seg k w g off zs) (hk : ∀ o, w'.cell? ⟨g, o, none⟩ = w.cell? ⟨g, o, none⟩) : Seg k w' g off zs := fun i hi => (hk _).trans (h i hi)
theorem Seg.below {B : Nat} (h : Seg k w g off zs) (hb : Below B w w') (hg : g < B) : Seg k w' g off zs := h.keep fun o => hb.cell (p := ⟨g, o, none⟩) hg
theorem Seg.drew (h : Seg k w g off zs) : Seg k w.drew g off zs := h
theorem Seg.drop (h : Seg k w g off zs) (j : Nat) : Seg k w g (off + j) (zs.drop j) := fun i hi => by
  rw [List.length_drop] at hi
  have h1 := h (j + i) (by omega)
  rw [List.getElem_drop, show off + j + i = off + (j + i) by omega]
  exact h1
theorem Seg.take (h : Seg k w g off zs) (j : Nat) : Seg k w g off (zs.take j) := fun i hi => by
  rw [List.length_take] at hi
  rw [List.getElem_take]
  exact h i (by omega)
theorem Seg.cellD (h : Seg k w g off zs) (i : Nat) (hi : i < zs.length) : w.cell? ⟨g, off + i, none⟩ = some (.int k (zs.getD i 0)) := by
  rw [h i hi]; simp [List.getD, hi]

theorem Seg.news (h : Seg k w g off zs) : ∀ (j : Nat) (u : Value), (zs.map (Value.int k))[j]? = some u → w.cell? ((⟨g, off, none⟩ : Addr).add j) = some u := by
  intro j u hu
  have hj : j < zs.length := by
    rcases Nat.lt_or_ge j zs.length with h | h
    · exact h
    · rw [List.getElem?_eq_none (by simpa using h)] at hu; cases hu
  have hp : (⟨g, off, none⟩ : Addr).add j = ⟨g, off + j, none⟩ := by unfold Addr.add; split <;> simp_all
  rw [hp, h j hj]
  simpa [hj] using hu
theorem only_refl (a : World) (row : Option Nat) : a.grownBy a row := ⟨rfl, rfl, rfl, Nat.le_refl _, fun _ _ _ => rfl⟩
theorem only_set {a w : World} {g : Nat} (h : a.grownBy w (some g)) (i : Nat) (u : Value) : a.grownBy (w.setCell ⟨g, i, none⟩ u) (some g) :=
  ⟨h.os, h.tape, h.output, by simpa [World.setCell] using h.size, fun j hj hne => (Below.heap_setCell w ⟨g, i, none⟩ u j (by rintro rfl; exact hne rfl)).trans (h.block j hj hne)⟩
theorem only_below {a w : World} (h : Below a.heap.size a w) (row : Option Nat) : a.grownBy w row := ⟨h.os, h.tape, h.output, h.size, fun i hi _ => h.block i hi⟩
/-- What has turned block g alone has left all below B as it was, where B ≤ g. -/
theorem below_only {a b w : World} {B g : Nat} (h : Below B a b) (hg : b.grownBy w (some g)) (hB : B ≤ b.heap.size) (hBg : B ≤ g) : Below B a w :=
  h.grown hg hB (fun j hj => by injection hj; omega)
end

theorem Row.cellD {k : IntKind} {w : World} {t : TypeId} {g : Nat} {zs : List Int} (h : Row k w t g zs) (i : Nat) (hi : i < zs.length) : w.cell? ⟨g, i, none⟩ = some (.int k (zs.getD i 0)) := by
  rw [h.cell i hi]; simp [List.getD, hi]
theorem ints_size (k : IntKind) (zs : List Int) : (zs.map (Value.int k)).toArray.size = zs.length := by simp
theorem ints_one (k : IntKind) (zs : List Int) : (zs.map (Value.int k)).toArray.all (·.oneCell') = true := by
  simp [Value.oneCell']

/-- A whole array of integers, read. -/
theorem wpList_load_ints {P : Program} {ops : Array Oper} {rest : List Oper} {o : Oper} {a : Act} {w : World} {Q : Exit → Act → World → Prop} (hgd : o.guard = none) (ty : TypeId) (x : Operand) (ho : o.op = .load ty x)
    (g : Nat) (hx : a.eval x = .pointer (some ⟨g, 0, none⟩)) (t : TypeId) (k : IntKind) (zs : List Int) (hr : Row k w t g zs) (n : Nat) (e : TypeId)
    (hu : P.underlying ty = some (.array n e)) (hi : (P.info? ty).map (·.size) = some zs.length)
    (h : wpList P ops Q rest (a.put o.dst (.agg (zs.map (Value.int k)).toArray)) w) : wpList P ops Q (o :: rest) a w :=
  wpList_load_row hgd ty x ho g hx t _ _ _ hr hu rfl (by rw [ints_size]; exact hi) h

/-- A whole array of integers, written. -/
theorem wpList_store_ints {P : Program} {ops : Array Oper} {rest : List Oper} {o : Oper} {a : Act} {w : World} {Q : Exit → Act → World → Prop} (hgd : o.guard = none) (ty : TypeId) (x y : Operand) (ho : o.op = .store ty x y)
    (g : Nat) (k : IntKind) (zs : List Int) (hx : a.eval x = .pointer (some ⟨g, 0, none⟩)) (hy : a.eval y = .agg (zs.map (Value.int k)).toArray)
    (t : TypeId) (old : List Int) (hr : Row k w t g old) (hi : (P.info? ty).map (·.size) = some zs.length) (hold : old.length = zs.length)
    (h : ∀ w', Row k w' t g zs → w.grownBy w' (some g) → w'.heap.size = w.heap.size → wpList P ops Q rest (a.put o.dst undef) w') : wpList P ops Q (o :: rest) a w := by
  refine wpList_store_row hgd ty x y ho g _ hx hy t _ hr (by rw [ints_size]; exact hi) (by simp [hold]) (ints_one k zs) ?_
  refine h _ (setRow_heap w g _ _ t _ hr) ⟨rfl, rfl, rfl, by simp, fun j hj hne => setRow_other w g j _ (fun e => hne (by rw [e]))⟩ (by simp)

theorem madeCells_ints (k : IntKind) (n : Nat) : madeCells (Value.int k 0).cells n = ((List.replicate n (0 : Int)).map (Value.int k)).toArray := by
  apply Array.ext
  · simp [madeCells]
  · intro i h1 h2
    simp [madeCells, Value.cells, Nat.mod_one]

/-- make([]T, n) of integers: a new block of n noughts. -/
theorem wpList_make_ints {P : Program} (w : World) {ops : Array Oper} {rest : List Oper} {o : Oper} {a : Act} {Q : Exit → Act → World → Prop}
    (hg : o.guard = none) (l c : Operand) (t : TypeId) (hop : o.op = Op.makeSlice t l c)
    (e : TypeId) (i : TypeInfo) (k : IntKind) (h1 : P.underlying t = some (.slice e)) (h2 : P.info? e = some i) (h3 : i.zero = some (.int k 0)) (h4 : i.size = 1)
    (kl kc : IntKind) (L C : Int) (n : Nat) (hl : a.eval l = .int kl L) (hc : a.eval c = .int kc C) (hL : L = (n : Int)) (hC : C = (n : Int)) (b2 : i.bytes * n ≤ 281474976710656) (b3 : n ≤ maxLen)
    (hK : ∀ w', Row k w' e w.heap.size (List.replicate n 0) → Below w.heap.size w w' → w'.heap.size = w.heap.size + 1 → wpList P ops Q rest (a.put o.dst (.slice (some ⟨w.heap.size, 0, none⟩) n n)) w') :
    wpList P ops Q (o :: rest) a w := by
  refine wpList_plain hg fun K hK' => ?_
  subst hL
  subst hC
  have hb : (i.bytes : Int) * (n : Int) ≤ 281474976710656 := by
    have h : ((i.bytes * n : Nat) : Int) ≤ 281474976710656 := by omega
    rwa [Int.natCast_mul] at h
  simp only [maxLen] at b3
  have hrun := run_make (P := P) w t e i _ h1 h2 h3 kl kc n n (by omega) (by omega) hb (by omega)
  rw [Int.toNat_natCast, h4, Nat.mul_one, madeCells_ints] at hrun
  unfold Oper.wp
  simp only [execOp, hop, hl, hc, Sem.run_bind, hrun, Result.andThen_ok, Sem.run_pure]
  exact hK' _ _ (hK _ (Row.new w e _) ((Below.refl _ _).alloc (Nat.le_refl _) _) (by simp))

/-- Two results, the first an array in memory. -/
theorem results_cell_tmp {P : Program} {fn : Func} {p q : Tmp} {ty : TypeId} (h : fn.results = #[.cell p ty, .tmp q]) (tmps : Array Value) (w : World) (g : Nat) (t : TypeId) (cs : Array Value) (fr : Nat × Nat) (d : TypeDesc)
    (hp : tmps.getD p undef = .pointer (some ⟨g, 0, none⟩)) (hg : w.heap[g]? = some (.cells cs t fr))
    (hu : P.underlying ty = some d) (hd : (match d with | .struct _ | .array _ _ => true | _ => false) = true) (hi : (P.info? ty).map (·.size) = some cs.size) :
    (results fn tmps).run P w = .ok (.tuple #[.agg cs, tmps.getD q undef]) w := by
  have hp' : tmps[p]?.getD undef = .pointer (some ⟨g, 0, none⟩) := by simpa using hp
  simp [results, h, hp', asAddr, run_loadVar_row w g t ty cs fr d hg hu hd hi]

section
variable {H : Type} {enc : TypeId × Value → H} {P : Program} {w : World} {base : Nat} {spare : Nat → Bool} {held : Bool}
end

/-- What a walk is told of a slice of bytes: bs: its bytes; where it has one, its place. -/
structure InBytes (w : World) (a : Option Addr) (n cap : Nat) (bs : List Int) : Prop where
  len : bs.length = n
  bytes : Bytes8 bs
  le : n ≤ cap
  max : cap ≤ maxLen
  nil : a = none → cap = 0
  place : 0 < n → ∃ g off, a = some ⟨g, off, none⟩ ∧ g < w.heap.size ∧ Seg .u8 w g off bs

theorem InBytes.below {w w' : World} {a : Option Addr} {n cap : Nat} {bs : List Int} (h : InBytes w a n cap bs) (hb : Below w.heap.size w w') : InBytes w' a n cap bs :=
  ⟨h.len, h.bytes, h.le, h.max, h.nil, fun h0 => by
    obtain ⟨g, off, e, hg, hs⟩ := h.place h0
    exact ⟨g, off, e, Nat.lt_of_lt_of_le hg hb.size, hs.below hb hg⟩⟩
section
variable {H : Type} {enc : TypeId × Value → H} {P : Program} {w : World} {base : Nat} {spare : Nat → Bool} {held : Bool}
theorem open_bytes {t e : TypeId} {a : Option Addr} {n cap : Nat} {d : DataW H} {p : List MemPlace}
    (hu : P.underlying t = some (.slice e)) (he : P.underlying e = some (.int .u8)) (hce : P.cellsOf e = 1)
    (h : DataW.Trod enc P w base spare held t (.slice a n cap) d p) : ∃ bs, InBytes w a n cap bs := by
  obtain ⟨fuel, hf⟩ := h
  rcases open_ints hu he hce hf with ⟨hcs, _⟩ | ⟨x, l, c, zs, hcs, _, hl, hm, hz, _, hcell, hwz⟩
  · simp [Value.cells] at hcs
    obtain ⟨rfl, rfl, rfl⟩ := hcs
    exact ⟨[], { len := rfl, bytes := (fun z hz => by cases hz), le := Nat.le_refl _, max := by simp [maxLen], nil := fun _ => rfl, place := fun h => by omega }⟩
  · simp [Value.cells] at hcs
    obtain ⟨rfl, rfl, rfl⟩ := hcs
    have hlz : n ≤ zs.length := by rw [hz]; split <;> omega
    refine ⟨zs.take n, { len := by simp; omega, bytes := fun z h => bounds_u8 (hwz z (List.mem_of_mem_take h)), le := hl, max := hm, nil := (fun h => by cases h), place := fun h0 => ?_ }⟩
    obtain ⟨g, off, spot⟩ := x
    have h1 := hcell 0 (by omega)
    have hspot : spot = none := by simpa [Addr.add] using World.cell?_spot h1
    subst hspot
    have hlt := World.block_lt_of_cell? w _ h1
    refine ⟨g, off, rfl, by simpa [Addr.add] using hlt, fun i hi => ?_⟩
    have hi2 : i < zs.length := by simp at hi; omega
    have h2 := hcell i hi2
    have hp : (⟨g, off, none⟩ : Addr).add i = ⟨g, off + i, none⟩ := by unfold Addr.add; split <;> simp_all
    rw [hp] at h2
    rw [h2]
    simp [List.getD, hi2]
end

theorem wpList_append_bytes {P : Program} (w : World) {ops : Array Oper} {rest : List Oper} {o : Oper} {a : Act} {Q : Exit → Act → World → Prop} (hgd : o.guard = none) (s x : Operand) (t : TypeId)
    (ho : o.op = .call { callee := .builtin .append, args := #[s, x], argTypes := #[t, t] })
    (base : Nat) (e : TypeId) (i : TypeInfo) (z : Value) (bytes : Nat) (ht : P.underlying t = some (.slice e)) (hi : P.info? e = some i) (hz : i.zero = some z)
    (hsize : i.size = 1) (hby : i.bytes = bytes) (hzs : z.cells.size = 1)
    (v : Value) (n : Nat) (xs : List Value) (hs : a.eval s = v) (hown : w.ownsRow base e 1 v n xs)
    (ad : Option Addr) (k cap : Nat) (r : List Int) (hx : a.eval x = .slice ad k cap) (hin : InBytes w ad k cap r)
    (h63 : n + k ≤ maxLen) (hbytes : (n + k) * bytes ≤ 140737488355328) (hbase : base ≤ w.heap.size)
    (h : ∀ v' w', w'.ownsRow base e 1 v' (n + k) (xs ++ r.map (Value.int .u8)) → w.grownBy w' v.ownBlock → wpList P ops Q rest (a.put o.dst v') w') : wpList P ops Q (o :: rest) a w := by
  cases ad with
  | none =>
    have hc := hin.nil rfl
    have hk : k = 0 := by have := hin.le; omega
    subst hc
    subst hk
    have hr : r = [] := List.eq_nil_of_length_eq_zero hin.len
    subst hr
    refine wpList_append_own_none hgd s x t ho base e i 1 ht hi v n xs hs hown hx ?_
    exact h v w (by simpa using hown) (only_refl w _)
  | some ad =>
    have hnews : ∀ (j : Nat) (u : Value), (r.map (Value.int .u8))[j]? = some u → w.cell? (ad.add j) = some u := by
      intro j u hu
      have hj : j < r.length := by
        rcases Nat.lt_or_ge j r.length with h | h
        · exact h
        · rw [List.getElem?_eq_none (by simpa using h)] at hu; cases hu
      have hl := hin.len
      obtain ⟨g, off, e1, _, hseg⟩ := hin.place (by omega)
      obtain rfl := Option.some.inj e1
      exact hseg.news j u hu
    refine wpList_append_own w hgd s x t ho base e i z 1 bytes ht hi hz hsize hby hzs (by omega) v n xs hs hown ad k cap (r.map (Value.int .u8)) hx (by simp [hin.len]) hnews (by simp [Value.oneCell']) h63 hbytes hbase ?_
    intro v' w' h1 h2 _
    exact h v' w' h1 h2

theorem conv_in {P : Program} {w : World} {a : Option Addr} {n cap : Nat} {bs : List Int} (h : InBytes w a n cap bs) (src e dst : TypeId) (hs : P.underlying src = some (.slice e)) (he : P.underlying e = some (.int .u8)) (hd : P.underlying dst = some .string) :
    (convert src dst (.slice a n cap)).run P w = .ok (.string (strOfNums bs)) w := by
  by_cases h0 : 0 < n
  · obtain ⟨g, off, rfl, _, hseg⟩ := h.place h0
    exact run_convert_bytes_arg w src e hs he g off n cap bs h.len (fun i hi => hseg.cellD i (by rw [h.len]; exact hi)) dst hd
  · have hn : n = 0 := by omega
    subst hn
    have hb : bs = [] := List.eq_nil_of_length_eq_zero h.len
    subst hb
    rw [run_convert_bytes_string w src dst e a 0 cap hs he hd]
    cases a with
    | none => simp [Conv.bytesToString, strOfNums]; rfl
    | some x =>
      have hl : (loadCells x 0).run P w = .ok (([] : List Int).map (Value.int .u8)).toArray w := by
        simpa using run_loadCells_list (P := P) w x [] (fun j v hj => by simp at hj)
      rw [run_bytesToString w x 0 cap [] hl]
      simp [strOfNums]; rfl

theorem wpList_append_bytes' {P : Program} (w : World) {ops : Array Oper} {rest : List Oper} {o : Oper} {a : Act} {Q : Exit → Act → World → Prop} (hgd : o.guard = none) (s x : Operand) (t : TypeId)
    (ho : o.op = .call { callee := .builtin .append, args := #[s, x], argTypes := #[t, t] })
    (base : Nat) (e : TypeId) (i : TypeInfo) (z : Value) (bytes : Nat) (ht : P.underlying t = some (.slice e)) (hi : P.info? e = some i) (hz : i.zero = some z)
    (hsize : i.size = 1) (hby : i.bytes = bytes) (hzs : z.cells.size = 1)
    (g0 n c0 : Nat) (xs : List Value) (hs : a.eval s = .slice (some ⟨g0, 0, none⟩) n c0) (hown : w.ownsRow base e 1 (.slice (some ⟨g0, 0, none⟩) n c0) n xs)
    (ad : Option Addr) (k cap : Nat) (r : List Int) (hx : a.eval x = .slice ad k cap) (hin : InBytes w ad k cap r)
    (h63 : n + k ≤ maxLen) (hbytes : (n + k) * bytes ≤ 140737488355328) (hbase : base ≤ w.heap.size)
    (h : ∀ g c w', w'.ownsRow base e 1 (.slice (some ⟨g, 0, none⟩) (n + k) c) (n + k) (xs ++ r.map (Value.int .u8)) → w.grownBy w' (some g0) → wpList P ops Q rest (a.put o.dst (.slice (some ⟨g, 0, none⟩) (n + k) c)) w') : wpList P ops Q (o :: rest) a w := by
  cases ad with
  | none =>
    have hc := hin.nil rfl
    have hk : k = 0 := by have := hin.le; omega
    subst hc
    subst hk
    have hr : r = [] := List.eq_nil_of_length_eq_zero hin.len
    subst hr
    refine wpList_append_own_none hgd s x t ho base e i 1 ht hi _ n xs hs hown hx ?_
    exact h g0 c0 w (by simpa using hown) (only_refl w _)
  | some ad =>
    have hnews : ∀ (j : Nat) (u : Value), (r.map (Value.int .u8))[j]? = some u → w.cell? (ad.add j) = some u := by
      intro j u hu
      have hj : j < r.length := by
        rcases Nat.lt_or_ge j r.length with h | h
        · exact h
        · rw [List.getElem?_eq_none (by simpa using h)] at hu; cases hu
      have hl := hin.len
      obtain ⟨g, off, e1, _, hseg⟩ := hin.place (by omega)
      obtain rfl := Option.some.inj e1
      exact hseg.news j u hu
    refine wpList_append_own w hgd s x t ho base e i z 1 bytes ht hi hz hsize hby hzs (by omega) _ n xs hs hown ad k cap (r.map (Value.int .u8)) hx (by simp [hin.len]) hnews (by simp [Value.oneCell']) h63 hbytes hbase ?_
    intro v' w' h1 h2 h3
    rcases h1.2 with ⟨hv, _⟩ | ⟨g, cap', cur, hv, _⟩
    · have := (h3.1 hv).1
      cases this
    · rw [hv] at h1 ⊢
      exact h g cap' w' h1 h2

theorem InBytes.upto {w : World} {a : Option Addr} {n cap : Nat} {bs : List Int} (h : InBytes w a n cap bs) (j : Nat) (hj : j ≤ n) : InBytes w a j cap (bs.take j) :=
  ⟨by have := h.len; simp; omega, fun z hz => h.bytes z (List.mem_of_mem_take hz), Nat.le_trans hj h.le, h.max, h.nil, fun h0 => by
    obtain ⟨g, off, e, hg, hs⟩ := h.place (by omega)
    exact ⟨g, off, e, hg, hs.take j⟩⟩
theorem InBytes.behind {w : World} {a : Option Addr} {n cap : Nat} {bs : List Int} (h : InBytes w a n cap bs) (j : Nat) (hj : j ≤ n) : InBytes w (if cap = j then a else a.map (·.add j)) (n - j) (cap - j) (bs.drop j) := by
  have hle := h.le
  refine ⟨by simp [h.len], fun z hz => h.bytes z (List.mem_of_mem_drop hz), by omega, by have := h.max; omega, fun hn => ?_, fun h0 => ?_⟩
  · have : a = none := by
      split at hn
      · exact hn
      · simpa using hn
    have := h.nil this
    omega
  · obtain ⟨g, off, rfl, hg, hs⟩ := h.place (by omega)
    refine ⟨g, off + j, ?_, hg, hs.drop j⟩
    rw [if_neg (by omega)]
    simp [Addr.add]

theorem InBytes.of_own {w : World} {base g n cap : Nat} {t : TypeId} {zs : List Int} (h : w.ownsRow base t 1 (.slice (some ⟨g, 0, none⟩) n cap) n (zs.map (Value.int .u8))) (hb : Bytes8 zs) : InBytes w (some ⟨g, 0, none⟩) n cap zs := by
  have hl : zs.length = n := by simpa using h.1
  have hlt := (h.lt g rfl).2
  have h2 := h.2
  rcases h2 with ⟨hv, _⟩ | ⟨g', cap', cur, hv, _, hh, hnc, hcm, _, _⟩
  · cases hv
  · injection hv with e1 e2 e3
    subst e3
    refine ⟨hl, hb, hnc, hcm, (fun hn => by cases hn), fun _ => ⟨g, 0, rfl, hlt, fun i hi => ?_⟩⟩
    have h3 := h.cells (g := g) rfl i (.int .u8 zs[i]) (by simp [hi])
    have hp : (⟨g, 0, none⟩ : Addr).add i = ⟨g, 0 + i, none⟩ := by unfold Addr.add; split <;> simp_all
    rw [hp] at h3
    exact h3

theorem InBytes.of_row {w : World} {g : Nat} {t : TypeId} {zs : List Int} (h : Row .u8 w t g zs) (hb : Bytes8 zs) (hl : zs.length ≤ 1000) : InBytes w (some ⟨g, 0, none⟩) zs.length zs.length zs :=
  ⟨rfl, hb, Nat.le_refl _, by simp only [maxLen]; omega, (fun h => by cases h), fun _ => ⟨g, 0, rfl, h.lt, h.seg⟩⟩
theorem own_seg {w : World} {base g n cap : Nat} {t : TypeId} {k : IntKind} {zs : List Int} (h : w.ownsRow base t 1 (.slice (some ⟨g, 0, none⟩) n cap) n (zs.map (Value.int k))) : Seg k w g 0 zs := fun i hi => by
  have h2 := h.cells (g := g) rfl i (.int k zs[i]) (by simp [hi])
  have hp : (⟨g, 0, none⟩ : Addr).add i = ⟨g, 0 + i, none⟩ := by unfold Addr.add; split <;> simp_all
  rw [hp] at h2
  exact h2
/-- A block that was just made, as a row of one's own. -/
theorem own_new (w : World) (t : TypeId) (k : IntKind) (zs : List Int) (base : Nat) (hb : base ≤ w.heap.size) (hl : zs.length ≤ maxLen) :
    (w.alloc (.cells (zs.map (Value.int k)).toArray t)).ownsRow base t 1 (.slice (some ⟨w.heap.size, 0, none⟩) zs.length zs.length) zs.length (zs.map (Value.int k)) :=
  ⟨by simp, .inr ⟨w.heap.size, zs.length, (zs.map (Value.int k)).toArray, rfl, hb, heap_alloc_new w _, Nat.le_refl _, hl, by simp, by rw [Nat.mul_one]; exact List.take_of_length_le (by simp)⟩⟩
theorem own_drew' {w : World} {base : Nat} {e : TypeId} {size : Nat} {v : Value} {n : Nat} {xs : List Value} (h : w.ownsRow base e size v n xs) : w.drew.ownsRow base e size v n xs := h
/-- Rows of unlike element types lie in unlike blocks. -/
theorem own_ne {w : World} {b b' : Nat} {e e' : TypeId} {g n c : Nat} {v : Value} {n' : Nat} {xs xs' : List Value} (h : w.ownsRow b e 1 (.slice (some ⟨g, 0, none⟩) n c) n xs) (h' : w.ownsRow b' e' 1 v n' xs') (hne : e ≠ e') : v.ownBlock ≠ some g := by
  rcases h'.2 with ⟨rfl, _⟩ | ⟨g2, c2, cur2, rfl, _, hh2, _⟩
  · simp [Value.ownBlock]
  · intro e1
    have : g2 = g := by simpa [Value.ownBlock] using e1
    subst this
    rcases h.2 with ⟨hv, _⟩ | ⟨g3, c3, cur3, hv, _, hh3, _⟩
    · cases hv
    · injection hv with e2
      injection e2 with e2
      injection e2 with e2
      subst e2
      rw [hh2] at hh3
      injection hh3 with hh3
      injection hh3 with _ hh3
      exact hne hh3.symm
def lenV : Value → Nat
  | .slice _ l _ => l
  | _ => 0
theorem ints_of_trod {H : Type} {enc : TypeId × Value → H} {P : Program} {w : World} {base : Nat} {sp : Nat → Bool} {held : Bool} {fuel : Nat} {t e : TypeId} {n : Nat} {k : IntKind} {cs : List Value} {zs : List Int} {ps : List MemPlace}
    (hu : P.underlying t = some (.array n e)) (he : P.underlying e = some (.int k)) (hce : P.cellsOf e = 1) (hct : P.cellsOf t = n) (hn : zs.length = n)
    (h : DataW.trod enc P w base sp held fuel t cs = some (.agg (zs.map fun z => .lit (.int k z)), ps)) : cs = zs.map (Value.int k) := by
  obtain ⟨xs, m, _, hx, hl, hxl, hi⟩ := DataW.trod_array hu h
  simp only [Prod.mk.injEq, DataW.agg.injEq] at hx
  apply List.ext_getElem
  · rw [hl, hct, List.length_map, hn]
  · intro i h1 h2
    have hin : i < n := by omega
    have hx1 := hi i hin
    rw [hce, Nat.mul_one, List.drop_eq_getElem_cons h1, List.getElem?_eq_getElem (by omega)] at hx1
    obtain ⟨a, e1, e2, _⟩ := DataW.trod_int he hx1
    have e3 : (xs.map (·.1))[i]? = (zs.map fun z => DataW.lit (H := H) (.int k z))[i]? := by rw [← hx.1]
    have hzi : i < zs.length := by omega
    have hxi : i < xs.length := by omega
    simp only [List.getElem?_map, List.getElem?_eq_getElem hxi, List.getElem?_eq_getElem hzi, Option.map_some, Option.some.injEq, e2, DataW.lit.injEq, Lit.int.injEq, true_and] at e3
    simp only [List.take_succ_cons, List.take_zero, List.cons.injEq, and_true] at e1
    rw [e1, e3]
    simp


/-! ### append of bytes that lie somewhere, or of a nil slice, onto a row of one's own, or onto nil -/
theorem own_below {w w' : World} {base B g n c : Nat} {e : TypeId} {xs : List Value} (h : w.ownsRow base e 1 (.slice (some ⟨g, 0, none⟩) n c) n xs) (hb : Below B w w') (hg : g < B) : w'.ownsRow base e 1 (.slice (some ⟨g, 0, none⟩) n c) n xs := by
  rcases h.2 with ⟨h1, _⟩ | ⟨g', c', cur, h1, h2, h3, h4⟩
  · cases h1
  · injection h1 with e1 e2 e3
    injection e1 with e1
    injection e1 with e1
    subst e1
    exact ⟨h.1, .inr ⟨g, c', cur, by rw [e3], h2, (hb.block g hg).trans h3, h4⟩⟩
theorem ofNat_inj : ∀ {xs ys : List Int}, Bytes8 xs → Bytes8 ys → (xs.map fun n => UInt8.ofNat n.toNat) = (ys.map fun n => UInt8.ofNat n.toNat) → xs = ys
  | [], [], _, _, _ => rfl
  | [], _ :: _, _, _, h => by simp at h
  | _ :: _, [], _, _, h => by simp at h
  | x :: xs, y :: ys, hx, hy, h => by
    simp only [List.map_cons, List.cons.injEq] at h
    have h1 := hx x (by simp)
    have h2 := hy y (by simp)
    have h3 := congrArg UInt8.toNat h.1
    rw [UInt8.toNat_ofNat', UInt8.toNat_ofNat'] at h3
    rw [ofNat_inj (fun z hz => hx z (List.mem_cons_of_mem _ hz)) (fun z hz => hy z (List.mem_cons_of_mem _ hz)) h.2, show x = y by omega]
theorem str_ne {xs ys : List Int} (hx : Bytes8 xs) (hy : Bytes8 ys) (h : xs ≠ ys) : ((strOfNums xs).toList == (strOfNums ys).toList) = false := by
  rw [beq_eq_false_iff_ne]
  intro h1
  unfold strOfNums at h1
  rw [ByteArray.toList_mk, ByteArray.toList_mk] at h1
  exact h (ofNat_inj hx hy h1)
theorem none_in (w : World) : InBytes w none 0 0 [] := ⟨rfl, (fun z hz => by cases hz), Nat.le_refl _, by simp [maxLen], fun _ => rfl, (fun h => by omega)⟩
theorem below_drawn {B : Nat} {a w : World} (h : Below B a w) (m : Nat) : Below B a (w.drewN m) := ⟨h.os, h.tape, h.output, h.size, h.block⟩
theorem own_app {w : World} {base g n k c : Nat} {t : TypeId} {xs ys : List Int} (h : w.ownsRow base t 1 (.slice (some ⟨g, 0, none⟩) (n + k) c) (n + k) (xs.map (Value.int .u8) ++ ys.map (Value.int .u8))) (hn : n = xs.length) (hk : k = ys.length) :
    w.ownsRow base t 1 (.slice (some ⟨g, 0, none⟩) (xs ++ ys).length c) (xs ++ ys).length ((xs ++ ys).map (Value.int .u8)) := by
  subst hn; subst hk
  rw [List.length_append, List.map_append]
  exact h
end Go.Proofs.YtkcmohmfejmfoaaGreatDoor

/- Arguments that are slices of anything: their cells, one behind the other, and what each element is. No program is named here. -/
namespace Go.Proofs.YtkcmohmfejmfoaaGreatDoor
open Go.ChangeShapes Go.WideShapes Go.RowKit Go.Deep
set_option linter.unusedVariables false

/-- A slice that lies somewhere: n elements of sz cells each; V: the cells' values. -/
structure InSl (w : World) (a : Option Addr) (n cap sz : Nat) (V : Nat → Value) : Prop where
  le : n ≤ cap
  max : cap ≤ maxLen
  nil : a = none → cap = 0
  place : 0 < n → ∃ g off, a = some ⟨g, off, none⟩ ∧ g < w.heap.size ∧ ∀ i, i < n * sz → w.cell? ⟨g, off + i, none⟩ = some (V i)
theorem InSl.below {w w' : World} {a : Option Addr} {n cap sz : Nat} {V : Nat → Value} (h : InSl w a n cap sz V) (hb : Below w.heap.size w w') : InSl w' a n cap sz V :=
  ⟨h.le, h.max, h.nil, fun h0 => by
    obtain ⟨g, off, e, hg, hc⟩ := h.place h0
    exact ⟨g, off, e, Nat.lt_of_lt_of_le hg hb.size, fun i hi => (hb.cell (p := ⟨g, off + i, none⟩) hg).trans (hc i hi)⟩⟩
section
variable {H : Type} {enc : TypeId × Value → H} {P : Program} {w : World} {base : Nat} {spare : Nat → Bool} {held : Bool}
theorem open_sl {t e : TypeId} {a : Option Addr} {n cap sz : Nat} {d : DataW H} {p : List MemPlace}
    (hu : P.underlying t = some (.slice e)) (hc : P.cellsOf e = sz) (hsz : 0 < sz)
    (h : DataW.Trod enc P w base spare held t (.slice a n cap) d p) :
    ∃ V, InSl w a n cap sz V ∧ ∀ i, i < n → ∃ fuel x, DataW.trod enc P w base spare held fuel e ((List.range sz).map fun j => V (i * sz + j)) = some x := by
  obtain ⟨fuel, hf⟩ := h
  rcases open_slice hu hf with ⟨hcs, _⟩ | ⟨x, l, c, m, k, D, Pl, hcs, hb, hl, hm, hmm, _, hx⟩
  · simp [Value.cells] at hcs
    obtain ⟨rfl, rfl, rfl⟩ := hcs
    exact ⟨fun _ => .nilIface, ⟨Nat.le_refl _, by simp [maxLen], fun _ => rfl, fun h => by omega⟩, fun i hi => by omega⟩
  · simp [Value.cells] at hcs
    obtain ⟨rfl, rfl, rfl⟩ := hcs
    rw [hc] at hx
    have hnm : n ≤ m := by rw [hmm]; split <;> omega
    by_cases h0 : 0 < n
    · obtain ⟨g, off, spot⟩ := x
      have hspot : spot = none := by
        obtain ⟨cs', h1, _⟩ := hx 0 (by omega)
        obtain ⟨_, hlen, hcc⟩ := World.cells?_some h1
        have h2 := hcc 0 hsz
        rw [List.getElem?_eq_getElem (by omega)] at h2
        simpa [Addr.add] using World.cell?_spot h2
      subst hspot
      have hadd : ∀ k, (⟨g, off, none⟩ : Addr).add k = ⟨g, off + k, none⟩ := fun k => by unfold Addr.add; split <;> simp_all
      have hadd2 : ∀ k j, ((⟨g, off, none⟩ : Addr).add k).add j = ⟨g, off + (k + j), none⟩ := fun k j => by
        rw [hadd k]
        unfold Addr.add
        split <;> simp_all
        omega
      have hcs : ∀ i, i < n → ∃ cs', cs'.length = sz ∧ (∀ j, j < sz → w.cell? ⟨g, off + (i * sz + j), none⟩ = cs'[j]?) ∧ DataW.trod enc P w base spare held k e cs' = some (D i, Pl i) := by
        intro i hi
        obtain ⟨cs', h1, h2⟩ := hx i (by omega)
        obtain ⟨_, hlen, hcc⟩ := World.cells?_some h1
        exact ⟨cs', hlen, fun j hj => by have := hcc j hj; rwa [hadd2] at this, h2⟩
      refine ⟨fun i => (w.cell? ⟨g, off + i, none⟩).getD .nilIface, ⟨hl, hm, (fun h => by cases h), fun _ => ⟨g, off, rfl, ?_, fun i hi => ?_⟩⟩, fun i hi => ?_⟩
      · obtain ⟨cs', hlen, hcc, _⟩ := hcs 0 h0
        have h2 := hcc 0 hsz
        rw [List.getElem?_eq_getElem (by omega)] at h2
        exact World.block_lt_of_cell? w _ h2
      · obtain ⟨cs', hlen, hcc, _⟩ := hcs (i / sz) (Nat.div_lt_of_lt_mul (by rw [Nat.mul_comm]; exact hi))
        have h2 := hcc (i % sz) (Nat.mod_lt _ hsz)
        rw [show i / sz * sz + i % sz = i by rw [Nat.mul_comm]; exact Nat.div_add_mod i sz] at h2
        have h3 := Nat.mod_lt i hsz
        rw [List.getElem?_eq_getElem (by omega)] at h2
        simp only [h2, Option.getD_some]
      · obtain ⟨cs', hlen, hcc, ht⟩ := hcs i hi
        refine ⟨k, (D i, Pl i), ?_⟩
        have e : ((List.range sz).map fun j => (w.cell? ⟨g, off + (i * sz + j), none⟩).getD .nilIface) = cs' := by
          apply List.ext_getElem
          · simp [hlen]
          · intro j h1 h2
            simp only [List.getElem_map, List.getElem_range]
            rw [hcc j (by omega), List.getElem?_eq_getElem h2]
            rfl
        rw [e]
        exact ht
    · obtain rfl : n = 0 := by omega
      exact ⟨fun _ => .nilIface, ⟨hl, hm, (fun h => by cases h), fun h => by omega⟩, fun i hi => by omega⟩

end
end Go.Proofs.YtkcmohmfejmfoaaGreatDoor

/- Trees as arguments: the view of a tree that lies somewhere. No program is named here. -/
namespace Go.Proofs.YtkcmohmfejmfoaaGreatDoor
open Go.ChangeShapes Go.WideShapes Go.RowKit Go.Deep
set_option linter.unusedVariables false

/-- A tree: its kind, key, value, digest and kids. -/
inductive Tr where
  | mk (k : Int) (key val dig : List Int) (kids : List Tr)
def Tr.k : Tr → Int | .mk k _ _ _ _ => k
def Tr.key : Tr → List Int | .mk _ key _ _ _ => key
def Tr.val : Tr → List Int | .mk _ _ val _ _ => val
def Tr.dig : Tr → List Int | .mk _ _ _ dig _ => dig
def Tr.kids : Tr → List Tr | .mk _ _ _ _ kids => kids
theorem Tr.ind {P : Tr → Prop} (h : ∀ t : Tr, (∀ x ∈ t.kids, P x) → P t) : ∀ t, P t
  | .mk k key val dig kids => h (.mk k key val dig kids) (fun x hx => Tr.ind h x)
termination_by t => SizeOf.sizeOf t
decreasing_by
  have := List.sizeOf_lt_of_mem hx
  simp only [Tr.kids] at *
  simp
  omega
theorem Tr.size_lt {t x : Tr} (hx : x ∈ t.kids) : SizeOf.sizeOf x < SizeOf.sizeOf t := by
  cases t with
  | mk k key val dig kids =>
    have := List.sizeOf_lt_of_mem (show x ∈ kids from hx)
    simp
    omega

/-- The head of a tree's value: its five cells. -/
structure TH where
  k : Int
  ka : Option Addr
  kn : Nat
  kc : Nat
  va : Option Addr
  vn : Nat
  vc : Nat
  da : Option Addr
  dn : Nat
  dc : Nat
  ta : Option Addr
  tn : Nat
  tc : Nat
def TH.cells (h : TH) : List Value := [.int .i64 h.k, .slice h.ka h.kn h.kc, .slice h.va h.vn h.vc, .slice h.da h.dn h.dc, .slice h.ta h.tn h.tc]
def TH.cell (h : TH) (j : Nat) : Value := h.cells.getD j .nilIface
def TH.v (h : TH) : Value := .agg #[.int .i64 h.k, .slice h.ka h.kn h.kc, .slice h.va h.vn h.vc, .slice h.da h.dn h.dc, .slice h.ta h.tn h.tc]

/-- A tree that lies in world w; h is its head. -/
inductive InTree (w : World) : TH → Tr → Prop
  | mk (h : TH) (t : Tr) (H : Nat → TH) (hk : h.k = t.k) (hk1 : -9223372036854775808 ≤ h.k) (hk2 : h.k ≤ 9223372036854775807)
      (key : InBytes w h.ka h.kn h.kc t.key) (val : InBytes w h.va h.vn h.vc t.val) (dig : InBytes w h.da h.dn h.dc t.dig)
      (sl : InSl w h.ta h.tn h.tc 5 (fun i => (H (i / 5)).cell (i % 5))) (len : t.kids.length = h.tn)
      (kids : ∀ i (hi : i < t.kids.length), InTree w (H i) t.kids[i]) : InTree w h t

theorem InTree.lower {w w' : World} (hb : Below w.heap.size w w') {h : TH} {t : Tr} (ht : InTree w h t) : InTree w' h t := by
  induction ht with
  | mk h t H hk hk1 hk2 key val dig sl len kids ih => exact .mk h t H hk hk1 hk2 (key.below hb) (val.below hb) (dig.below hb) (sl.below hb) len ih

/-- What a tree's parts are. -/
structure TreeAt (w : World) (h : TH) (t : Tr) (H : Nat → TH) : Prop where
  hk : h.k = t.k
  hk1 : -9223372036854775808 ≤ h.k
  hk2 : h.k ≤ 9223372036854775807
  key : InBytes w h.ka h.kn h.kc t.key
  val : InBytes w h.va h.vn h.vc t.val
  dig : InBytes w h.da h.dn h.dc t.dig
  sl : InSl w h.ta h.tn h.tc 5 (fun i => (H (i / 5)).cell (i % 5))
  len : t.kids.length = h.tn
  kids : ∀ i (hi : i < t.kids.length), InTree w (H i) t.kids[i]
theorem InTree.parts {w : World} {h : TH} {t : Tr} (ht : InTree w h t) : ∃ H, TreeAt w h t H := by
  cases ht with
  | mk h t H hk hk1 hk2 key val dig sl len kids => exact ⟨H, hk, hk1, hk2, key, val, dig, sl, len, kids⟩
theorem TreeAt.below {w w' : World} {h : TH} {t : Tr} {H : Nat → TH} (ht : TreeAt w h t H) (hb : Below w.heap.size w w') : TreeAt w' h t H :=
  ⟨ht.hk, ht.hk1, ht.hk2, ht.key.below hb, ht.val.below hb, ht.dig.below hb, ht.sl.below hb, ht.len, fun i hi => (ht.kids i hi).lower hb⟩
/-- Where the kids lie, cell by cell. -/
theorem TreeAt.place {w : World} {h : TH} {t : Tr} {H : Nat → TH} (ht : TreeAt w h t H) (h0 : 0 < h.tn) : ∃ g off, h.ta = some ⟨g, off, none⟩ ∧ g < w.heap.size ∧
    ∀ i, i < h.tn → w.cell? ⟨g, off + i * 5, none⟩ = some (.int .i64 (H i).k) ∧ w.cell? ⟨g, off + i * 5 + 1, none⟩ = some (.slice (H i).ka (H i).kn (H i).kc) ∧ w.cell? ⟨g, off + i * 5 + 2, none⟩ = some (.slice (H i).va (H i).vn (H i).vc) ∧
      w.cell? ⟨g, off + i * 5 + 3, none⟩ = some (.slice (H i).da (H i).dn (H i).dc) ∧ w.cell? ⟨g, off + i * 5 + 4, none⟩ = some (.slice (H i).ta (H i).tn (H i).tc) := by
  obtain ⟨g, off, e, hg, hc⟩ := ht.sl.place h0
  refine ⟨g, off, e, hg, fun i hi => ?_⟩
  have key : ∀ j, j < 5 → w.cell? ⟨g, off + i * 5 + j, none⟩ = some ((H i).cell j) := fun j hj => by
    have h1 := hc (i * 5 + j) (by omega)
    try dsimp only at h1
    rw [show (i * 5 + j) / 5 = i by omega, show (i * 5 + j) % 5 = j by omega, ← Nat.add_assoc] at h1
    exact h1
  exact ⟨key 0 (by omega), key 1 (by omega), key 2 (by omega), key 3 (by omega), key 4 (by omega)⟩
/-- The same, where the kids' place is known. -/
theorem TreeAt.cellsAt {w : World} {h : TH} {t : Tr} {H : Nat → TH} (ht : TreeAt w h t H) {g off : Nat} (hta : h.ta = some ⟨g, off, none⟩) (i : Nat) (hi : i < h.tn) : w.cell? ⟨g, off + i * 5, none⟩ = some (.int .i64 (H i).k) ∧ w.cell? ⟨g, off + i * 5 + 1, none⟩ = some (.slice (H i).ka (H i).kn (H i).kc) ∧ w.cell? ⟨g, off + i * 5 + 2, none⟩ = some (.slice (H i).va (H i).vn (H i).vc) ∧ w.cell? ⟨g, off + i * 5 + 3, none⟩ = some (.slice (H i).da (H i).dn (H i).dc) ∧ w.cell? ⟨g, off + i * 5 + 4, none⟩ = some (.slice (H i).ta (H i).tn (H i).tc) := by
  obtain ⟨g', off', e, _, hc⟩ := ht.place (by omega)
  rw [hta] at e
  injection e with e
  injection e with e1 e2
  subst e1 e2
  exact hc i hi
theorem TreeAt.kid0 {w : World} {h : TH} {t : Tr} {H : Nat → TH} (ht : TreeAt w h t H) {g off : Nat} (hta : h.ta = some ⟨g, off, none⟩) (hi : 0 < h.tn) : w.cell? ⟨g, off, none⟩ = some (.int .i64 (H 0).k) ∧ w.cell? ⟨g, off + 1, none⟩ = some (.slice (H 0).ka (H 0).kn (H 0).kc) ∧ w.cell? ⟨g, off + 2, none⟩ = some (.slice (H 0).va (H 0).vn (H 0).vc) ∧ w.cell? ⟨g, off + 3, none⟩ = some (.slice (H 0).da (H 0).dn (H 0).dc) ∧ w.cell? ⟨g, off + 4, none⟩ = some (.slice (H 0).ta (H 0).tn (H 0).tc) := by
  have h1 := ht.cellsAt hta 0 hi
  simpa only [Nat.zero_mul, Nat.add_zero] using h1
theorem TreeAt.kid1 {w : World} {h : TH} {t : Tr} {H : Nat → TH} (ht : TreeAt w h t H) {g off : Nat} (hta : h.ta = some ⟨g, off, none⟩) (hi : 1 < h.tn) : w.cell? ⟨g, off + 5, none⟩ = some (.int .i64 (H 1).k) ∧ w.cell? ⟨g, off + 5 + 1, none⟩ = some (.slice (H 1).ka (H 1).kn (H 1).kc) ∧ w.cell? ⟨g, off + 5 + 2, none⟩ = some (.slice (H 1).va (H 1).vn (H 1).vc) ∧ w.cell? ⟨g, off + 5 + 3, none⟩ = some (.slice (H 1).da (H 1).dn (H 1).dc) ∧ w.cell? ⟨g, off + 5 + 4, none⟩ = some (.slice (H 1).ta (H 1).tn (H 1).tc) := by
  have h1 := ht.cellsAt hta 1 hi
  simpa only [Nat.one_mul] using h1
/-- Block g holds a tree's five cells. -/
def Box (w : World) (ty : TypeId) (g : Nat) (h : TH) : Prop := w.heap[g]? = some (.cells #[.int .i64 h.k, .slice h.ka h.kn h.kc, .slice h.va h.vn h.vc, .slice h.da h.dn h.dc, .slice h.ta h.tn h.tc] ty (0, 0))
theorem Box.new (w : World) (ty : TypeId) (h : TH) : Box (w.alloc (.cells #[.int .i64 h.k, .slice h.ka h.kn h.kc, .slice h.va h.vn h.vc, .slice h.da h.dn h.dc, .slice h.ta h.tn h.tc] ty)) ty w.heap.size h := heap_alloc_new w _
section
variable {w w' : World} {ty : TypeId} {g : Nat} {h : TH}
theorem Box.below {B : Nat} (hx : Box w ty g h) (hb : Below B w w') (hg : g < B) : Box w' ty g h := (hb.block g hg).trans hx
theorem Box.lt (hx : Box w ty g h) : g < w.heap.size := by
  rcases Nat.lt_or_ge g w.heap.size with hlt | hge
  · exact hlt
  · unfold Box at hx; rw [Array.getElem?_eq_none hge] at hx; cases hx
theorem Box.cells (hx : Box w ty g h) : w.cell? ⟨g, 0, none⟩ = some (.int .i64 h.k) ∧ w.cell? ⟨g, 1, none⟩ = some (.slice h.ka h.kn h.kc) ∧ w.cell? ⟨g, 2, none⟩ = some (.slice h.va h.vn h.vc) ∧ w.cell? ⟨g, 3, none⟩ = some (.slice h.da h.dn h.dc) ∧ w.cell? ⟨g, 4, none⟩ = some (.slice h.ta h.tn h.tc) := by
  unfold Box at hx
  refine ⟨?_, ?_, ?_, ?_, ?_⟩
  all_goals
    rw [cell_of_row w g _ _ _ (0, 0) hx]
    rfl
end
/-- Small enough: the bounds that the document's measure lays. -/
inductive LightOK : Tr → Prop
  | mk (t : Tr) (hk : t.key.length ≤ 3000) (hv : t.val.length ≤ 3000) (hd : t.dig.length ≤ 3000) (hn : t.kids.length ≤ 500) (kids : ∀ i (hi : i < t.kids.length), LightOK t.kids[i]) : LightOK t
end Go.Proofs.YtkcmohmfejmfoaaGreatDoor

/- What the document says of trees, as functions. No program is named here. -/
namespace Go.Proofs.YtkcmohmfejmfoaaGreatDoor
set_option linter.unusedVariables false

/-- A function over a tree, out of its kids' answers. -/
def Tr.fold {α : Type} (f : Tr → List α → α) (t : Tr) : α := f t (t.kids.attach.map fun x => Tr.fold f x.1)
termination_by SizeOf.sizeOf t
decreasing_by exact Tr.size_lt x.2
theorem Tr.fold_eq {α : Type} (f : Tr → List α → α) (t : Tr) : t.fold f = f t (t.kids.map (Tr.fold f)) := by
  rw [Tr.fold]
  congr 1
  exact List.attach_map_val

/-- How many parts it has. -/
def countT (t : Tr) : Nat := t.fold fun _ rs => 1 + rs.sum
theorem countT_eq (t : Tr) : countT t = 1 + (t.kids.map countT).sum := by
  unfold countT
  rw [Tr.fold_eq]
/-- Counts it as a node? -/
def isNode (t : Tr) : Bool := t.k == 1 || (t.k == 2 || decide (0 < t.kids.length))
/-- Is there a way of more than b nodes? -/
def deepT (t : Tr) (b : Int) : Bool := t.fold (fun t (rs : List (Int → Bool)) b => isNode t && b == 0 || rs.any (fun r => r (b - 1))) b
theorem deepT_eq (t : Tr) (b : Int) : deepT t b = (isNode t && b == 0 || t.kids.any (fun x => deepT x (b - 1))) := by
  unfold deepT
  rw [Tr.fold_eq]
  simp [List.any_map, Function.comp_def]

/-- Is a part as it should be, its kids aside? -/
def partB (t : Tr) : Bool :=
  if t.k = 0 then decide (t.key.length = 0) && (decide (t.val.length = 0) && (decide (t.dig.length = 0) && decide (t.kids.length = 0)))
  else if t.k = 1 then decide (t.key.length ≤ 80) && (decide (t.val.length ≤ 1024) && (decide (t.dig.length = 0) && decide (t.kids.length = 2)))
  else if t.k = 2 then decide (t.key.length ≤ 80) && (decide (t.val.length = 0) && decide (t.kids.length = 2))
  else if t.k = 3 then decide (t.key.length = 0) && (decide (t.val.length = 0) && decide (t.kids.length = 0))
  else false
def formedT (t : Tr) : Bool := t.fold fun t rs => partB t && rs.all id
theorem formedT_eq (t : Tr) : formedT t = (partB t && t.kids.all formedT) := by
  unfold formedT
  rw [Tr.fold_eq]
  simp [List.all_map, Function.comp_def]
/-- The number of the error, or 0. -/
def checkT (t : Tr) : Nat := if deepT t 64 then 5 else if formedT t then 0 else 3

def fullT (t : Tr) : Bool := t.fold fun t rs => decide (t.k ≤ 1) && rs.all id
theorem fullT_eq (t : Tr) : fullT t = (decide (t.k ≤ 1) && t.kids.all fullT) := by
  unfold fullT
  rw [Tr.fold_eq]
  simp [List.all_map, Function.comp_def]
def depthT (t : Tr) : Nat := t.fold fun t rs => if rs.length = 0 then 0 else max (rs.getD 0 0) (rs.getD 1 0) + 1
theorem depthT_eq (t : Tr) : depthT t = if t.kids.length = 0 then 0 else max ((t.kids.map depthT).getD 0 0) ((t.kids.map depthT).getD 1 0) + 1 := by
  unfold depthT
  rw [Tr.fold_eq]
  simp only [List.length_map]
/-- The nodes of a tree that is formed, by the order of their keys. -/
def listT (t : Tr) : List Tr := t.fold fun t rs => if rs.length = 0 then [] else rs.getD 0 [] ++ (t :: rs.getD 1 [])
theorem listT_0 {t : Tr} (h : t.kids.length = 0) : listT t = [] := by
  unfold listT
  rw [Tr.fold_eq, if_pos (by simpa using h)]
theorem listT_2 {t : Tr} (h : t.kids.length = 2) : listT t = listT (t.kids[0]'(by omega)) ++ (t :: listT (t.kids[1]'(by omega))) := by
  have e : listT t = if (t.kids.map listT).length = 0 then [] else (t.kids.map listT).getD 0 [] ++ (t :: (t.kids.map listT).getD 1 []) := by
    conv => lhs; unfold listT
    rw [Tr.fold_eq]
    rfl
  rw [e, if_neg (by rw [List.length_map]; omega)]
  simp [List.getD, h]
theorem sum_two {l : List Nat} (h : l.length = 2) : l.sum = l[0]'(by omega) + l[1]'(by omega) := by
  rcases l with _ | ⟨a, _ | ⟨b, _ | ⟨c, r⟩⟩⟩ <;> simp at h
  simp
theorem check_zeroR {t : Tr} (h : checkT t = 0) : formedT t = true ∧ deepT t 64 = false := by
  unfold checkT at h
  split at h
  · cases h
  · split at h
    · exact ⟨by assumption, by rename_i q _; simpa using q⟩
    · cases h
end Go.Proofs.YtkcmohmfejmfoaaGreatDoor

/- The byte's type, as the program has it; slices of new memory. -/
namespace Go.Proofs.YtkcmohmfejmfoaaGreatDoor
open Go.RowKit
theorem infoU8 : (Tryz.prog.info? 5).map (fun i => (i.zero, i.size, i.bytes)) = some (some (.int .u8 0), 1, 1) := by kernel_rfl
/-- A slice of new memory that holds the bytes zs. -/
def OwnPost (w : World) (zs : List Int) (e : Ending) (w' : World) : Prop :=
  ∃ g c, e = .returned (.slice (some ⟨g, 0, none⟩) zs.length c) ∧ w'.ownsRow w.heap.size 5 1 (.slice (some ⟨g, 0, none⟩) zs.length c) zs.length (zs.map (Value.int .u8)) ∧ Below w.heap.size w w'
end Go.Proofs.YtkcmohmfejmfoaaGreatDoor

/- The contracts of the document's checks of trees. -/
namespace Go.Proofs.YtkcmohmfejmfoaaGreatDoor
open Go.RowKit
set_option linter.unusedVariables false

/-- It answers v; what was there stays. -/
def Says (w : World) (v : Value) (e : Ending) (w' : World) : Prop := e = .returned v ∧ Below w.heap.size w w'

theorem any_take {α : Type} (l : List α) (p : α → Bool) (i : Nat) (hi : i < l.length) : (l.take (i + 1)).any p = ((l.take i).any p || p l[i]) := by
  rw [List.take_succ_eq_append_getElem hi, List.any_append]
  simp
theorem all_take {α : Type} (l : List α) (p : α → Bool) (i : Nat) (hi : i < l.length) : (l.take (i + 1)).all p = ((l.take i).all p && p l[i]) := by
  rw [List.take_succ_eq_append_getElem hi, List.all_append]
  simp
theorem any_at {α : Type} {l : List α} {p : α → Bool} (i : Nat) (hi : i < l.length) (h : p l[i] = true) : l.any p = true := List.any_eq_true.mpr ⟨_, List.getElem_mem hi, h⟩
theorem all_not {α : Type} {l : List α} {p : α → Bool} (i : Nat) (hi : i < l.length) (h : p l[i] = false) : l.all p = false := by
  rw [Bool.eq_false_iff]
  intro hc
  have := List.all_eq_true.mp hc _ (List.getElem_mem hi)
  rw [this] at h
  cases h
set_option maxRecDepth 100000 in
set_option maxHeartbeats 4000000 in
theorem refDeep_any : ∀ (t : Tr) (h : TH) (b : Int) (w : World), InTree w h t → 0 ≤ b → b ≤ 64 →
    Calls Tryz.prog 47 #[h.v, .int .i64 b] w (Says w (.bool (deepT t b))) := by
  intro t
  induction t using Tr.ind with
  | h t ih =>
  intro h b w ht hb0 hb1
  unfold TH.v
  obtain ⟨H, hp⟩ := ht.parts
  have hkl := hp.key.len
  have hvl := hp.val.len
  have hdl := hp.dig.len
  have htl := hp.len
  have HK := Lib.hid hp.hk
  have htm := Nat.le_trans hp.sl.le hp.sl.max
  have htc := hp.sl.le
  simp only [maxLen] at htm
  have HP := Lib.hid hp
  have IH := Lib.hid ih
  clear hp ht ih
  have hbox := Box.new w 25 h
  have HX := Lib.hid hbox
  obtain ⟨x0, x1, x2, x3, x4⟩ := hbox.cells
  clear hbox
  have hw1 : Below w.heap.size w (w.alloc (.cells #[.int .i64 h.k, .slice h.ka h.kn h.kc, .slice h.va h.vn h.vc, .slice h.da h.dn h.dc, .slice h.ta h.tn h.tc] 25)) := (Below.refl _ _).alloc (Nat.le_refl _) _
  have HB := Lib.hid hw1
  clear hw1
  go_enter Tryz.func47, Tryz.ntmps47
  go_upto_region 1 with fail
  go_cut [5] (fun s5 wx => s5 = .bool (isNode t) ∧ Box wx 25 w.heap.size h ∧ Below w.heap.size w wx)
  case first =>
    have hk := HK.out
    have hin : isNode t = (h.k == 1 || (h.k == 2 || decide (0 < h.tn))) := by unfold isNode; rw [hk, htl]
    have HI := Lib.hid hin
    clear hk hin
    cases hb1 : (h.k == 1)
    · cases hb2 : (h.k == 2)
      · go_wp2_with fail
        go_meet
        refine ⟨?_, HX.out, HB.out⟩
        rw [HI.out, hb1, hb2]
        simp
      · go_wp2_with fail
        go_meet
        refine ⟨?_, HX.out, HB.out⟩
        rw [HI.out, hb1, hb2]
        simp
    · go_wp2_with fail
      go_meet
      refine ⟨?_, HX.out, HB.out⟩
      rw [HI.out, hb1]
      simp
  case rest =>
    obtain ⟨rfl, hbx, hbw⟩ := hcut
    clear x0 x1 x2 x3 x4 HX HB
    have HBX := Lib.hid hbx
    have HBW := Lib.hid hbw
    have hx4 := hbx.cells.2.2.2.2
    clear hbx hbw
    by_cases hn : isNode t = true
    · by_cases hb : b = 0
      · subst hb
        go_wp2_with fail
        go_ret
        have hd : deepT t 0 = true := by rw [deepT_eq, hn]; rfl
        exact ⟨by rw [hd]; rfl, HBW.out⟩
      · have HNB : Hid (0 < h.tn → 1 ≤ b) := Lib.hid (by omega)
        have HC : Hid ((isNode t && b == 0) = false) := Lib.hid (by simp [hb])
        have hbb : (b == 0) = false := by simp [hb]
        go_wp2_with fail
        clear hx4
        go_loopw [6] (fun s6 wx => ∃ i : Nat, i ≤ h.tn ∧ s6 = .int .i64 i ∧ Box wx 25 w.heap.size h ∧ Below w.heap.size w wx ∧ (t.kids.take i).any (fun x => deepT x (b - 1)) = false) (fun s6 _ => h.tn - (intOf s6).toNat)
        case atStart => exact ⟨0, by omega, rfl, HBX.out, HBW.out, by simp⟩
        case round =>
          clear HBX HBW
          obtain ⟨i, hi, rfl, hbx, hbw, hany⟩ := hrel
          have hx4 := hbx.cells.2.2.2.2
          have HBX := Lib.hid hbx
          have HBW := Lib.hid hbw
          have HA := Lib.hid hany
          clear hbx hbw hany
          by_cases hlt : i < h.tn
          · have q1 : (i : Int) < (h.tn : Int) := by omega
            have hb1' := HNB.out (by omega)
            obtain ⟨g, off, hta, hg, hcs⟩ := (HP.out.below HBW.out).place (by omega)
            rw [hta] at hx4
            obtain ⟨k0, k1, k2, k3, k4⟩ := hcs i hlt
            have him : i < t.kids.length := by omega
            clear hcs hta
            go_upto_region 8 with (first
              | (go_at_call 47
                 refine (IH.out _ (List.getElem_mem him) (H i) (b - 1) _ ((HP.out.below HBW.out).kids i him) (by omega) (by omega)).mono ?_
                 rintro _ w1 ⟨rfl, hb1⟩
                 have HB1 : Hid (Below w.heap.size w w1) := Lib.hid (HBW.out.trans (hb1.mono HBW.out.size))
                 have HX1 := Lib.hid (HBX.out.below hb1 HBX.out.lt)
                 generalize hr : deepT t.kids[i] (b - 1) = r
                 have HR := Lib.hid hr
                 clear hb1 hr))
            clear hx4 k0 k1 k2 k3 k4
            cases r
            · go_wp2_with fail
              exact ⟨⟨i + 1, by omega, by go_num, HX1.out, HB1.out, by rw [any_take _ _ i him, HA.out, HR.out]; rfl⟩, by simp [intOf]; omega⟩
            · go_wp2_with fail
              go_ret
              have hd : deepT t b = true := by rw [deepT_eq, any_at i him HR.out, Bool.or_true]
              exact ⟨by rw [hd]; rfl, HB1.out⟩
          · obtain rfl : i = h.tn := by omega
            have q1 : ¬ (h.tn : Int) < (h.tn : Int) := by omega
            go_wp2_with fail
            go_ret
            have hA := HA.out
            rw [List.take_of_length_le (by omega)] at hA
            have hd : deepT t b = false := by rw [deepT_eq, HC.out, hA]; rfl
            exact ⟨by rw [hd]; rfl, HBW.out⟩
    · have hn2 : isNode t = false := by simpa using hn
      have HNB : Hid (0 < h.tn → 1 ≤ b) := Lib.hid (fun h0 => by
        exfalso
        apply hn
        unfold isNode
        rw [htl]
        simp [h0])
      have HC : Hid ((isNode t && b == 0) = false) := Lib.hid (by simp [hn2])
      clear hn
      go_wp2_with fail
      clear hx4
      go_loopw [6] (fun s6 wx => ∃ i : Nat, i ≤ h.tn ∧ s6 = .int .i64 i ∧ Box wx 25 w.heap.size h ∧ Below w.heap.size w wx ∧ (t.kids.take i).any (fun x => deepT x (b - 1)) = false) (fun s6 _ => h.tn - (intOf s6).toNat)
      case atStart => exact ⟨0, by omega, rfl, HBX.out, HBW.out, by simp⟩
      case round =>
        clear HBX HBW
        obtain ⟨i, hi, rfl, hbx, hbw, hany⟩ := hrel
        have hx4 := hbx.cells.2.2.2.2
        have HBX := Lib.hid hbx
        have HBW := Lib.hid hbw
        have HA := Lib.hid hany
        clear hbx hbw hany
        by_cases hlt : i < h.tn
        · have q1 : (i : Int) < (h.tn : Int) := by omega
          have hb1' := HNB.out (by omega)
          obtain ⟨g, off, hta, hg, hcs⟩ := (HP.out.below HBW.out).place (by omega)
          rw [hta] at hx4
          obtain ⟨k0, k1, k2, k3, k4⟩ := hcs i hlt
          have him : i < t.kids.length := by omega
          clear hcs hta
          go_upto_region 8 with (first
            | (go_at_call 47
               refine (IH.out _ (List.getElem_mem him) (H i) (b - 1) _ ((HP.out.below HBW.out).kids i him) (by omega) (by omega)).mono ?_
               rintro _ w1 ⟨rfl, hb1⟩
               have HB1 : Hid (Below w.heap.size w w1) := Lib.hid (HBW.out.trans (hb1.mono HBW.out.size))
               have HX1 := Lib.hid (HBX.out.below hb1 HBX.out.lt)
               generalize hr : deepT t.kids[i] (b - 1) = r
               have HR := Lib.hid hr
               clear hb1 hr))
          clear hx4 k0 k1 k2 k3 k4
          cases r
          · go_wp2_with fail
            exact ⟨⟨i + 1, by omega, by go_num, HX1.out, HB1.out, by rw [any_take _ _ i him, HA.out, HR.out]; rfl⟩, by simp [intOf]; omega⟩
          · go_wp2_with fail
            go_ret
            have hd : deepT t b = true := by rw [deepT_eq, any_at i him HR.out, Bool.or_true]
            exact ⟨by rw [hd]; rfl, HB1.out⟩
        · obtain rfl : i = h.tn := by omega
          have q1 : ¬ (h.tn : Int) < (h.tn : Int) := by omega
          go_wp2_with fail
          go_ret
          have hA := HA.out
          rw [List.take_of_length_le (by omega)] at hA
          have hd : deepT t b = false := by rw [deepT_eq, HC.out, hA]; rfl
          exact ⟨by rw [hd]; rfl, HBW.out⟩
set_option maxRecDepth 100000 in
set_option maxHeartbeats 4000000 in
theorem partB_head {w : World} {h : TH} {t : Tr} {H : Nat → TH} (hp : TreeAt w h t H) : partB t = (if h.k == 0 then (((h.kn : Int) == 0) && (((h.vn : Int) == 0) && (((h.dn : Int) == 0) && ((h.tn : Int) == 0)))) else if h.k == 1 then (decide ((h.kn : Int) ≤ 80) && (decide ((h.vn : Int) ≤ 1024) && (((h.dn : Int) == 0) && ((h.tn : Int) == 2)))) else if h.k == 2 then (decide ((h.kn : Int) ≤ 80) && (((h.vn : Int) == 0) && ((h.tn : Int) == 2))) else if h.k == 3 then (((h.kn : Int) == 0) && (((h.vn : Int) == 0) && ((h.tn : Int) == 0))) else false) := by
  have e1 := hp.hk
  have e2 := hp.key.len
  have e3 := hp.val.len
  have e4 := hp.dig.len
  have e5 := hp.len
  unfold partB
  rw [← e1, e2, e3, e4, e5]
  have q : ∀ (x : Nat) (y : Nat), decide (x = y) = ((x : Int) == (y : Int)) := fun x y => by rw [Bool.eq_iff_iff]; simp; omega
  have q2 : ∀ (x : Nat) (y : Nat), decide (x ≤ y) = decide ((x : Int) ≤ (y : Int)) := fun x y => by rw [Bool.eq_iff_iff]; simp
  rw [q, q, q, q, q, q2, q2]
  simp only [beq_iff_eq]
  rfl
set_option maxRecDepth 100000 in
set_option maxHeartbeats 4000000 in
theorem refFormed_any : ∀ (t : Tr) (h : TH) (w : World), InTree w h t →
    Calls Tryz.prog 48 #[h.v] w (Says w (.bool (formedT t))) := by
  intro t
  induction t using Tr.ind with
  | h t ih =>
  intro h w ht
  unfold TH.v
  obtain ⟨H, hp⟩ := ht.parts
  have hkl := hp.key.len
  have hvl := hp.val.len
  have hdl := hp.dig.len
  have htl := hp.len
  have HK := Lib.hid hp.hk
  have htm := Nat.le_trans hp.sl.le hp.sl.max
  have htc := hp.sl.le
  simp only [maxLen] at htm
  have HP := Lib.hid hp
  have IH := Lib.hid ih
  clear hp ht ih
  have hbox := Box.new w 25 h
  have HX := Lib.hid hbox
  obtain ⟨x0, x1, x2, x3, x4⟩ := hbox.cells
  clear hbox
  have hw1 : Below w.heap.size w (w.alloc (.cells #[.int .i64 h.k, .slice h.ka h.kn h.kc, .slice h.va h.vn h.vc, .slice h.da h.dn h.dc, .slice h.ta h.tn h.tc] 25)) := (Below.refl _ _).alloc (Nat.le_refl _) _
  have HB := Lib.hid hw1
  clear hw1
  have HI := Lib.hid (partB_head HP.out)
  go_enter Tryz.func48, Tryz.ntmps48
  go_upto_block 0 with fail
  go_cut [7] (fun s7 wx => s7 = .bool (partB t) ∧ Box wx 25 w.heap.size h ∧ Below w.heap.size w wx)
  case first =>
    cases f0 : (h.k == 0)
    · cases f1 : (h.k == 1)
      · cases f2 : (h.k == 2)
        · cases f3 : (h.k == 3)
          · go_wp2_with fail
            go_meet
            refine ⟨?_, HX.out, HB.out⟩
            rw [HI.out]
            simp [f0, f1, f2, f3]
          · cases f4 : ((h.kn : Int) == 0)
            · go_wp2_with fail
              go_meet
              refine ⟨?_, HX.out, HB.out⟩
              rw [HI.out]
              simp [f0, f1, f2, f3, f4]
            · cases f5 : ((h.vn : Int) == 0)
              · go_wp2_with fail
                go_meet
                refine ⟨?_, HX.out, HB.out⟩
                rw [HI.out]
                simp [f0, f1, f2, f3, f5]
              · cases f6 : ((h.tn : Int) == 0)
                · go_wp2_with fail
                  go_meet
                  refine ⟨?_, HX.out, HB.out⟩
                  rw [HI.out]
                  simp [f0, f1, f2, f3, f6]
                · go_wp2_with fail
                  go_meet
                  refine ⟨?_, HX.out, HB.out⟩
                  rw [HI.out]
                  simp [f0, f1, f2, f3, f4, f5, f6]
        · by_cases f3 : (h.kn : Int) ≤ 80
          · cases f4 : ((h.vn : Int) == 0)
            · go_wp2_with fail
              go_meet
              refine ⟨?_, HX.out, HB.out⟩
              rw [HI.out]
              simp [f0, f1, f2, f4]
            · cases f5 : ((h.tn : Int) == 2)
              · go_wp2_with fail
                go_meet
                refine ⟨?_, HX.out, HB.out⟩
                rw [HI.out]
                simp [f0, f1, f2, f5]
              · go_wp2_with fail
                go_meet
                refine ⟨?_, HX.out, HB.out⟩
                rw [HI.out]
                simp [f0, f1, f2, f3, f4, f5]
          · go_wp2_with fail
            go_meet
            refine ⟨?_, HX.out, HB.out⟩
            rw [HI.out]
            simp [f0, f1, f2, show ¬ (h.kn : Int) ≤ 80 by omega]
      · by_cases f2 : (h.kn : Int) ≤ 80
        · by_cases f3 : (h.vn : Int) ≤ 1024
          · cases f4 : ((h.dn : Int) == 0)
            · go_wp2_with fail
              go_meet
              refine ⟨?_, HX.out, HB.out⟩
              rw [HI.out]
              simp [f0, f1, f4]
            · cases f5 : ((h.tn : Int) == 2)
              · go_wp2_with fail
                go_meet
                refine ⟨?_, HX.out, HB.out⟩
                rw [HI.out]
                simp [f0, f1, f5]
              · go_wp2_with fail
                go_meet
                refine ⟨?_, HX.out, HB.out⟩
                rw [HI.out]
                simp [f0, f1, f2, f3, f4, f5]
          · go_wp2_with fail
            go_meet
            refine ⟨?_, HX.out, HB.out⟩
            rw [HI.out]
            simp [f0, f1, show ¬ (h.vn : Int) ≤ 1024 by omega]
        · go_wp2_with fail
          go_meet
          refine ⟨?_, HX.out, HB.out⟩
          rw [HI.out]
          simp [f0, f1, show ¬ (h.kn : Int) ≤ 80 by omega]
    · cases f1 : ((h.kn : Int) == 0)
      · go_wp2_with fail
        go_meet
        refine ⟨?_, HX.out, HB.out⟩
        rw [HI.out]
        simp [f0, f1]
      · cases f2 : ((h.vn : Int) == 0)
        · go_wp2_with fail
          go_meet
          refine ⟨?_, HX.out, HB.out⟩
          rw [HI.out]
          simp [f0, f2]
        · cases f3 : ((h.dn : Int) == 0)
          · go_wp2_with fail
            go_meet
            refine ⟨?_, HX.out, HB.out⟩
            rw [HI.out]
            simp [f0, f3]
          · cases f4 : ((h.tn : Int) == 0)
            · go_wp2_with fail
              go_meet
              refine ⟨?_, HX.out, HB.out⟩
              rw [HI.out]
              simp [f0, f4]
            · go_wp2_with fail
              go_meet
              refine ⟨?_, HX.out, HB.out⟩
              rw [HI.out]
              simp [f0, f1, f2, f3, f4]
  case rest =>
    obtain ⟨rfl, hbx, hbw⟩ := hcut
    clear x0 x1 x2 x3 x4
    have HBX := Lib.hid hbx
    have HBW := Lib.hid hbw
    clear hbx hbw HX HB HI
    go_wp2_with fail
    go_loopw [7, 8] (fun s7 s8 wx => ∃ i : Nat, i ≤ h.tn ∧ s7 = .bool (partB t && (t.kids.take i).all formedT) ∧ s8 = .int .i64 i ∧ Box wx 25 w.heap.size h ∧ Below w.heap.size w wx) (fun _ s8 _ => h.tn - (intOf s8).toNat)
    case atStart => exact ⟨0, by omega, by simp, rfl, HBX.out, HBW.out⟩
    case round =>
      clear HBX HBW
      obtain ⟨i, hi, rfl, rfl, hbx, hbw⟩ := hrel
      have hx4 := hbx.cells.2.2.2.2
      have HBX := Lib.hid hbx
      have HBW := Lib.hid hbw
      clear hbx hbw
      by_cases hlt : i < h.tn
      · have q1 : (i : Int) < (h.tn : Int) := by omega
        have him : i < t.kids.length := by omega
        by_cases hok : (partB t && (t.kids.take i).all formedT) = true
        · obtain ⟨g, off, hta, hg, hcs⟩ := (HP.out.below HBW.out).place (by omega)
          rw [hta] at hx4
          obtain ⟨k0, k1, k2, k3, k4⟩ := hcs i hlt
          have HOK := Lib.hid hok
          clear hcs hta
          rw [hok]
          clear hok
          go_wp2_with (first
            | (go_at_call 48
               refine (IH.out _ (List.getElem_mem him) (H i) _ ((HP.out.below HBW.out).kids i him)).mono ?_
               rintro _ w1 ⟨rfl, hb1⟩
               have HB1 : Hid (Below w.heap.size w w1) := Lib.hid (HBW.out.trans (hb1.mono HBW.out.size))
               have HX1 := Lib.hid (HBX.out.below hb1 HBX.out.lt)
               clear hb1))
          exact ⟨⟨i + 1, by omega, by rw [all_take _ _ i him, ← Bool.and_assoc, HOK.out, Bool.true_and], by go_num, HX1.out, HB1.out⟩, by simp [intOf]; omega⟩
        · have hok2 : (partB t && (t.kids.take i).all formedT) = false := by simpa using hok
          have HOK := Lib.hid hok2
          rw [hok2]
          clear hok hok2 hx4
          go_wp2_with fail
          go_ret
          refine ⟨?_, HBW.out⟩
          rw [formedT_eq]
          have h1 := HOK.out
          rw [Bool.and_eq_false_iff] at h1
          rcases h1 with h1 | h1
          · rw [h1]; rfl
          · have h2 : t.kids.all formedT = false := by
              rw [Bool.eq_false_iff]
              intro hc
              rw [List.all_eq_true] at hc
              rw [Bool.eq_false_iff] at h1
              apply h1
              rw [List.all_eq_true]
              exact fun x hx => hc x (List.mem_of_mem_take hx)
            rw [h2, Bool.and_false]
            rfl
      · obtain rfl : i = h.tn := by omega
        have q1 : ¬ (h.tn : Int) < (h.tn : Int) := by omega
        rw [List.take_of_length_le (by omega), ← formedT_eq]
        go_wp2_with fail
        go_ret
        exact ⟨rfl, HBW.out⟩
end Go.Proofs.YtkcmohmfejmfoaaGreatDoor

/- The contracts of the document's checks of trees: Check, Full, Depth. -/
namespace Go.Proofs.YtkcmohmfejmfoaaGreatDoor
open Go.RowKit
set_option linter.unusedVariables false

set_option maxRecDepth 100000 in
set_option maxHeartbeats 4000000 in
theorem refCheck_any (t : Tr) (h : TH) (w : World) (ht : InTree w h t) :
    Calls Tryz.prog 26 #[h.v] w (Says w (.int .i64 (checkT t : Nat))) := by
  unfold TH.v
  have hbox := Box.new w 25 h
  have HX := Lib.hid hbox
  have HT := Lib.hid ht
  obtain ⟨x0, x1, x2, x3, x4⟩ := hbox.cells
  clear hbox ht
  go_enter Tryz.func26, Tryz.ntmps26
  go_upto_region 2 with (first
    | (go_at_call 47
       refine (refDeep_any t h 64 _ ?_ (by omega) (by omega)).mono ?_
       · exact HT.out.lower ((Below.refl _ _).alloc (Nat.le_refl _) _)
       rintro _ w1 ⟨rfl, hb1⟩
       have HB1 : Hid (Below w.heap.size w w1) := Lib.hid (((Below.refl w.heap.size w).alloc (Nat.le_refl _) _).trans (hb1.mono (by simp)))
       obtain ⟨y0, y1, y2, y3, y4⟩ := (HX.out.below hb1 HX.out.lt).cells
       generalize hr : deepT t 64 = r
       have HR := Lib.hid hr
       clear hb1 hr x0 x1 x2 x3 x4))
  cases r
  · go_upto_region 5 with (first
      | (go_at_call 48
         refine (refFormed_any t h _ ?_).mono ?_
         · exact HT.out.lower HB1.out
         rintro _ w2 ⟨rfl, hb2⟩
         have HB2 : Hid (Below w.heap.size w w2) := Lib.hid (HB1.out.trans (hb2.mono HB1.out.size))
         generalize hq : formedT t = q
         have HQ := Lib.hid hq
         clear hb2 hq y0 y1 y2 y3 y4))
    cases q
    · go_wp2_with fail
      go_ret
      have e : checkT t = 3 := by unfold checkT; rw [HR.out, HQ.out]; rfl
      exact ⟨by rw [e]; rfl, HB2.out⟩
    · go_wp2_with fail
      go_ret
      have e : checkT t = 0 := by unfold checkT; rw [HR.out, HQ.out]; rfl
      exact ⟨by rw [e]; rfl, HB2.out⟩
  · go_wp2_with fail
    go_ret
    have e : checkT t = 5 := by unfold checkT; rw [HR.out]; rfl
    exact ⟨by rw [e]; rfl, HB1.out⟩
theorem formed_kids {t : Tr} (hf : formedT t = true) : partB t = true ∧ ∀ i (hi : i < t.kids.length), formedT t.kids[i] = true := by
  rw [formedT_eq, Bool.and_eq_true, List.all_eq_true] at hf
  exact ⟨hf.1, fun i hi => hf.2 _ (List.getElem_mem hi)⟩
theorem part_kids {t : Tr} (hp : partB t = true) : (t.kids.length = 0 ∧ (t.k = 0 ∨ t.k = 3)) ∨ (t.kids.length = 2 ∧ (t.k = 1 ∨ t.k = 2)) := by
  unfold partB at hp
  split at hp
  · simp only [Bool.and_eq_true, decide_eq_true_eq] at hp; omega
  · split at hp
    · simp only [Bool.and_eq_true, decide_eq_true_eq] at hp; omega
    · split at hp
      · simp only [Bool.and_eq_true, decide_eq_true_eq] at hp; omega
      · split at hp
        · simp only [Bool.and_eq_true, decide_eq_true_eq] at hp; omega
        · cases hp
theorem deep_kids {t : Tr} {b : Int} (hd : deepT t b = false) (h0 : 0 < t.kids.length) : b ≠ 0 ∧ ∀ i (hi : i < t.kids.length), deepT t.kids[i] (b - 1) = false := by
  rw [deepT_eq, Bool.or_eq_false_iff] at hd
  have hn : isNode t = true := by unfold isNode; simp [h0]
  rw [hn, Bool.true_and] at hd
  exact ⟨by simpa using hd.1, fun i hi => by
    have := hd.2
    rw [List.any_eq_false] at this
    simpa using this _ (List.getElem_mem hi)⟩
theorem depth_two {t : Tr} (h2 : t.kids.length = 2) : depthT t = max (depthT (t.kids[0]'(by omega))) (depthT (t.kids[1]'(by omega))) + 1 := by
  rw [depthT_eq, if_neg (by omega)]
  simp [List.getD, h2]
theorem depth_le : ∀ (t : Tr) (b : Int), formedT t = true → deepT t b = false → 0 ≤ b → (depthT t : Int) ≤ b := by
  intro t
  induction t using Tr.ind with
  | h t ih =>
  intro b hf hd hb
  obtain ⟨hp, hk⟩ := formed_kids hf
  rcases part_kids hp with ⟨h0, _⟩ | ⟨h2, _⟩
  · rw [depthT_eq, if_pos h0]
    exact hb
  · obtain ⟨hb0, hdk⟩ := deep_kids hd (by omega)
    have i0 := ih _ (List.getElem_mem (by omega : 0 < t.kids.length)) (b - 1) (hk 0 (by omega)) (hdk 0 (by omega)) (by omega)
    have i1 := ih _ (List.getElem_mem (by omega : 1 < t.kids.length)) (b - 1) (hk 1 (by omega)) (hdk 1 (by omega)) (by omega)
    rw [depth_two h2]
    omega
end Go.Proofs.YtkcmohmfejmfoaaGreatDoor

/- Errors that are Codes. -/
namespace Go.Proofs.YtkcmohmfejmfoaaGreatDoor
open Go.RowKit
set_option linter.unusedVariables false

/-- An error that is one of api's Codes, itself; 0: none. -/
def codeV (k : Nat) : Value := if k = 0 then .nilIface else .iface 42 (.int .i64 k)
theorem compCode : (Tryz.prog.info? 42).map (·.comparable) = some true := by kernel_rfl
theorem eql_code (a b : Int) (w : World) : (binOp .eql 30 (.iface 42 (.int .i64 a)) (.iface 42 (.int .i64 b))).run Tryz.prog w = .ok (.bool (a == b)) w :=
  Lib.run_eql_iface_int w a b Tryz.underlying30 compCode Tryz.underlying42

end Go.Proofs.YtkcmohmfejmfoaaGreatDoor

/- A variable of one cell: a closure's, a number's. No program is named here. -/
namespace Go.Proofs.YtkcmohmfejmfoaaGreatDoor
open Go.RowKit
set_option linter.unusedVariables false

/-- Block g is a variable of one cell, which holds v. -/
def Var1 (w : World) (ty : TypeId) (g : Nat) (v : Value) : Prop := w.heap[g]? = some (.cells #[v] ty (0, 0))
section
variable {w w' : World} {ty : TypeId} {g : Nat} {v : Value}
theorem Var1.new (w : World) (ty : TypeId) (v : Value) : Var1 (w.alloc (.cells #[v] ty)) ty w.heap.size v := heap_alloc_new w _
theorem Var1.lt (h : Var1 w ty g v) : g < w.heap.size := by
  rcases Nat.lt_or_ge g w.heap.size with hlt | hge
  · exact hlt
  · unfold Var1 at h; rw [Array.getElem?_eq_none hge] at h; cases h
theorem Var1.below {B : Nat} (h : Var1 w ty g v) (hb : Below B w w') (hg : g < B) : Var1 w' ty g v := (hb.block g hg).trans h
theorem Var1.grown {row : Option Nat} (h : Var1 w ty g v) (hb : w.grownBy w' row) (hg : some g ≠ row) : Var1 w' ty g v := (hb.block g h.lt hg).trans h
theorem Var1.cell (h : Var1 w ty g v) : w.cell? ⟨g, 0, none⟩ = some v := by
  rw [cell_of_row w g 0 _ _ (0, 0) h]
  rfl
theorem Var1.frozen (h : Var1 w ty g v) (i : Nat) : w.frozen? ⟨g, i, none⟩ = false := by
  unfold Var1 at h
  simp [World.frozen?, h]
theorem Var1.set (h : Var1 w ty g v) (u : Value) : Var1 (w.setCell ⟨g, 0, none⟩ u) ty g u := by
  unfold Var1 at h ⊢
  simp [World.setCell, Array.getElem?_modify, h]
theorem Var1.far (h : Var1 w ty g v) {p : Addr} (hp : g ≠ p.block) (u : Value) : Var1 (w.setCell p u) ty g v := (Below.heap_setCell w p u g hp).trans h
end
end Go.Proofs.YtkcmohmfejmfoaaGreatDoor

/- The contracts of the program's checks of trees. -/
namespace Go.Proofs.YtkcmohmfejmfoaaGreatDoor
open Go.RowKit
set_option linter.unusedVariables false

/-- A pointer to a variable. -/
def ptrV (g : Nat) : Value := .pointer (some ⟨g, 0, none⟩)
/-- Counts a part as a node by its kind? -/
def nodeK (t : Tr) : Bool := t.k == 1 || t.k == 2
/-- Is a part told itself? -/
def toldK (t : Tr) : Bool := t.k != 2 && t.k != 3
/-- Is a part told itself, or has its digest the width? -/
def fitsK (k : Nat) (t : Tr) : Bool := toldK t || decide (t.dig.length = k)
/-- All parts of a tree. -/
def allT (p : Tr → Bool) (t : Tr) : Bool := t.fold fun t rs => p t && rs.all id
theorem allT_eq (p : Tr → Bool) (t : Tr) : allT p t = (p t && t.kids.all (allT p)) := by
  unfold allT
  rw [Tr.fold_eq]
  simp [List.all_map, Function.comp_def]
theorem allT_part (t : Tr) : allT partB t = formedT t := rfl
theorem allT_told : ∀ t : Tr, formedT t = true → allT toldK t = fullT t := by
  intro t
  induction t using Tr.ind with
  | h t ih =>
  intro hf
  obtain ⟨hp, hk⟩ := formed_kids hf
  rw [allT_eq, fullT_eq]
  have e1 : toldK t = decide (t.k ≤ 1) := by
    unfold toldK
    rcases part_kids hp with ⟨_, h | h⟩ | ⟨_, h | h⟩ <;> rw [h] <;> rfl
  have e2 : t.kids.all (allT toldK) = t.kids.all fullT := by
    rw [Bool.eq_iff_iff, List.all_eq_true, List.all_eq_true]
    constructor
    · intro h x hx
      obtain ⟨i, hi, rfl⟩ := List.getElem_of_mem hx
      rw [← ih _ hx (hk i hi)]
      exact h _ hx
    · intro h x hx
      obtain ⟨i, hi, rfl⟩ := List.getElem_of_mem hx
      rw [ih _ hx (hk i hi)]
      exact h _ hx
  rw [e1, e2]

set_option maxRecDepth 100000 in
set_option maxHeartbeats 4000000 in
theorem isNode_any (t : Tr) (h : TH) (w : World) (ht : InTree w h t) : Calls Tryz.prog 45 #[h.v] w (Says w (.bool (nodeK t))) := by
  unfold TH.v
  obtain ⟨H, hp⟩ := ht.parts
  have HK := Lib.hid hp.hk
  have hk1 := hp.hk1
  have hk2 := hp.hk2
  clear hp ht
  have hbox := Box.new w 25 h
  obtain ⟨x0, x1, x2, x3, x4⟩ := hbox.cells
  clear hbox
  have hw1 : Below w.heap.size w (w.alloc (.cells #[.int .i64 h.k, .slice h.ka h.kn h.kc, .slice h.va h.vn h.vc, .slice h.da h.dn h.dc, .slice h.ta h.tn h.tc] 25)) := (Below.refl _ _).alloc (Nat.le_refl _) _
  have HB := Lib.hid hw1
  clear hw1
  go_enter Tryz.func45, Tryz.ntmps45
  cases f1 : (h.k == 1)
  · go_wp2_with fail
    go_ret
    refine ⟨?_, HB.out⟩
    unfold nodeK
    rw [← HK.out, f1]
    rfl
  · go_wp2_with fail
    go_ret
    refine ⟨?_, HB.out⟩
    unfold nodeK
    rw [← HK.out, f1]
    rfl

set_option maxRecDepth 100000 in
set_option maxHeartbeats 4000000 in
theorem wellFormed_any (t : Tr) (h : TH) (w : World) (ht : InTree w h t) : Calls Tryz.prog 41 #[h.v] w (Says w (.bool (partB t))) := by
  unfold TH.v
  obtain ⟨H, hp⟩ := ht.parts
  have hk1 := hp.hk1
  have hk2 := hp.hk2
  have HI := Lib.hid (partB_head hp)
  clear hp ht
  have hbox := Box.new w 25 h
  obtain ⟨x0, x1, x2, x3, x4⟩ := hbox.cells
  clear hbox
  have hw1 : Below w.heap.size w (w.alloc (.cells #[.int .i64 h.k, .slice h.ka h.kn h.kc, .slice h.va h.vn h.vc, .slice h.da h.dn h.dc, .slice h.ta h.tn h.tc] 25)) := (Below.refl _ _).alloc (Nat.le_refl _) _
  have HB := Lib.hid (fun m => below_drewN hw1 m)
  clear hw1
  go_enter Tryz.func41, Tryz.ntmps41
  go_upto_region 1 with fail
  go_quiet (fail)
  cases k0 : (h.k == 0)
  · cases k1 : (h.k == 1)
    · cases k2 : (h.k == 2)
      · cases k3 : (h.k == 3)
        · go_wp2_with fail
          go_ret
          refine ⟨?_, HB.out _⟩
          rw [HI.out]
          simp [k0, k1, k2, k3]
        · cases f5 : ((h.kn : Int) == 0)
          · go_wp2_with fail
            go_ret
            refine ⟨?_, HB.out _⟩
            rw [HI.out]
            simp [k0, k1, k2, k3, f5]
          · cases f6 : ((h.vn : Int) == 0)
            · go_wp2_with fail
              go_ret
              refine ⟨?_, HB.out _⟩
              rw [HI.out]
              simp [k0, k1, k2, k3, f6]
            · cases f7 : ((h.tn : Int) == 0)
              · go_wp2_with fail
                go_ret
                refine ⟨?_, HB.out _⟩
                rw [HI.out]
                simp [k0, k1, k2, k3, f7]
              · go_wp2_with fail
                go_ret
                refine ⟨?_, HB.out _⟩
                rw [HI.out]
                simp [k0, k1, k2, k3, f5, f6, f7]
      · by_cases f5 : (h.kn : Int) ≤ 80
        · cases f6 : ((h.vn : Int) == 0)
          · go_wp2_with fail
            go_ret
            refine ⟨?_, HB.out _⟩
            rw [HI.out]
            simp [k0, k1, k2, f6]
          · cases f7 : ((h.tn : Int) == 2)
            · go_wp2_with fail
              go_ret
              refine ⟨?_, HB.out _⟩
              rw [HI.out]
              simp [k0, k1, k2, f7]
            · go_wp2_with fail
              go_ret
              refine ⟨?_, HB.out _⟩
              rw [HI.out]
              simp [k0, k1, k2, f5, f6, f7]
        · go_wp2_with fail
          go_ret
          refine ⟨?_, HB.out _⟩
          rw [HI.out]
          simp [k0, k1, k2, show ¬ (h.kn : Int) ≤ 80 by omega]
    · by_cases f5 : (h.kn : Int) ≤ 80
      · by_cases f6 : (h.vn : Int) ≤ 1024
        · cases f7 : ((h.dn : Int) == 0)
          · go_wp2_with fail
            go_ret
            refine ⟨?_, HB.out _⟩
            rw [HI.out]
            simp [k0, k1, f7]
          · cases f8 : ((h.tn : Int) == 2)
            · go_wp2_with fail
              go_ret
              refine ⟨?_, HB.out _⟩
              rw [HI.out]
              simp [k0, k1, f8]
            · go_wp2_with fail
              go_ret
              refine ⟨?_, HB.out _⟩
              rw [HI.out]
              simp [k0, k1, f5, f6, f7, f8]
        · go_wp2_with fail
          go_ret
          refine ⟨?_, HB.out _⟩
          rw [HI.out]
          simp [k0, k1, show ¬ (h.vn : Int) ≤ 1024 by omega]
      · go_wp2_with fail
        go_ret
        refine ⟨?_, HB.out _⟩
        rw [HI.out]
        simp [k0, k1, show ¬ (h.kn : Int) ≤ 80 by omega]
  · cases f5 : ((h.kn : Int) == 0)
    · go_wp2_with fail
      go_ret
      refine ⟨?_, HB.out _⟩
      rw [HI.out]
      simp [k0, f5]
    · cases f6 : ((h.vn : Int) == 0)
      · go_wp2_with fail
        go_ret
        refine ⟨?_, HB.out _⟩
        rw [HI.out]
        simp [k0, f6]
      · cases f7 : ((h.dn : Int) == 0)
        · go_wp2_with fail
          go_ret
          refine ⟨?_, HB.out _⟩
          rw [HI.out]
          simp [k0, f7]
        · cases f8 : ((h.tn : Int) == 0)
          · go_wp2_with fail
            go_ret
            refine ⟨?_, HB.out _⟩
            rw [HI.out]
            simp [k0, f8]
          · go_wp2_with fail
            go_ret
            refine ⟨?_, HB.out _⟩
            rw [HI.out]
            simp [k0, f5, f6, f7, f8]

/-- A variable that holds the closure of a function which calls itself, and has pointers to variables. -/
def CloV (fn : Nat) (caps : Array Value) : Value := .func (.func fn) #[] caps
theorem deep_node {t : Tr} (hn : nodeK t = false) (h0 : t.kids.length = 0) (b : Int) : deepT t b = false := by
  have hk : t.kids = [] := List.length_eq_zero_iff.1 h0
  have e : isNode t = false := by
    unfold nodeK at hn
    unfold isNode
    rw [Bool.or_eq_false_iff] at hn
    rw [hn.1, hn.2, hk]
    rfl
  rw [deepT_eq, e, hk]
  rfl
theorem node_is {t : Tr} (h : nodeK t = true ∨ t.kids.length ≠ 0) : isNode t = true := by
  unfold isNode
  rcases h with h | h
  · unfold nodeK at h
    rw [← Bool.or_assoc, h]
    rfl
  · have : decide (0 < t.kids.length) = true := by simp; omega
    rw [this]
    simp

set_option maxRecDepth 100000 in
set_option maxHeartbeats 4000000 in
theorem deepC_any : ∀ (t : Tr) (h : TH) (a : Int) (w : World) (gc : Nat), InTree w h t → 0 ≤ a → a ≤ 64 → Var1 w 83 gc (.func (.func 68) #[] #[.pointer (some ⟨gc, 0, none⟩)]) →
    Calls Tryz.prog 68 #[h.v, .int .i64 a, .pointer (some ⟨gc, 0, none⟩)] w (Says w (.bool (deepT t (64 - a)))) := by
  intro t
  induction t using Tr.ind with
  | h t ih =>
  intro h a w gc ht ha0 ha1 hcl
  unfold TH.v
  obtain ⟨H, hp⟩ := ht.parts
  have htl := hp.len
  have htc := hp.sl.le
  have htm := Nat.le_trans hp.sl.le hp.sl.max
  simp only [maxLen] at htm
  have HP := Lib.hid hp
  have HTT := Lib.hid ht
  have IH := Lib.hid ih
  have HCL := Lib.hid hcl
  clear hp ht ih hcl
  have hbox := Box.new w 25 h
  have HX := Lib.hid hbox
  obtain ⟨x0, x1, x2, x3, x4⟩ := hbox.cells
  clear hbox
  have hw1 : Below w.heap.size w (w.alloc (.cells #[.int .i64 h.k, .slice h.ka h.kn h.kc, .slice h.va h.vn h.vc, .slice h.da h.dn h.dc, .slice h.ta h.tn h.tc] 25)) := (Below.refl _ _).alloc (Nat.le_refl _) _
  have HB := Lib.hid hw1
  clear hw1
  go_enter Tryz.func68, Tryz.ntmps68
  cases hr : nodeK t
  · have HR := Lib.hid hr
    clear hr
    cases ftn : ((h.tn : Int) == 0)
    · have HNI : Hid (nodeK t = true ∨ t.kids.length ≠ 0) := Lib.hid (Or.inr (by rw [beq_eq_false_iff_ne] at ftn; omega))
      go_upto_if 18 with (first
        | (go_at_call 45
           refine (isNode_any t h _ (HTT.out.lower HB.out)).mono ?_
           rintro _ w1 ⟨rfl, hb1⟩
           rw [HR.out]
           have HB1 : Hid (Below w.heap.size w w1) := Lib.hid (HB.out.trans (hb1.mono HB.out.size))
           have hx1 := HX.out.below hb1 HX.out.lt
           obtain ⟨y0, y1, y2, y3, y4⟩ := hx1.cells
           have HX1 := Lib.hid hx1
           clear hb1 hx1 x0 x1 x2 x3 x4))
      have HN : Hid (isNode t = true) := Lib.hid (node_is HNI.out)
      by_cases fa : ¬ a = 64
      · have HNB : Hid ((isNode t && (64 - a == 0)) = false) := Lib.hid (by rw [Bool.and_eq_false_iff]; right; rw [beq_eq_false_iff_ne]; omega)
        have ha2 : a ≤ 63 := by omega
        have fb : (a == 64) = false := by simp [fa]
        rw [fb]
        have HCL1 := Lib.hid (HCL.out.below HB1.out HCL.out.lt)
        go_wp2_with fail
        clear y0 y1 y2 y3 y4 fa fb
        go_loopw [22] (fun s22 wx => ∃ i : Nat, i ≤ h.tn ∧ s22 = .int .i64 i ∧ Var1 wx 83 gc (.func (.func 68) #[] #[.pointer (some ⟨gc, 0, none⟩)]) ∧ Below w.heap.size w wx ∧ (t.kids.take i).any (fun x => deepT x (64 - (a + 1))) = false) (fun s22 _ => h.tn - (intOf s22).toNat)
        case atStart => exact ⟨0, by omega, rfl, HCL1.out, HB1.out, by simp⟩
        case round =>
          clear HCL1 HB1 HX1
          obtain ⟨i, hi, rfl, hcl, hbw, hall⟩ := hrel
          have hcc := hcl.cell
          have HC := Lib.hid hcl
          have HBW := Lib.hid hbw
          have HA := Lib.hid hall
          clear hcl hbw hall
          by_cases hlt : i < h.tn
          · have q1 : (i : Int) < (h.tn : Int) := by omega
            obtain ⟨g, off, hta, hg, hcs⟩ := (HP.out.below HBW.out).place (by omega)
            obtain ⟨k0, k1, k2, k3, k4⟩ := hcs i hlt
            have him : i < t.kids.length := by omega
            clear hcs
            rw [hta]
            go_upto_region 8 with fail
            have b2 : Below wr.heap.size wr (wr.alloc (.cells #[.int .i64 (H i).k, .slice (H i).ka (H i).kn (H i).kc, .slice (H i).va (H i).vn (H i).vc, .slice (H i).da (H i).dn (H i).dc, .slice (H i).ta (H i).tn (H i).tc] 25)) := (Below.refl _ _).alloc (Nat.le_refl _) _
            have bx := Box.new wr 25 (H i)
            generalize (wr.alloc (.cells #[.int .i64 (H i).k, .slice (H i).ka (H i).kn (H i).kc, .slice (H i).va (H i).vn (H i).vc, .slice (H i).da (H i).dn (H i).dc, .slice (H i).ta (H i).tn (H i).tc] 25)) = w2 at *
            have HB2 : Hid (Below w.heap.size w w2) := Lib.hid (HBW.out.trans (b2.mono HBW.out.size))
            have HC2 := Lib.hid (HC.out.below b2 HC.out.lt)
            have hc2 := HC2.out.cell
            obtain ⟨y0, y1, y2, y3, y4⟩ := bx.cells
            clear b2 bx k0 k1 k2 k3 k4 hcc
            go_upto_if 30 with (first
              | (go_at_call 68
                 refine (IH.out _ (List.getElem_mem him) (H i) (a + 1) _ gc ((HP.out.below HB2.out).kids i him) (by omega) (by omega) HC2.out).mono ?_
                 rintro _ w3 ⟨rfl, hb3⟩
                 have HB3 : Hid (Below w.heap.size w w3) := Lib.hid (HB2.out.trans (hb3.mono HB2.out.size))
                 have HC3 := Lib.hid (HC2.out.below hb3 HC2.out.lt)
                 generalize hr : deepT t.kids[i] (64 - (a + 1)) = q
                 have HQ := Lib.hid hr
                 clear hb3 hr))
            clear y0 y1 y2 y3 y4 hc2
            cases q
            · clear hta
              go_wp2_with fail
              exact ⟨⟨i + 1, by omega, by go_num, HC3.out, HB3.out, by rw [any_take _ _ i him, HA.out, HQ.out]; rfl⟩, by simp [intOf]; omega⟩
            · go_wp2_with fail
              go_ret
              have e : deepT t (64 - a) = true := by
                rw [deepT_eq, show (64 : Int) - a - 1 = 64 - (a + 1) by omega, any_at (p := fun x => deepT x (64 - (a + 1))) i him HQ.out, Bool.or_true]
              exact ⟨by rw [e]; rfl, HB3.out⟩
          · obtain rfl : i = h.tn := by omega
            have q1 : ¬ (h.tn : Int) < (h.tn : Int) := by omega
            go_wp2_with fail
            go_ret
            have hA := HA.out
            rw [List.take_of_length_le (by omega)] at hA
            have e : deepT t (64 - a) = false := by
              rw [deepT_eq, HNB.out, show (64 : Int) - a - 1 = 64 - (a + 1) by omega, hA]
              rfl
            exact ⟨by rw [e]; rfl, HBW.out⟩
      · obtain rfl : a = 64 := by omega
        go_wp2_with fail
        go_ret
        have e : deepT t 0 = true := by
          rw [deepT_eq, HN.out]
          rfl
        exact ⟨by rw [e]; rfl, HB1.out⟩
    · have HT0 : Hid (t.kids.length = 0) := Lib.hid (by rw [beq_iff_eq] at ftn; omega)
      go_upto_if 16 with (first
        | (go_at_call 45
           refine (isNode_any t h _ (HTT.out.lower HB.out)).mono ?_
           rintro _ w1 ⟨rfl, hb1⟩
           rw [HR.out]
           have HB1 : Hid (Below w.heap.size w w1) := Lib.hid (HB.out.trans (hb1.mono HB.out.size))
           have hx1 := HX.out.below hb1 HX.out.lt
           obtain ⟨y0, y1, y2, y3, y4⟩ := hx1.cells
           have HX1 := Lib.hid hx1
           clear hb1 hx1 x0 x1 x2 x3 x4))
      go_wp2_with fail
      go_ret
      exact ⟨by rw [deep_node HR.out HT0.out]; rfl, HB1.out⟩
  · have HR := Lib.hid hr
    have HNI : Hid (nodeK t = true ∨ t.kids.length ≠ 0) := Lib.hid (Or.inl hr)
    clear hr
    go_upto_if 18 with (first
      | (go_at_call 45
         refine (isNode_any t h _ (HTT.out.lower HB.out)).mono ?_
         rintro _ w1 ⟨rfl, hb1⟩
         rw [HR.out]
         have HB1 : Hid (Below w.heap.size w w1) := Lib.hid (HB.out.trans (hb1.mono HB.out.size))
         have hx1 := HX.out.below hb1 HX.out.lt
         obtain ⟨y0, y1, y2, y3, y4⟩ := hx1.cells
         have HX1 := Lib.hid hx1
         clear hb1 hx1 x0 x1 x2 x3 x4))
    have HN : Hid (isNode t = true) := Lib.hid (node_is HNI.out)
    by_cases fa : ¬ a = 64
    · have HNB : Hid ((isNode t && (64 - a == 0)) = false) := Lib.hid (by rw [Bool.and_eq_false_iff]; right; rw [beq_eq_false_iff_ne]; omega)
      have ha2 : a ≤ 63 := by omega
      have fb : (a == 64) = false := by simp [fa]
      rw [fb]
      have HCL1 := Lib.hid (HCL.out.below HB1.out HCL.out.lt)
      go_wp2_with fail
      clear y0 y1 y2 y3 y4 fa fb
      go_loopw [22] (fun s22 wx => ∃ i : Nat, i ≤ h.tn ∧ s22 = .int .i64 i ∧ Var1 wx 83 gc (.func (.func 68) #[] #[.pointer (some ⟨gc, 0, none⟩)]) ∧ Below w.heap.size w wx ∧ (t.kids.take i).any (fun x => deepT x (64 - (a + 1))) = false) (fun s22 _ => h.tn - (intOf s22).toNat)
      case atStart => exact ⟨0, by omega, rfl, HCL1.out, HB1.out, by simp⟩
      case round =>
        clear HCL1 HB1 HX1
        obtain ⟨i, hi, rfl, hcl, hbw, hall⟩ := hrel
        have hcc := hcl.cell
        have HC := Lib.hid hcl
        have HBW := Lib.hid hbw
        have HA := Lib.hid hall
        clear hcl hbw hall
        by_cases hlt : i < h.tn
        · have q1 : (i : Int) < (h.tn : Int) := by omega
          obtain ⟨g, off, hta, hg, hcs⟩ := (HP.out.below HBW.out).place (by omega)
          obtain ⟨k0, k1, k2, k3, k4⟩ := hcs i hlt
          have him : i < t.kids.length := by omega
          clear hcs
          rw [hta]
          go_upto_region 8 with fail
          have b2 : Below wr.heap.size wr (wr.alloc (.cells #[.int .i64 (H i).k, .slice (H i).ka (H i).kn (H i).kc, .slice (H i).va (H i).vn (H i).vc, .slice (H i).da (H i).dn (H i).dc, .slice (H i).ta (H i).tn (H i).tc] 25)) := (Below.refl _ _).alloc (Nat.le_refl _) _
          have bx := Box.new wr 25 (H i)
          generalize (wr.alloc (.cells #[.int .i64 (H i).k, .slice (H i).ka (H i).kn (H i).kc, .slice (H i).va (H i).vn (H i).vc, .slice (H i).da (H i).dn (H i).dc, .slice (H i).ta (H i).tn (H i).tc] 25)) = w2 at *
          have HB2 : Hid (Below w.heap.size w w2) := Lib.hid (HBW.out.trans (b2.mono HBW.out.size))
          have HC2 := Lib.hid (HC.out.below b2 HC.out.lt)
          have hc2 := HC2.out.cell
          obtain ⟨y0, y1, y2, y3, y4⟩ := bx.cells
          clear b2 bx k0 k1 k2 k3 k4 hcc
          go_upto_if 30 with (first
            | (go_at_call 68
               refine (IH.out _ (List.getElem_mem him) (H i) (a + 1) _ gc ((HP.out.below HB2.out).kids i him) (by omega) (by omega) HC2.out).mono ?_
               rintro _ w3 ⟨rfl, hb3⟩
               have HB3 : Hid (Below w.heap.size w w3) := Lib.hid (HB2.out.trans (hb3.mono HB2.out.size))
               have HC3 := Lib.hid (HC2.out.below hb3 HC2.out.lt)
               generalize hr : deepT t.kids[i] (64 - (a + 1)) = q
               have HQ := Lib.hid hr
               clear hb3 hr))
          clear y0 y1 y2 y3 y4 hc2
          cases q
          · clear hta
            go_wp2_with fail
            exact ⟨⟨i + 1, by omega, by go_num, HC3.out, HB3.out, by rw [any_take _ _ i him, HA.out, HQ.out]; rfl⟩, by simp [intOf]; omega⟩
          · go_wp2_with fail
            go_ret
            have e : deepT t (64 - a) = true := by
              rw [deepT_eq, show (64 : Int) - a - 1 = 64 - (a + 1) by omega, any_at (p := fun x => deepT x (64 - (a + 1))) i him HQ.out, Bool.or_true]
            exact ⟨by rw [e]; rfl, HB3.out⟩
        · obtain rfl : i = h.tn := by omega
          have q1 : ¬ (h.tn : Int) < (h.tn : Int) := by omega
          go_wp2_with fail
          go_ret
          have hA := HA.out
          rw [List.take_of_length_le (by omega)] at hA
          have e : deepT t (64 - a) = false := by
            rw [deepT_eq, HNB.out, show (64 : Int) - a - 1 = 64 - (a + 1) by omega, hA]
            rfl
          exact ⟨by rw [e]; rfl, HBW.out⟩
    · obtain rfl : a = 64 := by omega
      go_wp2_with fail
      go_ret
      have e : deepT t 0 = true := by
        rw [deepT_eq, HN.out]
        rfl
      exact ⟨by rw [e]; rfl, HB1.out⟩

set_option maxRecDepth 100000 in
set_option maxHeartbeats 4000000 in
theorem tooDeep_any (t : Tr) (h : TH) (w : World) (ht : InTree w h t) : Calls Tryz.prog 39 #[h.v] w (Says w (.bool (deepT t 64))) := by
  have hmf : ∀ (fn : Fn) (first cap : Array Value) (w : World), (Instr.makeFunc fn first cap).run Tryz.prog w = .ok (.func fn first cap) w := fun _ _ _ _ => rfl
  unfold TH.v
  have HTT := Lib.hid ht
  clear ht
  go_enter Tryz.func39, Tryz.ntmps39
  have hnf : Var1 ((w.alloc (.cells #[.int .i64 h.k, .slice h.ka h.kn h.kc, .slice h.va h.vn h.vc, .slice h.da h.dn h.dc, .slice h.ta h.tn h.tc] 25)).alloc (.cells #[.nilFunc] 83)) 83 (w.heap.size + 1) .nilFunc := by
    have := Var1.new (w.alloc (.cells #[.int .i64 h.k, .slice h.ka h.kn h.kc, .slice h.va h.vn h.vc, .slice h.da h.dn h.dc, .slice h.ta h.tn h.tc] 25)) 83 .nilFunc
    simpa using this
  have hbx : Box ((w.alloc (.cells #[.int .i64 h.k, .slice h.ka h.kn h.kc, .slice h.va h.vn h.vc, .slice h.da h.dn h.dc, .slice h.ta h.tn h.tc] 25)).alloc (.cells #[.nilFunc] 83)) 25 w.heap.size h := (Box.new w 25 h).below ((Below.refl _ _).alloc (Nat.le_refl _) _) (by simp)
  have hb2 : Below w.heap.size w ((w.alloc (.cells #[.int .i64 h.k, .slice h.ka h.kn h.kc, .slice h.va h.vn h.vc, .slice h.da h.dn h.dc, .slice h.ta h.tn h.tc] 25)).alloc (.cells #[.nilFunc] 83)) := ((Below.refl w.heap.size w).alloc (Nat.le_refl _) _).alloc (by simp) _
  go_upto_region 2 with fail
  generalize (w.alloc (.cells #[.int .i64 h.k, .slice h.ka h.kn h.kc, .slice h.va h.vn h.vc, .slice h.da h.dn h.dc, .slice h.ta h.tn h.tc] 25)).alloc (.cells #[.nilFunc] 83) = w2 at *
  have c0 := hnf.cell
  have c1 := hnf.frozen 0
  have HN := Lib.hid (hnf.set (.func (.func 68) #[] #[.pointer (some ⟨w.heap.size + 1, 0, none⟩)]))
  have hbx3 : Box (w2.setCell ⟨w.heap.size + 1, 0, none⟩ (.func (.func 68) #[] #[.pointer (some ⟨w.heap.size + 1, 0, none⟩)])) 25 w.heap.size h := (Below.heap_setCell w2 ⟨w.heap.size + 1, 0, none⟩ _ w.heap.size (by simp)).trans hbx
  have hb3 : Below w.heap.size w (w2.setCell ⟨w.heap.size + 1, 0, none⟩ (.func (.func 68) #[] #[.pointer (some ⟨w.heap.size + 1, 0, none⟩)])) := hb2.setCell (by simp) _
  clear hnf hbx hb2
  go_upto_region 3 with fail
  generalize (w2.setCell ⟨w.heap.size + 1, 0, none⟩ (.func (.func 68) #[] #[.pointer (some ⟨w.heap.size + 1, 0, none⟩)])) = w3 at *
  obtain ⟨x0, x1, x2, x3, x4⟩ := hbx3.cells
  have c2 := HN.out.cell
  have HB3 := Lib.hid hb3
  clear c0 c1 hbx3 hb3
  go_wp2_with (first
    | (go_at_call 68
       refine (deepC_any t h 0 _ (w.heap.size + 1) (HTT.out.lower HB3.out) (by omega) (by omega) HN.out).mono ?_
       rintro _ w4 ⟨rfl, hb4⟩
       have HB4 : Hid (Below w.heap.size w w4) := Lib.hid (HB3.out.trans (hb4.mono HB3.out.size))
       clear hb4))
  go_ret
  exact ⟨rfl, HB4.out⟩

set_option maxRecDepth 100000 in
set_option maxHeartbeats 4000000 in
theorem everyPartC : ∀ (t : Tr) (h : TH) (w : World) (gp ga : Nat), InTree w h t → Var1 w 27 gp (.func (.func 41) #[] #[]) → Var1 w 27 ga (.func (.func 69) #[] #[.pointer (some ⟨gp, 0, none⟩), .pointer (some ⟨ga, 0, none⟩)]) →
    Calls Tryz.prog 69 #[h.v, .pointer (some ⟨gp, 0, none⟩), .pointer (some ⟨ga, 0, none⟩)] w (Says w (.bool (allT partB t))) := by
  intro t
  induction t using Tr.ind with
  | h t ih =>
  intro h w gp ga ht hpv hcl
  unfold TH.v
  obtain ⟨H, hp⟩ := ht.parts
  have htl := hp.len
  have htc := hp.sl.le
  have htm := Nat.le_trans hp.sl.le hp.sl.max
  simp only [maxLen] at htm
  have HP := Lib.hid hp
  have HTT := Lib.hid ht
  have IH := Lib.hid ih
  have hbox := Box.new w 25 h
  have HX := Lib.hid hbox
  obtain ⟨x0, x1, x2, x3, x4⟩ := hbox.cells
  have hw1 : Below w.heap.size w (w.alloc (.cells #[.int .i64 h.k, .slice h.ka h.kn h.kc, .slice h.va h.vn h.vc, .slice h.da h.dn h.dc, .slice h.ta h.tn h.tc] 25)) := (Below.refl _ _).alloc (Nat.le_refl _) _
  have HB := Lib.hid hw1
  have hpv1 := hpv.below hw1 hpv.lt
  have HCL1 := Lib.hid (hcl.below hw1 hcl.lt)
  have HPV1 := Lib.hid hpv1
  have xp := hpv1.cell
  skip
  clear hp ht ih hcl hpv hpv1 hw1 hbox
  go_enter Tryz.func69, Tryz.ntmps69
  go_upto_if 10 with (first
    | (go_at_call 41
       refine (wellFormed_any t h _ (HTT.out.lower HB.out)).mono ?_
       rintro _ w1 ⟨rfl, hb1⟩
       have HB1 : Hid (Below w.heap.size w w1) := Lib.hid (HB.out.trans (hb1.mono HB.out.size))
       have HX1 := Lib.hid (HX.out.below hb1 HX.out.lt)
       have HCL2 := Lib.hid (HCL1.out.below hb1 HCL1.out.lt)
       have HPV2 := Lib.hid (HPV1.out.below hb1 HPV1.out.lt)
       skip
       generalize hr : partB t = r
       have HR := Lib.hid hr
       clear hb1 hr))
  clear x0 x1 x2 x3 x4 xp HX HB HCL1 HPV1
  cases r
  · go_wp2_with fail
    go_ret
    have e : allT partB t = false := by rw [allT_eq, HR.out]; rfl
    exact ⟨by rw [e]; rfl, HB1.out⟩
  simp only [Bool.not_true]
  have x4 := HX1.out.cells.2.2.2.2
  go_wp2_with fail
  clear x4 HX1
  go_loopw [14] (fun s14 wx => ∃ i : Nat, i ≤ h.tn ∧ s14 = .int .i64 i ∧ Var1 wx 27 gp (.func (.func 41) #[] #[]) ∧ Var1 wx 27 ga (.func (.func 69) #[] #[.pointer (some ⟨gp, 0, none⟩), .pointer (some ⟨ga, 0, none⟩)]) ∧ Below w.heap.size w wx ∧ (t.kids.take i).all (allT partB) = true) (fun s14 _ => h.tn - (intOf s14).toNat)
  case atStart => exact ⟨0, by omega, rfl, HPV2.out, HCL2.out, HB1.out, by simp⟩
  case round =>
    clear HCL2 HB1 HPV2
    obtain ⟨i, hi, rfl, hpv, hcl, hbw, hall⟩ := hrel
    have hcc := hcl.cell
    have HC := Lib.hid hcl
    have HV := Lib.hid hpv
    have HBW := Lib.hid hbw
    have HA := Lib.hid hall
    skip
    clear hcl hbw hall hpv
    by_cases hlt : i < h.tn
    · have q1 : (i : Int) < (h.tn : Int) := by omega
      obtain ⟨g, off, hta, hg, hcs⟩ := (HP.out.below HBW.out).place (by omega)
      obtain ⟨k0, k1, k2, k3, k4⟩ := hcs i hlt
      have him : i < t.kids.length := by omega
      clear hcs
      rw [hta]
      go_upto_region 6 with fail
      have b2 : Below wr.heap.size wr (wr.alloc (.cells #[.int .i64 (H i).k, .slice (H i).ka (H i).kn (H i).kc, .slice (H i).va (H i).vn (H i).vc, .slice (H i).da (H i).dn (H i).dc, .slice (H i).ta (H i).tn (H i).tc] 25)) := (Below.refl _ _).alloc (Nat.le_refl _) _
      have bx := Box.new wr 25 (H i)
      generalize (wr.alloc (.cells #[.int .i64 (H i).k, .slice (H i).ka (H i).kn (H i).kc, .slice (H i).va (H i).vn (H i).vc, .slice (H i).da (H i).dn (H i).dc, .slice (H i).ta (H i).tn (H i).tc] 25)) = w2 at *
      have HB2 : Hid (Below w.heap.size w w2) := Lib.hid (HBW.out.trans (b2.mono HBW.out.size))
      have HC2 := Lib.hid (HC.out.below b2 HC.out.lt)
      have HV2 := Lib.hid (HV.out.below b2 HV.out.lt)
      skip
      have hc2 := HC2.out.cell
      obtain ⟨y0, y1, y2, y3, y4⟩ := bx.cells
      clear b2 bx k0 k1 k2 k3 k4 hcc
      go_upto_if 21 with (first
        | (go_at_call 69
           refine (IH.out _ (List.getElem_mem him) (H i) _ gp ga ((HP.out.below HB2.out).kids i him) HV2.out HC2.out).mono ?_
           rintro _ w3 ⟨rfl, hb3⟩
           have HB3 : Hid (Below w.heap.size w w3) := Lib.hid (HB2.out.trans (hb3.mono HB2.out.size))
           have HC3 := Lib.hid (HC2.out.below hb3 HC2.out.lt)
           have HV3 := Lib.hid (HV2.out.below hb3 HV2.out.lt)
           skip
           generalize hr : allT partB t.kids[i] = q
           have HQ := Lib.hid hr
           clear hb3 hr))
      clear y0 y1 y2 y3 y4 hc2
      cases q
      · go_wp2_with fail
        go_ret
        have e : allT partB t = false := by rw [allT_eq, all_not i him HQ.out, Bool.and_false]
        exact ⟨by rw [e]; rfl, HB3.out⟩
      · clear hta
        go_wp2_with fail
        exact ⟨⟨i + 1, by omega, by go_num, HV3.out, HC3.out, HB3.out, by rw [all_take _ _ i him, HA.out, HQ.out]; rfl⟩, by simp [intOf]; omega⟩
    · obtain rfl : i = h.tn := by omega
      have q1 : ¬ (h.tn : Int) < (h.tn : Int) := by omega
      go_wp2_with fail
      go_ret
      have hA := HA.out
      rw [List.take_of_length_le (by omega)] at hA
      have e : allT partB t = true := by rw [allT_eq, HR.out, hA]; rfl
      exact ⟨by rw [e]; rfl, HBW.out⟩
set_option maxRecDepth 100000 in
set_option maxHeartbeats 4000000 in
theorem everyPart (t : Tr) (h : TH) (w : World) (ht : InTree w h t) : Calls Tryz.prog 40 #[h.v, .func (.func 41) #[] #[]] w (Says w (.bool (allT partB t))) := by
  have hmf : ∀ (fn : Fn) (first cap : Array Value) (w : World), (Instr.makeFunc fn first cap).run Tryz.prog w = .ok (.func fn first cap) w := fun _ _ _ _ => rfl
  unfold TH.v
  have HTT := Lib.hid ht
  clear ht
  go_enter Tryz.func40, Tryz.ntmps40
  have hbw1 : Below w.heap.size w (w.alloc (.cells #[.int .i64 h.k, .slice h.ka h.kn h.kc, .slice h.va h.vn h.vc, .slice h.da h.dn h.dc, .slice h.ta h.tn h.tc] 25)) := (Below.refl _ _).alloc (Nat.le_refl _) _
  have hbx1 := Box.new w 25 h
  have e1 : (w.alloc (.cells #[.int .i64 h.k, .slice h.ka h.kn h.kc, .slice h.va h.vn h.vc, .slice h.da h.dn h.dc, .slice h.ta h.tn h.tc] 25)).heap.size = w.heap.size + 1 := by simp
  have hbw2 : Below w.heap.size w ((w.alloc (.cells #[.int .i64 h.k, .slice h.ka h.kn h.kc, .slice h.va h.vn h.vc, .slice h.da h.dn h.dc, .slice h.ta h.tn h.tc] 25)).alloc (.cells #[.func (.func 41) #[] #[]] 27)) := hbw1.alloc (by rw [e1]; omega) _
  have hbx2 := hbx1.below ((Below.refl _ _).alloc (Nat.le_refl _) (.cells #[.func (.func 41) #[] #[]] 27)) hbx1.lt
  have hpv2 := Var1.new (w.alloc (.cells #[.int .i64 h.k, .slice h.ka h.kn h.kc, .slice h.va h.vn h.vc, .slice h.da h.dn h.dc, .slice h.ta h.tn h.tc] 25)) 27 (.func (.func 41) #[] #[])
  have e2 : ((w.alloc (.cells #[.int .i64 h.k, .slice h.ka h.kn h.kc, .slice h.va h.vn h.vc, .slice h.da h.dn h.dc, .slice h.ta h.tn h.tc] 25)).alloc (.cells #[.func (.func 41) #[] #[]] 27)).heap.size = w.heap.size + 2 := by simp
  have hbw3 : Below w.heap.size w (((w.alloc (.cells #[.int .i64 h.k, .slice h.ka h.kn h.kc, .slice h.va h.vn h.vc, .slice h.da h.dn h.dc, .slice h.ta h.tn h.tc] 25)).alloc (.cells #[.func (.func 41) #[] #[]] 27)).alloc (.cells #[.nilFunc] 27)) := hbw2.alloc (by rw [e2]; omega) _
  have hbx3 := hbx2.below ((Below.refl _ _).alloc (Nat.le_refl _) (.cells #[.nilFunc] 27)) hbx2.lt
  have hpv3 := hpv2.below ((Below.refl _ _).alloc (Nat.le_refl _) (.cells #[.nilFunc] 27)) hpv2.lt
  have hnf := Var1.new ((w.alloc (.cells #[.int .i64 h.k, .slice h.ka h.kn h.kc, .slice h.va h.vn h.vc, .slice h.da h.dn h.dc, .slice h.ta h.tn h.tc] 25)).alloc (.cells #[.func (.func 41) #[] #[]] 27)) 27 .nilFunc
  rw [e2] at hnf
  rw [e1] at hpv3
  clear hbw1 hbx1 e1 hbw2 hbx2 hpv2 e2
  go_upto_region 2 with fail
  generalize (((w.alloc (.cells #[.int .i64 h.k, .slice h.ka h.kn h.kc, .slice h.va h.vn h.vc, .slice h.da h.dn h.dc, .slice h.ta h.tn h.tc] 25)).alloc (.cells #[.func (.func 41) #[] #[]] 27)).alloc (.cells #[.nilFunc] 27)) = w2 at *
  have c0 := hnf.cell
  have c1 := hnf.frozen 0
  have hn4 := hnf.set (.func (.func 69) #[] #[.pointer (some ⟨w.heap.size + 1, 0, none⟩), .pointer (some ⟨w.heap.size + 2, 0, none⟩)])
  have hbx4 : Box (w2.setCell ⟨w.heap.size + 2, 0, none⟩ (.func (.func 69) #[] #[.pointer (some ⟨w.heap.size + 1, 0, none⟩), .pointer (some ⟨w.heap.size + 2, 0, none⟩)])) 25 w.heap.size h := (Below.heap_setCell w2 ⟨w.heap.size + 2, 0, none⟩ _ w.heap.size (by simp)).trans hbx3
  have hpv4 := hpv3.far (p := ⟨w.heap.size + 2, 0, none⟩) (by simp) (.func (.func 69) #[] #[.pointer (some ⟨w.heap.size + 1, 0, none⟩), .pointer (some ⟨w.heap.size + 2, 0, none⟩)])
  have hb4 : Below w.heap.size w (w2.setCell ⟨w.heap.size + 2, 0, none⟩ (.func (.func 69) #[] #[.pointer (some ⟨w.heap.size + 1, 0, none⟩), .pointer (some ⟨w.heap.size + 2, 0, none⟩)])) := hbw3.setCell (by simp) _
  clear hnf hbx3 hpv3 hbw3
  go_upto_region 3 with fail
  generalize (w2.setCell ⟨w.heap.size + 2, 0, none⟩ (.func (.func 69) #[] #[.pointer (some ⟨w.heap.size + 1, 0, none⟩), .pointer (some ⟨w.heap.size + 2, 0, none⟩)])) = w3 at *
  obtain ⟨x0, x1, x2, x3, x4⟩ := hbx4.cells
  have c2 := hn4.cell
  have HN := Lib.hid hn4
  have HPV := Lib.hid hpv4
  have HB3 := Lib.hid hb4
  skip
  clear c0 c1 hbx4 hb4 hpv4 hn4
  go_wp2_with (first
    | (go_at_call 69
       refine (everyPartC t h _ (w.heap.size + 1) (w.heap.size + 2) (HTT.out.lower HB3.out) HPV.out HN.out).mono ?_
       rintro _ w4 ⟨rfl, hb4⟩
       have HB4 : Hid (Below w.heap.size w w4) := Lib.hid (HB3.out.trans (hb4.mono HB3.out.size))
       clear hb4))
  go_ret
  exact ⟨rfl, HB4.out⟩

end Go.Proofs.YtkcmohmfejmfoaaGreatDoor

/- In a region that draws its order: what may be taken first. No program is named here. -/
namespace Go.Proofs.YtkcmohmfejmfoaaGreatDoor
open Go.RowKit
set_option linter.unusedVariables false

section
variable {P : Program} {md : Region.Mode} {ops : Array Oper} {Q : Exit → Act → World → Prop} {S : World → Prop}
/-- In a region that draws its order: an operation that yields v in every world that meets S is taken first. -/
theorem take_w {i : Nat} {oi : Oper} {v : Value} {fuel : Nat} {listed : Array Bool} {a : Act} {w : World} (hi : ops[i]? = some oi)
    (hs : Region.noSelect ops = true) (hf : Region.free md ops listed i = true) (hr : (Region.ready md ops listed).contains i = true)
    (hQ : ∀ c a w, Q (.panic c) (a.put oi.dst v) w → Q (.panic c) a w) (hw : Region.wanted oi (yielded ops a.tmps) = true) (hy : ∀ w, S w → (execOp a.eval oi).run P w = .ok (.value v) w) (hS : S w)
    (h : wpAnyH P md ops Q S fuel (listed.setIfInBounds i true) (a.put oi.dst v) w) : wpAnyH P md ops Q S (fuel + 1) listed a w :=
  wpAnyH_take hi hs hf hr hQ (.inl ⟨hw, hy⟩) hS h
end
end Go.Proofs.YtkcmohmfejmfoaaGreatDoor

/- The contract of the program's check of a tree. -/
namespace Go.Proofs.YtkcmohmfejmfoaaGreatDoor
open Go.RowKit
set_option linter.unusedVariables false

set_option maxRecDepth 100000 in
set_option maxHeartbeats 4000000 in
theorem check_any (t : Tr) (h : TH) (w : World) (ht : InTree w h t) : Calls Tryz.prog 18 #[h.v] w (Says w (codeV (checkT t))) := by
  unfold TH.v
  have hbox := Box.new w 25 h
  have HX := Lib.hid hbox
  have HT := Lib.hid ht
  obtain ⟨x0, x1, x2, x3, x4⟩ := hbox.cells
  clear hbox ht
  go_enter Tryz.func18, Tryz.ntmps18
  go_upto_if 4 with (first
    | (go_at_call 39
       refine (tooDeep_any t h _ ?_).mono ?_
       · exact HT.out.lower ((Below.refl _ _).alloc (Nat.le_refl _) _)
       rintro _ w1 ⟨rfl, hb1⟩
       have HB1 : Hid (Below w.heap.size w w1) := Lib.hid (((Below.refl w.heap.size w).alloc (Nat.le_refl _) _).trans (hb1.mono (by simp)))
       obtain ⟨y0, y1, y2, y3, y4⟩ := (HX.out.below hb1 HX.out.lt).cells
       generalize hr : deepT t 64 = r
       have HR := Lib.hid hr
       clear hb1 hr x0 x1 x2 x3 x4))
  cases r
  · go_upto_if 8 with (first
      | (go_at_call 40
         refine (everyPart t h _ ?_).mono ?_
         · exact HT.out.lower HB1.out
         rintro _ w2 ⟨rfl, hb2⟩
         have HB2 : Hid (Below w.heap.size w w2) := Lib.hid (HB1.out.trans (hb2.mono HB1.out.size))
         rw [allT_part]
         generalize hq : formedT t = q
         have HQ := Lib.hid hq
         clear hb2 hq y0 y1 y2 y3 y4))
    cases q
    · go_wp2_with fail
      go_ret
      have e : checkT t = 3 := by unfold checkT; rw [HR.out, HQ.out]; rfl
      exact ⟨by rw [e]; rfl, HB2.out⟩
    · simp only [Bool.not_true]
      go_wp2_with fail
      go_ret
      have e : checkT t = 0 := by unfold checkT; rw [HR.out, HQ.out]; rfl
      exact ⟨by rw [e]; rfl, HB2.out⟩
  · go_wp2_with fail
    go_ret
    have e : checkT t = 5 := by unfold checkT; rw [HR.out]; rfl
    exact ⟨by rw [e]; rfl, HB1.out⟩
theorem check_zero {t : Tr} (h : checkT t = 0) : formedT t = true ∧ deepT t 64 = false := by
  unfold checkT at h
  split at h
  · cases h
  · split at h
    · exact ⟨by assumption, by rename_i q _; simpa using q⟩
    · cases h
theorem codeV_pos {k : Nat} (h : k ≠ 0) : codeV k = .iface 42 (.int .i64 k) := by
  unfold codeV
  rw [if_neg h]
end Go.Proofs.YtkcmohmfejmfoaaGreatDoor

/- How many nodes a tree has. -/
namespace Go.Proofs.YtkcmohmfejmfoaaGreatDoor
open Go.RowKit
set_option linter.unusedVariables false

theorem count_two {t : Tr} (h2 : t.kids.length = 2) : countT t = 1 + countT (t.kids[0]'(by omega)) + countT (t.kids[1]'(by omega)) := by
  rw [countT_eq, sum_two (by rw [List.length_map]; exact h2), List.getElem_map, List.getElem_map]
  omega
theorem list_len : ∀ t : Tr, formedT t = true → (listT t).length ≤ countT t := by
  intro t
  induction t using Tr.ind with
  | h t ih =>
  intro hf
  obtain ⟨hp, hk⟩ := formed_kids hf
  rcases part_kids hp with ⟨h0, _⟩ | ⟨h2, _⟩
  · rw [listT_0 h0]
    exact Nat.zero_le _
  · rw [listT_2 h2, count_two h2]
    have i0 := ih _ (List.getElem_mem (by omega : 0 < t.kids.length)) (hk 0 (by omega))
    have i1 := ih _ (List.getElem_mem (by omega : 1 < t.kids.length)) (hk 1 (by omega))
    simp only [List.length_append, List.length_cons]
    omega
end Go.Proofs.YtkcmohmfejmfoaaGreatDoor

/- Rows of trees in one's own memory. No program is named here. -/
namespace Go.Proofs.YtkcmohmfejmfoaaGreatDoor
open Go.RowKit
set_option linter.unusedVariables false

/-- The cells of trees, one behind the other. -/
def cellsT (hs : List TH) : List Value := hs.flatMap TH.cells
theorem cellsT_len (hs : List TH) : (cellsT hs).length = hs.length * 5 := by
  unfold cellsT
  induction hs with
  | nil => rfl
  | cons h r ih =>
    rw [List.flatMap_cons, List.length_append, ih]
    simp [TH.cells]
    omega
theorem cellsT_app (a b : List TH) : cellsT (a ++ b) = cellsT a ++ cellsT b := by simp [cellsT]
theorem cellsT_one {hs : List TH} {u : Value} (h : u ∈ cellsT hs) : u.oneCell' = true := by
  unfold cellsT at h
  rw [List.mem_flatMap] at h
  obtain ⟨x, _, hx⟩ := h
  simp [TH.cells] at hx
  rcases hx with rfl | rfl | rfl | rfl | rfl <;> rfl
theorem cellsT_get (hs : List TH) (i j : Nat) (hi : i < hs.length) (hj : j < 5) : (cellsT hs)[i * 5 + j]? = some (hs[i].cell j) := by
  induction hs generalizing i with
  | nil => simp at hi
  | cons h r ih =>
    have e : cellsT (h :: r) = h.cells ++ cellsT r := by simp [cellsT]
    rw [e]
    rcases i with _ | i
    · rw [List.getElem?_append_left (by simp [TH.cells]; omega)]
      rcases (by omega : j = 0 ∨ j = 1 ∨ j = 2 ∨ j = 3 ∨ j = 4) with rfl | rfl | rfl | rfl | rfl <;> rfl
    · rw [List.getElem?_append_right (by simp [TH.cells]; omega)]
      have e2 : (i + 1) * 5 + j - h.cells.length = i * 5 + j := by simp [TH.cells]; omega
      rw [e2, ih i (by simpa using hi)]
      simp

/-- A row of trees in new memory, from the block base on. -/
def OwnT (W : World) (base : Nat) (ty : TypeId) (v : Value) (hs : List TH) : Prop := W.ownsRow base ty 5 v hs.length (cellsT hs)
theorem OwnT.keep {W W' : World} {base : Nat} {ty : TypeId} {v : Value} {hs : List TH} (h : OwnT W base ty v hs) (hb : Below W.heap.size W W') : OwnT W' base ty v hs := by
  refine ⟨h.1, ?_⟩
  rcases h.2 with h1 | ⟨g, cap, cur, h1, h2, h3, h4⟩
  · exact .inl h1
  · have hlt : g < W.heap.size := by
      rcases Nat.lt_or_ge g W.heap.size with hlt | hge
      · exact hlt
      · rw [Array.getElem?_eq_none hge] at h3; cases h3
    exact .inr ⟨g, cap, cur, h1, h2, (hb.block g hlt).trans h3, h4⟩
theorem OwnT.weak {W : World} {base base' : Nat} {ty : TypeId} {v : Value} {hs : List TH} (h : OwnT W base ty v hs) (hb : base' ≤ base) : OwnT W base' ty v hs := by
  refine ⟨h.1, ?_⟩
  rcases h.2 with h1 | ⟨g, cap, cur, h1, h2, h3⟩
  · exact .inl h1
  · exact .inr ⟨g, cap, cur, h1, Nat.le_trans hb h2, h3⟩
theorem OwnT.nil (W : World) (base : Nat) (ty : TypeId) : OwnT W base ty (.slice none 0 0) [] := ⟨rfl, .inl ⟨rfl, rfl⟩⟩
/-- Its block, and its cells. -/
theorem OwnT.form {W : World} {base : Nat} {ty : TypeId} {v : Value} {hs : List TH} (h : OwnT W base ty v hs) : (v = .slice none 0 0 ∧ hs = []) ∨ ∃ g c, v = .slice (some ⟨g, 0, none⟩) hs.length c ∧ base ≤ g ∧ g < W.heap.size ∧ hs.length ≤ c ∧ c ≤ maxLen ∧ ∀ j u, (cellsT hs)[j]? = some u → W.cell? ⟨g, j, none⟩ = some u := by
  rcases h.2 with ⟨h1, h2⟩ | ⟨g, cap, cur, h1, h2, h3, h4, h5, h6, h7⟩
  · exact .inl ⟨h1, List.eq_nil_of_length_eq_zero h2⟩
  · right
    have hlt : g < W.heap.size := by
      rcases Nat.lt_or_ge g W.heap.size with hlt | hge
      · exact hlt
      · rw [Array.getElem?_eq_none hge] at h3; cases h3
    refine ⟨g, cap, h1, h2, hlt, h4, h5, fun j u hu => ?_⟩
    rw [cell_of_row W g j _ _ (0, 0) h3]
    rw [← h7, List.getElem?_take] at hu
    split at hu
    · simpa using hu
    · cases hu
/-- Where an append to a row of one's own puts it: where it was, or in the next new block. -/
theorem run_append_where {P : Program} (w : World) (base : Nat) (t ty e : TypeId) (i : TypeInfo) (z : Value) (size bytes : Nat) (ht : P.underlying t = some (.slice e)) (hi : P.info? e = some i) (hz : i.zero = some z)
    (hsize : i.size = size) (hby : i.bytes = bytes) (v : Value) (n : Nat) (xs : List Value) (hown : w.ownsRow base e size v n xs)
    (a : Addr) (m c : Nat) (news : List Value) (hl : news.length = m * size) (hnews : ∀ j u, news[j]? = some u → w.cell? (a.add j) = some u) (h1 : ∀ u ∈ news, u.oneCell' = true)
    (hzs : z.cells.size = size) (hsz : 0 < size) (hbase : base ≤ w.heap.size) (h63 : n + m ≤ maxLen) (hbytes : (n + m) * bytes ≤ 140737488355328) :
    ∃ v' w', (Builtin.append_ #[t, t] ty #[v, .slice (some a) m c]).run P w = .ok v' w' ∧ (v'.ownBlock = v.ownBlock ∨ v'.ownBlock = some w.heap.size) := by
  subst hsize
  subst hby
  simp only [maxLen] at h63
  rcases hown.2 with ⟨rfl, rfl⟩ | ⟨g, cap, cur, rfl, _, hg, _, _, hcs, _⟩
  · by_cases hm0 : 0 < m
    · exact ⟨_, _, run_append_nil (P := P) w t ty e i z ht hi hz a m c news hl hnews (by omega) (by omega) (by simp only [Nat.zero_add] at hbytes; omega), .inr rfl⟩
    · obtain ⟨v', w', hr, _, _, h4⟩ := run_append_own (P := P) w base t ty e i z i.size i.bytes ht hi hz rfl rfl hzs hsz (.slice none 0 0) 0 xs hown a m c news hl hnews h1 (by simp only [maxLen]; omega) hbytes hbase
      exact ⟨v', w', hr, .inl (by rw [h4.2 ⟨rfl, by omega⟩])⟩
  · by_cases hroom : n + m ≤ cap
    · exact ⟨_, _, run_append_room (P := P) w t ty e i ht hi g n cap cur hg a m c news hl hnews h1 hroom (by rw [hl, hcs, ← Nat.add_mul]; exact Nat.mul_le_mul_right _ hroom), .inl rfl⟩
    · exact ⟨_, _, run_append_grow (P := P) w t ty e i z ht hi hz ⟨g, 0, none⟩ n cap xs hown.1 (hown.cells (g := g) rfl) a m c news hl hnews (by omega) (by omega) (growslice_fits (by omega) hbytes), .inr rfl⟩
/-- append(a, b...), both rows of trees of one's own, at a step. -/
theorem wp_append_trees {P : Program} (w : World) {o : Oper} {a : Act} {K : Act → World → Prop} {Q : Exit → Act → World → Prop} (s x : Operand) (t : TypeId)
    (ho : o.op = .call { callee := .builtin .append, args := #[s, x], argTypes := #[t, t] })
    (base : Nat) (e : TypeId) (i : TypeInfo) (z : Value) (bytes : Nat) (ht : P.underlying t = some (.slice e)) (hi : P.info? e = some i) (hz : i.zero = some z)
    (hsize : i.size = 5) (hby : i.bytes = bytes) (hzs : z.cells.size = 5)
    (v : Value) (hs1 : List TH) (hs : a.eval s = v) (hown : OwnT w base e v hs1) (g c : Nat) (hs2 : List TH) (hx : a.eval x = .slice (some ⟨g, 0, none⟩) hs2.length c) (hcells : ∀ j u, (cellsT hs2)[j]? = some u → w.cell? ⟨g, j, none⟩ = some u)
    (hbytes : (hs1.length + hs2.length) * bytes ≤ 140737488355328) (hb0 : 0 < bytes) (hbase : base ≤ w.heap.size)
    (h : ∀ v' w', OwnT w' base e v' (hs1 ++ hs2) → w.grownBy w' v.ownBlock → (v'.ownBlock = v.ownBlock ∨ v'.ownBlock = some w.heap.size) → K (a.put o.dst v') w') : o.wp P a w K Q := by
  have hmax : hs1.length + hs2.length ≤ maxLen := by
    have : hs1.length + hs2.length ≤ (hs1.length + hs2.length) * bytes := Nat.le_mul_of_pos_right _ hb0
    simp only [maxLen]
    omega
  have hnews : ∀ j u, (cellsT hs2)[j]? = some u → w.cell? ((⟨g, 0, none⟩ : Addr).add j) = some u := fun j u hu => by
    have hp : (⟨g, 0, none⟩ : Addr).add j = ⟨g, j, none⟩ := by unfold Addr.add; split <;> simp_all
    rw [hp]
    exact hcells j u hu
  obtain ⟨v', w', hr, h2, h3, h4⟩ := run_append_own (P := P) w base t o.type e i z 5 bytes ht hi hz hsize hby hzs (by omega) v hs1.length (cellsT hs1) hown ⟨g, 0, none⟩ hs2.length c (cellsT hs2) (cellsT_len hs2) hnews (fun u hu => cellsT_one hu) hmax hbytes hbase
  obtain ⟨v2, w2, hr2, h5⟩ := run_append_where (P := P) w base t o.type e i z 5 bytes ht hi hz hsize hby v hs1.length (cellsT hs1) hown ⟨g, 0, none⟩ hs2.length c (cellsT hs2) (cellsT_len hs2) hnews (fun u hu => cellsT_one hu) hzs (by omega) hbase hmax hbytes
  rw [hr] at hr2
  injection hr2 with e1 e2
  subst e1 e2
  unfold Oper.wp execOp
  simp only [ho, resolve, invoke, builtin, Sem.run_bind, Sem.run_pure, Result.andThen_ok, List.map_toArray, List.map_cons, List.map_nil, hs, hx, hr]
  refine h v' w' ?_ h3 h5
  unfold OwnT
  rw [cellsT_app, List.length_append]
  exact h2
/-- A tree is stored at the end of a row of one's own, at a step. -/
theorem wp_store_last {P : Program} (w : World) {o : Oper} {a : Act} {K : Act → World → Prop} {Q : Exit → Act → World → Prop} (ty : TypeId) (x y : Operand) (ho : o.op = .store ty x y)
    (base : Nat) (e : TypeId) (g n c : Nat) (hs : List TH) (z h : TH) (hn : hs.length = n) (hown : OwnT w base e (.slice (some ⟨g, 0, none⟩) (n + 1) c) (hs ++ [z]))
    (hx : a.eval x = .pointer (some ⟨g, n * 5, none⟩)) (hy : a.eval y = h.v) (hi : (P.info? ty).map (·.size) = some 5)
    (hK : ∀ w', OwnT w' base e (.slice (some ⟨g, 0, none⟩) (n + 1) c) (hs ++ [h]) → w.grownBy w' (some g) → K (a.put o.dst undef) w') : o.wp P a w K Q := by
  have hlen : (hs ++ [z]).length = n + 1 := by simp [hn]
  have hlen2 : (hs ++ [h]).length = n + 1 := by simp [hn]
  unfold OwnT at hown
  rw [hlen] at hown
  rcases hown.2 with ⟨h1, _⟩ | ⟨g', cap, cur, h1, h2, h3, h4, h5, h6, h7⟩
  · cases h1
  · injection h1 with h1 _ h1c
    injection h1 with h1
    injection h1 with h1
    subst h1
    subst h1c
    have hl5 : h.cells.length = 5 := rfl
    have hcl := cellsT_len hs
    rw [hn] at hcl
    have hfit : n * 5 + 0 + h.cells.length ≤ cur.size := by rw [h6, hl5]; omega
    have hst := run_storeCells_at P g (n * 5) e h.cells 0 cur w h3 hfit (fun u hu => cellsT_one (hs := [h]) (by simpa [cellsT] using hu))
    cases hq : P.info? ty with
    | none => simp [hq] at hi
    | some i =>
      have hsz : i.size = 5 := by simp [hq] at hi; omega
      have hrun : (storeVar ty ⟨g, n * 5, none⟩ h.v).run P w = .ok () (w.setRow g (cur.toList.take (n * 5 + 0) ++ h.cells ++ cur.toList.drop (n * 5 + 0 + h.cells.length)).toArray) := by
        rw [← hst]
        simp [storeVar, sizeOf, typeInfo, hq, Value.cells, hsz, TH.v, TH.cells]
      unfold Oper.wp execOp
      simp only [ho, hx, hy, Instr.storeAt, Instr.sureAddr, Sem.run_bind, Sem.run_pure, Result.andThen_ok, hrun]
      refine hK _ ?_ ⟨rfl, rfl, rfl, by simp, fun j _ hne => setRow_other w g j _ (fun e => hne (by rw [e]))⟩
      have ht : cur.toList.take (n * 5) = cellsT hs := by
        have e1 : (cur.toList.take ((n + 1) * 5)).take (n * 5) = cur.toList.take (n * 5) := by rw [List.take_take]; congr 1; omega
        rw [← e1, h7, cellsT_app, ← hcl, List.take_left]
      unfold OwnT
      rw [hlen2]
      refine ⟨by rw [cellsT_len, hlen2], .inr ⟨g, c, _, rfl, h2, setRow_heap w g cur _ e _ h3, h4, h5, ?_, ?_⟩⟩
      · simp only [List.size_toArray, List.length_append, List.length_take, List.length_drop, Array.length_toList, hl5]
        omega
      · have ht0 : cur.toList.take (n * 5 + 0) = cellsT hs := ht
        rw [ht0, cellsT_app]
        have e2 : cellsT [h] = h.cells := by simp [cellsT]
        rw [e2]
        have e3 : (cellsT hs ++ h.cells).length = (n + 1) * 5 := by rw [List.length_append, hcl, hl5]; omega
        rw [← e3]
        exact List.take_left
theorem step_store_last {P : Program} (w : World) {ops : Array Oper} {o : Oper} {a : Act} {K : Act → World → Prop} {Q : Exit → Act → World → Prop} {E : Prop} (hgd : o.guard = none) (ty : TypeId) (x y : Operand) (ho : o.op = .store ty x y)
    (base : Nat) (e : TypeId) (g n c : Nat) (hs : List TH) (z h : TH) (hn : hs.length = n) (hown : OwnT w base e (.slice (some ⟨g, 0, none⟩) (n + 1) c) (hs ++ [z]))
    (hx : a.eval x = .pointer (some ⟨g, n * 5, none⟩)) (hy : a.eval y = h.v) (hi : (P.info? ty).map (·.size) = some 5)
    (hK : ∀ w', OwnT w' base e (.slice (some ⟨g, 0, none⟩) (n + 1) c) (hs ++ [h]) → w.grownBy w' (some g) → K (a.put o.dst undef) w') : if Region.wanted o (yielded ops a.tmps) = true then Oper.wp P o a w K Q else E := by
  have hw : Region.wanted o (yielded ops a.tmps) = true := by simp [Region.wanted, hgd]
  rw [if_pos hw]
  exact wp_store_last w ty x y ho base e g n c hs z h hn hown hx hy hi hK
theorem step_append_trees {P : Program} (w : World) {ops : Array Oper} {o : Oper} {a : Act} {K : Act → World → Prop} {Q : Exit → Act → World → Prop} {E : Prop} (hgd : o.guard = none) (s x : Operand) (t : TypeId)
    (ho : o.op = .call { callee := .builtin .append, args := #[s, x], argTypes := #[t, t] })
    (base : Nat) (e : TypeId) (i : TypeInfo) (z : Value) (bytes : Nat) (ht : P.underlying t = some (.slice e)) (hi : P.info? e = some i) (hz : i.zero = some z)
    (hsize : i.size = 5) (hby : i.bytes = bytes) (hzs : z.cells.size = 5)
    (v : Value) (hs1 : List TH) (hs : a.eval s = v) (hown : OwnT w base e v hs1) (g c : Nat) (hs2 : List TH) (hx : a.eval x = .slice (some ⟨g, 0, none⟩) hs2.length c) (hcells : ∀ j u, (cellsT hs2)[j]? = some u → w.cell? ⟨g, j, none⟩ = some u)
    (hbytes : (hs1.length + hs2.length) * bytes ≤ 140737488355328) (hb0 : 0 < bytes) (hbase : base ≤ w.heap.size)
    (h : ∀ v' w', OwnT w' base e v' (hs1 ++ hs2) → w.grownBy w' v.ownBlock → (v'.ownBlock = v.ownBlock ∨ v'.ownBlock = some w.heap.size) → K (a.put o.dst v') w') : if Region.wanted o (yielded ops a.tmps) = true then Oper.wp P o a w K Q else E := by
  have hw : Region.wanted o (yielded ops a.tmps) = true := by simp [Region.wanted, hgd]
  rw [if_pos hw]
  exact wp_append_trees w s x t ho base e i z bytes ht hi hz hsize hby hzs v hs1 hs hown g c hs2 hx hcells hbytes hb0 hbase h
/-- The cells of a box, as a row of one. -/
theorem Box.row {W : World} {ty : TypeId} {g : Nat} {h : TH} (hb : Box W ty g h) : ∀ j u, (cellsT [h])[j]? = some u → W.cell? ⟨g, j, none⟩ = some u := by
  intro j u hu
  rw [cell_of_row W g j _ _ (0, 0) hb]
  have e2 : cellsT [h] = h.cells := by simp [cellsT]
  rw [e2] at hu
  simpa [TH.cells] using hu
/-- Heads and trees, side by side. -/
def Heads (w : World) (hs : List TH) (ts : List Tr) : Prop := hs.length = ts.length ∧ ∀ i (h1 : i < hs.length) (h2 : i < ts.length), InTree w hs[i] ts[i]
theorem Heads.nil (w : World) : Heads w [] [] := ⟨rfl, fun i h1 => by simp at h1⟩
theorem Heads.app {w : World} {a b : List TH} {s t : List Tr} (h : Heads w a s) (h' : Heads w b t) : Heads w (a ++ b) (s ++ t) := by
  refine ⟨by simp [h.1, h'.1], fun i h1 h2 => ?_⟩
  by_cases hi : i < a.length
  · rw [List.getElem_append_left hi, List.getElem_append_left (by rw [← h.1]; exact hi)]
    exact h.2 i hi _
  · have e1 : (a ++ b)[i] = b[i - a.length]'(by rw [List.length_append] at h1; omega) := List.getElem_append_right (by omega)
    have e2 : (s ++ t)[i] = t[i - s.length]'(by rw [List.length_append] at h2; have := h.1; omega) := List.getElem_append_right (by have := h.1; omega)
    rw [e1, e2]
    have e3 : i - s.length = i - a.length := by rw [h.1]
    simp only [e3]
    exact h'.2 _ _ _
theorem Heads.one {w : World} {h : TH} {t : Tr} (ht : InTree w h t) : Heads w [h] [t] := ⟨rfl, fun i h1 h2 => by
  have h0 : i = 0 := by simpa using h1
  subst h0
  exact ht⟩
theorem Var1.ne {w : World} {ty ty' : TypeId} {g g' : Nat} {v v' : Value} (h : Var1 w ty g v) (h' : Var1 w ty' g' v') (hne : ty ≠ ty') : g ≠ g' := by
  rintro rfl
  unfold Var1 at h h'
  rw [h] at h'
  injection h' with h'
  injection h' with _ h' _
  exact hne h'
theorem Box.neV {w : World} {ty ty' : TypeId} {g g' : Nat} {h0 : TH} {v' : Value} (h : Box w ty g h0) (h' : Var1 w ty' g' v') (hne : ty ≠ ty') : g ≠ g' := by
  rintro rfl
  unfold Box at h
  unfold Var1 at h'
  rw [h] at h'
  injection h' with h'
  injection h' with _ h' _
  exact hne h'
theorem OwnT.neV {w : World} {base : Nat} {ty ty' : TypeId} {g' : Nat} {v v' : Value} {hs : List TH} (h : OwnT w base ty v hs) (h' : Var1 w ty' g' v') (hne : ty ≠ ty') : some g' ≠ v.ownBlock := by
  rcases h.2 with ⟨h1, _⟩ | ⟨g, cap, cur, h1, h2, h3, _⟩
  · rw [h1]
    intro q
    cases q
  · rw [h1]
    intro q
    have q' : g' = g := Option.some.inj q
    subst q'
    unfold Var1 at h'
    rw [h3] at h'
    injection h' with h'
    injection h' with _ h' _
    exact hne h'
/-- Its form. -/
theorem OwnT.sl {W : World} {base : Nat} {ty : TypeId} {v : Value} {hs : List TH} (h : OwnT W base ty v hs) : ∃ a c, v = .slice a hs.length c := by
  rcases h.form with ⟨h1, h2⟩ | ⟨g, c, h1, _⟩
  · exact ⟨none, 0, by rw [h1, h2]; rfl⟩
  · exact ⟨_, c, h1⟩
theorem OwnT.far {W : World} {base : Nat} {ty : TypeId} {v : Value} {hs : List TH} (h : OwnT W base ty v hs) {p : Addr} (hp : some p.block ≠ v.ownBlock) (u : Value) : OwnT (W.setCell p u) base ty v hs := by
  refine ⟨h.1, ?_⟩
  rcases h.2 with h1 | ⟨g, cap, cur, h1, h2, h3, h4⟩
  · exact .inl h1
  · refine .inr ⟨g, cap, cur, h1, h2, ?_, h4⟩
    rw [Below.heap_setCell W p u g (fun e => hp (by rw [h1, ← e]; rfl))]
    exact h3
/-- The empty tree's head. -/
def hZ : TH := ⟨0, none, 0, 0, none, 0, 0, none, 0, 0, none, 0, 0⟩
end Go.Proofs.YtkcmohmfejmfoaaGreatDoor

/- Partial trees by their kinds. No program is named here. -/
namespace Go.Proofs.YtkcmohmfejmfoaaGreatDoor
open Go.RowKit
set_option linter.unusedVariables false

theorem Tr.eta (t : Tr) : t = .mk t.k t.key t.val t.dig t.kids := by cases t; rfl
/-- A partial tree that is formed. -/
inductive PT where
  | nil
  | cut (d : List Int)
  | shown (l : PT) (key v : List Int) (r : PT)
  | dark (l : PT) (key d : List Int) (r : PT)
def PT.tr : PT → Tr
  | .nil => .mk 0 [] [] [] []
  | .cut d => .mk 3 [] [] d []
  | .shown l key v r => .mk 1 key v [] [l.tr, r.tr]
  | .dark l key d r => .mk 2 key [] d [l.tr, r.tr]
theorem PT.of : ∀ t : Tr, formedT t = true → ∃ p : PT, t = p.tr := by
  intro t
  induction t using Tr.ind with
  | h t ih =>
  intro hf
  rw [formedT_eq, Bool.and_eq_true, List.all_eq_true] at hf
  obtain ⟨hp, hk⟩ := hf
  have nil_of : ∀ {l : List Int}, l.length = 0 → l = [] := fun h => List.eq_nil_of_length_eq_zero h
  have two : t.kids.length = 2 → ∃ l r : PT, t.kids = [l.tr, r.tr] := fun h2 => by
    generalize t.kids = kids at h2 hk ih
    match kids, h2, hk, ih with
    | [x, y], _, hk, ih =>
      obtain ⟨l, hl⟩ := ih x (by simp) (hk x (by simp))
      obtain ⟨r, hr⟩ := ih y (by simp) (hk y (by simp))
      exact ⟨l, r, by rw [hl, hr]⟩
  unfold partB at hp
  split at hp
  · rename_i h0
    simp only [Bool.and_eq_true, decide_eq_true_eq] at hp
    obtain ⟨q1, q2, q3, q4⟩ := hp
    exact ⟨.nil, (Tr.eta t).trans (by rw [h0, nil_of q1, nil_of q2, nil_of q3, List.eq_nil_of_length_eq_zero q4]; rfl)⟩
  · split at hp
    · rename_i h1
      simp only [Bool.and_eq_true, decide_eq_true_eq] at hp
      obtain ⟨q1, q2, q3, q4⟩ := hp
      obtain ⟨l, r, e⟩ := two q4
      exact ⟨.shown l t.key t.val r, (Tr.eta t).trans (by rw [h1, nil_of q3, e]; rfl)⟩
    · split at hp
      · rename_i h2
        simp only [Bool.and_eq_true, decide_eq_true_eq] at hp
        obtain ⟨q1, q2, q3⟩ := hp
        obtain ⟨l, r, e⟩ := two q3
        exact ⟨.dark l t.key t.dig r, (Tr.eta t).trans (by rw [h2, nil_of q2, e]; rfl)⟩
      · split at hp
        · rename_i h3
          simp only [Bool.and_eq_true, decide_eq_true_eq] at hp
          obtain ⟨q1, q2, q3⟩ := hp
          exact ⟨.cut t.dig, (Tr.eta t).trans (by rw [h3, nil_of q1, nil_of q2, List.eq_nil_of_length_eq_zero q3]; rfl)⟩
        · cases hp
/-- Its keys are short. -/
def PT.short : PT → Prop
  | .nil => True
  | .cut _ => True
  | .shown l key _ r => l.short ∧ key.length ≤ 80 ∧ r.short
  | .dark l key _ r => l.short ∧ key.length ≤ 80 ∧ r.short
/-- A tree that is formed, by its kinds. -/
def toP (t : Tr) : PT := t.fold fun t rs => if t.k = 0 then .nil else if t.k = 3 then .cut t.dig else if t.k = 1 then .shown (rs.getD 0 .nil) t.key t.val (rs.getD 1 .nil) else .dark (rs.getD 0 .nil) t.key t.dig (rs.getD 1 .nil)
theorem toP_tr : ∀ p : PT, toP p.tr = p := by
  intro p
  induction p with
  | nil =>
    unfold toP
    rw [Tr.fold_eq]
    rfl
  | cut d =>
    unfold toP
    rw [Tr.fold_eq]
    rfl
  | shown l key v r ihl ihr =>
    unfold toP at ihl ihr ⊢
    rw [Tr.fold_eq]
    show PT.shown (Tr.fold _ l.tr) key v (Tr.fold _ r.tr) = _
    rw [ihl, ihr]
  | dark l key d r ihl ihr =>
    unfold toP at ihl ihr ⊢
    rw [Tr.fold_eq]
    show PT.dark (Tr.fold _ l.tr) key d (Tr.fold _ r.tr) = _
    rw [ihl, ihr]
end Go.Proofs.YtkcmohmfejmfoaaGreatDoor

/- AVL trees: what the document says of them, as functions, and that they stay balanced. No program is named here. -/
namespace Go.Proofs.YtkcmohmfejmfoaaGreatDoor
set_option linter.unusedVariables false

/-- The order of keys: bytewise. -/
def ltL : List Int → List Int → Bool
  | _, [] => false
  | [], _ :: _ => true
  | a :: x, b :: y => decide (a < b) || (a == b && ltL x y)
theorem ltL_irr : ∀ a : List Int, ltL a a = false
  | [] => rfl
  | a :: x => by simp [ltL, ltL_irr x]
theorem ltL_trans : ∀ {a b c : List Int}, ltL a b = true → ltL b c = true → ltL a c = true
  | _, [], _, h, _ => by simp [ltL] at h
  | _, _ :: _, [], _, h => by simp [ltL] at h
  | [], b :: y, c :: z, _, _ => rfl
  | a :: x, b :: y, c :: z, h1, h2 => by
    simp only [ltL, Bool.or_eq_true, decide_eq_true_eq, Bool.and_eq_true, beq_iff_eq] at h1 h2 ⊢
    rcases h1 with h1 | ⟨h1, h1'⟩
    · rcases h2 with h2 | ⟨h2, _⟩
      · left; omega
      · left; omega
    · rcases h2 with h2 | ⟨h2, h2'⟩
      · left; omega
      · right; exact ⟨by omega, ltL_trans h1' h2'⟩
theorem ltL_asymm {a b : List Int} (h : ltL a b = true) : ltL b a = false := by
  rw [Bool.eq_false_iff]
  intro h2
  have := ltL_trans h h2
  rw [ltL_irr] at this
  cases this
theorem ltL_eq : ∀ {a b : List Int}, ltL a b = false → ltL b a = false → a = b
  | [], [], _, _ => rfl
  | [], b :: y, h, _ => by simp [ltL] at h
  | a :: x, [], _, h => by simp [ltL] at h
  | a :: x, b :: y, h1, h2 => by
    simp only [ltL, Bool.or_eq_false_iff, decide_eq_false_iff_not, Bool.and_eq_false_iff, beq_eq_false_iff_ne] at h1 h2
    have hab : a = b := by omega
    subst hab
    rcases h1.2 with h | h
    · exact absurd rfl h
    · rcases h2.2 with h' | h'
      · exact absurd rfl h'
      · rw [ltL_eq h h']
theorem ltL_three (a b : List Int) : ltL a b = true ∨ a = b ∨ ltL b a = true := by
  cases h1 : ltL a b
  · cases h2 : ltL b a
    · exact .inr (.inl (ltL_eq h1 h2))
    · exact .inr (.inr rfl)
  · exact .inl rfl

/-- A full tree. -/
inductive AT where
  | nil
  | node (l : AT) (k v : List Int) (r : AT)
def AT.depth : AT → Nat
  | .nil => 0
  | .node l _ _ r => max l.depth r.depth + 1
/-- Its pairs, by the order of their keys. -/
def AT.pairs : AT → List (List Int × List Int)
  | .nil => []
  | .node l k v r => l.pairs ++ ((k, v) :: r.pairs)
def AT.bal : AT → Prop
  | .nil => True
  | .node l _ _ r => l.bal ∧ r.bal ∧ l.depth ≤ r.depth + 1 ∧ r.depth ≤ l.depth + 1
def AT.tilt : AT → Int
  | .nil => 0
  | .node l _ _ r => (l.depth : Int) - (r.depth : Int)
def AT.right : AT → AT
  | .node (.node ll lk lv lr) k v r => .node ll lk lv (.node lr k v r)
  | t => t
def AT.left : AT → AT
  | .node l k v (.node rl rk rv rr) => .node (.node l k v rl) rk rv rr
  | t => t
def AT.level : AT → AT
  | .nil => .nil
  | .node l k v r =>
    if (l.depth : Int) - (r.depth : Int) = 2 then AT.right (.node (if l.tilt < 0 then l.left else l) k v r)
    else if (l.depth : Int) - (r.depth : Int) = -2 then AT.left (.node l k v (if 0 < r.tilt then r.right else r))
    else .node l k v r
def AT.isNil : AT → Bool
  | .nil => true
  | _ => false
def AT.put (key val : List Int) : AT → AT
  | .nil => .node .nil key val .nil
  | .node l k v r => if key = k then .node l key val r else if ltL key k then (AT.node (AT.put key val l) k v r).level else (AT.node l k v (AT.put key val r)).level
def AT.del (key : List Int) : AT → AT
  | .nil => .nil
  | .node l k v r =>
    if ltL key k then (AT.node (AT.del key l) k v r).level
    else if ltL k key then (AT.node l k v (AT.del key r)).level
    else if l.isNil then r
    else if r.isNil then l
    else (AT.node l (r.pairs.headD ([], [])).1 (r.pairs.headD ([], [])).2 (AT.del (r.pairs.headD ([], [])).1 r)).level
def AT.get (key : List Int) (a : AT) : Option (List Int) := (a.pairs.find? fun p => p.1 == key).map (·.2)

theorem AT.level_node (l : AT) (k v : List Int) (r : AT) : (AT.node l k v r).level = if (l.depth : Int) - (r.depth : Int) = 2 then AT.right (.node (if l.tilt < 0 then l.left else l) k v r)
    else if (l.depth : Int) - (r.depth : Int) = -2 then AT.left (.node l k v (if 0 < r.tilt then r.right else r)) else .node l k v r := rfl
theorem AT.put_node (key val : List Int) (l : AT) (k v : List Int) (r : AT) : (AT.node l k v r).put key val = if key = k then .node l key val r else if ltL key k then (AT.node (AT.put key val l) k v r).level else (AT.node l k v (AT.put key val r)).level := by rw [AT.put]
theorem AT.right_pairs (t : AT) : t.right.pairs = t.pairs := by
  unfold AT.right
  split
  · simp [AT.pairs]
  · rfl
theorem AT.left_pairs (t : AT) : t.left.pairs = t.pairs := by
  unfold AT.left
  split
  · simp [AT.pairs]
  · rfl
theorem AT.level_pairs (t : AT) : t.level.pairs = t.pairs := by
  cases t with
  | nil => rfl
  | node l k v r =>
    rw [AT.level_node]
    split
    · rw [AT.right_pairs]
      split
      · simp [AT.pairs, AT.left_pairs]
      · rfl
    · split
      · rw [AT.left_pairs]
        split
        · simp [AT.pairs, AT.right_pairs]
        · rfl
      · rfl
/-- A node whose kids' depths differ by two at most is balanced when it is leveled. -/
theorem AT.level_bal (l : AT) (k v : List Int) (r : AT) (hl : l.bal) (hr : r.bal) (h1 : l.depth ≤ r.depth + 2) (h2 : r.depth ≤ l.depth + 2) :
    (AT.node l k v r).level.bal ∧ max l.depth r.depth ≤ (AT.node l k v r).level.depth ∧ (AT.node l k v r).level.depth ≤ max l.depth r.depth + 1 ∧ (l.depth ≤ r.depth + 1 → r.depth ≤ l.depth + 1 → (AT.node l k v r).level.depth = max l.depth r.depth + 1) := by
  rw [AT.level_node]
  by_cases c1 : (l.depth : Int) - (r.depth : Int) = 2
  · rw [if_pos c1]
    cases l with
    | nil => simp [AT.depth] at c1 <;> omega
    | node ll lk lv lr =>
      simp only [AT.bal] at hl
      simp only [AT.depth] at c1 h1 h2
      by_cases c2 : (AT.node ll lk lv lr).tilt < 0
      · rw [if_pos c2]
        simp only [AT.tilt] at c2
        cases lr with
        | nil => simp [AT.depth] at c2 <;> omega
        | node a b c d =>
          simp only [AT.bal, AT.depth] at *
          simp only [AT.left, AT.right, AT.bal, AT.depth]
          refine ⟨⟨⟨hl.1, hl.2.1.1, ?_, ?_⟩, ⟨hl.2.1.2.1, hr, ?_, ?_⟩, ?_, ?_⟩, ?_, ?_, ?_⟩ <;> omega
      · rw [if_neg c2]
        simp only [AT.tilt] at c2
        simp only [AT.right, AT.bal, AT.depth]
        refine ⟨⟨hl.1, ⟨hl.2.1, hr, ?_, ?_⟩, ?_, ?_⟩, ?_, ?_, ?_⟩ <;> omega
  · rw [if_neg c1]
    by_cases c2 : (l.depth : Int) - (r.depth : Int) = -2
    · rw [if_pos c2]
      cases r with
      | nil => simp [AT.depth] at c2 <;> omega
      | node rl rk rv rr =>
        simp only [AT.bal] at hr
        simp only [AT.depth] at c2 h1 h2
        by_cases c3 : 0 < (AT.node rl rk rv rr).tilt
        · rw [if_pos c3]
          simp only [AT.tilt] at c3
          cases rl with
          | nil => simp [AT.depth] at c3 <;> omega
          | node a b c d =>
            simp only [AT.bal, AT.depth] at *
            simp only [AT.left, AT.right, AT.bal, AT.depth]
            refine ⟨⟨⟨hl, hr.1.1, ?_, ?_⟩, ⟨hr.1.2.1, hr.2.1, ?_, ?_⟩, ?_, ?_⟩, ?_, ?_, ?_⟩ <;> omega
        · rw [if_neg c3]
          simp only [AT.tilt] at c3
          simp only [AT.left, AT.bal, AT.depth]
          refine ⟨⟨⟨hl, hr.1, ?_, ?_⟩, hr.2.1, ?_, ?_⟩, ?_, ?_, ?_⟩ <;> omega
    · rw [if_neg c2]
      simp only [AT.bal, AT.depth]
      exact ⟨⟨hl, hr, by omega, by omega⟩, by omega, by omega, fun _ _ => trivial⟩
theorem AT.put_bal (key val : List Int) : ∀ a : AT, a.bal → (a.put key val).bal ∧ a.depth ≤ (a.put key val).depth ∧ (a.put key val).depth ≤ a.depth + 1 := by
  intro a
  induction a with
  | nil =>
    intro _
    simp [AT.put, AT.bal, AT.depth]
  | node l k v r ihl ihr =>
    intro hb
    simp only [AT.bal] at hb
    rw [AT.put_node]
    split
    · simp only [AT.bal, AT.depth]
      exact ⟨hb, by omega, by omega⟩
    · split
      · obtain ⟨b1, d1, d2⟩ := ihl hb.1
        obtain ⟨q1, q2, q3, q4⟩ := AT.level_bal (l.put key val) k v r b1 hb.2.1 (by omega) (by omega)
        refine ⟨q1, ?_, ?_⟩
        · simp only [AT.depth]
          by_cases c : (l.put key val).depth ≤ r.depth + 1
          · rw [q4 c (by omega)]; omega
          · omega
        · simp only [AT.depth]; omega
      · obtain ⟨b1, d1, d2⟩ := ihr hb.2.1
        obtain ⟨q1, q2, q3, q4⟩ := AT.level_bal l k v (r.put key val) hb.1 b1 (by omega) (by omega)
        refine ⟨q1, ?_, ?_⟩
        · simp only [AT.depth]
          by_cases c : (r.put key val).depth ≤ l.depth + 1
          · rw [q4 (by omega) c]; omega
          · omega
        · simp only [AT.depth]; omega
end Go.Proofs.YtkcmohmfejmfoaaGreatDoor

/- AVL trees: what pairs they have behind an insertion, and behind a deletion. No program is named here. -/
namespace Go.Proofs.YtkcmohmfejmfoaaGreatDoor
set_option linter.unusedVariables false

abbrev KV := List Int × List Int
/-- The keys rise. -/
def Rise (l : List KV) : Prop := l.Pairwise fun p q => ltL p.1 q.1 = true
theorem Rise.app {a b : List KV} {k v : List Int} (h : Rise (a ++ ((k, v) :: b))) : Rise a ∧ Rise b ∧ (∀ p ∈ a, ltL p.1 k = true) ∧ (∀ p ∈ b, ltL k p.1 = true) := by
  unfold Rise at h
  rw [List.pairwise_append, List.pairwise_cons] at h
  exact ⟨h.1, h.2.1.2, fun p hp => h.2.2 p hp (k, v) (by simp), fun p hp => h.2.1.1 p hp⟩
theorem filter_all {l : List KV} {p : KV → Bool} (h : ∀ x ∈ l, p x = true) : l.filter p = l := List.filter_eq_self.2 h
theorem filter_no {l : List KV} {p : KV → Bool} (h : ∀ x ∈ l, p x = false) : l.filter p = [] := List.filter_eq_nil_iff.2 fun x hx => by rw [h x hx]; simp
/-- The pairs behind an insertion. -/
theorem AT.put_pairs (key val : List Int) : ∀ a : AT, Rise a.pairs → (a.put key val).pairs = a.pairs.filter (fun p => ltL p.1 key) ++ ((key, val) :: a.pairs.filter (fun p => ltL key p.1)) := by
  intro a
  induction a with
  | nil => intro _; rfl
  | node l k v r ihl ihr =>
    intro h
    rw [AT.pairs] at h
    obtain ⟨hl, hr, hlk, hrk⟩ := h.app
    rw [AT.put_node]
    rw [AT.pairs, List.filter_append, List.filter_append, List.filter_cons, List.filter_cons]
    by_cases c : key = k
    · subst c
      rw [if_pos rfl, AT.pairs, ltL_irr]
      rw [filter_all hlk, filter_no (p := fun p => ltL p.1 key) (fun x hx => ltL_asymm (hrk x hx)), filter_no (p := fun p => ltL key p.1) (fun x hx => ltL_asymm (hlk x hx)), filter_all hrk]
      simp
    · rw [if_neg c]
      by_cases c2 : ltL key k = true
      · rw [if_pos c2, AT.level_pairs, AT.pairs, ihl hl]
        simp only [c2, ltL_asymm c2]
        rw [filter_no (l := r.pairs) (p := fun p => ltL p.1 key) (fun x hx => ltL_asymm (ltL_trans c2 (hrk x hx))), filter_all (l := r.pairs) (p := fun p => ltL key p.1) (fun x hx => ltL_trans c2 (hrk x hx))]
        simp
      · have c3 : ltL k key = true := by
          rcases ltL_three key k with q | q | q
          · exact absurd q c2
          · exact absurd q c
          · exact q
        rw [if_neg c2, AT.level_pairs, AT.pairs, ihr hr]
        simp only [c3, ltL_asymm c3]
        rw [filter_all (l := l.pairs) (p := fun p => ltL p.1 key) (fun x hx => ltL_trans (hlk x hx) c3), filter_no (l := l.pairs) (p := fun p => ltL key p.1) (fun x hx => ltL_asymm (ltL_trans (hlk x hx) c3))]
        simp
end Go.Proofs.YtkcmohmfejmfoaaGreatDoor

/- AVL trees as trees of layer 4; which trees are balanced. No program is named here. -/
namespace Go.Proofs.YtkcmohmfejmfoaaGreatDoor
set_option linter.unusedVariables false

def AT.tr : AT → Tr
  | .nil => .mk 0 [] [] [] []
  | .node l k v r => .mk 1 k v [] [l.tr, r.tr]
/-- Keys and values within their bounds. -/
def Lim (l : List KV) : Prop := ∀ p ∈ l, p.1.length ≤ 80 ∧ p.2.length ≤ 1024
/-- The nodes, by the order of their keys. -/
def AT.nodes : AT → List AT
  | .nil => []
  | .node l k v r => l.nodes ++ (.node l k v r :: r.nodes)
def AT.kv : AT → KV
  | .nil => ([], [])
  | .node _ k v _ => (k, v)
theorem AT.tr_kids (l : AT) (k v : List Int) (r : AT) : (AT.node l k v r).tr.kids = [l.tr, r.tr] := rfl
theorem AT.tr_formed : ∀ a : AT, formedT a.tr = true ↔ Lim a.pairs := by
  intro a
  induction a with
  | nil =>
    rw [formedT_eq]
    exact ⟨fun _ p hp => by simp [AT.pairs] at hp, fun _ => rfl⟩
  | node l k v r ihl ihr =>
    have e : formedT (AT.node l k v r).tr = ((decide (k.length ≤ 80) && decide (v.length ≤ 1024)) && (formedT l.tr && formedT r.tr)) := by
      have e2 : partB (AT.node l k v r).tr = (decide (k.length ≤ 80) && (decide (v.length ≤ 1024) && (true && true))) := rfl
      rw [formedT_eq, AT.tr_kids, e2]
      simp
    rw [e]
    simp only [Bool.and_eq_true, decide_eq_true_eq, ihl, ihr]
    unfold Lim
    simp only [AT.pairs, List.mem_append, List.mem_cons]
    constructor
    · rintro ⟨h1, h2, h3⟩ p (hp | rfl | hp)
      · exact h2 p hp
      · exact h1
      · exact h3 p hp
    · intro h
      exact ⟨h _ (.inr (.inl rfl)), fun p hp => h p (.inl hp), fun p hp => h p (.inr (.inr hp))⟩
theorem AT.tr_full : ∀ a : AT, fullT a.tr = true := by
  intro a
  induction a with
  | nil => rw [fullT_eq]; rfl
  | node l k v r ihl ihr =>
    rw [fullT_eq, AT.tr_kids]
    simp [ihl, ihr, AT.tr, Tr.k]
theorem part_0 {t : Tr} (h : partB t = true) (hk : t.k = 0) : t.key = [] ∧ t.val = [] ∧ t.dig = [] ∧ t.kids = [] := by
  unfold partB at h
  rw [if_pos hk] at h
  simpa only [Bool.and_eq_true, decide_eq_true_eq, List.length_eq_zero_iff] using h
theorem part_1 {t : Tr} (h : partB t = true) (hk : t.k = 1) : t.dig = [] := by
  unfold partB at h
  rw [if_neg (by omega), if_pos hk] at h
  simp only [Bool.and_eq_true, decide_eq_true_eq, List.length_eq_zero_iff] at h
  exact h.2.2.1
theorem AT.of_full : ∀ t : Tr, formedT t = true → fullT t = true → ∃ a : AT, t = a.tr := by
  intro t
  induction t using Tr.ind with
  | h t ih =>
  intro hf hl
  obtain ⟨hp, hk⟩ := formed_kids hf
  rw [fullT_eq, Bool.and_eq_true, decide_eq_true_eq, List.all_eq_true] at hl
  rcases part_kids hp with ⟨h0, h | h⟩ | ⟨h2, h | h⟩
  · obtain ⟨q1, q2, q3, q4⟩ := part_0 hp h
    exact ⟨.nil, by rw [Tr.eta t, h, q1, q2, q3, q4]; rfl⟩
  · omega
  · have q := part_1 hp h
    obtain ⟨a, ha⟩ := ih _ (List.getElem_mem (by omega : 0 < t.kids.length)) (hk 0 (by omega)) (hl.2 _ (List.getElem_mem _))
    obtain ⟨b, hb⟩ := ih _ (List.getElem_mem (by omega : 1 < t.kids.length)) (hk 1 (by omega)) (hl.2 _ (List.getElem_mem _))
    have hks : t.kids = [a.tr, b.tr] := by
      rw [← ha, ← hb]
      exact List.ext_getElem (by simpa using h2) (fun i h3 h4 => by
        rcases (by omega : i = 0 ∨ i = 1) with rfl | rfl <;> rfl)
    exact ⟨.node a t.key t.val b, by rw [Tr.eta t, h, q, hks]; rfl⟩
  · omega
theorem AT.tr_depth : ∀ a : AT, depthT a.tr = a.depth := by
  intro a
  induction a with
  | nil => rw [depthT_eq]; rfl
  | node l k v r ihl ihr =>
    rw [depth_two (by rfl)]
    simp only [AT.tr_kids, List.getElem_cons_zero, List.getElem_cons_succ, ihl, ihr, AT.depth]
theorem AT.tr_deep : ∀ (a : AT) (b : Int), 0 ≤ b → deepT a.tr b = decide (b < (a.depth : Int)) := by
  intro a
  induction a with
  | nil =>
    intro b hb
    have e : isNode AT.nil.tr = false := rfl
    have e2 : AT.nil.tr.kids = [] := rfl
    rw [deepT_eq, e, e2, Bool.false_and, List.any_nil, Bool.or_false]
    symm
    rw [decide_eq_false_iff_not, AT.depth]
    omega
  | node l k v r ihl ihr =>
    intro b hb
    rw [deepT_eq, AT.tr_kids]
    have hn : isNode (AT.node l k v r).tr = true := by simp [isNode, AT.tr, Tr.k]
    rw [hn, Bool.true_and]
    by_cases h0 : b = 0
    · subst h0
      have e : decide ((0 : Int) < ((AT.node l k v r).depth : Int)) = true := by rw [decide_eq_true_eq, AT.depth]; omega
      rw [e]
      rfl
    · have e : (b == 0) = false := by simp [h0]
      rw [e, Bool.false_or]
      rw [List.any_cons, List.any_cons, List.any_nil, Bool.or_false, ihl (b - 1) (by omega), ihr (b - 1) (by omega), AT.depth, Bool.eq_iff_iff, Bool.or_eq_true, decide_eq_true_eq, decide_eq_true_eq, decide_eq_true_eq]
      omega
/-- Its kids' depths, one less the other. -/
def tiltT (t : Tr) : Int := ((t.kids.map depthT).getD 0 0 : Int) - ((t.kids.map depthT).getD 1 0 : Int)
/-- Do the keys rise, and is each node balanced? -/
def levelB (l : List Tr) : Bool := (List.range l.length).all fun i => (i == 0 || ltL (l.getD (i - 1) (.mk 0 [] [] [] [])).key (l.getD i (.mk 0 [] [] [] [])).key) && (decide (tiltT (l.getD i (.mk 0 [] [] [] [])) ≤ 1) && decide (-1 ≤ tiltT (l.getD i (.mk 0 [] [] [] []))))
def isT (t : Tr) : Bool := decide (checkT t = 0) && (fullT t && levelB (listT t))
theorem AT.checked {a : AT} (hl : Lim a.pairs) (hd : a.depth ≤ 64) : checkT a.tr = 0 := by
  unfold checkT
  rw [AT.tr_deep a 64 (by omega), (AT.tr_formed a).2 hl]
  have e : decide ((64 : Int) < (a.depth : Int)) = false := by simp; omega
  rw [e]
  rfl
end Go.Proofs.YtkcmohmfejmfoaaGreatDoor

/- Boxes of trees that are written; a tree of two that were made; appends of bytes at a step. No program is named here. -/
namespace Go.Proofs.YtkcmohmfejmfoaaGreatDoor
open Go.RowKit
set_option linter.unusedVariables false

/-- A tree is stored into a box, at a step. -/
theorem wp_store_box {P : Program} {o : Oper} {a : Act} {w : World} {K : Act → World → Prop} {Q : Exit → Act → World → Prop} (ty : TypeId) (x y : Operand) (ho : o.op = .store ty x y)
    (g : Nat) (old new : TH) (hx : a.eval x = .pointer (some ⟨g, 0, none⟩)) (hy : a.eval y = new.v) (t : TypeId) (hr : Box w t g old) (hi : (P.info? ty).map (·.size) = some 5)
    (h : ∀ w', Box w' t g new → w.grownBy w' (some g) → K (a.put o.dst undef) w') : o.wp P a w K Q := by
  refine wp_store_row ty x y ho g _ hx hy t _ hr hi rfl (by simp [Value.oneCell']) ?_
  exact h _ (setRow_heap w g _ _ t _ hr) ⟨rfl, rfl, rfl, by simp, fun j hj hne => setRow_other w g j _ (fun e => hne (by rw [e]))⟩
theorem wpList_store_box {P : Program} {ops : Array Oper} {rest : List Oper} {o : Oper} {a : Act} {w : World} {Q : Exit → Act → World → Prop} (hgd : o.guard = none) (ty : TypeId) (x y : Operand) (ho : o.op = .store ty x y)
    (g : Nat) (old new : TH) (hx : a.eval x = .pointer (some ⟨g, 0, none⟩)) (hy : a.eval y = new.v) (t : TypeId) (hr : Box w t g old) (hi : (P.info? ty).map (·.size) = some 5)
    (h : ∀ w', Box w' t g new → w.grownBy w' (some g) → wpList P ops Q rest (a.put o.dst undef) w') : wpList P ops Q (o :: rest) a w :=
  wpList_plain hgd fun _ hK => wp_store_box ty x y ho g old new hx hy t hr hi fun w' h1 h2 => hK _ _ (h w' h1 h2)
theorem step_store_box {P : Program} {ops : Array Oper} {o : Oper} {a : Act} {w : World} {K : Act → World → Prop} {Q : Exit → Act → World → Prop} {E : Prop} (hgd : o.guard = none) (ty : TypeId) (x y : Operand) (ho : o.op = .store ty x y)
    (g : Nat) (old new : TH) (hx : a.eval x = .pointer (some ⟨g, 0, none⟩)) (hy : a.eval y = new.v) (t : TypeId) (hr : Box w t g old) (hi : (P.info? ty).map (·.size) = some 5)
    (h : ∀ w', Box w' t g new → w.grownBy w' (some g) → K (a.put o.dst undef) w') : if Region.wanted o (yielded ops a.tmps) = true then Oper.wp P o a w K Q else E := by
  have hw : Region.wanted o (yielded ops a.tmps) = true := by simp [Region.wanted, hgd]
  rw [if_pos hw]
  exact wp_store_box ty x y ho g old new hx hy t hr hi h
theorem Box.grown {w w' : World} {ty : TypeId} {g : Nat} {h : TH} {row : Option Nat} (hx : Box w ty g h) (hg : w.grownBy w' row) (hne : some g ≠ row) : Box w' ty g h := (hg.block g hx.lt hne).trans hx
theorem Box.result {P : Program} {fn : Func} {p q : Tmp} {ty : TypeId} (hr : fn.results = #[.cell p ty, .tmp q]) (tmps : Array Value) {w : World} {g : Nat} {t : TypeId} {h : TH} {fs : Array Field} (hx : Box w t g h)
    (hp : tmps.getD p undef = .pointer (some ⟨g, 0, none⟩)) (hu : P.underlying ty = some (.struct fs)) (hi : (P.info? ty).map (·.size) = some 5) :
    (results fn tmps).run P w = .ok (.tuple #[h.v, tmps.getD q undef]) w := results_cell_tmp hr tmps w g t _ _ _ hp hx hu rfl hi

/-- Block g holds two trees' cells. -/
def Two5 (w : World) (ty : TypeId) (g : Nat) (h1 h2 : TH) : Prop := w.heap[g]? = some (.cells #[.int .i64 h1.k, .slice h1.ka h1.kn h1.kc, .slice h1.va h1.vn h1.vc, .slice h1.da h1.dn h1.dc, .slice h1.ta h1.tn h1.tc, .int .i64 h2.k, .slice h2.ka h2.kn h2.kc, .slice h2.va h2.vn h2.vc, .slice h2.da h2.dn h2.dc, .slice h2.ta h2.tn h2.tc] ty (0, 0))
theorem Two5.new (w : World) (ty : TypeId) (h1 h2 : TH) : Two5 (w.alloc (.cells #[.int .i64 h1.k, .slice h1.ka h1.kn h1.kc, .slice h1.va h1.vn h1.vc, .slice h1.da h1.dn h1.dc, .slice h1.ta h1.tn h1.tc, .int .i64 h2.k, .slice h2.ka h2.kn h2.kc, .slice h2.va h2.vn h2.vc, .slice h2.da h2.dn h2.dc, .slice h2.ta h2.tn h2.tc] ty)) ty w.heap.size h1 h2 := heap_alloc_new w _
theorem Two5.lt {w : World} {ty : TypeId} {g : Nat} {h1 h2 : TH} (hx : Two5 w ty g h1 h2) : g < w.heap.size := by
  rcases Nat.lt_or_ge g w.heap.size with hlt | hge
  · exact hlt
  · unfold Two5 at hx; rw [Array.getElem?_eq_none hge] at hx; cases hx
/-- A tree of two kids that lie side by side. -/
theorem inTree_pair {w : World} {ty : TypeId} {g : Nat} {h1 h2 : TH} {c1 c2 : Tr} (hx : Two5 w ty g h1 h2) (i1 : InTree w h1 c1) (i2 : InTree w h2 c2) {k : Int} (hk1 : -9223372036854775808 ≤ k) (hk2 : k ≤ 9223372036854775807)
    {ka va da : Option Addr} {kn kc vn vc dn dc : Nat} {key val dig : List Int} (hkey : InBytes w ka kn kc key) (hval : InBytes w va vn vc val) (hdig : InBytes w da dn dc dig) :
    InTree w ⟨k, ka, kn, kc, va, vn, vc, da, dn, dc, some ⟨g, 0, none⟩, 2, 2⟩ (.mk k key val dig [c1, c2]) := by
  refine .mk _ _ (fun i => if i = 0 then h1 else h2) rfl hk1 hk2 hkey hval hdig ⟨Nat.le_refl _, by simp [maxLen], (fun h => by cases h), fun _ => ⟨g, 0, rfl, hx.lt, fun i hi => ?_⟩⟩ rfl (fun i hi => ?_)
  · have hi' : i < 10 := hi
    rw [Nat.zero_add, cell_of_row w g i _ _ (0, 0) hx]
    rcases (by omega : i = 0 ∨ i = 1 ∨ i = 2 ∨ i = 3 ∨ i = 4 ∨ i = 5 ∨ i = 6 ∨ i = 7 ∨ i = 8 ∨ i = 9) with rfl | rfl | rfl | rfl | rfl | rfl | rfl | rfl | rfl | rfl <;> rfl
  · have hi' : i < 2 := hi
    rcases (by omega : i = 0 ∨ i = 1) with rfl | rfl
    · exact i1
    · exact i2
/-- The tree c lies below the world wb, and in the blocks from lo on that lie below hi, as they are in w. -/
def From (wb : World) (lo hi : Nat) (w : World) (h : TH) (c : Tr) : Prop := ∀ W : World, Below wb.heap.size wb W → hi ≤ W.heap.size → (∀ j, lo ≤ j → j < hi → W.heap[j]? = w.heap[j]?) → InTree W h c
end Go.Proofs.YtkcmohmfejmfoaaGreatDoor

/- A full tree does not lie in a box: what is written there leaves it as it is. No program is named here. -/
namespace Go.Proofs.YtkcmohmfejmfoaaGreatDoor
open Go.RowKit
set_option linter.unusedVariables false

theorem box_bytes' {W : World} {ty : TypeId} {g off : Nat} {hh : TH} {zs : List Int} (hb : Box W ty g hh) (hs : Seg .u8 W g off zs) (h0 : 0 < zs.length) : False := by
  have h1 := hs 0 h0
  rw [cell_of_row W g (off + 0) _ _ (0, 0) hb] at h1
  rcases (by omega : off = 0 ∨ off = 1 ∨ off = 2 ∨ off = 3 ∨ off = 4 ∨ 5 ≤ off) with rfl | rfl | rfl | rfl | rfl | h5
  · simp at h1
  · simp at h1
  · simp at h1
  · simp at h1
  · simp at h1
  · rw [Array.getElem?_eq_none (by simp; omega)] at h1
    cases h1
theorem InBytes.outBox {W W' : World} {ty : TypeId} {g : Nat} {hh : TH} {a : Option Addr} {n c : Nat} {zs : List Int} (h : InBytes W a n c zs) (hb : Box W ty g hh) (hg : W.grownBy W' (some g)) : InBytes W' a n c zs :=
  ⟨h.len, h.bytes, h.le, h.max, h.nil, fun h0 => by
    obtain ⟨g', off, e, hlt, hc⟩ := h.place h0
    have hne : some g' ≠ some g := fun q => by
      injection q with q
      subst q
      exact box_bytes' hb hc (by rw [h.len]; exact h0)
    exact ⟨g', off, e, Nat.lt_of_lt_of_le hlt hg.size, hc.keep fun o => World.cell?_of_block (a := ⟨g', o, none⟩) (hg.block g' hlt hne)⟩⟩
theorem AT.outBox {W W' : World} {ty : TypeId} {g : Nat} {hh : TH} (hb : Box W ty g hh) (hg : W.grownBy W' (some g)) : ∀ (a : AT) (h : TH), InTree W h a.tr → InTree W' h a.tr := by
  intro a
  induction a with
  | nil =>
    intro h ht
    obtain ⟨H, hp⟩ := ht.parts
    have h0 : h.tn = 0 := hp.len.symm
    exact .mk h _ H hp.hk hp.hk1 hp.hk2 (hp.key.outBox hb hg) (hp.val.outBox hb hg) (hp.dig.outBox hb hg) ⟨hp.sl.le, hp.sl.max, hp.sl.nil, fun q => by omega⟩ hp.len (fun i hi => absurd hi (Nat.not_lt_zero i))
  | node l k v r ihl ihr =>
    intro h ht
    obtain ⟨H, hp⟩ := ht.parts
    have h2 : h.tn = 2 := hp.len.symm
    refine .mk h _ H hp.hk hp.hk1 hp.hk2 (hp.key.outBox hb hg) (hp.val.outBox hb hg) (hp.dig.outBox hb hg) ⟨hp.sl.le, hp.sl.max, hp.sl.nil, fun q => ?_⟩ hp.len (fun i hi => ?_)
    · obtain ⟨g', off, e, hlt, hc⟩ := hp.sl.place q
      have hne : some g' ≠ some g := fun q => by
        injection q with q
        subst q
        have h9 := hc 9 (by omega)
        rw [cell_of_row W g' (off + 9) _ _ (0, 0) hb, Array.getElem?_eq_none (by simp)] at h9
        cases h9
      exact ⟨g', off, e, Nat.lt_of_lt_of_le hlt hg.size, fun i hi => (World.cell?_of_block (a := ⟨g', off + i, none⟩) (hg.block g' hlt hne)).trans (hc i hi)⟩
    · have hi' : i < 2 := hi
      rcases (by omega : i = 0 ∨ i = 1) with rfl | rfl
      · exact ihl _ (hp.kids 0 hi)
      · exact ihr _ (hp.kids 1 hi)
/-- A node of two trees that lie side by side. -/
theorem AT.inNode {w : World} {ty : TypeId} {g : Nat} {h1 h2 : TH} {a b : AT} (hx : Two5 w ty g h1 h2) (i1 : InTree w h1 a.tr) (i2 : InTree w h2 b.tr) {ka va : Option Addr} {kn kc vn vc : Nat} {key val : List Int} (hkey : InBytes w ka kn kc key) (hval : InBytes w va vn vc val) :
    InTree w ⟨1, ka, kn, kc, va, vn, vc, none, 0, 0, some ⟨g, 0, none⟩, 2, 2⟩ (AT.node a key val b).tr :=
  inTree_pair hx i1 i2 (by omega) (by omega) hkey hval (none_in w)
end Go.Proofs.YtkcmohmfejmfoaaGreatDoor

/- Boxes of trees, results that are trees, strings of bytes: the types alone are named. -/
namespace Go.Proofs.YtkcmohmfejmfoaaGreatDoor
open Go.RowKit
set_option linter.unusedVariables false

theorem infoTree2 : (Tryz.prog.info? 25).map (fun i => (i.zero, i.size, i.bytes)) = some (some (.agg #[.int .i64 0, .slice none 0 0, .slice none 0 0, .slice none 0 0, .slice none 0 0]), 5, 104) := by kernel_rfl
theorem infoTree5 : (Tryz.prog.info? 25).map (·.size) = some 5 := by kernel_rfl
/-- It answers a full tree; what was there stays. -/
def Tells (w : World) (a : AT) (e : Ending) (w' : World) : Prop := ∃ h', e = .returned h'.v ∧ InTree w' h' a.tr ∧ Below w.heap.size w w'
theorem result_tree {P : Program} {fn : Func} {p : Tmp} {ty : TypeId} (h : fn.results = #[.cell p ty]) (tmps : Array Value) {w : World} {g : Nat} {t : TypeId} {hh : TH} {fs : Array Field} (hx : Box w t g hh)
    (hp : tmps.getD p undef = .pointer (some ⟨g, 0, none⟩)) (hu : P.underlying ty = some (.struct fs)) (hi : (P.info? ty).map (·.size) = some 5) : (results fn tmps).run P w = .ok hh.v w := by
  have hp' : tmps[p]?.getD undef = .pointer (some ⟨g, 0, none⟩) := by simpa using hp
  have hl := run_loadVar_row (P := P) w g t ty _ _ (.struct fs) hx hu rfl (by simpa using hi)
  simp [results, h, hp', asAddr, hl, TH.v]

/-- A tree's box, and the tree. -/
structure BW (w W : World) (h : TH) (t : Tr) : Prop where
  box : Box W 25 w.heap.size h
  ti : InTree W h t
  b : Below w.heap.size w W
theorem BW.below {w W W' : World} {h : TH} {t : Tr} (d : BW w W h t) (hb : Below W.heap.size W W') : BW w W' h t := ⟨d.box.below hb d.box.lt, d.ti.lower hb, d.b.trans (hb.mono d.b.size)⟩
theorem BW.drew {w W : World} {h : TH} {t : Tr} (d : BW w W h t) : BW w W.drew h t := d.below (Below.refl _ _).drew
theorem BW.new (w : World) {h : TH} {t : Tr} (ht : InTree w h t) : BW w (w.alloc (.cells #[.int .i64 h.k, .slice h.ka h.kn h.kc, .slice h.va h.vn h.vc, .slice h.da h.dn h.dc, .slice h.ta h.tn h.tc] 25)) h t := ⟨Box.new w _ h, ht.lower ((Below.refl _ _).alloc (Nat.le_refl _) _), (Below.refl _ _).alloc (Nat.le_refl _) _⟩
theorem Lim.node {l : AT} {k v : List Int} {r : AT} (h : Lim (AT.node l k v r).pairs) : Lim l.pairs ∧ k.length ≤ 80 ∧ v.length ≤ 1024 ∧ Lim r.pairs := by
  unfold Lim at *
  simp only [AT.pairs, List.mem_append, List.mem_cons] at h
  exact ⟨fun p hp => h p (.inl hp), (h _ (.inr (.inl rfl))).1, (h _ (.inr (.inl rfl))).2, fun p hp => h p (.inr (.inr hp))⟩

/-- What lies there while a tree is turned: its box, the result's box, the kid's box. -/
structure RX (w W : World) (h hk : TH) : Prop where
  box : Box W 25 w.heap.size h
  res : Box W 25 (w.heap.size + 1) hZ
  kb : Box W 25 (w.heap.size + 2) hk
  b : Below w.heap.size w W
theorem RX.below {w W W' : World} {h hk : TH} (d : RX w W h hk) (hb : Below W.heap.size W W') : RX w W' h hk := ⟨d.box.below hb d.box.lt, d.res.below hb d.res.lt, d.kb.below hb d.kb.lt, d.b.trans (hb.mono d.b.size)⟩
theorem RX.drew {w W : World} {h hk : TH} (d : RX w W h hk) : RX w W.drew h hk := d.below (Below.refl _ _).drew
theorem enter2 (w : World) (h : TH) : Box ((w.alloc (.cells #[.int .i64 h.k, .slice h.ka h.kn h.kc, .slice h.va h.vn h.vc, .slice h.da h.dn h.dc, .slice h.ta h.tn h.tc] 25)).alloc (.cells #[.int .i64 0, .slice none 0 0, .slice none 0 0, .slice none 0 0, .slice none 0 0] 25)) 25 w.heap.size h ∧ Box ((w.alloc (.cells #[.int .i64 h.k, .slice h.ka h.kn h.kc, .slice h.va h.vn h.vc, .slice h.da h.dn h.dc, .slice h.ta h.tn h.tc] 25)).alloc (.cells #[.int .i64 0, .slice none 0 0, .slice none 0 0, .slice none 0 0, .slice none 0 0] 25)) 25 (w.heap.size + 1) hZ ∧ Below w.heap.size w ((w.alloc (.cells #[.int .i64 h.k, .slice h.ka h.kn h.kc, .slice h.va h.vn h.vc, .slice h.da h.dn h.dc, .slice h.ta h.tn h.tc] 25)).alloc (.cells #[.int .i64 0, .slice none 0 0, .slice none 0 0, .slice none 0 0, .slice none 0 0] 25)) ∧ ((w.alloc (.cells #[.int .i64 h.k, .slice h.ka h.kn h.kc, .slice h.va h.vn h.vc, .slice h.da h.dn h.dc, .slice h.ta h.tn h.tc] 25)).alloc (.cells #[.int .i64 0, .slice none 0 0, .slice none 0 0, .slice none 0 0, .slice none 0 0] 25)).heap.size = w.heap.size + 2 := by
  have q1 : Below w.heap.size w (w.alloc (.cells #[.int .i64 h.k, .slice h.ka h.kn h.kc, .slice h.va h.vn h.vc, .slice h.da h.dn h.dc, .slice h.ta h.tn h.tc] 25)) := (Below.refl _ _).alloc (Nat.le_refl _) _
  have s1 : (w.alloc (.cells #[.int .i64 h.k, .slice h.ka h.kn h.kc, .slice h.va h.vn h.vc, .slice h.da h.dn h.dc, .slice h.ta h.tn h.tc] 25)).heap.size = w.heap.size + 1 := by simp
  have x1 := Box.new w 25 h
  have x2 : Box ((w.alloc (.cells #[.int .i64 h.k, .slice h.ka h.kn h.kc, .slice h.va h.vn h.vc, .slice h.da h.dn h.dc, .slice h.ta h.tn h.tc] 25)).alloc (.cells #[.int .i64 0, .slice none 0 0, .slice none 0 0, .slice none 0 0, .slice none 0 0] 25)) 25 (w.alloc (.cells #[.int .i64 h.k, .slice h.ka h.kn h.kc, .slice h.va h.vn h.vc, .slice h.da h.dn h.dc, .slice h.ta h.tn h.tc] 25)).heap.size hZ := Box.new _ 25 hZ
  rw [s1] at x2
  exact ⟨x1.below ((Below.refl _ _).alloc (Nat.le_refl _) _) x1.lt, x2, q1.alloc (by rw [s1]; omega) _, by simp⟩

/-- A tree's box, the result's box, and the tree. -/
structure LX (w W : World) (h : TH) (t : Tr) : Prop where
  box : Box W 25 w.heap.size h
  res : Box W 25 (w.heap.size + 1) hZ
  ti : InTree W h t
  b : Below w.heap.size w W
theorem LX.below {w W W' : World} {h : TH} {t : Tr} (d : LX w W h t) (hb : Below W.heap.size W W') : LX w W' h t := ⟨d.box.below hb d.box.lt, d.res.below hb d.res.lt, d.ti.lower hb, d.b.trans (hb.mono d.b.size)⟩
theorem LX.drew {w W : World} {h : TH} {t : Tr} (d : LX w W h t) : LX w W.drew h t := d.below (Below.refl _ _).drew

theorem conv_key {w : World} {a : Option Addr} {n cap : Nat} {bs : List Int} (h : InBytes w a n cap bs) :
    (convert 22 9 (.slice a n cap)).run Tryz.prog w = .ok (.string (strOfNums bs)) w :=
  conv_in (P := Tryz.prog) h 22 5 9 Tryz.underlying22 Tryz.underlying5 Tryz.underlying9
end Go.Proofs.YtkcmohmfejmfoaaGreatDoor
