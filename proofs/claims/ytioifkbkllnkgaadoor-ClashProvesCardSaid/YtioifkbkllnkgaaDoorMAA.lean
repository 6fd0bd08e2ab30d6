/- Words for memory, for arguments that are slices of bytes or arrays, and for appends: what the walks of all layers share. No program is named here. Arguments that are slices of anything: their cells, one behind the other, and what each element is. No program is named here. Trees as arguments: the view of a tree that lies somewhere. No program is named here. What the document says of trees, as functions. No program is named here. Partial trees by their kinds. No program is named here. Plain facts on a number's bytes: written, and read again. No program is named here. Plain facts on preimages. No program is named here. Plain facts on 32 bit words: turning to the right, the two sums of a round. No program is named here. Plain facts on the tail: its bytes as a list. No program is named here. Plain facts on a block's words. No program is named here. Plain facts on a step: 64 rounds and a sum; the tables as lists. No program is named here. Plain facts on steps one behind the other. No program is named here. Plain functions after the document's reckoning of roots by digits of 16 bits. No program is named here. The byte's type, as the program has it; slices of new memory. Contracts of the program's and of the document's small functions on 32 bit words. The contract of a round: the document's. Arrays of eight words: what == and an index answer. Contracts of putBig, tail and Tail. Contracts of word and spread. The contract of schedule. The contract of rounds. The contract of step. Contracts of First and Step. The contract of steps. Contracts of withTail and stateBytes. The contract of stateBytes. The contract of Sum. Facts on a sum's bytes. The digest of a tree, as a function. No program is named here. The contracts of the document's checks of trees. The contracts of the document's checks of trees: Check, Full, Depth. AVL trees: what the document says of them, as functions, and that they stay balanced. No program is named here. The order of strings is the order of keys. No program is named here. A variable of one cell: a closure's, a number's. No program is named here. -/
import Derived.WalkKit
import Derived.WalkSmall
import Derived.Below
import Derived.Deep.Draws
import Derived.Laws.OwnMore
import Derived.Laws.Rows
import Derived.Deep.RegionLaw
import Derived.Laws.AppendOwnNone
import Derived.OwnWalk
import Derived.Laws.BytesArg
import Derived.Deep.AppendLies
import Derived.ProofKit
import Derived.OpenShut
import Derived.LaidMore
import Derived.Stop.Joined
import Derived.WalkLawsBesides
import Derived.WalkSpells
import Derived.Outline
import Derived.Lib.Hide
import Derived.LoopTactic
import Derived.Deep.RegionWith
import Derived.Deep.DeepCutAuto
import Derived.Lib.IfaceEq
import Derived.Deep.QuietTactic
import Derived.BigQuiet
import Derived.BigRegion
import Derived.StillTailTactics
import Derived.Deep.RegionHeld3
import Derived.IntWalk
import Derived.SizedLaws
import Derived.Deep.Slices
import Derived.Test.YtioifkbkllnkgaaDoorProg
import Derived.ChangeKeysEq
import Derived.Deep.CutBlock
import Derived.Laws.EntriesVeiled
/- Words for memory, for arguments that are slices of bytes or arrays, and for appends: what the walks of all layers share. No program is named here. -/
namespace Go.Proofs.YtioifkbkllnkgaaDoor
open Go.ChangeShapes Go.WideShapes Go.RowKit
set_option linter.unusedVariables false

def Bytes8 (bs : List Int) : Prop := ∀ z ∈ bs, 0 ≤ z ∧ z ≤ 255
theorem byte_at {bs : List Int} (h : Bytes8 bs) (i : Nat) : 0 ≤ bs.getD i 0 ∧ bs.getD i 0 ≤ 255 := by
  by_cases hi : i < bs.length
  · have := h bs[i] (List.getElem_mem hi)
    simpa [List.getD, hi] using this
  · simp [List.getD, List.getElem?_eq_none (by omega : bs.length ≤ i)]
/-- Block g holds just the integers zs, of element type t; it may be written. -/
def Row (k : IntKind) (w : World) (t : TypeId) (g : Nat) (zs : List Int) : Prop := w.heap[g]? = some (.cells (zs.map (Value.int k)).toArray t (0, 0))
/-- From the place off of block g on the integers zs lie. -/
def Seg (k : IntKind) (w : World) (g off : Nat) (zs : List Int) : Prop := ∀ (i : Nat) (h : i < zs.length), w.cell? ⟨g, off + i, none⟩ = some (.int k zs[i])

section
variable {k : IntKind} {w w' : World} {t : TypeId} {g off : Nat} {zs : List Int}
theorem Row.lt (h : Row k w t g zs) : g < w.heap.size := by
  rcases Nat.lt_or_ge g w.heap.size with hlt | hge
  · exact hlt
  · unfold Row at h; rw [Array.getElem?_eq_none hge] at h; cases h
theorem Row.cell (h : Row k w t g zs) (i : Nat) (hi : i < zs.length) : w.cell? ⟨g, i, none⟩ = some (.int k zs[i]) := by
  have h1 := cell_of_row w g i _ t (0, 0) h
  rw [h1]
  simp [hi]
theorem Row.has (h : Row k w t g zs) (i : Nat) (hi : i < zs.length) : ∃ z, w.cell? ⟨g, i, none⟩ = some (.int k z) := ⟨_, h.cell i hi⟩
theorem Row.frozen (h : Row k w t g zs) (i : Nat) : w.frozen? ⟨g, i, none⟩ = false := by
  unfold Row at h
  simp [World.frozen?, h]
theorem Row.seg (h : Row k w t g zs) : Seg k w g 0 zs := fun i hi => by
  rw [Nat.zero_add]
  exact h.cell i hi
theorem Row.new (w : World) (t : TypeId) (zs : List Int) : Row k (w.alloc (.cells (zs.map (Value.int k)).toArray t)) t w.heap.size zs := heap_alloc_new w _
theorem Row.drew (h : Row k w t g zs) : Row k w.drew t g zs := h
theorem Row.drewN (h : Row k w t g zs) (n : Nat) : Row k (w.drewN n) t g zs := h
theorem Row.alloc (h : Row k w t g zs) (o : Obj) : Row k (w.alloc o) t g zs := (Below.heap_alloc w o g h.lt).trans h
theorem Row.set (h : Row k w t g zs) (i : Nat) (z : Int) : Row k (w.setCell ⟨g, i, none⟩ (.int k z)) t g (zs.set i z) := by
  unfold Row at h ⊢
  simp [World.setCell, Array.getElem?_modify, h, List.map_set]
theorem Row.far (h : Row k w t g zs) {p : Addr} (hp : g ≠ p.block) (u : Value) : Row k (w.setCell p u) t g zs := (Below.heap_setCell w p u g hp).trans h
theorem Row.below {B : Nat} (h : Row k w t g zs) (hb : Below B w w') (hg : g < B) : Row k w' t g zs := (hb.block g hg).trans h
theorem Row.grown {row : Option Nat} (h : Row k w t g zs) (hb : w.grownBy w' row) (hg : some g ≠ row) : Row k w' t g zs := (hb.block g h.lt hg).trans h

theorem Seg.keep (h : Seg k w g off zs) (hk : ∀ o, w'.cell? ⟨g, o, none⟩ = w.cell? ⟨g, o, none⟩) : Seg k w' g off zs := fun i hi => (hk _).trans (h i hi)
theorem Seg.below {B : Nat} (h : Seg k w g off zs) (hb : Below B w w') (hg : g < B) : Seg k w' g off zs := h.keep fun o => hb.cell (p := ⟨g, o, none⟩) hg
theorem Seg.drew (h : Seg k w g off zs) : Seg k w.drew g off zs := h
theorem Seg.drop (h : Seg k w g off zs) (j : Nat) : Seg k w g (off + j) (zs.drop j) := fun i hi => by
  rw [List.length_drop] at hi
  have h1 := h (j + i) (by omega)
  rw [List.getElem_drop, show off + j + i = off + (j + i) by omega]
  exact h1
theorem Seg.take (h : Seg k w g off zs) (j : Nat) : Seg k w g off (zs.take j) := fun i hi => by
  rw [List.length_take] at hi
  rw [List.getElem_take]
  exact h i (by omega)
theorem Seg.cellD (h : Seg k w g off zs) (i : Nat) (hi : i < zs.length) : w.cell? ⟨g, off + i, none⟩ = some (.int k (zs.getD i 0)) := by
  rw [h i hi]; simp [List.getD, hi]

theorem Seg.news (h : Seg k w g off zs) : ∀ (j : Nat) (u : Value), (zs.map (Value.int k))[j]? = some u → w.cell? ((⟨g, off, none⟩ : Addr).add j) = some u := by
  intro j u hu
  have hj : j < zs.length := by
    rcases Nat.lt_or_ge j zs.length with h | h
    · exact h
    · rw [List.getElem?_eq_none (by simpa using h)] at hu; cases hu
  have hp : (⟨g, off, none⟩ : Addr).add j = ⟨g, off + j, none⟩ := by unfold Addr.add; split <;> simp_all
  rw [hp, h j hj]
  simpa [hj] using hu
theorem only_refl (a : World) (row : Option Nat) : a.grownBy a row := ⟨rfl, rfl, rfl, Nat.le_refl _, fun _ _ _ => rfl⟩
theorem only_set {a w : World} {g : Nat} (h : a.grownBy w (some g)) (i : Nat) (u : Value) : a.grownBy (w.setCell ⟨g, i, none⟩ u) (some g) :=
  ⟨h.os, h.tape, h.output, by simpa [World.setCell] using h.size, fun j hj hne => (Below.heap_setCell w ⟨g, i, none⟩ u j (by rintro rfl; exact hne rfl)).trans (h.block j hj hne)⟩
theorem only_below {a w : World} (h : Below a.heap.size a w) (row : Option Nat) : a.grownBy w row := ⟨h.os, h.tape, h.output, h.size, fun i hi _ => h.block i hi⟩
/-- What has turned block g alone has left all below B as it was, where B ≤ g. -/
theorem below_only {a b w : World} {B g : Nat} (h : Below B a b) (hg : b.grownBy w (some g)) (hB : B ≤ b.heap.size) (hBg : B ≤ g) : Below B a w :=
  h.grown hg hB (fun j hj => by injection hj; omega)
end

theorem Row.cellD {k : IntKind} {w : World} {t : TypeId} {g : Nat} {zs : List Int} (h : Row k w t g zs) (i : Nat) (hi : i < zs.length) : w.cell? ⟨g, i, none⟩ = some (.int k (zs.getD i 0)) := by
  rw [h.cell i hi]; simp [List.getD, hi]
theorem ints_size (k : IntKind) (zs : List Int) : (zs.map (Value.int k)).toArray.size = zs.length := by simp
theorem ints_one (k : IntKind) (zs : List Int) : (zs.map (Value.int k)).toArray.all (·.oneCell') = true := by
  simp [Value.oneCell']

/-- A whole array of integers, read. -/
theorem wpList_load_ints {P : Program} {ops : Array Oper} {rest : List Oper} {o : Oper} {a : Act} {w : World} {Q : Exit → Act → World → Prop} (hgd : o.guard = none) (ty : TypeId) (x : Operand) (ho : o.op = .load ty x)
    (g : Nat) (hx : a.eval x = .pointer (some ⟨g, 0, none⟩)) (t : TypeId) (k : IntKind) (zs : List Int) (hr : Row k w t g zs) (n : Nat) (e : TypeId)
    (hu : P.underlying ty = some (.array n e)) (hi : (P.info? ty).map (·.size) = some zs.length)
    (h : wpList P ops Q rest (a.put o.dst (.agg (zs.map (Value.int k)).toArray)) w) : wpList P ops Q (o :: rest) a w :=
  wpList_load_row hgd ty x ho g hx t _ _ _ hr hu rfl (by rw [ints_size]; exact hi) h

/-- A whole array of integers, written. -/
theorem wpList_store_ints {P : Program} {ops : Array Oper} {rest : List Oper} {o : Oper} {a : Act} {w : World} {Q : Exit → Act → World → Prop} (hgd : o.guard = none) (ty : TypeId) (x y : Operand) (ho : o.op = .store ty x y)
    (g : Nat) (k : IntKind) (zs : List Int) (hx : a.eval x = .pointer (some ⟨g, 0, none⟩)) (hy : a.eval y = .agg (zs.map (Value.int k)).toArray)
    (t : TypeId) (old : List Int) (hr : Row k w t g old) (hi : (P.info? ty).map (·.size) = some zs.length) (hold : old.length = zs.length)
    (h : ∀ w', Row k w' t g zs → w.grownBy w' (some g) → w'.heap.size = w.heap.size → wpList P ops Q rest (a.put o.dst undef) w') : wpList P ops Q (o :: rest) a w := by
  refine wpList_store_row hgd ty x y ho g _ hx hy t _ hr (by rw [ints_size]; exact hi) (by simp [hold]) (ints_one k zs) ?_
  refine h _ (setRow_heap w g _ _ t _ hr) ⟨rfl, rfl, rfl, by simp, fun j hj hne => setRow_other w g j _ (fun e => hne (by rw [e]))⟩ (by simp)

theorem madeCells_ints (k : IntKind) (n : Nat) : madeCells (Value.int k 0).cells n = ((List.replicate n (0 : Int)).map (Value.int k)).toArray := by
  apply Array.ext
  · simp [madeCells]
  · intro i h1 h2
    simp [madeCells, Value.cells, Nat.mod_one]

/-- make([]T, n) of integers: a new block of n noughts. -/
theorem wpList_make_ints {P : Program} (w : World) {ops : Array Oper} {rest : List Oper} {o : Oper} {a : Act} {Q : Exit → Act → World → Prop}
    (hg : o.guard = none) (l c : Operand) (t : TypeId) (hop : o.op = Op.makeSlice t l c)
    (e : TypeId) (i : TypeInfo) (k : IntKind) (h1 : P.underlying t = some (.slice e)) (h2 : P.info? e = some i) (h3 : i.zero = some (.int k 0)) (h4 : i.size = 1)
    (kl kc : IntKind) (L C : Int) (n : Nat) (hl : a.eval l = .int kl L) (hc : a.eval c = .int kc C) (hL : L = (n : Int)) (hC : C = (n : Int)) (b2 : i.bytes * n ≤ 281474976710656) (b3 : n ≤ maxLen)
    (hK : ∀ w', Row k w' e w.heap.size (List.replicate n 0) → Below w.heap.size w w' → w'.heap.size = w.heap.size + 1 → wpList P ops Q rest (a.put o.dst (.slice (some ⟨w.heap.size, 0, none⟩) n n)) w') :
    wpList P ops Q (o :: rest) a w := by
  refine wpList_plain hg fun K hK' => ?_
  subst hL
  subst hC
  have hb : (i.bytes : Int) * (n : Int) ≤ 281474976710656 := by
    have h : ((i.bytes * n : Nat) : Int) ≤ 281474976710656 := by omega
    rwa [Int.natCast_mul] at h
  simp only [maxLen] at b3
  have hrun := run_make (P := P) w t e i _ h1 h2 h3 kl kc n n (by omega) (by omega) hb (by omega)
  rw [Int.toNat_natCast, h4, Nat.mul_one, madeCells_ints] at hrun
  unfold Oper.wp
  simp only [execOp, hop, hl, hc, Sem.run_bind, hrun, Result.andThen_ok, Sem.run_pure]
  exact hK' _ _ (hK _ (Row.new w e _) ((Below.refl _ _).alloc (Nat.le_refl _) _) (by simp))

/-- Two results, the first an array in memory. -/
theorem results_cell_tmp {P : Program} {fn : Func} {p q : Tmp} {ty : TypeId} (h : fn.results = #[.cell p ty, .tmp q]) (tmps : Array Value) (w : World) (g : Nat) (t : TypeId) (cs : Array Value) (fr : Nat × Nat) (d : TypeDesc)
    (hp : tmps.getD p undef = .pointer (some ⟨g, 0, none⟩)) (hg : w.heap[g]? = some (.cells cs t fr))
    (hu : P.underlying ty = some d) (hd : (match d with | .struct _ | .array _ _ => true | _ => false) = true) (hi : (P.info? ty).map (·.size) = some cs.size) :
    (results fn tmps).run P w = .ok (.tuple #[.agg cs, tmps.getD q undef]) w := by
  have hp' : tmps[p]?.getD undef = .pointer (some ⟨g, 0, none⟩) := by simpa using hp
  simp [results, h, hp', asAddr, run_loadVar_row w g t ty cs fr d hg hu hd hi]

section
variable {H : Type} {enc : TypeId × Value → H} {P : Program} {w : World} {base : Nat} {spare : Nat → Bool} {held : Bool}
end

/-- What a walk is told of a slice of bytes: bs: its bytes; where it has one, its place. -/
structure InBytes (w : World) (a : Option Addr) (n cap : Nat) (bs : List Int) : Prop where
  len : bs.length = n
  bytes : Bytes8 bs
  le : n ≤ cap
  max : cap ≤ maxLen
  nil : a = none → cap = 0
  place : 0 < n → ∃ g off, a = some ⟨g, off, none⟩ ∧ g < w.heap.size ∧ Seg .u8 w g off bs

theorem InBytes.below {w w' : World} {a : Option Addr} {n cap : Nat} {bs : List Int} (h : InBytes w a n cap bs) (hb : Below w.heap.size w w') : InBytes w' a n cap bs :=
  ⟨h.len, h.bytes, h.le, h.max, h.nil, fun h0 => by
    obtain ⟨g, off, e, hg, hs⟩ := h.place h0
    exact ⟨g, off, e, Nat.lt_of_lt_of_le hg hb.size, hs.below hb hg⟩⟩
section
variable {H : Type} {enc : TypeId × Value → H} {P : Program} {w : World} {base : Nat} {spare : Nat → Bool} {held : Bool}
theorem open_bytes {t e : TypeId} {a : Option Addr} {n cap : Nat} {d : DataW H} {p : List MemPlace}
    (hu : P.underlying t = some (.slice e)) (he : P.underlying e = some (.int .u8)) (hce : P.cellsOf e = 1)
    (h : DataW.Trod enc P w base spare held t (.slice a n cap) d p) : ∃ bs, InBytes w a n cap bs := by
  obtain ⟨fuel, hf⟩ := h
  rcases open_ints hu he hce hf with ⟨hcs, _⟩ | ⟨x, l, c, zs, hcs, _, hl, hm, hz, _, hcell, hwz⟩
  · simp [Value.cells] at hcs
    obtain ⟨rfl, rfl, rfl⟩ := hcs
    exact ⟨[], { len := rfl, bytes := (fun z hz => by cases hz), le := Nat.le_refl _, max := by simp [maxLen], nil := fun _ => rfl, place := fun h => by omega }⟩
  · simp [Value.cells] at hcs
    obtain ⟨rfl, rfl, rfl⟩ := hcs
    have hlz : n ≤ zs.length := by rw [hz]; split <;> omega
    refine ⟨zs.take n, { len := by simp; omega, bytes := fun z h => bounds_u8 (hwz z (List.mem_of_mem_take h)), le := hl, max := hm, nil := (fun h => by cases h), place := fun h0 => ?_ }⟩
    obtain ⟨g, off, spot⟩ := x
    have h1 := hcell 0 (by omega)
    have hspot : spot = none := by simpa [Addr.add] using World.cell?_spot h1
    subst hspot
    have hlt := World.block_lt_of_cell? w _ h1
    refine ⟨g, off, rfl, by simpa [Addr.add] using hlt, fun i hi => ?_⟩
    have hi2 : i < zs.length := by simp at hi; omega
    have h2 := hcell i hi2
    have hp : (⟨g, off, none⟩ : Addr).add i = ⟨g, off + i, none⟩ := by unfold Addr.add; split <;> simp_all
    rw [hp] at h2
    rw [h2]
    simp [List.getD, hi2]
end

theorem wpList_append_bytes {P : Program} (w : World) {ops : Array Oper} {rest : List Oper} {o : Oper} {a : Act} {Q : Exit → Act → World → Prop} (hgd : o.guard = none) (s x : Operand) (t : TypeId)
    (ho : o.op = .call { callee := .builtin .append, args := #[s, x], argTypes := #[t, t] })
    (base : Nat) (e : TypeId) (i : TypeInfo) (z : Value) (bytes : Nat) (ht : P.underlying t = some (.slice e)) (hi : P.info? e = some i) (hz : i.zero = some z)
    (hsize : i.size = 1) (hby : i.bytes = bytes) (hzs : z.cells.size = 1)
    (v : Value) (n : Nat) (xs : List Value) (hs : a.eval s = v) (hown : w.ownsRow base e 1 v n xs)
    (ad : Option Addr) (k cap : Nat) (r : List Int) (hx : a.eval x = .slice ad k cap) (hin : InBytes w ad k cap r)
    (h63 : n + k ≤ maxLen) (hbytes : (n + k) * bytes ≤ 140737488355328) (hbase : base ≤ w.heap.size)
    (h : ∀ v' w', w'.ownsRow base e 1 v' (n + k) (xs ++ r.map (Value.int .u8)) → w.grownBy w' v.ownBlock → wpList P ops Q rest (a.put o.dst v') w') : wpList P ops Q (o :: rest) a w := by
  cases ad with
  | none =>
    have hc := hin.nil rfl
    have hk : k = 0 := by have := hin.le; omega
    subst hc
    subst hk
    have hr : r = [] := List.eq_nil_of_length_eq_zero hin.len
    subst hr
    refine wpList_append_own_none hgd s x t ho base e i 1 ht hi v n xs hs hown hx ?_
    exact h v w (by simpa using hown) (only_refl w _)
  | some ad =>
    have hnews : ∀ (j : Nat) (u : Value), (r.map (Value.int .u8))[j]? = some u → w.cell? (ad.add j) = some u := by
      intro j u hu
      have hj : j < r.length := by
        rcases Nat.lt_or_ge j r.length with h | h
        · exact h
        · rw [List.getElem?_eq_none (by simpa using h)] at hu; cases hu
      have hl := hin.len
      obtain ⟨g, off, e1, _, hseg⟩ := hin.place (by omega)
      obtain rfl := Option.some.inj e1
      exact hseg.news j u hu
    refine wpList_append_own w hgd s x t ho base e i z 1 bytes ht hi hz hsize hby hzs (by omega) v n xs hs hown ad k cap (r.map (Value.int .u8)) hx (by simp [hin.len]) hnews (by simp [Value.oneCell']) h63 hbytes hbase ?_
    intro v' w' h1 h2 _
    exact h v' w' h1 h2

theorem conv_in {P : Program} {w : World} {a : Option Addr} {n cap : Nat} {bs : List Int} (h : InBytes w a n cap bs) (src e dst : TypeId) (hs : P.underlying src = some (.slice e)) (he : P.underlying e = some (.int .u8)) (hd : P.underlying dst = some .string) :
    (convert src dst (.slice a n cap)).run P w = .ok (.string (strOfNums bs)) w := by
  by_cases h0 : 0 < n
  · obtain ⟨g, off, rfl, _, hseg⟩ := h.place h0
    exact run_convert_bytes_arg w src e hs he g off n cap bs h.len (fun i hi => hseg.cellD i (by rw [h.len]; exact hi)) dst hd
  · have hn : n = 0 := by omega
    subst hn
    have hb : bs = [] := List.eq_nil_of_length_eq_zero h.len
    subst hb
    rw [run_convert_bytes_string w src dst e a 0 cap hs he hd]
    cases a with
    | none => simp [Conv.bytesToString, strOfNums]; rfl
    | some x =>
      have hl : (loadCells x 0).run P w = .ok (([] : List Int).map (Value.int .u8)).toArray w := by
        simpa using run_loadCells_list (P := P) w x [] (fun j v hj => by simp at hj)
      rw [run_bytesToString w x 0 cap [] hl]
      simp [strOfNums]; rfl

theorem wpList_append_bytes' {P : Program} (w : World) {ops : Array Oper} {rest : List Oper} {o : Oper} {a : Act} {Q : Exit → Act → World → Prop} (hgd : o.guard = none) (s x : Operand) (t : TypeId)
    (ho : o.op = .call { callee := .builtin .append, args := #[s, x], argTypes := #[t, t] })
    (base : Nat) (e : TypeId) (i : TypeInfo) (z : Value) (bytes : Nat) (ht : P.underlying t = some (.slice e)) (hi : P.info? e = some i) (hz : i.zero = some z)
    (hsize : i.size = 1) (hby : i.bytes = bytes) (hzs : z.cells.size = 1)
    (g0 n c0 : Nat) (xs : List Value) (hs : a.eval s = .slice (some ⟨g0, 0, none⟩) n c0) (hown : w.ownsRow base e 1 (.slice (some ⟨g0, 0, none⟩) n c0) n xs)
    (ad : Option Addr) (k cap : Nat) (r : List Int) (hx : a.eval x = .slice ad k cap) (hin : InBytes w ad k cap r)
    (h63 : n + k ≤ maxLen) (hbytes : (n + k) * bytes ≤ 140737488355328) (hbase : base ≤ w.heap.size)
    (h : ∀ g c w', w'.ownsRow base e 1 (.slice (some ⟨g, 0, none⟩) (n + k) c) (n + k) (xs ++ r.map (Value.int .u8)) → w.grownBy w' (some g0) → wpList P ops Q rest (a.put o.dst (.slice (some ⟨g, 0, none⟩) (n + k) c)) w') : wpList P ops Q (o :: rest) a w := by
  cases ad with
  | none =>
    have hc := hin.nil rfl
    have hk : k = 0 := by have := hin.le; omega
    subst hc
    subst hk
    have hr : r = [] := List.eq_nil_of_length_eq_zero hin.len
    subst hr
    refine wpList_append_own_none hgd s x t ho base e i 1 ht hi _ n xs hs hown hx ?_
    exact h g0 c0 w (by simpa using hown) (only_refl w _)
  | some ad =>
    have hnews : ∀ (j : Nat) (u : Value), (r.map (Value.int .u8))[j]? = some u → w.cell? (ad.add j) = some u := by
      intro j u hu
      have hj : j < r.length := by
        rcases Nat.lt_or_ge j r.length with h | h
        · exact h
        · rw [List.getElem?_eq_none (by simpa using h)] at hu; cases hu
      have hl := hin.len
      obtain ⟨g, off, e1, _, hseg⟩ := hin.place (by omega)
      obtain rfl := Option.some.inj e1
      exact hseg.news j u hu
    refine wpList_append_own w hgd s x t ho base e i z 1 bytes ht hi hz hsize hby hzs (by omega) _ n xs hs hown ad k cap (r.map (Value.int .u8)) hx (by simp [hin.len]) hnews (by simp [Value.oneCell']) h63 hbytes hbase ?_
    intro v' w' h1 h2 h3
    rcases h1.2 with ⟨hv, _⟩ | ⟨g, cap', cur, hv, _⟩
    · have := (h3.1 hv).1
      cases this
    · rw [hv] at h1 ⊢
      exact h g cap' w' h1 h2

theorem InBytes.upto {w : World} {a : Option Addr} {n cap : Nat} {bs : List Int} (h : InBytes w a n cap bs) (j : Nat) (hj : j ≤ n) : InBytes w a j cap (bs.take j) :=
  ⟨by have := h.len; simp; omega, fun z hz => h.bytes z (List.mem_of_mem_take hz), Nat.le_trans hj h.le, h.max, h.nil, fun h0 => by
    obtain ⟨g, off, e, hg, hs⟩ := h.place (by omega)
    exact ⟨g, off, e, hg, hs.take j⟩⟩
theorem InBytes.behind {w : World} {a : Option Addr} {n cap : Nat} {bs : List Int} (h : InBytes w a n cap bs) (j : Nat) (hj : j ≤ n) : InBytes w (if cap = j then a else a.map (·.add j)) (n - j) (cap - j) (bs.drop j) := by
  have hle := h.le
  refine ⟨by simp [h.len], fun z hz => h.bytes z (List.mem_of_mem_drop hz), by omega, by have := h.max; omega, fun hn => ?_, fun h0 => ?_⟩
  · have : a = none := by
      split at hn
      · exact hn
      · simpa using hn
    have := h.nil this
    omega
  · obtain ⟨g, off, rfl, hg, hs⟩ := h.place (by omega)
    refine ⟨g, off + j, ?_, hg, hs.drop j⟩
    rw [if_neg (by omega)]
    simp [Addr.add]

theorem InBytes.of_own {w : World} {base g n cap : Nat} {t : TypeId} {zs : List Int} (h : w.ownsRow base t 1 (.slice (some ⟨g, 0, none⟩) n cap) n (zs.map (Value.int .u8))) (hb : Bytes8 zs) : InBytes w (some ⟨g, 0, none⟩) n cap zs := by
  have hl : zs.length = n := by simpa using h.1
  have hlt := (h.lt g rfl).2
  have h2 := h.2
  rcases h2 with ⟨hv, _⟩ | ⟨g', cap', cur, hv, _, hh, hnc, hcm, _, _⟩
  · cases hv
  · injection hv with e1 e2 e3
    subst e3
    refine ⟨hl, hb, hnc, hcm, (fun hn => by cases hn), fun _ => ⟨g, 0, rfl, hlt, fun i hi => ?_⟩⟩
    have h3 := h.cells (g := g) rfl i (.int .u8 zs[i]) (by simp [hi])
    have hp : (⟨g, 0, none⟩ : Addr).add i = ⟨g, 0 + i, none⟩ := by unfold Addr.add; split <;> simp_all
    rw [hp] at h3
    exact h3

theorem InBytes.of_row {w : World} {g : Nat} {t : TypeId} {zs : List Int} (h : Row .u8 w t g zs) (hb : Bytes8 zs) (hl : zs.length ≤ 1000) : InBytes w (some ⟨g, 0, none⟩) zs.length zs.length zs :=
  ⟨rfl, hb, Nat.le_refl _, by simp only [maxLen]; omega, (fun h => by cases h), fun _ => ⟨g, 0, rfl, h.lt, h.seg⟩⟩
theorem own_seg {w : World} {base g n cap : Nat} {t : TypeId} {k : IntKind} {zs : List Int} (h : w.ownsRow base t 1 (.slice (some ⟨g, 0, none⟩) n cap) n (zs.map (Value.int k))) : Seg k w g 0 zs := fun i hi => by
  have h2 := h.cells (g := g) rfl i (.int k zs[i]) (by simp [hi])
  have hp : (⟨g, 0, none⟩ : Addr).add i = ⟨g, 0 + i, none⟩ := by unfold Addr.add; split <;> simp_all
  rw [hp] at h2
  exact h2
theorem InBytes.grown {w w' : World} {a : Option Addr} {n cap : Nat} {bs : List Int} {row : Option Nat} (h : InBytes w a n cap bs) (hg : w.grownBy w' row) (hne : ∀ ad, a = some ad → some ad.block ≠ row) : InBytes w' a n cap bs :=
  ⟨h.len, h.bytes, h.le, h.max, h.nil, fun h0 => by
    obtain ⟨g, off, e, hlt, hs⟩ := h.place h0
    exact ⟨g, off, e, Nat.lt_of_lt_of_le hlt hg.size, hs.keep fun o => World.cell?_of_block (hg.block g hlt (hne _ e))⟩⟩
/-- A block that was just made, as a row of one's own. -/
theorem own_new (w : World) (t : TypeId) (k : IntKind) (zs : List Int) (base : Nat) (hb : base ≤ w.heap.size) (hl : zs.length ≤ maxLen) :
    (w.alloc (.cells (zs.map (Value.int k)).toArray t)).ownsRow base t 1 (.slice (some ⟨w.heap.size, 0, none⟩) zs.length zs.length) zs.length (zs.map (Value.int k)) :=
  ⟨by simp, .inr ⟨w.heap.size, zs.length, (zs.map (Value.int k)).toArray, rfl, hb, heap_alloc_new w _, Nat.le_refl _, hl, by simp, by rw [Nat.mul_one]; exact List.take_of_length_le (by simp)⟩⟩
theorem own_drew' {w : World} {base : Nat} {e : TypeId} {size : Nat} {v : Value} {n : Nat} {xs : List Value} (h : w.ownsRow base e size v n xs) : w.drew.ownsRow base e size v n xs := h
/-- Rows of unlike element types lie in unlike blocks. -/
theorem own_ne {w : World} {b b' : Nat} {e e' : TypeId} {g n c : Nat} {v : Value} {n' : Nat} {xs xs' : List Value} (h : w.ownsRow b e 1 (.slice (some ⟨g, 0, none⟩) n c) n xs) (h' : w.ownsRow b' e' 1 v n' xs') (hne : e ≠ e') : v.ownBlock ≠ some g := by
  rcases h'.2 with ⟨rfl, _⟩ | ⟨g2, c2, cur2, rfl, _, hh2, _⟩
  · simp [Value.ownBlock]
  · intro e1
    have : g2 = g := by simpa [Value.ownBlock] using e1
    subst this
    rcases h.2 with ⟨hv, _⟩ | ⟨g3, c3, cur3, hv, _, hh3, _⟩
    · cases hv
    · injection hv with e2
      injection e2 with e2
      injection e2 with e2
      subst e2
      rw [hh2] at hh3
      injection hh3 with hh3
      injection hh3 with _ hh3
      exact hne hh3.symm
def lenV : Value → Nat
  | .slice _ l _ => l
  | _ => 0
theorem ints_of_trod {H : Type} {enc : TypeId × Value → H} {P : Program} {w : World} {base : Nat} {sp : Nat → Bool} {held : Bool} {fuel : Nat} {t e : TypeId} {n : Nat} {k : IntKind} {cs : List Value} {zs : List Int} {ps : List MemPlace}
    (hu : P.underlying t = some (.array n e)) (he : P.underlying e = some (.int k)) (hce : P.cellsOf e = 1) (hct : P.cellsOf t = n) (hn : zs.length = n)
    (h : DataW.trod enc P w base sp held fuel t cs = some (.agg (zs.map fun z => .lit (.int k z)), ps)) : cs = zs.map (Value.int k) := by
  obtain ⟨xs, m, _, hx, hl, hxl, hi⟩ := DataW.trod_array hu h
  simp only [Prod.mk.injEq, DataW.agg.injEq] at hx
  apply List.ext_getElem
  · rw [hl, hct, List.length_map, hn]
  · intro i h1 h2
    have hin : i < n := by omega
    have hx1 := hi i hin
    rw [hce, Nat.mul_one, List.drop_eq_getElem_cons h1, List.getElem?_eq_getElem (by omega)] at hx1
    obtain ⟨a, e1, e2, _⟩ := DataW.trod_int he hx1
    have e3 : (xs.map (·.1))[i]? = (zs.map fun z => DataW.lit (H := H) (.int k z))[i]? := by rw [← hx.1]
    have hzi : i < zs.length := by omega
    have hxi : i < xs.length := by omega
    simp only [List.getElem?_map, List.getElem?_eq_getElem hxi, List.getElem?_eq_getElem hzi, Option.map_some, Option.some.injEq, e2, DataW.lit.injEq, Lit.int.injEq, true_and] at e3
    simp only [List.take_succ_cons, List.take_zero, List.cons.injEq, and_true] at e1
    rw [e1, e3]
    simp


/-! ### append of bytes that lie somewhere, or of a nil slice, onto a row of one's own, or onto nil -/
theorem InBytes.news {w : World} {ad : Addr} {k cap : Nat} {r : List Int} (hin : InBytes w (some ad) k cap r) : ∀ (j : Nat) (u : Value), (r.map (Value.int .u8))[j]? = some u → w.cell? (ad.add j) = some u := by
  intro j u hu
  have hj : j < r.length := by
    rcases Nat.lt_or_ge j r.length with h | h
    · exact h
    · rw [List.getElem?_eq_none (by simpa using h)] at hu; cases hu
  have hl := hin.len
  obtain ⟨g, off, e1, _, hseg⟩ := hin.place (by omega)
  obtain rfl := Option.some.inj e1
  exact hseg.news j u hu
theorem own_below {w w' : World} {base B g n c : Nat} {e : TypeId} {xs : List Value} (h : w.ownsRow base e 1 (.slice (some ⟨g, 0, none⟩) n c) n xs) (hb : Below B w w') (hg : g < B) : w'.ownsRow base e 1 (.slice (some ⟨g, 0, none⟩) n c) n xs := by
  rcases h.2 with ⟨h1, _⟩ | ⟨g', c', cur, h1, h2, h3, h4⟩
  · cases h1
  · injection h1 with e1 e2 e3
    injection e1 with e1
    injection e1 with e1
    subst e1
    exact ⟨h.1, .inr ⟨g, c', cur, by rw [e3], h2, (hb.block g hg).trans h3, h4⟩⟩
theorem ofNat_inj : ∀ {xs ys : List Int}, Bytes8 xs → Bytes8 ys → (xs.map fun n => UInt8.ofNat n.toNat) = (ys.map fun n => UInt8.ofNat n.toNat) → xs = ys
  | [], [], _, _, _ => rfl
  | [], _ :: _, _, _, h => by simp at h
  | _ :: _, [], _, _, h => by simp at h
  | x :: xs, y :: ys, hx, hy, h => by
    simp only [List.map_cons, List.cons.injEq] at h
    have h1 := hx x (by simp)
    have h2 := hy y (by simp)
    have h3 := congrArg UInt8.toNat h.1
    rw [UInt8.toNat_ofNat', UInt8.toNat_ofNat'] at h3
    rw [ofNat_inj (fun z hz => hx z (List.mem_cons_of_mem _ hz)) (fun z hz => hy z (List.mem_cons_of_mem _ hz)) h.2, show x = y by omega]
theorem str_ne {xs ys : List Int} (hx : Bytes8 xs) (hy : Bytes8 ys) (h : xs ≠ ys) : ((strOfNums xs).toList == (strOfNums ys).toList) = false := by
  rw [beq_eq_false_iff_ne]
  intro h1
  unfold strOfNums at h1
  rw [ByteArray.toList_mk, ByteArray.toList_mk] at h1
  exact h (ofNat_inj hx hy h1)
theorem own_bump {w : World} {base g n c i : Nat} {zs : List Int} {e : TypeId} (h : w.ownsRow base e 1 (.slice (some ⟨g, 0, none⟩) n c) n (zs.map (Value.int .u8))) (z : Int) :
    (w.setCell ⟨g, i, none⟩ (.int .u8 z)).ownsRow base e 1 (.slice (some ⟨g, 0, none⟩) n c) n ((zs.set i z).map (Value.int .u8)) := by
  rw [List.map_set]
  exact (h.stored i _).1
theorem none_in (w : World) : InBytes w none 0 0 [] := ⟨rfl, (fun z hz => by cases hz), Nat.le_refl _, by simp [maxLen], fun _ => rfl, (fun h => by omega)⟩
theorem own_any {w : World} {base n : Nat} {t : TypeId} {v : Value} {zs : List Int} (h : w.ownsRow base t 1 v n (zs.map (Value.int .u8))) (hb : Bytes8 zs) : ∃ a c, v = .slice a n c ∧ InBytes w a n c zs := by
  have h0 := h
  rcases h.2 with ⟨rfl, rfl⟩ | ⟨g, c, cur, rfl, _⟩
  · have : zs = [] := by have := h.1; simpa using this
    subst this
    exact ⟨none, 0, rfl, none_in w⟩
  · exact ⟨some ⟨g, 0, none⟩, c, rfl, InBytes.of_own h0 hb⟩
theorem own_keep {w w' : World} {base n : Nat} {t : TypeId} {v : Value} {xs : List Value} (h : w.ownsRow base t 1 v n xs) (hb : Below w.heap.size w w') : w'.ownsRow base t 1 v n xs :=
  h.kept (only_below hb none) (by by_cases h : v.ownBlock = none; exact .inl h; exact .inr h)
theorem below_drawn {B : Nat} {a w : World} (h : Below B a w) (m : Nat) : Below B a (w.drewN m) := ⟨h.os, h.tape, h.output, h.size, h.block⟩
theorem own_app {w : World} {base g n k c : Nat} {t : TypeId} {xs ys : List Int} (h : w.ownsRow base t 1 (.slice (some ⟨g, 0, none⟩) (n + k) c) (n + k) (xs.map (Value.int .u8) ++ ys.map (Value.int .u8))) (hn : n = xs.length) (hk : k = ys.length) :
    w.ownsRow base t 1 (.slice (some ⟨g, 0, none⟩) (xs ++ ys).length c) (xs ++ ys).length ((xs ++ ys).map (Value.int .u8)) := by
  subst hn; subst hk
  rw [List.length_append, List.map_append]
  exact h
end Go.Proofs.YtioifkbkllnkgaaDoor

/- Arguments that are slices of anything: their cells, one behind the other, and what each element is. No program is named here. -/
namespace Go.Proofs.YtioifkbkllnkgaaDoor
open Go.ChangeShapes Go.WideShapes Go.RowKit Go.Deep
set_option linter.unusedVariables false

/-- A slice that lies somewhere: n elements of sz cells each; V: the cells' values. -/
structure InSl (w : World) (a : Option Addr) (n cap sz : Nat) (V : Nat → Value) : Prop where
  le : n ≤ cap
  max : cap ≤ maxLen
  nil : a = none → cap = 0
  place : 0 < n → ∃ g off, a = some ⟨g, off, none⟩ ∧ g < w.heap.size ∧ ∀ i, i < n * sz → w.cell? ⟨g, off + i, none⟩ = some (V i)
theorem InSl.below {w w' : World} {a : Option Addr} {n cap sz : Nat} {V : Nat → Value} (h : InSl w a n cap sz V) (hb : Below w.heap.size w w') : InSl w' a n cap sz V :=
  ⟨h.le, h.max, h.nil, fun h0 => by
    obtain ⟨g, off, e, hg, hc⟩ := h.place h0
    exact ⟨g, off, e, Nat.lt_of_lt_of_le hg hb.size, fun i hi => (hb.cell (p := ⟨g, off + i, none⟩) hg).trans (hc i hi)⟩⟩
section
variable {H : Type} {enc : TypeId × Value → H} {P : Program} {w : World} {base : Nat} {spare : Nat → Bool} {held : Bool}
end
end Go.Proofs.YtioifkbkllnkgaaDoor

/- Trees as arguments: the view of a tree that lies somewhere. No program is named here. -/
namespace Go.Proofs.YtioifkbkllnkgaaDoor
open Go.ChangeShapes Go.WideShapes Go.RowKit Go.Deep
set_option linter.unusedVariables false

/-- A tree: its kind, key, value, digest and kids. -/
inductive Tr where
  | mk (k : Int) (key val dig : List Int) (kids : List Tr)
def Tr.k : Tr → Int | .mk k _ _ _ _ => k
def Tr.key : Tr → List Int | .mk _ key _ _ _ => key
def Tr.val : Tr → List Int | .mk _ _ val _ _ => val
def Tr.dig : Tr → List Int | .mk _ _ _ dig _ => dig
def Tr.kids : Tr → List Tr | .mk _ _ _ _ kids => kids
theorem Tr.ind {P : Tr → Prop} (h : ∀ t : Tr, (∀ x ∈ t.kids, P x) → P t) : ∀ t, P t
  | .mk k key val dig kids => h (.mk k key val dig kids) (fun x hx => Tr.ind h x)
termination_by t => SizeOf.sizeOf t
decreasing_by
  have := List.sizeOf_lt_of_mem hx
  simp only [Tr.kids] at *
  simp
  omega
theorem Tr.size_lt {t x : Tr} (hx : x ∈ t.kids) : SizeOf.sizeOf x < SizeOf.sizeOf t := by
  cases t with
  | mk k key val dig kids =>
    have := List.sizeOf_lt_of_mem (show x ∈ kids from hx)
    simp
    omega

/-- The head of a tree's value: its five cells. -/
structure TH where
  k : Int
  ka : Option Addr
  kn : Nat
  kc : Nat
  va : Option Addr
  vn : Nat
  vc : Nat
  da : Option Addr
  dn : Nat
  dc : Nat
  ta : Option Addr
  tn : Nat
  tc : Nat
def TH.cells (h : TH) : List Value := [.int .i64 h.k, .slice h.ka h.kn h.kc, .slice h.va h.vn h.vc, .slice h.da h.dn h.dc, .slice h.ta h.tn h.tc]
def TH.cell (h : TH) (j : Nat) : Value := h.cells.getD j .nilIface
def TH.v (h : TH) : Value := .agg #[.int .i64 h.k, .slice h.ka h.kn h.kc, .slice h.va h.vn h.vc, .slice h.da h.dn h.dc, .slice h.ta h.tn h.tc]

/-- A tree that lies in world w; h is its head. -/
inductive InTree (w : World) : TH → Tr → Prop
  | mk (h : TH) (t : Tr) (H : Nat → TH) (hk : h.k = t.k) (hk1 : -9223372036854775808 ≤ h.k) (hk2 : h.k ≤ 9223372036854775807)
      (key : InBytes w h.ka h.kn h.kc t.key) (val : InBytes w h.va h.vn h.vc t.val) (dig : InBytes w h.da h.dn h.dc t.dig)
      (sl : InSl w h.ta h.tn h.tc 5 (fun i => (H (i / 5)).cell (i % 5))) (len : t.kids.length = h.tn)
      (kids : ∀ i (hi : i < t.kids.length), InTree w (H i) t.kids[i]) : InTree w h t

theorem InTree.lower {w w' : World} (hb : Below w.heap.size w w') {h : TH} {t : Tr} (ht : InTree w h t) : InTree w' h t := by
  induction ht with
  | mk h t H hk hk1 hk2 key val dig sl len kids ih => exact .mk h t H hk hk1 hk2 (key.below hb) (val.below hb) (dig.below hb) (sl.below hb) len ih

/-- What a tree's parts are. -/
structure TreeAt (w : World) (h : TH) (t : Tr) (H : Nat → TH) : Prop where
  hk : h.k = t.k
  hk1 : -9223372036854775808 ≤ h.k
  hk2 : h.k ≤ 9223372036854775807
  key : InBytes w h.ka h.kn h.kc t.key
  val : InBytes w h.va h.vn h.vc t.val
  dig : InBytes w h.da h.dn h.dc t.dig
  sl : InSl w h.ta h.tn h.tc 5 (fun i => (H (i / 5)).cell (i % 5))
  len : t.kids.length = h.tn
  kids : ∀ i (hi : i < t.kids.length), InTree w (H i) t.kids[i]
theorem InTree.parts {w : World} {h : TH} {t : Tr} (ht : InTree w h t) : ∃ H, TreeAt w h t H := by
  cases ht with
  | mk h t H hk hk1 hk2 key val dig sl len kids => exact ⟨H, hk, hk1, hk2, key, val, dig, sl, len, kids⟩
theorem TreeAt.inTree {w : World} {h : TH} {t : Tr} {H : Nat → TH} (ht : TreeAt w h t H) : InTree w h t := .mk h t H ht.hk ht.hk1 ht.hk2 ht.key ht.val ht.dig ht.sl ht.len ht.kids
theorem TreeAt.below {w w' : World} {h : TH} {t : Tr} {H : Nat → TH} (ht : TreeAt w h t H) (hb : Below w.heap.size w w') : TreeAt w' h t H :=
  ⟨ht.hk, ht.hk1, ht.hk2, ht.key.below hb, ht.val.below hb, ht.dig.below hb, ht.sl.below hb, ht.len, fun i hi => (ht.kids i hi).lower hb⟩
/-- Where the kids lie, cell by cell. -/
theorem TreeAt.place {w : World} {h : TH} {t : Tr} {H : Nat → TH} (ht : TreeAt w h t H) (h0 : 0 < h.tn) : ∃ g off, h.ta = some ⟨g, off, none⟩ ∧ g < w.heap.size ∧
    ∀ i, i < h.tn → w.cell? ⟨g, off + i * 5, none⟩ = some (.int .i64 (H i).k) ∧ w.cell? ⟨g, off + i * 5 + 1, none⟩ = some (.slice (H i).ka (H i).kn (H i).kc) ∧ w.cell? ⟨g, off + i * 5 + 2, none⟩ = some (.slice (H i).va (H i).vn (H i).vc) ∧
      w.cell? ⟨g, off + i * 5 + 3, none⟩ = some (.slice (H i).da (H i).dn (H i).dc) ∧ w.cell? ⟨g, off + i * 5 + 4, none⟩ = some (.slice (H i).ta (H i).tn (H i).tc) := by
  obtain ⟨g, off, e, hg, hc⟩ := ht.sl.place h0
  refine ⟨g, off, e, hg, fun i hi => ?_⟩
  have key : ∀ j, j < 5 → w.cell? ⟨g, off + i * 5 + j, none⟩ = some ((H i).cell j) := fun j hj => by
    have h1 := hc (i * 5 + j) (by omega)
    try dsimp only at h1
    rw [show (i * 5 + j) / 5 = i by omega, show (i * 5 + j) % 5 = j by omega, ← Nat.add_assoc] at h1
    exact h1
  exact ⟨key 0 (by omega), key 1 (by omega), key 2 (by omega), key 3 (by omega), key 4 (by omega)⟩
/-- The same, where the kids' place is known. -/
theorem TreeAt.cellsAt {w : World} {h : TH} {t : Tr} {H : Nat → TH} (ht : TreeAt w h t H) {g off : Nat} (hta : h.ta = some ⟨g, off, none⟩) (i : Nat) (hi : i < h.tn) : w.cell? ⟨g, off + i * 5, none⟩ = some (.int .i64 (H i).k) ∧ w.cell? ⟨g, off + i * 5 + 1, none⟩ = some (.slice (H i).ka (H i).kn (H i).kc) ∧ w.cell? ⟨g, off + i * 5 + 2, none⟩ = some (.slice (H i).va (H i).vn (H i).vc) ∧ w.cell? ⟨g, off + i * 5 + 3, none⟩ = some (.slice (H i).da (H i).dn (H i).dc) ∧ w.cell? ⟨g, off + i * 5 + 4, none⟩ = some (.slice (H i).ta (H i).tn (H i).tc) := by
  obtain ⟨g', off', e, _, hc⟩ := ht.place (by omega)
  rw [hta] at e
  injection e with e
  injection e with e1 e2
  subst e1 e2
  exact hc i hi
theorem TreeAt.kid0 {w : World} {h : TH} {t : Tr} {H : Nat → TH} (ht : TreeAt w h t H) {g off : Nat} (hta : h.ta = some ⟨g, off, none⟩) (hi : 0 < h.tn) : w.cell? ⟨g, off, none⟩ = some (.int .i64 (H 0).k) ∧ w.cell? ⟨g, off + 1, none⟩ = some (.slice (H 0).ka (H 0).kn (H 0).kc) ∧ w.cell? ⟨g, off + 2, none⟩ = some (.slice (H 0).va (H 0).vn (H 0).vc) ∧ w.cell? ⟨g, off + 3, none⟩ = some (.slice (H 0).da (H 0).dn (H 0).dc) ∧ w.cell? ⟨g, off + 4, none⟩ = some (.slice (H 0).ta (H 0).tn (H 0).tc) := by
  have h1 := ht.cellsAt hta 0 hi
  simpa only [Nat.zero_mul, Nat.add_zero] using h1
theorem TreeAt.kid1 {w : World} {h : TH} {t : Tr} {H : Nat → TH} (ht : TreeAt w h t H) {g off : Nat} (hta : h.ta = some ⟨g, off, none⟩) (hi : 1 < h.tn) : w.cell? ⟨g, off + 5, none⟩ = some (.int .i64 (H 1).k) ∧ w.cell? ⟨g, off + 5 + 1, none⟩ = some (.slice (H 1).ka (H 1).kn (H 1).kc) ∧ w.cell? ⟨g, off + 5 + 2, none⟩ = some (.slice (H 1).va (H 1).vn (H 1).vc) ∧ w.cell? ⟨g, off + 5 + 3, none⟩ = some (.slice (H 1).da (H 1).dn (H 1).dc) ∧ w.cell? ⟨g, off + 5 + 4, none⟩ = some (.slice (H 1).ta (H 1).tn (H 1).tc) := by
  have h1 := ht.cellsAt hta 1 hi
  simpa only [Nat.one_mul] using h1
/-- Block g holds a tree's five cells. -/
def Box (w : World) (ty : TypeId) (g : Nat) (h : TH) : Prop := w.heap[g]? = some (.cells #[.int .i64 h.k, .slice h.ka h.kn h.kc, .slice h.va h.vn h.vc, .slice h.da h.dn h.dc, .slice h.ta h.tn h.tc] ty (0, 0))
theorem Box.new (w : World) (ty : TypeId) (h : TH) : Box (w.alloc (.cells #[.int .i64 h.k, .slice h.ka h.kn h.kc, .slice h.va h.vn h.vc, .slice h.da h.dn h.dc, .slice h.ta h.tn h.tc] ty)) ty w.heap.size h := heap_alloc_new w _
section
variable {w w' : World} {ty : TypeId} {g : Nat} {h : TH}
theorem Box.below {B : Nat} (hx : Box w ty g h) (hb : Below B w w') (hg : g < B) : Box w' ty g h := (hb.block g hg).trans hx
theorem Box.lt (hx : Box w ty g h) : g < w.heap.size := by
  rcases Nat.lt_or_ge g w.heap.size with hlt | hge
  · exact hlt
  · unfold Box at hx; rw [Array.getElem?_eq_none hge] at hx; cases hx
theorem Box.cells (hx : Box w ty g h) : w.cell? ⟨g, 0, none⟩ = some (.int .i64 h.k) ∧ w.cell? ⟨g, 1, none⟩ = some (.slice h.ka h.kn h.kc) ∧ w.cell? ⟨g, 2, none⟩ = some (.slice h.va h.vn h.vc) ∧ w.cell? ⟨g, 3, none⟩ = some (.slice h.da h.dn h.dc) ∧ w.cell? ⟨g, 4, none⟩ = some (.slice h.ta h.tn h.tc) := by
  unfold Box at hx
  refine ⟨?_, ?_, ?_, ?_, ?_⟩
  all_goals
    rw [cell_of_row w g _ _ _ (0, 0) hx]
    rfl
end
/-- Small enough: the bounds that the document's measure lays. -/
inductive LightOK : Tr → Prop
  | mk (t : Tr) (hk : t.key.length ≤ 3000) (hv : t.val.length ≤ 3000) (hd : t.dig.length ≤ 3000) (hn : t.kids.length ≤ 500) (kids : ∀ i (hi : i < t.kids.length), LightOK t.kids[i]) : LightOK t
end Go.Proofs.YtioifkbkllnkgaaDoor

/- What the document says of trees, as functions. No program is named here. -/
namespace Go.Proofs.YtioifkbkllnkgaaDoor
set_option linter.unusedVariables false

/-- A function over a tree, out of its kids' answers. -/
def Tr.fold {α : Type} (f : Tr → List α → α) (t : Tr) : α := f t (t.kids.attach.map fun x => Tr.fold f x.1)
termination_by SizeOf.sizeOf t
decreasing_by exact Tr.size_lt x.2
theorem Tr.fold_eq {α : Type} (f : Tr → List α → α) (t : Tr) : t.fold f = f t (t.kids.map (Tr.fold f)) := by
  rw [Tr.fold]
  congr 1
  exact List.attach_map_val

/-- How many parts it has. -/
def countT (t : Tr) : Nat := t.fold fun _ rs => 1 + rs.sum
theorem countT_eq (t : Tr) : countT t = 1 + (t.kids.map countT).sum := by
  unfold countT
  rw [Tr.fold_eq]
/-- Counts it as a node? -/
def isNode (t : Tr) : Bool := t.k == 1 || (t.k == 2 || decide (0 < t.kids.length))
/-- Is there a way of more than b nodes? -/
def deepT (t : Tr) (b : Int) : Bool := t.fold (fun t (rs : List (Int → Bool)) b => isNode t && b == 0 || rs.any (fun r => r (b - 1))) b
theorem deepT_eq (t : Tr) (b : Int) : deepT t b = (isNode t && b == 0 || t.kids.any (fun x => deepT x (b - 1))) := by
  unfold deepT
  rw [Tr.fold_eq]
  simp [List.any_map, Function.comp_def]

/-- Is a part as it should be, its kids aside? -/
def partB (t : Tr) : Bool :=
  if t.k = 0 then decide (t.key.length = 0) && (decide (t.val.length = 0) && (decide (t.dig.length = 0) && decide (t.kids.length = 0)))
  else if t.k = 1 then decide (t.key.length ≤ 80) && (decide (t.val.length ≤ 1024) && (decide (t.dig.length = 0) && decide (t.kids.length = 2)))
  else if t.k = 2 then decide (t.key.length ≤ 80) && (decide (t.val.length = 0) && decide (t.kids.length = 2))
  else if t.k = 3 then decide (t.key.length = 0) && (decide (t.val.length = 0) && decide (t.kids.length = 0))
  else false
def formedT (t : Tr) : Bool := t.fold fun t rs => partB t && rs.all id
theorem formedT_eq (t : Tr) : formedT t = (partB t && t.kids.all formedT) := by
  unfold formedT
  rw [Tr.fold_eq]
  simp [List.all_map, Function.comp_def]
/-- The number of the error, or 0. -/
def checkT (t : Tr) : Nat := if deepT t 64 then 5 else if formedT t then 0 else 3

def fullT (t : Tr) : Bool := t.fold fun t rs => decide (t.k ≤ 1) && rs.all id
def depthT (t : Tr) : Nat := t.fold fun t rs => if rs.length = 0 then 0 else max (rs.getD 0 0) (rs.getD 1 0) + 1
/-- The nodes of a tree that is formed, by the order of their keys. -/
def listT (t : Tr) : List Tr := t.fold fun t rs => if rs.length = 0 then [] else rs.getD 0 [] ++ (t :: rs.getD 1 [])
theorem listT_0 {t : Tr} (h : t.kids.length = 0) : listT t = [] := by
  unfold listT
  rw [Tr.fold_eq, if_pos (by simpa using h)]
theorem listT_2 {t : Tr} (h : t.kids.length = 2) : listT t = listT (t.kids[0]'(by omega)) ++ (t :: listT (t.kids[1]'(by omega))) := by
  have e : listT t = if (t.kids.map listT).length = 0 then [] else (t.kids.map listT).getD 0 [] ++ (t :: (t.kids.map listT).getD 1 []) := by
    conv => lhs; unfold listT
    rw [Tr.fold_eq]
    rfl
  rw [e, if_neg (by rw [List.length_map]; omega)]
  simp [List.getD, h]
theorem sum_two {l : List Nat} (h : l.length = 2) : l.sum = l[0]'(by omega) + l[1]'(by omega) := by
  rcases l with _ | ⟨a, _ | ⟨b, _ | ⟨c, r⟩⟩⟩ <;> simp at h
  simp
end Go.Proofs.YtioifkbkllnkgaaDoor

/- Partial trees by their kinds. No program is named here. -/
namespace Go.Proofs.YtioifkbkllnkgaaDoor
open Go.RowKit
set_option linter.unusedVariables false

theorem Tr.eta (t : Tr) : t = .mk t.k t.key t.val t.dig t.kids := by cases t; rfl
/-- A partial tree that is formed. -/
inductive PT where
  | nil
  | cut (d : List Int)
  | shown (l : PT) (key v : List Int) (r : PT)
  | dark (l : PT) (key d : List Int) (r : PT)
def PT.tr : PT → Tr
  | .nil => .mk 0 [] [] [] []
  | .cut d => .mk 3 [] [] d []
  | .shown l key v r => .mk 1 key v [] [l.tr, r.tr]
  | .dark l key d r => .mk 2 key [] d [l.tr, r.tr]
theorem PT.of : ∀ t : Tr, formedT t = true → ∃ p : PT, t = p.tr := by
  intro t
  induction t using Tr.ind with
  | h t ih =>
  intro hf
  rw [formedT_eq, Bool.and_eq_true, List.all_eq_true] at hf
  obtain ⟨hp, hk⟩ := hf
  have nil_of : ∀ {l : List Int}, l.length = 0 → l = [] := fun h => List.eq_nil_of_length_eq_zero h
  have two : t.kids.length = 2 → ∃ l r : PT, t.kids = [l.tr, r.tr] := fun h2 => by
    generalize t.kids = kids at h2 hk ih
    match kids, h2, hk, ih with
    | [x, y], _, hk, ih =>
      obtain ⟨l, hl⟩ := ih x (by simp) (hk x (by simp))
      obtain ⟨r, hr⟩ := ih y (by simp) (hk y (by simp))
      exact ⟨l, r, by rw [hl, hr]⟩
  unfold partB at hp
  split at hp
  · rename_i h0
    simp only [Bool.and_eq_true, decide_eq_true_eq] at hp
    obtain ⟨q1, q2, q3, q4⟩ := hp
    exact ⟨.nil, (Tr.eta t).trans (by rw [h0, nil_of q1, nil_of q2, nil_of q3, List.eq_nil_of_length_eq_zero q4]; rfl)⟩
  · split at hp
    · rename_i h1
      simp only [Bool.and_eq_true, decide_eq_true_eq] at hp
      obtain ⟨q1, q2, q3, q4⟩ := hp
      obtain ⟨l, r, e⟩ := two q4
      exact ⟨.shown l t.key t.val r, (Tr.eta t).trans (by rw [h1, nil_of q3, e]; rfl)⟩
    · split at hp
      · rename_i h2
        simp only [Bool.and_eq_true, decide_eq_true_eq] at hp
        obtain ⟨q1, q2, q3⟩ := hp
        obtain ⟨l, r, e⟩ := two q3
        exact ⟨.dark l t.key t.dig r, (Tr.eta t).trans (by rw [h2, nil_of q2, e]; rfl)⟩
      · split at hp
        · rename_i h3
          simp only [Bool.and_eq_true, decide_eq_true_eq] at hp
          obtain ⟨q1, q2, q3⟩ := hp
          exact ⟨.cut t.dig, (Tr.eta t).trans (by rw [h3, nil_of q1, nil_of q2, List.eq_nil_of_length_eq_zero q3]; rfl)⟩
        · cases hp
/-- Its keys are short. -/
def PT.short : PT → Prop
  | .nil => True
  | .cut _ => True
  | .shown l key _ r => l.short ∧ key.length ≤ 80 ∧ r.short
  | .dark l key _ r => l.short ∧ key.length ≤ 80 ∧ r.short
theorem PT.short_of : ∀ p : PT, formedT p.tr = true → p.short := by
  intro p
  induction p with
  | nil => exact fun _ => trivial
  | cut d => exact fun _ => trivial
  | shown l key v r ihl ihr =>
    intro h
    rw [formedT_eq, Bool.and_eq_true, List.all_eq_true] at h
    refine ⟨ihl (h.2 _ (by simp [PT.tr, Tr.kids])), ?_, ihr (h.2 _ (by simp [PT.tr, Tr.kids]))⟩
    have q : (decide (key.length ≤ 80) && (decide (v.length ≤ 1024) && true)) = true := h.1
    rw [Bool.and_eq_true, decide_eq_true_eq] at q
    exact q.1
  | dark l key d r ihl ihr =>
    intro h
    rw [formedT_eq, Bool.and_eq_true, List.all_eq_true] at h
    refine ⟨ihl (h.2 _ (by simp [PT.tr, Tr.kids])), ?_, ihr (h.2 _ (by simp [PT.tr, Tr.kids]))⟩
    have q : (decide (key.length ≤ 80) && true) = true := h.1
    rw [Bool.and_eq_true, decide_eq_true_eq] at q
    exact q.1
/-- A tree that is formed, by its kinds. -/
def toP (t : Tr) : PT := t.fold fun t rs => if t.k = 0 then .nil else if t.k = 3 then .cut t.dig else if t.k = 1 then .shown (rs.getD 0 .nil) t.key t.val (rs.getD 1 .nil) else .dark (rs.getD 0 .nil) t.key t.dig (rs.getD 1 .nil)
theorem toP_tr : ∀ p : PT, toP p.tr = p := by
  intro p
  induction p with
  | nil =>
    unfold toP
    rw [Tr.fold_eq]
    rfl
  | cut d =>
    unfold toP
    rw [Tr.fold_eq]
    rfl
  | shown l key v r ihl ihr =>
    unfold toP at ihl ihr ⊢
    rw [Tr.fold_eq]
    show PT.shown (Tr.fold _ l.tr) key v (Tr.fold _ r.tr) = _
    rw [ihl, ihr]
  | dark l key d r ihl ihr =>
    unfold toP at ihl ihr ⊢
    rw [Tr.fold_eq]
    show PT.dark (Tr.fold _ l.tr) key d (Tr.fold _ r.tr) = _
    rw [ihl, ihr]
end Go.Proofs.YtioifkbkllnkgaaDoor

/- Plain facts on a number's bytes: written, and read again. No program is named here. -/
namespace Go.Proofs.YtioifkbkllnkgaaDoor
set_option linter.unusedVariables false

/-- How many bytes a number has. -/
def nd (v : Nat) : Nat := if h : v = 0 then 0 else nd (v / 256) + 1
termination_by v
decreasing_by omega
/-- The k lowest bytes of a number, the highest first. -/
def be : Nat → Nat → List Int
  | 0, _ => []
  | k + 1, v => ((v / 256 ^ k % 256 : Nat) : Int) :: be k v
/-- A number's bytes, by the document. -/
def numL (v : Nat) : List Int := if v < 248 then [(v : Int)] else ((247 + nd v : Nat) : Int) :: be (nd v) v
/-- The number that bytes tell. -/
def val (l : List Int) : Nat := l.foldl (fun a x => 256 * a + x.toNat) 0
/-- Bytes with their length in front, by the document. -/
def bytL (bs : List Int) : List Int := numL bs.length ++ bs

theorem nd_zero : nd 0 = 0 := by unfold nd; simp
theorem nd_pos {v : Nat} (h : 0 < v) : nd v = nd (v / 256) + 1 := by
  rw [nd, dif_neg (by omega)]
theorem nd_lt (v : Nat) : v < 256 ^ nd v := by
  induction v using Nat.strongRecOn with
  | ind v ih =>
    by_cases h : v = 0
    · subst h; simp [nd_zero]
    · rw [nd_pos (by omega), Nat.pow_succ]
      have := ih (v / 256) (by omega)
      omega
theorem nd_ge {v : Nat} (h : 0 < v) : 256 ^ (nd v - 1) ≤ v := by
  induction v using Nat.strongRecOn with
  | ind v ih =>
    rw [nd_pos h]
    by_cases h1 : v / 256 = 0
    · rw [h1, nd_zero]; simp; omega
    · have h2 := ih (v / 256) (by omega) (by omega)
      have h3 : nd (v / 256) = nd (v / 256) - 1 + 1 := by rw [nd_pos (by omega)]; rfl
      rw [Nat.add_sub_cancel, h3, Nat.pow_succ]
      omega
theorem nd_le {v k : Nat} (h : v < 256 ^ k) : nd v ≤ k := by
  rcases Nat.eq_zero_or_pos v with rfl | hp
  · simp [nd_zero]
  · have h2 := nd_ge hp
    rcases Nat.lt_or_ge k (nd v) with h3 | h3
    · have h4 : 256 ^ k ≤ 256 ^ (nd v - 1) := Nat.pow_le_pow_right (by omega) (by omega)
      omega
    · exact h3
/-- What a loop that divides finds: it ends at the number of bytes. -/
theorem nd_unique {v k : Nat} (h : v / 256 ^ k = 0) (h2 : k = 0 ∨ v / 256 ^ (k - 1) ≠ 0) : k = nd v := by
  have hp : 0 < 256 ^ k := Nat.pow_pos (by omega)
  have h3 : v < 256 ^ k := by
    rcases Nat.lt_or_ge v (256 ^ k) with h4 | h4
    · exact h4
    · have := Nat.div_pos h4 hp; omega
  have h5 := nd_le h3
  rcases h2 with rfl | h2
  · omega
  · rcases Nat.lt_or_ge (nd v) k with h6 | h6
    · exfalso
      apply h2
      apply Nat.div_eq_of_lt
      exact Nat.lt_of_lt_of_le (nd_lt v) (Nat.pow_le_pow_right (by omega) (by omega))
    · omega
theorem nd_64 {v : Nat} (h : v < 18446744073709551616) : nd v ≤ 8 := nd_le (by simpa using h)
theorem nd_one {v : Nat} (h : 0 < v) : 1 ≤ nd v := by rw [nd_pos h]; omega
theorem div_step (v k : Nat) : v / 256 ^ k / 256 = v / 256 ^ (k + 1) := by rw [Nat.div_div_eq_div_mul, Nat.pow_succ]

theorem be_length : ∀ k v, (be k v).length = k
  | 0, _ => rfl
  | k + 1, v => by simp [be, be_length k v]
theorem be_bytes : ∀ k v, Bytes8 (be k v)
  | 0, _ => fun z hz => by cases hz
  | k + 1, v => fun z hz => by
    rcases List.mem_cons.1 hz with rfl | hz
    · omega
    · exact be_bytes k v z hz
theorem be_at : ∀ k v i, i < k → (be k v).getD i 0 = ((v / 256 ^ (k - 1 - i) % 256 : Nat) : Int)
  | 0, _, i, h => by omega
  | k + 1, v, 0, _ => by simp [be]
  | k + 1, v, i + 1, h => by
    have := be_at k v i (by omega)
    simp only [be, List.getD, List.getElem?_cons_succ] at this ⊢
    rw [this, show k + 1 - 1 - (i + 1) = k - 1 - i by omega]
theorem numL_bytes {v : Nat} (h : v < 18446744073709551616) : Bytes8 (numL v) := by
  unfold numL
  split
  · intro z hz
    simp only [List.mem_cons, List.not_mem_nil, or_false] at hz
    omega
  · intro z hz
    rcases List.mem_cons.1 hz with rfl | hz
    · have := nd_64 h; omega
    · exact be_bytes _ _ z hz
theorem numL_length (v : Nat) : (numL v).length = if v < 248 then 1 else nd v + 1 := by
  unfold numL
  split <;> simp [be_length]
theorem numL_le {v : Nat} (h : v < 18446744073709551616) : (numL v).length ≤ 9 := by
  have := nd_64 h
  rw [numL_length]; split <;> omega
theorem bytL_bytes {bs : List Int} (h : Bytes8 bs) (hl : bs.length < 18446744073709551616) : Bytes8 (bytL bs) := by
  intro z hz
  rcases List.mem_append.1 hz with hz | hz
  · exact numL_bytes hl z hz
  · exact h z hz

theorem val_foldl (l : List Int) : ∀ a, l.foldl (fun a x => 256 * a + x.toNat) a = 256 ^ l.length * a + val l := by
  induction l with
  | nil => intro a; simp [val]
  | cons x r ih =>
    intro a
    simp only [List.foldl_cons, List.length_cons, val]
    rw [ih, ih (256 * 0 + x.toNat), Nat.pow_succ]
    simp only [Nat.mul_zero, Nat.zero_add, Nat.mul_add]
    rw [show 256 ^ r.length * (256 * a) = 256 ^ r.length * 256 * a by rw [Nat.mul_assoc]]
    omega
theorem val_cons (x : Int) (l : List Int) : val (x :: l) = 256 ^ l.length * x.toNat + val l := by
  have e : val (x :: l) = l.foldl (fun a x => 256 * a + x.toNat) x.toNat := by simp [val]
  rw [e, val_foldl]
theorem val_be : ∀ k v, val (be k v) = v % 256 ^ k
  | 0, v => by simp [be, val, Nat.mod_one]
  | k + 1, v => by
    have e : be (k + 1) v = ((v / 256 ^ k % 256 : Nat) : Int) :: be k v := rfl
    rw [e, val_cons, be_length, val_be k v, Int.toNat_natCast, Nat.pow_succ]
    have h : v % (256 ^ k * 256) = v % 256 ^ k + 256 ^ k * (v / 256 ^ k % 256) := Nat.mod_mul
    omega
/-- The number at the front, and what stands behind it. -/
def getNum : List Int → Option (Nat × List Int)
  | [] => none
  | c :: r =>
    if c < 248 then some (c.toNat, r)
    else if r.length < (c - 247).toNat then none
    else if r.getD 0 0 = 0 ∨ val (r.take (c - 247).toNat) < 248 then none
    else some (val (r.take (c - 247).toNat), r.drop (c - 247).toNat)
/-- What a reader tells of a number, a byte, bytes; and what is left. No list: the flag is set. -/
def rdNum : Option (List Int) → Nat × Option (List Int)
  | none => (0, none)
  | some r => match getNum r with
    | none => (0, none)
    | some (v, r') => (v, some r')
def rdByte : Option (List Int) → Int × Option (List Int)
  | none => (0, none)
  | some [] => (0, none)
  | some (c :: r) => (c, some r)
def rdBytes (most : Int) (s : Option (List Int)) : List Int × Option (List Int) :=
  match (rdNum s).2 with
  | none => ([], none)
  | some r => if most < 0 ∨ most < ((rdNum s).1 : Int) ∨ r.length < (rdNum s).1 then ([], none) else (r.take (rdNum s).1, some (r.drop (rdNum s).1))
def rdEnd : Option (List Int) → Int
  | none => 3
  | some [] => 0
  | some _ => 4

/-- What was written is read as it was, whatever stands behind it. -/
theorem getNum_numL {v : Nat} (h : v < 18446744073709551616) (r : List Int) : getNum (numL v ++ r) = some (v, r) := by
  unfold numL
  split
  · rename_i h1
    have : ((v : Int) < 248) := by omega
    simp [getNum, this]
  · rename_i h1
    have hn := nd_64 h
    have hn1 := nd_one (v := v) (by omega)
    have e1 : ¬ (((247 + nd v : Nat) : Int) < 248) := by omega
    have e2 : (((247 + nd v : Nat) : Int) - 247).toNat = nd v := by omega
    have e3 : (be (nd v) v ++ r).take (nd v) = be (nd v) v := by
      rw [List.take_append_of_le_length (by rw [be_length]; omega), List.take_of_length_le (by rw [be_length]; omega)]
    have e4 : (be (nd v) v ++ r).drop (nd v) = r := by
      have := List.drop_left (l₁ := be (nd v) v) (l₂ := r)
      rw [be_length] at this
      exact this
    have e5 : val (be (nd v) v) = v := by rw [val_be, Nat.mod_eq_of_lt (nd_lt v)]
    have e6 : (be (nd v) v ++ r).getD 0 0 = ((v / 256 ^ (nd v - 1) : Nat) : Int) := by
      have h2 := be_at (nd v) v 0 (by omega)
      have h3 : v / 256 ^ (nd v - 1) < 256 := by
        apply Nat.div_lt_of_lt_mul
        rw [← Nat.pow_succ, show (nd v - 1).succ = nd v by omega]
        exact nd_lt v
      rw [Nat.sub_zero, Nat.mod_eq_of_lt h3] at h2
      rw [← h2]
      simp only [List.getD]
      rw [List.getElem?_append_left (by rw [be_length]; omega)]
    have e7 : 0 < v / 256 ^ (nd v - 1) := Nat.div_pos (nd_ge (by omega)) (Nat.pow_pos (by omega))
    simp only [List.cons_append, getNum]
    rw [if_neg e1, e2, if_neg (by rw [List.length_append, be_length]; omega), e3, e4, e5, e6, if_neg (by omega)]
theorem rdNum_numL {v : Nat} (h : v < 18446744073709551616) (r : List Int) : rdNum (some (numL v ++ r)) = (v, some r) := by
  simp [rdNum, getNum_numL h r]
theorem rdBytes_bytL {bs : List Int} (h : bs.length < 18446744073709551616) (r : List Int) (most : Int) (hm : (bs.length : Int) ≤ most) : rdBytes most (some (bytL bs ++ r)) = (bs, some r) := by
  unfold bytL rdBytes
  rw [List.append_assoc, rdNum_numL h]
  simp
  omega
end Go.Proofs.YtioifkbkllnkgaaDoor

/- Plain facts on preimages. No program is named here. -/
namespace Go.Proofs.YtioifkbkllnkgaaDoor
set_option linter.unusedVariables false

def valL (v : List Int) : List Int := 0 :: v
def pairL (k d : List Int) : List Int := 1 :: (bytL k ++ d)
def nodeL (l p r : List Int) : List Int := 2 :: (l ++ (p ++ r))
theorem bytes_cons {x : Int} {l : List Int} (h0 : 0 ≤ x) (h1 : x ≤ 255) (h : Bytes8 l) : Bytes8 (x :: l) := fun z hz => by
  rcases List.mem_cons.1 hz with rfl | hz
  · exact ⟨h0, h1⟩
  · exact h z hz
theorem bytes_app {k l : List Int} (hk : Bytes8 k) (hl : Bytes8 l) : Bytes8 (k ++ l) := fun z hz => (List.mem_append.1 hz).elim (hk z) (hl z)
theorem valL_bytes {v : List Int} (h : Bytes8 v) : Bytes8 (valL v) := bytes_cons (by omega) (by omega) h
theorem pairL_bytes {k d : List Int} (hk : Bytes8 k) (hn : k.length < 18446744073709551616) (hd : Bytes8 d) : Bytes8 (pairL k d) := bytes_cons (by omega) (by omega) (bytes_app (bytL_bytes hk hn) hd)
theorem nodeL_bytes {l p r : List Int} (hl : Bytes8 l) (hp : Bytes8 p) (hr : Bytes8 r) : Bytes8 (nodeL l p r) := bytes_cons (by omega) (by omega) (bytes_app hl (bytes_app hp hr))
theorem bytL_inj {a b x y : List Int} (ha : a.length < 9223372036854775807) (hb : b.length < 9223372036854775807) (h : bytL a ++ x = bytL b ++ y) : a = b ∧ x = y := by
  have h1 := rdBytes_bytL (bs := a) (by omega) x 9223372036854775807 (by omega)
  have h2 := rdBytes_bytL (bs := b) (by omega) y 9223372036854775807 (by omega)
  rw [h, h2] at h1
  injection h1 with h3 h4
  injection h4 with h4
  exact ⟨h3.symm, h4.symm⟩
theorem pairL_inj {a b x y : List Int} (ha : a.length < 9223372036854775807) (hb : b.length < 9223372036854775807) (h : pairL a x = pairL b y) : a = b ∧ x = y := by
  unfold pairL at h
  injection h with _ h
  exact bytL_inj ha hb h
end Go.Proofs.YtioifkbkllnkgaaDoor

/- Plain facts on 32 bit words: turning to the right, the two sums of a round. No program is named here. Plain facts on the tail: its bytes as a list. No program is named here. Plain facts on a block's words. No program is named here. Plain facts on a step: 64 rounds and a sum; the tables as lists. No program is named here. Plain facts on steps one behind the other. No program is named here. Plain functions after the document's reckoning of roots by digits of 16 bits. No program is named here. -/
/- Plain facts on 32 bit words: turning to the right, the two sums of a round. No program is named here. -/
namespace Go.Proofs.YtioifkbkllnkgaaDoor
set_option linter.unusedVariables false

/-- x turned to the right by k, 1 ≤ k ≤ 31. -/
def rotr (x k : Int) : Int := bits .or .u32 (x / 2 ^ k.toNat) (x * 2 ^ (32 - k).toNat % 4294967296)
def rot3 (x i j k : Int) : Int := bits .xor .u32 (bits .xor .u32 (rotr x i) (rotr x j)) (rotr x k)
def lowS (e f g h k v : Int) : Int :=
  (h + rot3 e 6 11 25 + bits .xor .u32 (bits .and .u32 e f) (bits .and .u32 (bits .xor .u32 IntKind.u32.max e) g) + k + v) % 4294967296
def upS (a b c : Int) : Int :=
  (rot3 a 2 13 22 + bits .xor .u32 (bits .xor .u32 (bits .and .u32 a b) (bits .and .u32 a c)) (bits .and .u32 b c)) % 4294967296

/-- The eight words as the model holds an array of them. -/
def agg8 (a b c d e f g h : Int) : Value := .agg #[.int .u32 a, .int .u32 b, .int .u32 c, .int .u32 d, .int .u32 e, .int .u32 f, .int .u32 g, .int .u32 h]
/-- The words behind a round. -/
def rndV (a b c d e f g h k v : Int) : Value :=
  agg8 ((lowS e f g h k v + upS a b c) % 4294967296) a b c ((d + lowS e f g h k v) % 4294967296) e f g

theorem bits_bd (op : BinOp) (a b : Int) : 0 ≤ bits op .u32 a b ∧ bits op .u32 a b ≤ 4294967295 := by
  unfold bits
  dsimp only
  rw [IntKind.wrap_u32']
  omega
theorem bits_or_comm (a b : Int) : bits .or .u32 a b = bits .or .u32 b a := by
  simp [bits, BitVec.or_comm]
theorem mask_neg (k : Int) (h1 : 1 ≤ k) (h2 : k ≤ 31) : bits .and .u64 (IntKind.u64.wrap (-k)) 31 = 32 - k := by
  rw [IntKind.wrap_u64, u64_and _ _ (by omega) (by omega) (by omega) (by omega)]
  rw [show (31 : Int).toNat = 31 from rfl, nat_mask5]
  omega
theorem rotr_other (x k : Int) : bits .or .u32 (x * 2 ^ (32 - k).toNat % 4294967296) (x / 2 ^ (32 - (32 - k)).toNat) = rotr x k := by
  rw [bits_or_comm, show (32 - (32 - k)) = k by omega]
  rfl
theorem rot3_bd (x i j k : Int) : 0 ≤ rot3 x i j k ∧ rot3 x i j k ≤ 4294967295 := bits_bd _ _ _
theorem lowS_bd (e f g h k v : Int) : 0 ≤ lowS e f g h k v ∧ lowS e f g h k v ≤ 4294967295 := by unfold lowS; omega
theorem upS_bd (a b c : Int) : 0 ≤ upS a b c ∧ upS a b c ≤ 4294967295 := by unfold upS; omega
theorem ret_int {k : IntKind} {a b : Int} (h : a = b) : Ending.returned (.int k a) = .returned (.int k b) := by rw [h]
end Go.Proofs.YtioifkbkllnkgaaDoor

/- Plain facts on the tail: its bytes as a list. No program is named here. -/
namespace Go.Proofs.YtioifkbkllnkgaaDoor
set_option linter.unusedVariables false

/-- zs, the first k of n bytes of x, the greatest first, laid at the place off. -/
def putB (zs : List Int) (off n : Nat) (x : Int) : Nat → List Int
  | 0 => zs
  | k + 1 => (putB zs off n x k).set (off + k) (x / 2 ^ (8 * (n - 1 - k)) % 256)
theorem putB_length (zs : List Int) (off n : Nat) (x : Int) : ∀ k, (putB zs off n x k).length = zs.length
  | 0 => rfl
  | k + 1 => by simp [putB, putB_length zs off n x k]
theorem putB_append (pre l : List Int) (n : Nat) (x : Int) : ∀ k, putB (pre ++ l) pre.length n x k = pre ++ putB l 0 n x k
  | 0 => rfl
  | k + 1 => by
    simp only [putB]
    rw [putB_append pre l n x k, List.set_append_right _ _ (by omega)]
    simp
def nils (n : Nat) : Nat := (119 - n % 64) % 64
def be8 (x : Int) : List Int := [x / 72057594037927936 % 256, x / 281474976710656 % 256, x / 1099511627776 % 256, x / 4294967296 % 256, x / 16777216 % 256, x / 65536 % 256, x / 256 % 256, x % 256]
/-- What stands behind n bytes. -/
def tailL (n : Nat) : List Int := 128 :: (List.replicate (nils n) 0 ++ be8 (8 * n))
theorem tailL_length (n : Nat) : (tailL n).length = nils n + 9 := by simp [tailL, be8]
theorem rep_snoc (j : Nat) : (128 :: List.replicate j (0 : Int)).map (Value.int .u8) ++ [.int .u8 0] = (128 :: List.replicate (j + 1) (0 : Int)).map (Value.int .u8) := by
  simp [List.replicate_succ']
/-- The bytes of x, of which the last 8 - m are laid. -/
def bitsAt (x : Int) (m : Nat) : List Int := List.replicate m 0 ++ (be8 x).drop m
theorem bitsAt_length (x : Int) (m : Nat) (h : m ≤ 8) : (bitsAt x m).length = 8 := by simp [bitsAt, be8]; omega
theorem bitsAt_step (x : Int) (m : Nat) (h : m < 8) : (bitsAt x (m + 1)).set m (x / 256 ^ (7 - m) % 256) = bitsAt x m := by
  have : m = 0 ∨ m = 1 ∨ m = 2 ∨ m = 3 ∨ m = 4 ∨ m = 5 ∨ m = 6 ∨ m = 7 := by omega
  rcases this with rfl | rfl | rfl | rfl | rfl | rfl | rfl | rfl <;> simp [bitsAt, be8, List.replicate]
theorem pow_step (x : Int) (m : Nat) (h : m < 8) : x / 256 ^ (7 - m) / 256 = x / 256 ^ (8 - m) := by
  rw [Int.ediv_ediv_of_nonneg (Int.pow_nonneg (by omega)), ← Int.pow_succ, show (7 - m).succ = 8 - m by omega]
theorem nils_lt (n : Nat) : nils n < 64 := by unfold nils; omega
theorem set_first (z : Nat) : (List.replicate (z + 9) (0 : Int)).set 0 128 = 128 :: (List.replicate z 0 ++ List.replicate 8 0) := by
  rw [show z + 9 = (z + 8) + 1 from rfl, List.replicate_succ, List.set_cons_zero, List.replicate_append_replicate]
theorem putB_tail (n : Nat) : putB (128 :: (List.replicate (nils n) 0 ++ List.replicate 8 0)) (1 + nils n) 8 (8 * n) 8 = tailL n := by
  have h := putB_append (128 :: List.replicate (nils n) 0) (List.replicate 8 0) 8 (8 * n) 8
  simp only [List.length_cons, List.length_replicate, List.cons_append] at h
  rw [Nat.add_comm 1, h]
  simp [tailL, be8, putB, List.replicate]
end Go.Proofs.YtioifkbkllnkgaaDoor

/- Plain facts on a block's words. No program is named here. -/
namespace Go.Proofs.YtioifkbkllnkgaaDoor
set_option linter.unusedVariables false

def wordOf (a b c d : Int) : Int := 16777216 * a + 65536 * b + 256 * c + d
def sp3 (x i j s : Int) : Int := bits .xor .u32 (bits .xor .u32 (rotr x i) (rotr x j)) (x / 2 ^ s.toNat)
def wordAt (bs : List Int) (i : Nat) : Int := wordOf (bs.getD (4 * i) 0) (bs.getD (4 * i + 1) 0) (bs.getD (4 * i + 2) 0) (bs.getD (4 * i + 3) 0)
def first16 (bs : List Int) (k : Nat) : List Int := (List.range k).map (wordAt bs)
/-- The word behind the words m, 16 ≤ m.length. -/
def nextW (m : List Int) : Int := (m.getD (m.length - 16) 0 + sp3 (m.getD (m.length - 15) 0) 7 18 3 + m.getD (m.length - 7) 0 + sp3 (m.getD (m.length - 2) 0) 17 19 10) % 4294967296
def extW (l : List Int) : Nat → List Int
  | 0 => l
  | k + 1 => extW l k ++ [nextW (extW l k)]
/-- The 64 words of a block. -/
def sched (bs : List Int) : List Int := extW (first16 bs 16) 48

theorem first16_length (bs : List Int) (k : Nat) : (first16 bs k).length = k := by simp [first16]
theorem extW_length (l : List Int) : ∀ k, (extW l k).length = l.length + k
  | 0 => rfl
  | k + 1 => by simp [extW, extW_length l k]; omega
theorem sched_length (bs : List Int) : (sched bs).length = 64 := by simp [sched, extW_length, first16_length]
theorem first16_succ (bs : List Int) (k : Nat) : first16 bs (k + 1) = first16 bs k ++ [wordAt bs k] := by simp [first16, List.range_succ]
theorem or_bytes (a b c d : Int) (ha : 0 ≤ a) (ha2 : a ≤ 255) (hb : 0 ≤ b) (hb2 : b ≤ 255) (hc : 0 ≤ c) (hc2 : c ≤ 255) (hd : 0 ≤ d) (hd2 : d ≤ 255) :
    bits .or .u32 (bits .or .u32 (bits .or .u32 (a * 16777216) (b * 65536)) (c * 256)) d = wordOf a b c d := by
  obtain ⟨a, rfl⟩ := Int.eq_ofNat_of_zero_le ha
  obtain ⟨b, rfl⟩ := Int.eq_ofNat_of_zero_le hb
  obtain ⟨c, rfl⟩ := Int.eq_ofNat_of_zero_le hc
  obtain ⟨d, rfl⟩ := Int.eq_ofNat_of_zero_le hd
  have e1 : (a : Int) * 16777216 = ((a * 16777216 : Nat) : Int) := by omega
  have e2 : (b : Int) * 65536 = ((b * 65536 : Nat) : Int) := by omega
  have e3 : (c : Int) * 256 = ((c * 256 : Nat) : Int) := by omega
  have j1 := nat_join 24 (a * 16777216) (b * 65536) (by omega) (by omega)
  have j2 := nat_join 16 (a * 16777216 + b * 65536) (c * 256) (by omega) (by omega)
  have j3 := nat_join 8 (a * 16777216 + b * 65536 + c * 256) d (by omega) (by omega)
  rw [e1, e2, e3, u32_or_nat _ _ (by omega) (by omega), j1, u32_or_nat _ _ (by omega) (by omega), j2, u32_or_nat _ _ (by omega) (by omega), j3]
  unfold wordOf
  omega
def Words32 (l : List Int) : Prop := ∀ z ∈ l, 0 ≤ z ∧ z ≤ 4294967295
theorem word_at {l : List Int} (h : Words32 l) (i : Nat) : 0 ≤ l.getD i 0 ∧ l.getD i 0 ≤ 4294967295 := by
  by_cases hi : i < l.length
  · have := h l[i] (List.getElem_mem hi)
    simpa [List.getD, hi] using this
  · simp [List.getD, List.getElem?_eq_none (by omega : l.length ≤ i)]
theorem wordAt_bd {bs : List Int} (h : Bytes8 bs) (i : Nat) : 0 ≤ wordAt bs i ∧ wordAt bs i ≤ 4294967295 := by
  have h0 := byte_at h (4 * i)
  have h1 := byte_at h (4 * i + 1)
  have h2 := byte_at h (4 * i + 2)
  have h3 := byte_at h (4 * i + 3)
  unfold wordAt wordOf
  omega
theorem first16_bd {bs : List Int} (h : Bytes8 bs) (k : Nat) : Words32 (first16 bs k) := by
  intro z hz
  simp only [first16, List.mem_map] at hz
  obtain ⟨i, _, rfl⟩ := hz
  exact wordAt_bd h i
theorem extW_bd {l : List Int} (h : Words32 l) : ∀ k, Words32 (extW l k)
  | 0 => h
  | k + 1 => by
    intro z hz
    simp only [extW, List.mem_append, List.mem_singleton] at hz
    rcases hz with hz | rfl
    · exact extW_bd h k z hz
    · unfold nextW; omega
theorem sched_bd {bs : List Int} (h : Bytes8 bs) : Words32 (sched bs) := extW_bd (first16_bd h 16) 48
theorem sp3_bd (x i j s : Int) : 0 ≤ sp3 x i j s ∧ sp3 x i j s ≤ 4294967295 := bits_bd _ _ _
theorem wrap_sum (a b c d : Int) : IntKind.u32.wrap (IntKind.u32.wrap (IntKind.u32.wrap (a + b) + c) + d) = (a + b + c + d) % 4294967296 := by
  simp only [IntKind.wrap_u32']
  omega
theorem mod_sum (a b c d : Int) : (((a + b) % 4294967296 + c) % 4294967296 + d) % 4294967296 = (a + b + c + d) % 4294967296 := by
  omega
theorem set_at (l : List Int) (n : Nat) (z : Int) : (l ++ List.replicate (n + 1) (0 : Int)).set l.length z = (l ++ [z]) ++ List.replicate n 0 := by
  rw [List.set_append_right _ _ (Nat.le_refl _), Nat.sub_self, List.replicate_succ, List.set_cons_zero, List.append_assoc]
  rfl
theorem getD_app (l r : List Int) (i : Nat) (h : i < l.length) : (l ++ r).getD i 0 = l.getD i 0 := by
  simp [List.getD, List.getElem?_append_left h]
end Go.Proofs.YtioifkbkllnkgaaDoor

/- Plain facts on a step: 64 rounds and a sum; the tables as lists. No program is named here. -/
namespace Go.Proofs.YtioifkbkllnkgaaDoor
set_option linter.unusedVariables false

/-- The 64 constants. -/
def kTab : List Int := [1116352408, 1899447441, 3049323471, 3921009573, 961987163, 1508970993, 2453635748, 2870763221, 3624381080, 310598401, 607225278, 1426881987, 1925078388, 2162078206, 2614888103, 3248222580, 3835390401, 4022224774, 264347078, 604807628, 770255983, 1249150122, 1555081692, 1996064986, 2554220882, 2821834349, 2952996808, 3210313671, 3336571891, 3584528711, 113926993, 338241895, 666307205, 773529912, 1294757372, 1396182291, 1695183700, 1986661051, 2177026350, 2456956037, 2730485921, 2820302411, 3259730800, 3345764771, 3516065817, 3600352804, 4094571909, 275423344, 430227734, 506948616, 659060556, 883997877, 958139571, 1322822218, 1537002063, 1747873779, 1955562222, 2024104815, 2227730452, 2361852424, 2428436474, 2756734187, 3204031479, 3329325298]
/-- The eight words at first. -/
def hTab : List Int := [1779033703, 3144134277, 1013904242, 2773480762, 1359893119, 2600822924, 528734635, 1541459225]
theorem kTab_length : kTab.length = 64 := rfl
theorem kTab_bd : Words32 kTab := by
  have h : ∀ z ∈ kTab, decide (0 ≤ z ∧ z ≤ 4294967295) = true := by decide +kernel
  exact fun z hz => of_decide_eq_true (h z hz)
theorem hTab_bd : Words32 hTab := by
  have h : ∀ z ∈ hTab, decide (0 ≤ z ∧ z ≤ 4294967295) = true := by decide +kernel
  exact fun z hz => of_decide_eq_true (h z hz)

def rnd (s : List Int) (k v : Int) : List Int :=
  match s with
  | [a, b, c, d, e, f, g, h] => [(lowS e f g h k v + upS a b c) % 4294967296, a, b, c, (d + lowS e f g h k v) % 4294967296, e, f, g]
  | _ => s
/-- The words behind the first n rounds. -/
def rnds (ws s : List Int) : Nat → List Int
  | 0 => s
  | n + 1 => rnd (rnds ws s n) (kTab.getD n 0) (ws.getD n 0)
def addW (x s : List Int) : List Int := List.zipWith (fun a b => (a + b) % 4294967296) x s
/-- A block's step. -/
def stepL (s bs : List Int) : List Int := addW (rnds (sched bs) s 64) s
/-- All the blocks' steps: n blocks. -/
def stepsL (s bs : List Int) : Nat → List Int
  | 0 => s
  | n + 1 => stepL (stepsL s bs n) ((bs.drop (64 * n)).take 64)
def be4 (x : Int) : List Int := [x / 16777216 % 256, x / 65536 % 256, x / 256 % 256, x % 256]
def bytesL (s : List Int) : List Int := s.flatMap be4
/-- The digest of bytes. -/
def sumL (bs : List Int) : List Int := bytesL (stepsL hTab (bs ++ tailL bs.length) ((bs.length + nils bs.length + 9) / 64))

theorem rnd_length {s : List Int} (h : s.length = 8) (k v : Int) : (rnd s k v).length = 8 := by
  match s, h with
  | [a, b, c, d, e, f, g, z], _ => rfl
theorem rnd_bd {s : List Int} (h : s.length = 8) (hs : Words32 s) (k v : Int) : Words32 (rnd s k v) := by
  match s, h with
  | [a, b, c, d, e, f, g, z], _ =>
    intro y hy
    simp only [rnd, List.mem_cons, List.not_mem_nil, or_false] at hy
    rcases hy with rfl | rfl | rfl | rfl | rfl | rfl | rfl | rfl
    · omega
    · exact hs _ (by simp)
    · exact hs _ (by simp)
    · exact hs _ (by simp)
    · omega
    · exact hs _ (by simp)
    · exact hs _ (by simp)
    · exact hs _ (by simp)
theorem rnds_length {ws s : List Int} (h : s.length = 8) : ∀ n, (rnds ws s n).length = 8
  | 0 => h
  | n + 1 => rnd_length (rnds_length h n) _ _
theorem rnds_bd {ws s : List Int} (h : s.length = 8) (hs : Words32 s) : ∀ n, Words32 (rnds ws s n)
  | 0 => hs
  | n + 1 => rnd_bd (rnds_length h n) (rnds_bd h hs n) _ _
theorem addW_length {x s : List Int} (hx : x.length = 8) (h : s.length = 8) : (addW x s).length = 8 := by simp [addW, hx, h]
theorem addW_bd (x s : List Int) : Words32 (addW x s) := by
  intro y hy
  unfold addW at hy
  obtain ⟨i, hi, rfl⟩ := List.getElem_of_mem hy
  rw [List.getElem_zipWith]
  omega
theorem stepL_length {s : List Int} (h : s.length = 8) (bs : List Int) : (stepL s bs).length = 8 := addW_length (rnds_length h 64) h
theorem stepL_bd (s bs : List Int) : Words32 (stepL s bs) := addW_bd _ _
theorem stepsL_length {s : List Int} (h : s.length = 8) (bs : List Int) : ∀ n, (stepsL s bs n).length = 8
  | 0 => h
  | n + 1 => stepL_length (stepsL_length h bs n) _
theorem stepsL_bd {s : List Int} (hs : Words32 s) (bs : List Int) : ∀ n, Words32 (stepsL s bs n)
  | 0 => hs
  | n + 1 => stepL_bd _ _
theorem list_8 {α : Type} : ∀ (l : List α), l.length = 8 → ∃ a b c d e f g h : α, l = [a, b, c, d, e, f, g, h]
  | [a, b, c, d, e, f, g, h], _ => ⟨a, b, c, d, e, f, g, h, rfl⟩
/-- x, to the first n words of which those of s are added. -/
def addN (x s : List Int) : Nat → List Int
  | 0 => x
  | n + 1 => (addN x s n).set n ((x.getD n 0 + s.getD n 0) % 4294967296)
theorem addN_length (x s : List Int) : ∀ n, (addN x s n).length = x.length
  | 0 => rfl
  | n + 1 => by simp [addN, addN_length x s n]
theorem addN_get (x s : List Int) (m : Nat) : ∀ n, n ≤ m → (addN x s n).getD m 0 = x.getD m 0
  | 0, _ => rfl
  | n + 1, h => by
    have ih := addN_get x s m n (by omega)
    simp only [List.getD] at ih ⊢
    simp only [addN]
    rw [List.getElem?_set_ne (by omega)]
    exact ih
theorem addN_all {x s : List Int} (hx : x.length = 8) (hs : s.length = 8) : addN x s 8 = addW x s := by
  obtain ⟨a, b, c, d, e, f, g, z, rfl⟩ := list_8 x hx
  obtain ⟨a', b', c', d', e', f', g', z', rfl⟩ := list_8 s hs
  simp [addN, addW]
/-- The words as the model holds an array of them. -/
def stV (s : List Int) : Value := .agg (s.map (Value.int .u32)).toArray
end Go.Proofs.YtioifkbkllnkgaaDoor

/- Plain facts on steps one behind the other. No program is named here. -/
namespace Go.Proofs.YtioifkbkllnkgaaDoor
set_option linter.unusedVariables false

theorem stepsL_head (s x y : List Int) : ∀ k, 64 * k ≤ x.length → stepsL s (x ++ y) k = stepsL s x k
  | 0, _ => rfl
  | k + 1, h => by
    simp only [stepsL]
    rw [stepsL_head s x y k (by omega)]
    congr 1
    rw [List.drop_append_of_le_length (by omega), List.take_append_of_le_length (by simp; omega)]
theorem stepsL_append (s x y : List Int) (m : Nat) (h : x.length = 64 * m) : ∀ q, stepsL s (x ++ y) (m + q) = stepsL (stepsL s x m) y q
  | 0 => stepsL_head s x y m (by omega)
  | q + 1 => by
    show stepL (stepsL s (x ++ y) (m + q)) (((x ++ y).drop (64 * (m + q))).take 64) = stepL (stepsL (stepsL s x m) y q) ((y.drop (64 * q)).take 64)
    rw [stepsL_append s x y m h q]
    congr 2
    rw [List.drop_append, List.drop_eq_nil_of_le (by omega), List.nil_append, h]
    congr 1
    omega
theorem whole_blocks (n m r : Nat) (hr : r < 64) (h : n = 64 * m + r) : ∃ q, 1 ≤ q ∧ q ≤ 2 ∧ r + (nils n + 9) = 64 * q ∧ (n + nils n + 9) / 64 = m + q := by
  subst h
  unfold nils
  by_cases h : r ≤ 55
  · refine ⟨1, by omega, by omega, ?_, ?_⟩ <;> omega
  · refine ⟨2, by omega, by omega, ?_, ?_⟩ <;> omega
theorem sumL_parts (bs : List Int) (m q r : Nat) (hr : r < 64) (h : bs.length = 64 * m + r) (hq : (bs.length + nils bs.length + 9) / 64 = m + q) :
    sumL bs = bytesL (stepsL (stepsL hTab (bs.take (64 * m)) m) (bs.drop (64 * m) ++ tailL bs.length) q) := by
  unfold sumL
  rw [hq, ← stepsL_append hTab (bs.take (64 * m)) (bs.drop (64 * m) ++ tailL bs.length) m (by simp; omega) q, ← List.append_assoc, List.take_append_drop]
theorem be8_bytes (x : Int) : Bytes8 (be8 x) := by
  intro z hz
  simp only [be8, List.mem_cons, List.not_mem_nil, or_false] at hz
  omega
theorem tailL_bytes (n : Nat) : Bytes8 (tailL n) := by
  intro z hz
  simp only [tailL, List.mem_cons, List.mem_append] at hz
  rcases hz with rfl | hz | hz
  · omega
  · rw [List.mem_replicate] at hz; omega
  · exact be8_bytes _ z hz
theorem bytesL_bytes (s : List Int) : Bytes8 (bytesL s) := by
  intro z hz
  simp only [bytesL, List.mem_flatMap] at hz
  obtain ⟨x, _, hx⟩ := hz
  simp only [be4, List.mem_cons, List.not_mem_nil, or_false] at hx
  omega
theorem app_bytes {x y : List Int} (hx : Bytes8 x) (hy : Bytes8 y) : Bytes8 (x ++ y) := by
  intro z hz
  rcases List.mem_append.1 hz with h | h
  · exact hx z h
  · exact hy z h
end Go.Proofs.YtioifkbkllnkgaaDoor

/- Plain functions after the document's reckoning of roots by digits of 16 bits. No program is named here. -/
namespace Go.Proofs.YtioifkbkllnkgaaDoor
set_option linter.unusedVariables false

def mulCol (out : List Int) (x : Int) (b : List Int) (i : Nat) : Nat → List Int
  | 0 => out
  | k + 1 => (mulCol out x b i k).set (i + k) (((mulCol out x b i k).getD (i + k) 0 + x * b.getD k 0) % 18446744073709551616)
def mulRow (a b : List Int) : Nat → List Int
  | 0 => List.replicate (a.length + b.length + 1) 0
  | i + 1 => mulCol (mulRow a b i) (a.getD i 0) b i b.length
def carry (o : List Int) : Nat → List Int
  | 0 => o
  | i + 1 => ((carry o i).set (i + 1) (((carry o i).getD (i + 1) 0 + (carry o i).getD i 0 / 65536) % 18446744073709551616)).set i ((carry o i).getD i 0 % 65536)
def timesL (a b : List Int) : List Int := carry (mulRow a b a.length) (a.length + b.length)
/-- From the place n - 1 down: is z below limit, or the same? -/
def cmpL (z limit : List Int) : Nat → Bool
  | 0 => true
  | n + 1 => if z.getD n 0 != limit.getD n 0 then decide (z.getD n 0 < limit.getD n 0) else cmpL z limit n
def digs (y : Int) : List Int := [y % 65536, y / 65536 % 65536, y / 4294967296]
def belowL (y p : Int) (cube : Bool) : Bool :=
  match cube with
  | true => cmpL (timesL (timesL (digs y) (digs y)) (digs y)) ((List.replicate 11 0).set 6 p) 11
  | false => cmpL (timesL (digs y) (digs y)) ((List.replicate 7 0).set 4 p) 7
/-- The search, n bits done: 36 bits, the greatest first. -/
def rootAt (p : Int) (cube : Bool) : Nat → Int
  | 0 => 0
  | n + 1 => if belowL (rootAt p cube n + 2 ^ (35 - n)) p cube then rootAt p cube n + 2 ^ (35 - n) else rootAt p cube n
def rootL (p : Int) (cube : Bool) : Int := rootAt p cube 36 % 4294967296
end Go.Proofs.YtioifkbkllnkgaaDoor

/- The byte's type, as the program has it; slices of new memory. -/
namespace Go.Proofs.YtioifkbkllnkgaaDoor
open Go.RowKit
theorem infoU8 : (Tryd.prog.info? 5).map (fun i => (i.zero, i.size, i.bytes)) = some (some (.int .u8 0), 1, 1) := by kernel_rfl
/-- A slice of new memory that holds the bytes zs. -/
def OwnPost (w : World) (zs : List Int) (e : Ending) (w' : World) : Prop :=
  ∃ g c, e = .returned (.slice (some ⟨g, 0, none⟩) zs.length c) ∧ w'.ownsRow w.heap.size 5 1 (.slice (some ⟨g, 0, none⟩) zs.length c) zs.length (zs.map (Value.int .u8)) ∧ Below w.heap.size w w'
end Go.Proofs.YtioifkbkllnkgaaDoor

/- Contracts of the program's and of the document's small functions on 32 bit words. The contract of a round: the document's. Arrays of eight words: what == and an index answer. Contracts of putBig, tail and Tail. Contracts of word and spread. The contract of schedule. The contract of rounds. The contract of step. Contracts of First and Step. The contract of steps. Contracts of withTail and stateBytes. The contract of stateBytes. The contract of Sum. Facts on a sum's bytes. -/
/- Contracts of the program's and of the document's small functions on 32 bit words. -/
namespace Go.Proofs.YtioifkbkllnkgaaDoor
open Go.RowKit
set_option linter.unusedVariables false

theorem rot_any (x k : Int) (w : World) (hx : 0 ≤ x) (hx2 : x ≤ 4294967295) (hk : 1 ≤ k) (hk2 : k ≤ 31) :
    Calls Tryd.prog 97 #[.int .u32 x, .int .i64 (-k)] w fun e w' => e = .returned (.int .u32 (rotr x k)) ∧ w = w' := by
  have hm := mask_neg k hk hk2
  go_enter Tryd.func97, Tryd.ntmps97
  go_wp2
  go_ret
  exact ⟨ret_int (rotr_other x k), rfl⟩

theorem turn_any (x k : Int) (w : World) (hx : 0 ≤ x) (hx2 : x ≤ 4294967295) (hk : 1 ≤ k) (hk2 : k ≤ 31) :
    Calls Tryd.prog 91 #[.int .u32 x, .int .i64 k] w fun e w' => e = .returned (.int .u32 (rotr x k)) ∧ ∃ n, w' = w.drewN n := by
  go_enter Tryd.func91, Tryd.ntmps91
  go_wp2
  go_quiet (fail)
  go_wp2
  go_ret
  exact ⟨rfl, _, rfl⟩

theorem rots_any (x i j k : Int) (w : World) (hx : 0 ≤ x) (hx2 : x ≤ 4294967295) (hi : 1 ≤ i) (hi2 : i ≤ 31) (hj : 1 ≤ j) (hj2 : j ≤ 31) (hk : 1 ≤ k) (hk2 : k ≤ 31) :
    Calls Tryd.prog 98 #[.int .u32 x, .int .i64 i, .int .i64 j, .int .i64 k] w fun e w' => e = .returned (.int .u32 (rot3 x i j k)) ∧ w = w' := by
  go_enter Tryd.func98, Tryd.ntmps98
  go_wp2_with (go_at_call 97; (with_reducible refine (rot_any _ _ _ hx hx2 (by omega) (by omega)).mono ?_); rintro e w' ⟨rfl, rfl⟩)
  go_ret
  exact ⟨rfl, rfl⟩

theorem low_any (e f g z k v : Int) (w : World) (he : 0 ≤ e) (he2 : e ≤ 4294967295) (hh : 0 ≤ z) (hh2 : z ≤ 4294967295) (hk : 0 ≤ k) (hk2 : k ≤ 4294967295) (hv : 0 ≤ v) (hv2 : v ≤ 4294967295) :
    Calls Tryd.prog 94 #[.int .u32 e, .int .u32 f, .int .u32 g, .int .u32 z, .int .u32 k, .int .u32 v] w fun e' w' => e' = .returned (.int .u32 (lowS e f g z k v)) ∧ w = w' := by
  have hr := rot3_bd e 6 11 25
  have hq := bits_bd .xor (bits .and .u32 e f) (bits .and .u32 (bits .xor .u32 IntKind.u32.max e) g)
  go_enter Tryd.func94, Tryd.ntmps94
  go_wp2_with (go_at_call 98; (with_reducible refine (rots_any _ _ _ _ _ he he2 (by omega) (by omega) (by omega) (by omega) (by omega) (by omega)).mono ?_); rintro e' w' ⟨rfl, rfl⟩)
  go_ret
  exact ⟨rfl, rfl⟩

theorem up_any (a b c : Int) (w : World) (he : 0 ≤ a) (he2 : a ≤ 4294967295) :
    Calls Tryd.prog 95 #[.int .u32 a, .int .u32 b, .int .u32 c] w fun e' w' => e' = .returned (.int .u32 (upS a b c)) ∧ w = w' := by
  have hr := rot3_bd a 2 13 22
  have hq := bits_bd .xor (bits .xor .u32 (bits .and .u32 a b) (bits .and .u32 a c)) (bits .and .u32 b c)
  go_enter Tryd.func95, Tryd.ntmps95
  go_wp2_with (go_at_call 98; (with_reducible refine (rots_any _ _ _ _ _ he he2 (by omega) (by omega) (by omega) (by omega) (by omega) (by omega)).mono ?_); rintro e' w' ⟨rfl, rfl⟩)
  go_ret
  exact ⟨rfl, rfl⟩
end Go.Proofs.YtioifkbkllnkgaaDoor

/- The contract of a round: the document's. -/
namespace Go.Proofs.YtioifkbkllnkgaaDoor
open Go.RowKit
set_option linter.unusedVariables false

theorem quiet_add {P : Program} {f : FuncId} {args : Array Value} {w : World} {a n : Nat} {v : Value}
    (h : Calls P f args (w.drewN (a + n)) fun e w' => e = .returned v ∧ ∃ m, w' = (w.drewN (a + n)).drewN m) :
    Calls P f args (w.drewN (a + n)) fun e w'' => e = .returned v ∧ ∃ m, w'' = w.drewN (a + m) :=
  h.mono fun _ _ ⟨he, m, hm⟩ => ⟨he, n + m, by rw [hm, World.drewN_drewN, Nat.add_assoc]⟩

set_option maxHeartbeats 1000000 in
theorem refRound_any (a b c d e f g z k v : Int) (w : World)
    (ha : 0 ≤ a) (ha2 : a ≤ 4294967295) (hd : 0 ≤ d) (hd2 : d ≤ 4294967295) (he : 0 ≤ e) (he2 : e ≤ 4294967295)
    (hh : 0 ≤ z) (hh2 : z ≤ 4294967295) (hk : 0 ≤ k) (hk2 : k ≤ 4294967295) (hv : 0 ≤ v) (hv2 : v ≤ 4294967295) :
    Calls Tryd.prog 86 #[agg8 a b c d e f g z, .int .u32 k, .int .u32 v] w fun r w' => r = .returned (rndV a b c d e f g z k v) ∧ Below w.heap.size w w' := by
  unfold agg8
  go_enter Tryd.func86, Tryd.ntmps86
  go_wp2
  go_quiet ((go_at_call 91; exact Calls.quiet_of (turn_any _ _ _ he he2 (by omega) (by omega))))
  go_wp2
  go_quiet ((go_at_call 91; exact quiet_add (turn_any _ _ _ ha ha2 (by omega) (by omega))))
  go_wp2
  refine bodyPost_ret (v := rndV a b c d e f g z k v) (by simp [results, Tryd.results86, go_sem, rndV, agg8, lowS, upS, rot3]) rfl ⟨rfl, ?_⟩
  have h2 : Below w.heap.size w ((w.alloc (.cells #[.int .u32 a, .int .u32 b, .int .u32 c, .int .u32 d, .int .u32 e, .int .u32 f, .int .u32 g, .int .u32 z] 34)).alloc (.cells #[.int .u32 0, .int .u32 0, .int .u32 0, .int .u32 0, .int .u32 0, .int .u32 0, .int .u32 0, .int .u32 0] 34)) :=
    ((Below.refl _ _).alloc (Nat.le_refl _) _).alloc (by simp) _
  exact (((((((((below_drewN h2 _).setCell (by simp) _).setCell (by simp) _).setCell (by simp) _).setCell (by simp) _).setCell (by simp) _).setCell (by simp) _).setCell (by simp) _).setCell (by simp) _)
end Go.Proofs.YtioifkbkllnkgaaDoor

/- Arrays of eight words: what == and an index answer. -/
namespace Go.Proofs.YtioifkbkllnkgaaDoor
open Go.RowKit
set_option linter.unusedVariables false

end Go.Proofs.YtioifkbkllnkgaaDoor

/- Contracts of putBig, tail and Tail. -/
namespace Go.Proofs.YtioifkbkllnkgaaDoor
open Go.RowKit
set_option linter.unusedVariables false

def PutPost (w : World) (g off n : Nat) (zs : List Int) (x : Int) (e : Ending) (w' : World) : Prop :=
  e = .returned (.tuple #[]) ∧ Row .u8 w' 5 g (putB zs off n x n) ∧ w'.heap.size = w.heap.size ∧ w.grownBy w' (some g)

set_option maxHeartbeats 1000000 in
theorem putBig_any (g off n cap : Nat) (zs : List Int) (x : Int) (w : World) (hr : Row .u8 w 5 g zs) (hl : off + n ≤ zs.length) (hn : n ≤ 8) (hx : 0 ≤ x) (hx2 : x ≤ 18446744073709551615) :
    Calls Tryd.prog 79 #[.slice (some ⟨g, off, none⟩) n cap, .int .u64 x] w (PutPost w g off n zs x) := by
  have HR := Lib.hid hr
  clear hr
  go_enter Tryd.func79, Tryd.ntmps79
  go_wp2
  go_loopw [7] (fun i wx => ∃ k : Nat, k ≤ n ∧ i = .int .i64 k ∧ Row .u8 wx 5 g (putB zs off n x k) ∧ wx.heap.size = w.heap.size ∧ w.grownBy wx (some g)) (fun i _ => n - (intOf i).toNat)
  case atStart => exact ⟨0, Nat.zero_le _, rfl, HR.out, rfl, only_refl _ _⟩
  case round =>
    obtain ⟨k, hk, rfl, hr, hs, hg⟩ := hrel
    have hlen := putB_length zs off n x k
    have hf := hr.frozen (off + k)
    have HR2 := Lib.hid hr
    have HS := Lib.hid hs
    have HL := Lib.hid hlen
    by_cases hlt : k < n
    · obtain ⟨z0, hc⟩ := hr.has (off + k) (by omega)
      have HG := Lib.hid hg
      clear hr hs hlen hg
      go_wp2
      go_roundw
      case rel => exact ⟨k + 1, by omega, by go_num, HR2.out.set _ _, by simpa [World.setCell] using HS.out, only_set HG.out _ _⟩
      case measure => simp [intOf]; omega
    · obtain rfl : k = n := by omega
      clear hr hs hlen hf
      go_wp2
      go_end0
      exact ⟨rfl, HR2.out, HS.out, hg⟩

def TailPost (w : World) (n : Nat) (e : Ending) (w' : World) : Prop :=
  e = .returned (.slice (some ⟨w.heap.size, 0, none⟩) (nils n + 9) (nils n + 9)) ∧ Row .u8 w' 5 w.heap.size (tailL n) ∧ Below w.heap.size w w' ∧ w'.heap.size = w.heap.size + 1


set_option maxHeartbeats 1000000 in
theorem tail_any (n : Nat) (w : World) (hn : (n : Int) ≤ 1125899906842624) :
    Calls Tryd.prog 78 #[.int .i64 n] w (TailPost w n) := by
  obtain ⟨i0, hi0, hz0, hz1, hz2⟩ := info_parts infoU8
  have hnl := nils_lt n
  have hnz : (128 - ((n : Int) % 64 + 1 + 8)) % 64 = (nils n : Int) := by unfold nils; omega
  go_enter Tryd.func78, Tryd.ntmps78
  go_wp2_with (at_make; refine wpList_make_ints w rfl (.tmp 15) (.tmp 15) 22 rfl 5 i0 .u8 Tryd.underlying22 hi0 hz0 hz1 .i64 .i64 _ _ (nils n + 9) rfl rfl (by push_cast; omega) (by push_cast; omega) (by rw [hz2]; omega) (by simp only [maxLen]; omega) ?_; intro w1 hr1 hb1 hs1; obtain ⟨z0, hc0⟩ := hr1.has 0 (by simp); have hf0 := hr1.frozen 0; have HR1 := Lib.hid hr1; have HS1 := Lib.hid hs1; clear hr1 hs1)
  rw [show nils n + 9 - (1 + nils n) = 8 by omega]
  refine (putBig_any w.heap.size (1 + nils n) 8 8 ((List.replicate (nils n + 9) (0 : Int)).set 0 128) (8 * n) _ (HR1.out.set 0 128) (by simp; omega) (by omega) (by omega) (by omega)).mono ?_
  rintro e w2 ⟨rfl, hr2, hs2, hg2⟩
  rw [set_first, putB_tail] at hr2
  have hb2 : Below w.heap.size w w2 := below_only (hb1.setCell (Nat.le_refl _) _) hg2 (by simp [World.setCell, HS1.out]) (Nat.le_refl _)
  have hs3 : w2.heap.size = w.heap.size + 1 := by rw [hs2]; simp [World.setCell, HS1.out]
  have H := Lib.hid (And.intro hr2 (And.intro hb2 hs3))
  clear hr2 hs2 hg2 hb2 hs3
  go_wp2
  go_ret
  exact ⟨rfl, H.out⟩
end Go.Proofs.YtioifkbkllnkgaaDoor

/- Contracts of word and spread. -/
namespace Go.Proofs.YtioifkbkllnkgaaDoor
open Go.RowKit
set_option linter.unusedVariables false

theorem word_any (g off n cap : Nat) (a b c d : Int) (w : World) (hn : 4 ≤ n)
    (h0 : w.cell? ⟨g, off, none⟩ = some (.int .u8 a)) (h1 : w.cell? ⟨g, off + 1, none⟩ = some (.int .u8 b)) (h2 : w.cell? ⟨g, off + 2, none⟩ = some (.int .u8 c)) (h3 : w.cell? ⟨g, off + 3, none⟩ = some (.int .u8 d))
    (ha : 0 ≤ a) (ha2 : a ≤ 255) (hb : 0 ≤ b) (hb2 : b ≤ 255) (hc : 0 ≤ c) (hc2 : c ≤ 255) (hd : 0 ≤ d) (hd2 : d ≤ 255) :
    Calls Tryd.prog 92 #[.slice (some ⟨g, off, none⟩) n cap] w fun e w' => e = .returned (.int .u32 (wordOf a b c d)) ∧ ∃ m, w' = w.drewN m := by
  have i0 : (0 : Int) < (n : Int) := by omega
  have i1 : (1 : Int) < (n : Int) := by omega
  have i2 : (2 : Int) < (n : Int) := by omega
  have i3 : (3 : Int) < (n : Int) := by omega
  go_enter Tryd.func92, Tryd.ntmps92
  go_wp2
  go_quiet (fail)
  go_wp2
  go_ret
  exact ⟨ret_int (or_bytes a b c d ha ha2 hb hb2 hc hc2 hd hd2), _, rfl⟩

theorem spread_any (x i j s : Int) (w : World) (hx : 0 ≤ x) (hx2 : x ≤ 4294967295) (hi : 1 ≤ i) (hi2 : i ≤ 31) (hj : 1 ≤ j) (hj2 : j ≤ 31) (hs : 0 ≤ s) (hs2 : s ≤ 31) :
    Calls Tryd.prog 93 #[.int .u32 x, .int .i64 i, .int .i64 j, .int .i64 s] w fun e w' => e = .returned (.int .u32 (sp3 x i j s)) ∧ ∃ m, w' = w.drewN m := by
  have h1 := fun W => rot_any x i W hx hx2 hi hi2
  have h2 := fun W => rot_any x j W hx hx2 hj hj2
  have H1 := Lib.hid h1
  have H2 := Lib.hid h2
  clear h1 h2
  go_enter Tryd.func93, Tryd.ntmps93
  go_wp2
  go_quiet (first
    | (go_at_call 97; exact (rot_any _ _ _ hx hx2 (by omega) (by omega)).mono fun _ _ ⟨a, b⟩ => ⟨a, _, b.symm⟩))
  go_wp2
  go_ret
  exact ⟨rfl, _, rfl⟩
end Go.Proofs.YtioifkbkllnkgaaDoor

/- The contract of schedule. -/
namespace Go.Proofs.YtioifkbkllnkgaaDoor
open Go.RowKit
set_option linter.unusedVariables false

def SchedPost (w : World) (bs : List Int) (e : Ending) (w' : World) : Prop :=
  e = .returned (.agg ((sched bs).map (Value.int .u32)).toArray) ∧ Below w.heap.size w w' ∧ w'.heap.size = w.heap.size + 2

theorem size64 : (Tryd.prog.info? 108).map (·.size) = some 64 := by kernel_rfl

set_option maxRecDepth 100000 in
set_option maxHeartbeats 2000000 in
theorem sched_any (g off cap : Nat) (bs : List Int) (w : World) (hl : bs.length = 64) (hb8 : Bytes8 bs) (hseg : Seg .u8 w g off bs) (hcap : 64 ≤ cap) (hg : g < w.heap.size) :
    Calls Tryd.prog 87 #[.slice (some ⟨g, off, none⟩) 64 cap] w (SchedPost w bs) := by
  have HL := Lib.hid hl
  have HB8 := Lib.hid hb8
  have HSEG := Lib.hid hseg
  clear hl hb8 hseg
  go_enter Tryd.func87, Tryd.ntmps87
  go_wp2_with fail
  go_loopw [6] (fun i wx => ∃ k : Nat, k ≤ 16 ∧ i = .int .i64 k ∧ Row .u32 wx 108 (w.heap.size + 1) (first16 bs k ++ List.replicate (64 - k) 0) ∧ Row .u32 wx 108 w.heap.size (List.replicate 64 0) ∧ Below w.heap.size w wx ∧ wx.heap.size = w.heap.size + 2) (fun i _ => 16 - (intOf i).toNat)
  case atStart =>
    refine ⟨0, by omega, rfl, ?_, ?_, ?_, by simp⟩
    · have h := heap_alloc2_new w (.cells ((List.replicate 64 (0 : Int)).map (Value.int .u32)).toArray 108) (.cells ((List.replicate 64 (0 : Int)).map (Value.int .u32)).toArray 108)
      exact h
    · have h := heap_alloc2_old w (.cells ((List.replicate 64 (0 : Int)).map (Value.int .u32)).toArray 108) (.cells ((List.replicate 64 (0 : Int)).map (Value.int .u32)).toArray 108)
      exact h
    · exact ((Below.refl _ _).alloc (Nat.le_refl _) _).alloc (by simp) _
  case round =>
    obtain ⟨k, hk, rfl, hr, hr0, hb, hs⟩ := hrel
    have HR := Lib.hid hr
    have HR0 := Lib.hid hr0
    have HB := Lib.hid hb
    have HS := Lib.hid hs
    clear hr hr0 hb hs
    by_cases hlt : k < 16
    · have hsg : Seg .u8 wr g off bs := HSEG.out.below HB.out hg
      have hl := HL.out
      have c0 := hsg.cellD (4 * k) (by omega)
      have c1 := hsg.cellD (4 * k + 1) (by omega)
      have c2 := hsg.cellD (4 * k + 2) (by omega)
      have c3 := hsg.cellD (4 * k + 3) (by omega)
      have hw := fun W (hW : wr = W) => word_any g (off + 4 * k) (64 - 4 * k) (cap - 4 * k) _ _ _ _ wr (by omega) c0 c1 c2 c3 (byte_at HB8.out _).1 (byte_at HB8.out _).2 (byte_at HB8.out _).1 (byte_at HB8.out _).2 (byte_at HB8.out _).1 (byte_at HB8.out _).2 (byte_at HB8.out _).1 (byte_at HB8.out _).2
      have HW := Lib.hid (hw wr rfl)
      have hlen : (first16 bs k ++ List.replicate (64 - k) (0 : Int)).length = 64 := by simp [first16_length]; omega
      have HLEN := Lib.hid hlen
      obtain ⟨z0, hc⟩ := HR.out.has k (by omega)
      have hf := HR.out.frozen k
      clear hsg hl c0 c1 c2 c3 hw hlen
      go_wp2_with fail
      refine HW.out.mono ?_
      rintro e w' ⟨rfl, m, rfl⟩
      go_wp2_with fail
      go_roundw
      case rel =>
        refine ⟨k + 1, by omega, by go_num, ?_, HR0.out.far (by simp) _, ?_, ?_⟩
        · have h := (HR.out.drewN m).set k (wordAt bs k)
          have e := set_at (first16 bs k) (63 - k) (wordAt bs k)
          rw [first16_length, show 63 - k + 1 = 64 - k by omega, ← first16_succ] at e
          rw [e, show 63 - k = 64 - (k + 1) by omega] at h
          exact h
        · exact (below_drewN HB.out m).setCell (by simp) _
        · simpa [World.setCell] using HS.out
      case measure => simp [intOf]; omega
    · obtain rfl : k = 16 := by omega
      rw [show ((16 : Nat) : Int) = 16 from rfl]
      go_wp2_with fail
      go_loopw [5] (fun i wx => ∃ n : Nat, 16 ≤ n ∧ n ≤ 64 ∧ i = .int .i64 n ∧ Row .u32 wx 108 (w.heap.size + 1) (extW (first16 bs 16) (n - 16) ++ List.replicate (64 - n) 0) ∧ Row .u32 wx 108 w.heap.size (List.replicate 64 0) ∧ Below w.heap.size w wx ∧ wx.heap.size = w.heap.size + 2) (fun i _ => 64 - (intOf i).toNat)
      case atStart => exact ⟨16, by omega, by omega, rfl, HR.out, HR0.out, HB.out, HS.out⟩
      case round =>
        obtain ⟨n, hn, hn2, rfl, hr, hr0, hb, hs⟩ := hrel
        clear HR HR0 HB HS
        have HR := Lib.hid hr
        have HR0 := Lib.hid hr0
        have HB := Lib.hid hb
        have HS := Lib.hid hs
        clear hr hr0 hb hs
        by_cases hlt : n < 64
        · have hlm : (extW (first16 bs 16) (n - 16)).length = n := by rw [extW_length, first16_length]; omega
          have hlen : (extW (first16 bs 16) (n - 16) ++ List.replicate (64 - n) (0 : Int)).length = 64 := by simp [hlm]; omega
          have hbd := extW_bd (first16_bd HB8.out 16) (n - 16)
          have cell : ∀ j, 2 ≤ j → j ≤ 16 → wr.cell? ⟨w.heap.size + 1, n - j, none⟩ = some (.int .u32 ((extW (first16 bs 16) (n - 16)).getD (n - j) 0)) := fun j h1 h2 => by
            rw [HR.out.cellD (n - j) (by omega), getD_app _ _ _ (by omega)]
          have c16 := cell 16 (by omega) (by omega)
          have c15 := cell 15 (by omega) (by omega)
          have c7 := cell 7 (by omega) (by omega)
          have c2 := cell 2 (by omega) (by omega)
          obtain ⟨z0, hc⟩ := HR.out.has n (by omega)
          have hf := HR.out.frozen n
          have b16 := word_at hbd (n - 16)
          have b15 := word_at hbd (n - 15)
          have b7 := word_at hbd (n - 7)
          have b2 := word_at hbd (n - 2)
          have hnext : nextW (extW (first16 bs 16) (n - 16)) = ((extW (first16 bs 16) (n - 16)).getD (n - 16) 0 + sp3 ((extW (first16 bs 16) (n - 16)).getD (n - 15) 0) 7 18 3 + (extW (first16 bs 16) (n - 16)).getD (n - 7) 0 + sp3 ((extW (first16 bs 16) (n - 16)).getD (n - 2) 0) 17 19 10) % 4294967296 := by
            unfold nextW; rw [hlm]
          generalize (extW (first16 bs 16) (n - 16)).getD (n - 16) 0 = x16 at *
          generalize (extW (first16 bs 16) (n - 16)).getD (n - 15) 0 = x15 at *
          generalize (extW (first16 bs 16) (n - 16)).getD (n - 7) 0 = x7 at *
          generalize (extW (first16 bs 16) (n - 16)).getD (n - 2) 0 = x2 at *
          have HN := Lib.hid hnext
          have hst : ∀ q, Row .u32 ((wr.drewN q).setCell ⟨w.heap.size + 1, n, none⟩ (.int .u32 (nextW (extW (first16 bs 16) (n - 16))))) 108 (w.heap.size + 1) (extW (first16 bs 16) (n + 1 - 16) ++ List.replicate (64 - (n + 1)) 0) := fun q => by
            have h := (HR.out.drewN q).set n (nextW (extW (first16 bs 16) (n - 16)))
            have e := set_at (extW (first16 bs 16) (n - 16)) (63 - n) (nextW (extW (first16 bs 16) (n - 16)))
            rw [hlm, show 63 - n + 1 = 64 - n by omega] at e
            rw [e, show 63 - n = 64 - (n + 1) by omega] at h
            rw [show n + 1 - 16 = (n - 16) + 1 by omega]
            exact h
          have HST := Lib.hid hst
          clear hst
          have HLM := Lib.hid hlm
          have s15 := sp3_bd x15 7 18 3
          have s2 := sp3_bd x2 17 19 10
          clear hlm hlen hbd cell hnext
          go_wp2_with fail
          have wr16 : IntKind.i64.wrap ((n : Int) - 16) = (n : Int) - 16 := IntWalk.i64_in _ (by omega)
          have nn16 : (0 : Int) ≤ (n : Int) - 16 := by omega
          have ni16 : (16 : Int) ≤ (n : Int) := by omega
          have ub16 : (n : Int) - 16 < 64 := by omega
          have tn16 : ((n : Int) - 16).toNat = n - 16 := by omega
          have wr15 : IntKind.i64.wrap ((n : Int) - 15) = (n : Int) - 15 := IntWalk.i64_in _ (by omega)
          have nn15 : (0 : Int) ≤ (n : Int) - 15 := by omega
          have ni15 : (15 : Int) ≤ (n : Int) := by omega
          have ub15 : (n : Int) - 15 < 64 := by omega
          have tn15 : ((n : Int) - 15).toNat = n - 15 := by omega
          have wr7 : IntKind.i64.wrap ((n : Int) - 7) = (n : Int) - 7 := IntWalk.i64_in _ (by omega)
          have nn7 : (0 : Int) ≤ (n : Int) - 7 := by omega
          have ni7 : (7 : Int) ≤ (n : Int) := by omega
          have ub7 : (n : Int) - 7 < 64 := by omega
          have tn7 : ((n : Int) - 7).toNat = n - 7 := by omega
          have wr2 : IntKind.i64.wrap ((n : Int) - 2) = (n : Int) - 2 := IntWalk.i64_in _ (by omega)
          have nn2 : (0 : Int) ≤ (n : Int) - 2 := by omega
          have ni2 : (2 : Int) ≤ (n : Int) := by omega
          have ub2 : (n : Int) - 2 < 64 := by omega
          have tn2 : ((n : Int) - 2).toNat = n - 2 := by omega
          have nn0 : (0 : Int) ≤ (n : Int) := by omega
          have ub0 : (n : Int) < 64 := by omega
          go_region_held3 (fun w' => w'.cell? ⟨w.heap.size + 1, n - 16, none⟩ = some (.int .u32 x16) ∧ w'.cell? ⟨w.heap.size + 1, n - 15, none⟩ = some (.int .u32 x15) ∧ w'.cell? ⟨w.heap.size + 1, n - 7, none⟩ = some (.int .u32 x7) ∧ w'.cell? ⟨w.heap.size + 1, n - 2, none⟩ = some (.int .u32 x2))
            (first
              | (go_keep; done)
              | (refine ⟨?_, ?_, ?_, ?_⟩ <;> (rw [World.cell?_setCell_other _ _ _ _ (by first | (simp; done) | (simp; omega))]; simp [*]; done)))
            (first
              | (go_at_call 93; (with_reducible refine (spread_any _ _ _ _ _ (by omega) (by omega) (by omega) (by omega) (by omega) (by omega) (by omega) (by omega)).mono ?_); rintro _ wx ⟨rfl, mx, rfl⟩))
          clear wr16 nn16 ni16 ub16 tn16 wr15 nn15 ni15 ub15 tn15 wr7 nn7 ni7 ub7 tn7 wr2 nn2 ni2 ub2 tn2 nn0 ub0 c16 c15 c7 c2 b16 b15 b7 b2 s15 s2
          go_wp2_with fail
          go_roundw
          case rel =>
            refine ⟨n + 1, by omega, by omega, by go_num, ?_, ?_, ?_, ?_⟩
            · rw [mod_sum, ← HN.out]
              exact HST.out _
            · exact (HR0.out.drewN _).far (by simp) _
            · exact (below_drewN HB.out _).setCell (by simp) _
            · simpa [World.setCell] using HS.out
          case measure => simp [intOf]; omega
        · obtain rfl : n = 64 := by omega
          have hr64 : Row .u32 wr 108 (w.heap.size + 1) (sched bs) := by
            have h := HR.out
            simp only [Nat.sub_self, List.replicate_zero, List.append_nil] at h
            exact h
          have hl64 := sched_length bs
          have HR64 := Lib.hid hr64
          have hi64 : (Tryd.prog.info? 108).map (·.size) = some (sched bs).length := by rw [hl64]; exact size64
          have HI64 := Lib.hid hi64
          have HL64 := Lib.hid hl64
          clear hr64 hi64 hl64
          go_wp2_with (first
            | (refine wpList_load_ints rfl 108 (.tmp 3) rfl (w.heap.size + 1) rfl 108 .u32 (sched bs) HR64.out 64 33 Tryd.underlying108 HI64.out ?_)
            | (refine wpList_store_ints rfl 108 (.tmp 2) (.tmp 44) rfl w.heap.size .u32 (sched bs) rfl rfl 108 (List.replicate 64 0) HR0.out HI64.out (by rw [HL64.out]; simp) ?_
               intro w5 hr5 hg5 hs5
               have HR5 := Lib.hid hr5
               have HG5 := Lib.hid hg5
               have HS5 := Lib.hid hs5
               clear hr5 hg5 hs5))
          refine bodyPost_ret (v := .agg ((sched bs).map (Value.int .u32)).toArray) (results_cell_row Tryd.results87 _ _ w.heap.size 108 _ _ _ rfl HR5.out Tryd.underlying108 rfl (by rw [ints_size]; exact HI64.out)) rfl ⟨rfl, ?_, ?_⟩
          · exact below_only HB.out HG5.out (by rw [HS.out]; omega) (Nat.le_refl _)
          · rw [HS5.out, HS.out]
end Go.Proofs.YtioifkbkllnkgaaDoor

/- The contract of rounds. -/
namespace Go.Proofs.YtioifkbkllnkgaaDoor
open Go.RowKit
set_option linter.unusedVariables false

/-- The table of constants lies where the program has it. -/
structure KLies (w : World) : Prop where
  seg : Seg .u32 w 2 0 kTab
  lt : 2 < w.heap.size
theorem KLies.below {w w' : World} (h : KLies w) {B : Nat} (hb : Below B w w') (hB : 2 < B) : KLies w' := ⟨h.seg.below hb hB, Nat.lt_of_lt_of_le h.lt hb.size⟩

theorem infoW : (Tryd.prog.info? 33).map (fun i => (i.zero, i.size, i.bytes)) = some (some (.int .u32 0), 1, 4) := by kernel_rfl
theorem sizeA8 : (Tryd.prog.info? 34).map (·.size) = some 8 := by kernel_rfl
theorem sizeA64 : (Tryd.prog.info? 108).map (·.size) = some 64 := by kernel_rfl
theorem run_index_ints (t : TypeId) (zs : List Int) (ht : Tryd.prog.underlying t = some (.array zs.length 33)) (i : Nat) (hi : i < zs.length) (w : World) :
    (Instr.index t (.agg (zs.map (Value.int .u32)).toArray) (.int .i64 i)).run Tryd.prog w = .ok (.int .u32 (zs.getD i 0)) w := by
  obtain ⟨i0, hi0, hz0, hz1, hz2⟩ := info_parts infoW
  simp [Instr.index, asIntOf, run_underlying ht, sizeOf, typeInfo, hi0, hz1, part, hi, List.getD]

def RoundsPost (w : World) (ws s : List Int) (e : Ending) (w' : World) : Prop :=
  e = .returned (stV (rnds ws s 64)) ∧ Below w.heap.size w w' ∧ w'.heap.size = w.heap.size + 3

set_option maxRecDepth 100000 in
set_option maxHeartbeats 2000000 in
theorem rounds_any (ws s : List Int) (w : World) (hw : ws.length = 64) (hwb : Words32 ws) (hs : s.length = 8) (hsb : Words32 s) (hK : KLies w) :
    Calls Tryd.prog 88 #[stV s, .agg (ws.map (Value.int .u32)).toArray] w (RoundsPost w ws s) := by
  have hix : ∀ (i : Nat), i < 64 → ∀ W, (Instr.index 108 (.agg (ws.map (Value.int .u32)).toArray) (.int .i64 i)).run Tryd.prog W = .ok (.int .u32 (ws.getD i 0)) W :=
    fun i hi W => run_index_ints 108 ws (by rw [hw]; exact Tryd.underlying108) i (by omega) W
  have HIX := Lib.hid hix
  have HW := Lib.hid hw
  have HWB := Lib.hid hwb
  have HK := Lib.hid hK
  have hi64 : (Tryd.prog.info? 108).map (·.size) = some ws.length := by rw [hw]; exact sizeA64
  have HI64 := Lib.hid hi64
  obtain ⟨a, b, c, d, e, f, g, z, rfl⟩ := list_8 s hs
  have HSB := Lib.hid hsb
  clear hix hw hwb hs hsb hi64 hK
  have hrow : ∀ o1 o3, Row .u32 (((w.alloc o1).alloc (.cells (ws.map (Value.int .u32)).toArray 108)).alloc o3) 108 (w.heap.size + 1) ws := fun o1 o3 => by
    have h := (Row.new (k := .u32) (w.alloc o1) 108 ws).alloc o3
    have e : (w.alloc o1).heap.size = w.heap.size + 1 := by simp
    rw [e] at h
    exact h
  have HROW := Lib.hid hrow
  clear hrow
  simp only [stV, List.map_cons, List.map_nil]
  go_enter Tryd.func88, Tryd.ntmps88
  go_wp2_with fail
  go_quiet (fail)
  go_wp2_with (refine wpList_load_ints rfl 108 (.tmp 3) rfl (w.heap.size + 1) rfl 108 .u32 ws (HROW.out _ _) 64 33 Tryd.underlying108 HI64.out ?_)
  go_loopw [5, 6, 7, 8, 9, 10, 11, 12, 34] (fun x0 x1 x2 x3 x4 x5 x6 x7 i wx => ∃ (n : Nat) (a' b' c' d' e' f' g' z' : Int), n ≤ 64 ∧ i = .int .i64 n ∧ x0 = .int .u32 a' ∧ x1 = .int .u32 b' ∧ x2 = .int .u32 c' ∧ x3 = .int .u32 d' ∧ x4 = .int .u32 e' ∧ x5 = .int .u32 f' ∧ x6 = .int .u32 g' ∧ x7 = .int .u32 z' ∧
      rnds ws [a, b, c, d, e, f, g, z] n = [a', b', c', d', e', f', g', z'] ∧ KLies wx ∧ Row .u32 wx 34 (w.heap.size + 2) [0, 0, 0, 0, 0, 0, 0, 0] ∧ Below w.heap.size w wx ∧ wx.heap.size = w.heap.size + 3) (fun _ _ _ _ _ _ _ _ i _ => 64 - (intOf i).toNat)
  case atStart =>
    have b3 : ∀ o1 o2 o3, Below w.heap.size w (((w.alloc o1).alloc o2).alloc o3) := fun o1 o2 o3 => (((Below.refl _ _).alloc (Nat.le_refl _) _).alloc (by simp) _).alloc (by simp; omega) _
    refine ⟨0, a, b, c, d, e, f, g, z, by omega, rfl, rfl, rfl, rfl, rfl, rfl, rfl, rfl, rfl, rfl, ?_, ?_, ?_, ?_⟩
    · exact HK.out.below (below_drewN (b3 _ _ _) _) HK.out.lt
    · have h : ∀ o1 o2, Row .u32 (((w.alloc o1).alloc o2).alloc (.cells (([0, 0, 0, 0, 0, 0, 0, 0] : List Int).map (Value.int .u32)).toArray 34)) 34 (w.heap.size + 2) [0, 0, 0, 0, 0, 0, 0, 0] := fun o1 o2 => by
        have h := Row.new (k := .u32) ((w.alloc o1).alloc o2) 34 [0, 0, 0, 0, 0, 0, 0, 0]
        have e : ((w.alloc o1).alloc o2).heap.size = w.heap.size + 2 := by simp
        rw [e] at h
        exact h
      exact (h _ _).drewN _
    · exact below_drewN (b3 _ _ _) _
    · simp
  case round =>
    obtain ⟨n, a', b', c', d', e', f', g', z', hn, rfl, rfl, rfl, rfl, rfl, rfl, rfl, rfl, rfl, hrn, hK, hr0, hb, hs⟩ := hrel
    have hbd : Words32 (rnds ws [a, b, c, d, e, f, g, z] n) := rnds_bd rfl HSB.out n
    rw [hrn] at hbd
    have HRN := Lib.hid hrn
    have HK2 := Lib.hid hK
    have HR0 := Lib.hid hr0
    have HB := Lib.hid hb
    have HS := Lib.hid hs
    have ba := hbd a' (by simp)
    have bd := hbd d' (by simp)
    have be := hbd e' (by simp)
    have bz := hbd z' (by simp)
    clear hrn hK hr0 hb hs hbd
    by_cases hlt : n < 64
    · have hx := HIX.out n hlt
      have hk := HK2.out.seg.cellD n (by rw [kTab_length]; exact hlt)
      have bw := word_at HWB.out n
      have bk := word_at kTab_bd n
      have hnext : rnds ws [a, b, c, d, e, f, g, z] (n + 1) = rnd [a', b', c', d', e', f', g', z'] (kTab.getD n 0) (ws.getD n 0) := by rw [← HRN.out]; rfl
      simp only [rnd] at hnext
      rw [Nat.zero_add] at hk
      generalize ws.getD n 0 = v at *
      generalize kTab.getD n 0 = kk at *
      have HN := Lib.hid hnext
      clear hnext
      have bl := lowS_bd e' f' g' z' kk v
      have bu := upS_bd a' b' c'
      have nb : (n : Int) < 64 := by omega
      go_wp2_with (first
        | (go_at_call 94; (with_reducible refine (low_any _ _ _ _ _ _ _ be.1 be.2 bz.1 bz.2 bk.1 bk.2 bw.1 bw.2).mono ?_); rintro e' w' ⟨rfl, rfl⟩)
        | (go_at_call 95; (with_reducible refine (up_any _ _ _ _ ba.1 ba.2).mono ?_); rintro e' w' ⟨rfl, rfl⟩))
      go_roundw
      case rel =>
        exact ⟨n + 1, _, _, _, _, _, _, _, _, by omega, by go_num, rfl, rfl, rfl, rfl, rfl, rfl, rfl, rfl, HN.out, HK2.out, HR0.out, HB.out, HS.out⟩
      case measure => simp [intOf]; omega
    · obtain rfl : n = 64 := by omega
      go_wp2_with (first
        | (refine wpList_store_ints rfl 34 (.tmp 4) (.tmp 72) rfl (w.heap.size + 2) .u32 [a', b', c', d', e', f', g', z'] rfl rfl 34 [0, 0, 0, 0, 0, 0, 0, 0] HR0.out sizeA8 rfl ?_
           intro w5 hr5 hg5 hs5
           have HR5 := Lib.hid hr5
           have HG5 := Lib.hid hg5
           have HS5 := Lib.hid hs5
           clear hr5 hg5 hs5))
      refine bodyPost_ret (v := stV [a', b', c', d', e', f', g', z']) (results_cell_row Tryd.results88 _ _ (w.heap.size + 2) 34 _ _ _ rfl HR5.out Tryd.underlying34 rfl sizeA8) rfl ⟨by rw [HRN.out], ?_, ?_⟩
      · exact below_only HB.out HG5.out (by rw [HS.out]; omega) (by omega)
      · rw [HS5.out, HS.out]
end Go.Proofs.YtioifkbkllnkgaaDoor

/- The contract of step. -/
namespace Go.Proofs.YtioifkbkllnkgaaDoor
open Go.RowKit
set_option linter.unusedVariables false

def StepPost (w : World) (s bs : List Int) (e : Ending) (w' : World) : Prop :=
  e = .returned (stV (stepL s bs)) ∧ Below w.heap.size w w'

set_option maxRecDepth 100000 in
set_option maxHeartbeats 2000000 in
theorem step_any (g off cap : Nat) (s bs : List Int) (w : World) (hs : s.length = 8) (hsb : Words32 s) (hl : bs.length = 64) (hb8 : Bytes8 bs) (hseg : Seg .u8 w g off bs) (hcap : 64 ≤ cap) (hg : g < w.heap.size) (hK : KLies w) :
    Calls Tryd.prog 77 #[stV s, .slice (some ⟨g, off, none⟩) 64 cap] w (StepPost w s bs) := by
  have hlen := sched_length bs
  have hwb := sched_bd hb8
  have hi64 : (Tryd.prog.info? 108).map (·.size) = some (sched bs).length := by rw [hlen]; exact sizeA64
  have hi8 : (Tryd.prog.info? 34).map (·.size) = some s.length := by rw [hs]; exact sizeA8
  have HI64 := Lib.hid hi64
  have HI8 := Lib.hid hi8
  have HL := Lib.hid hlen
  have HWB := Lib.hid hwb
  have HS := Lib.hid hs
  have HSB := Lib.hid hsb
  have HK := Lib.hid hK
  have HBS := Lib.hid (And.intro hl (And.intro hb8 hseg))
  clear hlen hwb hi64 hi8 hs hsb hK hl hb8 hseg
  have b2 : ∀ o1 o2, Below w.heap.size w ((w.alloc o1).alloc o2) := fun o1 o2 => ((Below.refl _ _).alloc (Nat.le_refl _) _).alloc (by simp) _
  have B2 := Lib.hid b2
  have r0 : ∀ o2, Row .u32 ((w.alloc (.cells (s.map (Value.int .u32)).toArray 34)).alloc o2) 34 w.heap.size s := fun o2 => (Row.new w 34 s).alloc o2
  have R0 := Lib.hid r0
  have r1 : ∀ o1, Row .u32 ((w.alloc o1).alloc (.cells (([0, 0, 0, 0, 0, 0, 0, 0] : List Int).map (Value.int .u32)).toArray 34)) 34 (w.heap.size + 1) [0, 0, 0, 0, 0, 0, 0, 0] := fun o1 => by
    have h := Row.new (k := .u32) (w.alloc o1) 34 [0, 0, 0, 0, 0, 0, 0, 0]
    have e : (w.alloc o1).heap.size = w.heap.size + 1 := by simp
    rw [e] at h
    exact h
  have R1 := Lib.hid r1
  clear b2 r0 r1
  unfold stV
  go_enter Tryd.func77, Tryd.ntmps77
  go_wp2_with fail
  refine (sched_any g off cap bs _ HBS.out.1 HBS.out.2.1 (by exact HBS.out.2.2.below (B2.out _ _) hg) hcap (by simp; omega)).mono ?_
  rintro e w1 ⟨rfl, hb1, hs1⟩
  have HB1 : Hid (Below w.heap.size w w1) := Lib.hid ((B2.out _ _).trans (hb1.mono (by simp; omega)))
  have HR1 : Hid (Row .u32 w1 34 w.heap.size s) := Lib.hid ((R0.out _).below hb1 (by simp; omega))
  have HZ1 : Hid (Row .u32 w1 34 (w.heap.size + 1) [0, 0, 0, 0, 0, 0, 0, 0]) := Lib.hid ((R1.out _).below hb1 (by simp))
  have HS1 : Hid (w1.heap.size = w.heap.size + 4) := Lib.hid (by rw [hs1]; simp)
  clear hb1 hs1
  go_wp2_with (first
    | (refine wpList_store_ints rfl 108 (.tmp 5) (.tmp 9) rfl w1.heap.size .u32 (sched bs) rfl rfl 108 (List.replicate 64 0) (Row.new w1 108 (List.replicate 64 0)) HI64.out (by rw [HL.out]; simp) ?_
       intro w2 hr2 hg2 hs2
       have HW2 := Lib.hid hr2
       have HB2 : Hid (Below w.heap.size w w2) := Lib.hid (below_only (HB1.out.alloc HB1.out.size _) hg2 (by have := HB1.out.size; simp; omega) HB1.out.size)
       have HR2 : Hid (Row .u32 w2 34 w.heap.size s) := Lib.hid ((HR1.out.alloc _).grown hg2 (by have := HR1.out.lt; simp; omega))
       have HZ2 : Hid (Row .u32 w2 34 (w.heap.size + 1) [0, 0, 0, 0, 0, 0, 0, 0]) := Lib.hid ((HZ1.out.alloc _).grown hg2 (by have := HZ1.out.lt; simp; omega))
       have HS2 : Hid (w2.heap.size = w.heap.size + 5) := Lib.hid (by rw [hs2]; simp [HS1.out])
       clear hr2 hg2 hs2)
    | (refine wpList_load_ints rfl 34 (.tmp 2) rfl w.heap.size rfl 34 .u32 s HR2.out 8 33 Tryd.underlying34 HI8.out ?_)
    | (refine wpList_load_ints rfl 108 (.tmp 5) rfl w1.heap.size rfl 108 .u32 (sched bs) HW2.out 64 33 Tryd.underlying108 HI64.out ?_))
  refine (rounds_any (sched bs) s w2 HL.out HWB.out HS.out HSB.out (HK.out.below HB2.out HK.out.lt)).mono ?_
  rintro e w3 ⟨rfl, hb3, hs3⟩
  have hxl : (rnds (sched bs) s 64).length = 8 := rnds_length HS.out 64
  have hfin : stepL s bs = addN (rnds (sched bs) s 64) s 8 := (addN_all hxl HS.out).symm
  have hxb : Words32 (rnds (sched bs) s 64) := rnds_bd HS.out HSB.out 64
  generalize rnds (sched bs) s 64 = x at *
  have HXL := Lib.hid hxl
  have HFIN := Lib.hid hfin
  have HXB := Lib.hid hxb
  have HB3 : Hid (Below w.heap.size w w3) := Lib.hid (HB2.out.trans (hb3.mono HB2.out.size))
  have HR3 : Hid (Row .u32 w3 34 w.heap.size s) := Lib.hid (HR2.out.below hb3 HR2.out.lt)
  have HZ3 : Hid (Row .u32 w3 34 (w.heap.size + 1) [0, 0, 0, 0, 0, 0, 0, 0]) := Lib.hid (HZ2.out.below hb3 HZ2.out.lt)
  have HS3 : Hid (w3.heap.size = w.heap.size + 8) := Lib.hid (by rw [hs3, HS2.out])
  have hi8x : (Tryd.prog.info? 34).map (·.size) = some x.length := by rw [hxl]; exact sizeA8
  have HI8X := Lib.hid hi8x
  clear hxl hfin hxb hb3 hs3 hi8x
  go_wp2_with (first
    | (refine wpList_store_ints rfl 34 (.tmp 6) (.tmp 12) rfl w3.heap.size .u32 x rfl rfl 34 [0, 0, 0, 0, 0, 0, 0, 0] (Row.new w3 34 [0, 0, 0, 0, 0, 0, 0, 0]) HI8X.out (by rw [HXL.out]; rfl) ?_
       intro w4 hr4 hg4 hs4
       have HX4 := Lib.hid hr4
       have HB4 : Hid (Below w.heap.size w w4) := Lib.hid (below_only (HB3.out.alloc HB3.out.size _) hg4 (by have := HB3.out.size; simp; omega) HB3.out.size)
       have HR4 : Hid (Row .u32 w4 34 w.heap.size s) := Lib.hid ((HR3.out.alloc _).grown hg4 (by have := HR3.out.lt; simp; omega))
       have HZ4 : Hid (Row .u32 w4 34 (w.heap.size + 1) [0, 0, 0, 0, 0, 0, 0, 0]) := Lib.hid ((HZ3.out.alloc _).grown hg4 (by have := HZ3.out.lt; simp; omega))
       have HS4 : Hid (w4.heap.size = w.heap.size + 9) := Lib.hid (by rw [hs4]; simp [HS3.out])
       clear hr4 hg4 hs4))
  go_loopw [13] (fun i wx => ∃ n : Nat, n ≤ 8 ∧ i = .int .i64 n ∧ Row .u32 wx 34 w3.heap.size (addN x s n) ∧ Row .u32 wx 34 w.heap.size s ∧ Row .u32 wx 34 (w.heap.size + 1) [0, 0, 0, 0, 0, 0, 0, 0] ∧ Below w.heap.size w wx) (fun i _ => 8 - (intOf i).toNat)
  case atStart => exact ⟨0, by omega, rfl, HX4.out, HR4.out, HZ4.out, HB4.out⟩
  case round =>
    obtain ⟨n, hn, rfl, hx, hr, hz, hb⟩ := hrel
    have HX := Lib.hid hx
    have HR := Lib.hid hr
    have HZ := Lib.hid hz
    have HB := Lib.hid hb
    clear hx hr hz hb
    by_cases hlt : n < 8
    · have c1 := HX.out.cellD n (by rw [addN_length, HXL.out]; exact hlt)
      have c2 := HR.out.cellD n (by rw [HS.out]; exact hlt)
      have f1 := HX.out.frozen n
      rw [addN_get x s n n (Nat.le_refl _)] at c1
      have b1 := word_at HXB.out n
      have b2 := word_at HSB.out n
      have hst : ∀ q, Row .u32 ((wr.drewN q).setCell ⟨w3.heap.size, n, none⟩ (.int .u32 ((x.getD n 0 + s.getD n 0) % 4294967296))) 34 w3.heap.size (addN x s (n + 1)) := fun q => (HX.out.drewN q).set n _
      generalize x.getD n 0 = y at *
      generalize s.getD n 0 = v at *
      have HST := Lib.hid hst
      have nb : (n : Int) < 8 := by omega
      clear hst
      go_wp2_with fail
      go_region
      go_wp2_with fail
      go_roundw
      case rel =>
        refine ⟨n + 1, by omega, by go_num, ?_, ?_, ?_, ?_⟩
        · first
            | exact HST.out _
            | exact HST.out 1
        · exact HR.out.drew.far (by have := HR4.out.lt; have := HS3.out; simp; omega) _
        · exact HZ.out.drew.far (by have := HS3.out; simp; omega) _
        · exact HB.out.drew.setCell (by have := HS3.out; simp; omega) _
      case measure => simp [intOf]; omega
    · obtain rfl : n = 8 := by omega
      have hi8y : (Tryd.prog.info? 34).map (·.size) = some (addN x s 8).length := by rw [addN_length]; exact HI8X.out
      have HI8Y := Lib.hid hi8y
      clear hi8y
      go_wp2_with (first
        | (refine wpList_load_ints rfl 34 (.tmp 6) rfl w3.heap.size rfl 34 .u32 (addN x s 8) HX.out 8 33 Tryd.underlying34 HI8Y.out ?_)
        | (refine wpList_store_ints rfl 34 (.tmp 4) (.tmp 25) rfl (w.heap.size + 1) .u32 (addN x s 8) rfl rfl 34 [0, 0, 0, 0, 0, 0, 0, 0] HZ.out HI8Y.out (by rw [addN_length, HXL.out]; rfl) ?_
           intro w5 hr5 hg5 hs5
           have HR5 := Lib.hid hr5
           have HG5 := Lib.hid hg5
           clear hr5 hg5 hs5))
      refine bodyPost_ret (v := stV (addN x s 8)) (results_cell_row Tryd.results77 _ _ (w.heap.size + 1) 34 _ _ _ rfl HR5.out Tryd.underlying34 rfl (by rw [ints_size]; exact HI8Y.out)) rfl ⟨by rw [HFIN.out], ?_⟩
      exact below_only HB.out HG5.out HB.out.size (by omega)
end Go.Proofs.YtioifkbkllnkgaaDoor

/- Contracts of First and Step. -/
namespace Go.Proofs.YtioifkbkllnkgaaDoor
open Go.RowKit
set_option linter.unusedVariables false

/-- Both tables lie where the program has them. -/
structure TabLies (w : World) : Prop where
  k : ∃ t fr, w.heap[2]? = some (.cells (kTab.map (Value.int .u32)).toArray t fr)
  h : ∃ t fr, w.heap[0]? = some (.cells (hTab.map (Value.int .u32)).toArray t fr)
theorem heap_lt {w : World} {g : Nat} {o : Obj} (h : w.heap[g]? = some o) : g < w.heap.size := by
  rcases Nat.lt_or_ge g w.heap.size with hlt | hge
  · exact hlt
  · rw [Array.getElem?_eq_none hge] at h; cases h
theorem TabLies.kl {w : World} (h : TabLies w) : KLies w := by
  obtain ⟨t, fr, hk⟩ := h.k
  refine ⟨fun i hi => ?_, heap_lt hk⟩
  rw [Nat.zero_add, cell_of_row w _ i _ t fr hk]
  simp [hi]
theorem TabLies.below {w w' : World} (h : TabLies w) {B : Nat} (hb : Below B w w') (hB : w.heap.size ≤ B) : TabLies w' := by
  obtain ⟨t, fr, hk⟩ := h.k
  obtain ⟨t', fr', hh⟩ := h.h
  exact ⟨⟨t, fr, (hb.block _ (Nat.lt_of_lt_of_le (heap_lt hk) hB)).trans hk⟩, ⟨t', fr', (hb.block _ (Nat.lt_of_lt_of_le (heap_lt hh) hB)).trans hh⟩⟩

def FirstPost (w : World) (e : Ending) (w' : World) : Prop := e = .returned (stV hTab) ∧ Below w.heap.size w w'
set_option maxRecDepth 100000 in
theorem First_any (w : World) (hT : TabLies w) : Calls Tryd.prog 58 #[] w (FirstPost w) := by
  obtain ⟨t, fr, hh⟩ := hT.h
  have HH : ∀ o, Hid ((w.alloc o).heap[0]? = some (.cells (hTab.map (Value.int .u32)).toArray t fr)) := fun o => Lib.hid ((Below.heap_alloc w o _ (heap_lt hh)).trans hh)
  clear hh hT
  go_enter Tryd.func58, Tryd.ntmps58
  go_wp2_with (first
    | (refine wpList_load_row rfl 34 (.global 0) rfl 0 rfl t _ fr _ (HH _).out Tryd.underlying34 rfl sizeA8 ?_)
    | (refine wpList_store_ints rfl 34 (.tmp 0) (.tmp 1) rfl w.heap.size .u32 hTab rfl rfl 34 [0, 0, 0, 0, 0, 0, 0, 0] (Row.new w 34 [0, 0, 0, 0, 0, 0, 0, 0]) sizeA8 rfl ?_
       intro w5 hr5 hg5 hs5
       have HR5 := Lib.hid hr5
       have HG5 := Lib.hid hg5
       clear hr5 hg5 hs5))
  refine bodyPost_ret (v := stV hTab) (results_cell_row Tryd.results58 _ _ w.heap.size 34 _ _ _ rfl HR5.out Tryd.underlying34 rfl sizeA8) rfl ⟨rfl, ?_⟩
  exact below_only ((Below.refl _ _).alloc (Nat.le_refl _) _) HG5.out (by simp) (Nat.le_refl _)
end Go.Proofs.YtioifkbkllnkgaaDoor

/- The contract of steps. -/
namespace Go.Proofs.YtioifkbkllnkgaaDoor
open Go.RowKit
set_option linter.unusedVariables false

def StepsPost (w : World) (s bs : List Int) (m : Nat) (e : Ending) (w' : World) : Prop := e = .returned (stV (stepsL s bs m)) ∧ Below w.heap.size w w'

set_option maxRecDepth 100000 in
set_option maxHeartbeats 2000000 in
theorem steps_any (a : Option Addr) (n cap m : Nat) (s bs : List Int) (w : World) (hs : s.length = 8) (hsb : Words32 s) (hin : InBytes w a n cap bs) (hm : n = 64 * m) (hK : KLies w) :
    Calls Tryd.prog 57 #[stV s, .slice a n cap] w (StepsPost w s bs m) := by
  have hmax := hin.max
  have hle := hin.le
  simp only [maxLen] at hmax
  have b2 : ∀ o1 o2, Below w.heap.size w ((w.alloc o1).alloc o2) := fun o1 o2 => ((Below.refl _ _).alloc (Nat.le_refl _) _).alloc (by simp) _
  have r0 : ∀ o2, Row .u32 ((w.alloc (.cells (s.map (Value.int .u32)).toArray 34)).alloc o2) 34 w.heap.size s := fun o2 => (Row.new w 34 s).alloc o2
  have r1 : ∀ o1, Row .u32 ((w.alloc o1).alloc (.cells (([0, 0, 0, 0, 0, 0, 0, 0] : List Int).map (Value.int .u32)).toArray 34)) 34 (w.heap.size + 1) [0, 0, 0, 0, 0, 0, 0, 0] := fun o1 => by
    have h := Row.new (k := .u32) (w.alloc o1) 34 [0, 0, 0, 0, 0, 0, 0, 0]
    have e : (w.alloc o1).heap.size = w.heap.size + 1 := by simp
    rw [e] at h
    exact h
  have B2 := Lib.hid b2
  have R0 := Lib.hid r0
  have R1 := Lib.hid r1
  have HS := Lib.hid hs
  have HSB := Lib.hid hsb
  have HIN := Lib.hid hin
  have HK := Lib.hid hK
  have HM := Lib.hid hm
  clear b2 r0 r1 hs hsb hin hK hm
  unfold stV
  go_enter Tryd.func57, Tryd.ntmps57
  go_wp2_with fail
  go_loopw [5] (fun i wx => ∃ q : Nat, q ≤ m ∧ i = .int .i64 (64 * (q : Int)) ∧ Row .u32 wx 34 w.heap.size (stepsL s bs q) ∧ Row .u32 wx 34 (w.heap.size + 1) [0, 0, 0, 0, 0, 0, 0, 0] ∧ Below w.heap.size w wx ∧ w.heap.size + 2 ≤ wx.heap.size) (fun i _ => 64 * m - (intOf i).toNat)
  case atStart => exact ⟨0, by omega, rfl, R0.out _, R1.out _, B2.out _ _, by simp⟩
  case round =>
    obtain ⟨q, hq, rfl, hr, hz, hb, hsz⟩ := hrel
    have HR := Lib.hid hr
    have HZ := Lib.hid hz
    have HB := Lib.hid hb
    clear hr hz hb
    have hn := HM.out
    by_cases hlt : q < m
    · obtain ⟨g, off, rfl, hg, hseg⟩ := HIN.out.place (by omega)
      have hl8 : (stepsL s bs q).length = 8 := stepsL_length HS.out bs q
      have hc : ∀ W, Below wr.heap.size wr W → Calls Tryd.prog 77 #[stV (stepsL s bs q), .slice (some ⟨g, off + 64 * q, none⟩) 64 (cap - 64 * q)] W (StepPost W (stepsL s bs q) ((bs.drop (64 * q)).take 64)) := fun W hW => by
        have hbW : Below w.heap.size w W := HB.out.trans (hW.mono HB.out.size)
        refine step_any g (off + 64 * q) (cap - 64 * q) _ _ W hl8 (stepsL_bd HSB.out bs q) ?_ ?_ ?_ (by omega) (Nat.lt_of_lt_of_le hg hbW.size) (HK.out.below hbW HK.out.lt)
        · have := HIN.out.len
          simp; omega
        · exact fun z hz => HIN.out.bytes z (List.mem_of_mem_drop (List.mem_of_mem_take hz))
        · exact ((hseg.below hbW hg).drop (64 * q)).take 64
      obtain ⟨y0, y1, y2, y3, y4, y5, y6, y7, hy⟩ := list_8 (stepL (stepsL s bs q) ((bs.drop (64 * q)).take 64)) (stepL_length hl8 _)
      have hnx : stepsL s bs (q + 1) = [y0, y1, y2, y3, y4, y5, y6, y7] := hy
      obtain ⟨x0, x1, x2, x3, x4, x5, x6, x7, hx⟩ := list_8 (stepsL s bs q) hl8
      have hc2 : ∀ W, Below wr.heap.size wr W → Calls Tryd.prog 77 #[.agg #[.int .u32 x0, .int .u32 x1, .int .u32 x2, .int .u32 x3, .int .u32 x4, .int .u32 x5, .int .u32 x6, .int .u32 x7], .slice (some ⟨g, off + 64 * q, none⟩) 64 (cap - 64 * q)] W (fun e w' => e = .returned (.agg #[.int .u32 y0, .int .u32 y1, .int .u32 y2, .int .u32 y3, .int .u32 y4, .int .u32 y5, .int .u32 y6, .int .u32 y7]) ∧ Below W.heap.size W w') := fun W hW => by
        have h := hc W hW
        unfold StepPost at h
        rw [hy, hx] at h
        exact h
      have hr := HR.out
      rw [hx] at hr
      have HC := Lib.hid hc2
      have HNX := Lib.hid hnx
      have HR2 := Lib.hid hr
      have c0 := hr.cell 0 (by simp)
      have c1 := hr.cell 1 (by simp)
      have c2 := hr.cell 2 (by simp)
      have c3 := hr.cell 3 (by simp)
      have c4 := hr.cell 4 (by simp)
      have c5 := hr.cell 5 (by simp)
      have c6 := hr.cell 6 (by simp)
      have c7 := hr.cell 7 (by simp)
      simp only [List.getElem_cons_zero, List.getElem_cons_succ] at c0 c1 c2 c3 c4 c5 c6 c7
      have k1 : 64 * (q : Int) < (n : Int) := by omega
      have k2 : (64 * (q : Int) + 64).toNat = 64 * q + 64 := by omega
      have k3 : IntKind.i64.wrap (64 * (q : Int) + 64) = 64 * (q : Int) + 64 := IntWalk.i64_in _ (by omega)
      have k4 : (0 : Int) ≤ 64 * (q : Int) := by omega
      have k5 : 64 * (q : Int) + 64 ≤ (cap : Int) := by omega
      have k6 : (64 * (q : Int)).toNat = 64 * q := by omega
      have k8 : ¬ cap = 64 * q := by omega
      have k7 : 64 * (q : Int) ≤ 64 * (q : Int) + 64 := by omega
      clear hl8 hc hn hseg hy hnx hx hc2 hr
      go_wp2_with fail
      go_region_with (go_at_call 77; (with_reducible refine (HC.out _ (Below.refl _ _).drew).mono ?_); rintro _ w3 ⟨rfl, hb3⟩; have HR3 : Hid (Row .u32 w3 34 w.heap.size [x0, x1, x2, x3, x4, x5, x6, x7]) := Lib.hid (HR2.out.drew.below hb3 HR2.out.lt); have HZ3 : Hid (Row .u32 w3 34 (w.heap.size + 1) [0, 0, 0, 0, 0, 0, 0, 0]) := Lib.hid (HZ.out.drew.below hb3 HZ.out.lt); have hcc := fun o => hb3.cell (p := ⟨w.heap.size, o, none⟩) HR2.out.lt; have hff := fun o => HR3.out.frozen o; have HB3 : Hid (Below w.heap.size w w3) := Lib.hid (HB.out.drew.trans (hb3.mono HB.out.size)); clear hb3)
      clear k1 k2 k3 k4 k5 k6 k7 k8 hcc hff c0 c1 c2 c3 c4 c5 c6 c7
      have hn := HM.out
      have k9 : 64 * (q : Int) + 64 ≤ 9223372036854775807 := by omega
      clear hn
      go_wp2_with fail
      go_roundw
      case rel =>
        have hlt2 := HR2.out.lt
        refine ⟨q + 1, by omega, by congr 1, ?_, ?_, ?_, ?_⟩
        · rw [HNX.out]
          exact ((((((((HR3.out.set 0 y0).set 1 y1).set 2 y2).set 3 y3).set 4 y4).set 5 y5).set 6 y6).set 7 y7)
        · exact ((((((((HZ3.out.far (by simp) _).far (by simp) _).far (by simp) _).far (by simp) _).far (by simp) _).far (by simp) _).far (by simp) _).far (by simp) _)
        · exact ((((((((HB3.out.setCell (Nat.le_refl _) _).setCell (Nat.le_refl _) _).setCell (Nat.le_refl _) _).setCell (Nat.le_refl _) _).setCell (Nat.le_refl _) _).setCell (Nat.le_refl _) _).setCell (Nat.le_refl _) _).setCell (Nat.le_refl _) _)
        · have := HZ3.out.lt
          simp [World.setCell]; omega
      case measure => simp [intOf]; omega
    · obtain rfl : q = m := by omega
      have hi8 : (Tryd.prog.info? 34).map (·.size) = some (stepsL s bs q).length := by rw [stepsL_length HS.out]; exact sizeA8
      have HI8 := Lib.hid hi8
      have k1 : ¬ 64 * (q : Int) < (n : Int) := by omega
      clear hi8 hn
      go_wp2_with (first
        | (refine wpList_load_ints rfl 34 (.tmp 2) rfl w.heap.size rfl 34 .u32 (stepsL s bs q) HR.out 8 33 Tryd.underlying34 HI8.out ?_)
        | (refine wpList_store_ints rfl 34 (.tmp 4) (.tmp 19) rfl (w.heap.size + 1) .u32 (stepsL s bs q) rfl rfl 34 [0, 0, 0, 0, 0, 0, 0, 0] HZ.out HI8.out (by rw [stepsL_length HS.out]; rfl) ?_
           intro w5 hr5 hg5 hs5
           have HR5 := Lib.hid hr5
           have HG5 := Lib.hid hg5
           clear hr5 hg5 hs5))
      refine bodyPost_ret (v := stV (stepsL s bs q)) (results_cell_row Tryd.results57 _ _ (w.heap.size + 1) 34 _ _ _ rfl HR5.out Tryd.underlying34 rfl (by rw [ints_size]; exact HI8.out)) rfl ⟨rfl, ?_⟩
      exact below_only HB.out HG5.out HB.out.size (by omega)
end Go.Proofs.YtioifkbkllnkgaaDoor

/- Contracts of withTail and stateBytes. -/
namespace Go.Proofs.YtioifkbkllnkgaaDoor
open Go.RowKit
set_option linter.unusedVariables false

def WithTailPost (w : World) (r : List Int) (n : Nat) (e : Ending) (w' : World) : Prop :=
  ∃ g cap, e = .returned (.slice (some ⟨g, 0, none⟩) (r.length + (nils n + 9)) cap) ∧ w'.ownsRow w.heap.size 5 1 (.slice (some ⟨g, 0, none⟩) (r.length + (nils n + 9)) cap) (r.length + (nils n + 9)) ((r ++ tailL n).map (Value.int .u8)) ∧ Below w.heap.size w w'

set_option maxRecDepth 100000 in
set_option maxHeartbeats 1000000 in
theorem withTail_any (a : Option Addr) (k cap n : Nat) (r : List Int) (w : World) (hin : InBytes w a k cap r) (hk : k < 64) (hn : (n : Int) ≤ 1125899906842624) :
    Calls Tryd.prog 59 #[.slice a k cap, .int .i64 n] w (WithTailPost w r n) := by
  obtain ⟨i0, hi0, hz0, hz1, hz2⟩ := info_parts infoU8
  have hnl := nils_lt n
  have hlen := tailL_length n
  have hrl := hin.len
  have HIN := Lib.hid hin
  have HLEN := Lib.hid hlen
  have HRL := Lib.hid hrl
  clear hin hlen hrl
  go_enter Tryd.func59, Tryd.ntmps59
  go_wp2_with (first
    | (at_make
       refine wpList_make_own _ rfl (.const (.int .i64 0)) (.const (.int .i64 128)) 22 rfl w.heap.size 5 i0 _ 1 Tryd.underlying22 hi0 hz0 hz1 .i64 .i64 _ 128 rfl rfl rfl (by rw [hz2]; omega) (by simp only [maxLen]; omega) (Nat.le_refl _) ?_
       intro w1 hown1 hg1
       have HO1 := Lib.hid hown1
       have HB1 : Hid (Below w.heap.size w w1) := Lib.hid ((Below.refl _ _).grown hg1 (Nat.le_refl _) (by simp))
       clear hown1 hg1)
    | (at_builtin
       refine wpList_append_bytes _ rfl (.tmp 7) (.tmp 8) 22 rfl w.heap.size 5 i0 _ 1 Tryd.underlying22 hi0 hz0 hz1 hz2 rfl (.slice (some ⟨w.heap.size, 0, none⟩) 0 128) 0 [] rfl HO1.out a k cap r rfl (HIN.out.below HB1.out) (by simp only [maxLen]; omega) (by omega) HB1.out.size ?_
       intro v2 w2 hown2 hg2
       have HO2 := Lib.hid hown2
       have HB2 : Hid (Below w.heap.size w w2) := Lib.hid (HB1.out.grown hg2 HB1.out.size (fun j hj => (HO1.out.lt j hj).1))
       clear hown2 hg2)
    | (go_at_call 78
       (with_reducible refine (tail_any n _ hn).mono ?_)
       rintro e w3 ⟨rfl, hr3, hb3, hs3⟩
       have HO3 : Hid (w3.ownsRow w.heap.size 5 1 v2 (0 + k) ([] ++ r.map (Value.int .u8))) := Lib.hid (HO2.out.kept (only_below hb3 none) (by cases v2.ownBlock <;> simp))
       have HB3 : Hid (Below w.heap.size w w3) := Lib.hid (HB2.out.trans (hb3.mono HB2.out.size))
       have HR3 := Lib.hid hr3
       clear hr3 hb3 hs3)
    | (at_builtin
       refine wpList_append_own _ rfl (.tmp 10) (.tmp 12) 22 rfl w.heap.size 5 i0 _ 1 1 Tryd.underlying22 hi0 hz0 hz1 hz2 rfl (by omega) v2 (0 + k) ([] ++ r.map (Value.int .u8)) rfl HO3.out ⟨w2.heap.size, 0, none⟩ (nils n + 9) (nils n + 9) ((tailL n).map (Value.int .u8)) rfl (by simp [HLEN.out]) (by exact HR3.out.seg.news) (by simp [Value.oneCell']) (by simp only [maxLen]; omega) (by omega) HB3.out.size ?_
       intro v4 w4 hown4 hg4 hat4
       obtain ⟨g4, cap4, hv4, hgg4, hlt4⟩ := hown4.form (by omega)
       rw [hv4]
       rw [hv4] at hown4
       have HO4 := Lib.hid hown4
       have HB4 : Hid (Below w.heap.size w w4) := Lib.hid (HB3.out.grown hg4 HB3.out.size (fun j hj => (HO3.out.lt j hj).1))
       clear hown4 hg4 hat4 hv4))
  go_ret
  refine ⟨g4, cap4, ?_, ?_, HB4.out⟩
  · rw [HRL.out]; simp
  · have h := HO4.out
    rw [List.nil_append, Nat.zero_add, ← List.map_append, ← HRL.out] at h
    exact h
end Go.Proofs.YtioifkbkllnkgaaDoor

/- The contract of stateBytes. -/
namespace Go.Proofs.YtioifkbkllnkgaaDoor
open Go.RowKit
set_option linter.unusedVariables false

theorem putB_be4 (pre : List Int) (k : Nat) (x : Int) : putB (pre ++ List.replicate (k + 4) 0) pre.length 4 x 4 = (pre ++ be4 x) ++ List.replicate k 0 := by
  rw [putB_append, List.append_assoc]
  congr 1
  simp [putB, be4, List.replicate_succ]
theorem bytesL_take (s : List Int) (i : Nat) (h : i < s.length) : bytesL (s.take (i + 1)) = bytesL (s.take i) ++ be4 (s.getD i 0) := by
  rw [List.take_succ_eq_append_getElem h]
  simp only [bytesL, List.flatMap_append, List.flatMap_cons, List.flatMap_nil, List.append_nil]
  simp [List.getD, h]
theorem bytesL_length (s : List Int) : (bytesL s).length = 4 * s.length := by
  induction s with
  | nil => rfl
  | cons a r ih => simp only [bytesL, List.flatMap_cons, List.length_append, List.length_cons] at ih ⊢; rw [ih]; simp [be4]; omega

def StateBytesPost (w : World) (s : List Int) (e : Ending) (w' : World) : Prop :=
  e = .returned (.slice (some ⟨w.heap.size + 1, 0, none⟩) 32 32) ∧ Row .u8 w' 5 (w.heap.size + 1) (bytesL s) ∧ Below w.heap.size w w'

set_option maxRecDepth 100000 in
set_option maxHeartbeats 1000000 in
theorem stateBytes_any (s : List Int) (w : World) (hs : s.length = 8) (hsb : Words32 s) :
    Calls Tryd.prog 60 #[stV s] w (StateBytesPost w s) := by
  obtain ⟨i0, hi0, hz0, hz1, hz2⟩ := info_parts infoU8
  have hix : ∀ (i : Nat), i < 8 → ∀ W, (Instr.index 34 (.agg (s.map (Value.int .u32)).toArray) (.int .i64 i)).run Tryd.prog W = .ok (.int .u32 (s.getD i 0)) W :=
    fun i hi W => run_index_ints 34 s (by rw [hs]; exact Tryd.underlying34) i (by omega) W
  have hi8 : (Tryd.prog.info? 34).map (·.size) = some s.length := by rw [hs]; exact sizeA8
  have HI8 := Lib.hid hi8
  have HIX := Lib.hid hix
  have HS := Lib.hid hs
  have HSB := Lib.hid hsb
  clear hix hi8 hs hsb
  unfold stV
  go_enter Tryd.func60, Tryd.ntmps60
  go_wp2_with (first
    | (at_make
       refine wpList_make_ints _ rfl (.const (.int .i64 32)) (.const (.int .i64 32)) 22 rfl 5 i0 .u8 Tryd.underlying22 hi0 hz0 hz1 .i64 .i64 _ _ 32 rfl rfl (by omega) (by omega) (by rw [hz2]; omega) (by simp only [maxLen]; omega) ?_
       intro w1 hr1 hb1 hs1
       have HR1 : Hid (Row .u8 w1 5 (w.heap.size + 1) (List.replicate 32 0)) := Lib.hid (by have h := hr1; simp only [World.size_alloc] at h; exact h)
       have HV1 : Hid (Row .u32 w1 34 w.heap.size s) := Lib.hid ((Row.new w 34 s).below hb1 (by simp))
       have HB1 : Hid (Below w.heap.size w w1) := Lib.hid (((Below.refl _ _).alloc (Nat.le_refl _) _).trans (hb1.mono (by simp)))
       clear hr1 hb1 hs1)
    | (refine wpList_load_ints rfl 34 (.tmp 1) rfl w.heap.size rfl 34 .u32 s HV1.out 8 33 Tryd.underlying34 HI8.out ?_))
  go_loopw [8] (fun i wx => ∃ n : Nat, n ≤ 8 ∧ i = .int .i64 n ∧ Row .u8 wx 5 (w.heap.size + 1) (bytesL (s.take n) ++ List.replicate (32 - 4 * n) 0) ∧ Below w.heap.size w wx) (fun i _ => 8 - (intOf i).toNat)
  case atStart => exact ⟨0, by omega, rfl, HR1.out, HB1.out⟩
  case round =>
    obtain ⟨n, hn, rfl, hr, hb⟩ := hrel
    have HR := Lib.hid hr
    have HB := Lib.hid hb
    clear hr hb
    by_cases hlt : n < 8
    · have hx := HIX.out n hlt
      have bx := word_at HSB.out n
      have hnx := bytesL_take s n (by rw [HS.out]; exact hlt)
      generalize s.getD n 0 = x at *
      have HNX := Lib.hid hnx
      clear hnx
      have hpl : (bytesL (s.take n)).length = 4 * n := by rw [bytesL_length, List.length_take, HS.out]; omega
      have hput := putB_be4 (bytesL (s.take n)) (28 - 4 * n) x
      rw [hpl, show 28 - 4 * n + 4 = 32 - 4 * n by omega] at hput
      have HPUT := Lib.hid hput
      have HPL := Lib.hid hpl
      clear hput hpl
      go_wp2_with fail
      rw [show 4 * (n + 1) - 4 * n = 4 by omega]
      refine (putBig_any (w.heap.size + 1) (4 * n) 4 (32 - 4 * n) _ x wr HR.out (by rw [List.length_append, HPL.out, List.length_replicate]; omega) (by omega) bx.1 (by omega)).mono ?_
      rintro e w2 ⟨rfl, hr2, hs2, hg2⟩
      rw [HPUT.out, ← HNX.out] at hr2
      have HR2 := Lib.hid hr2
      have HB2 : Hid (Below w.heap.size w w2) := Lib.hid (below_only HB.out hg2 HB.out.size (by omega))
      clear hr2 hs2 hg2
      go_wp2_with fail
      go_roundw
      case rel => exact ⟨n + 1, by omega, by go_num, by rw [show 32 - 4 * (n + 1) = 28 - 4 * n by omega]; exact HR2.out, HB2.out⟩
      case measure => simp [intOf]; omega
    · obtain rfl : n = 8 := by omega
      have hfin : bytesL (s.take 8) ++ List.replicate (32 - 4 * 8) 0 = bytesL s := by
        rw [List.take_of_length_le (by rw [HS.out]; omega)]
        simp
      have hr := HR.out
      rw [hfin] at hr
      have HR2 := Lib.hid hr
      clear hr hfin
      go_wp2_with fail
      go_ret
      exact ⟨rfl, HR2.out, HB.out⟩
end Go.Proofs.YtioifkbkllnkgaaDoor

/- The contract of Sum. -/
namespace Go.Proofs.YtioifkbkllnkgaaDoor
open Go.RowKit
set_option linter.unusedVariables false

def SumPost (w : World) (bs : List Int) (e : Ending) (w' : World) : Prop :=
  ∃ g, w.heap.size ≤ g ∧ e = .returned (.slice (some ⟨g, 0, none⟩) 32 32) ∧ Row .u8 w' 5 g (sumL bs) ∧ Below w.heap.size w w'

set_option maxRecDepth 100000 in
set_option maxHeartbeats 2000000 in
theorem Sum_any (a : Option Addr) (n cap : Nat) (bs : List Int) (w : World) (hin : InBytes w a n cap bs) (hn : (n : Int) ≤ 1125899906842624) (hT : TabLies w) :
    Calls Tryd.prog 36 #[.slice a n cap] w (SumPost w bs) := by
  obtain ⟨m, r, hr, hnm⟩ : ∃ m r, r < 64 ∧ n = 64 * m + r := ⟨n / 64, n % 64, by omega, by omega⟩
  have hle := hin.le
  have hmax := hin.max
  simp only [maxLen] at hmax
  have hwh : (n : Int) - (n : Int) % 64 = 64 * (m : Int) := by omega
  have HIN := Lib.hid hin
  have HT := Lib.hid hT
  have HNM := Lib.hid hnm
  have k1 : (64 * (m : Int)).toNat = 64 * m := by omega
  have k2 : (0 : Int) ≤ 64 * (m : Int) := by omega
  have k3 : 64 * (m : Int) ≤ (cap : Int) := by omega
  have k4 : 64 * (m : Int) ≤ (n : Int) := by omega
  clear hin hT hnm
  go_enter Tryd.func36, Tryd.ntmps36
  go_upto_region 2 with fail
  have hstep : ∀ W, Below w.heap.size w W → Calls Tryd.prog 57 #[stV hTab, .slice a (64 * m) cap] W (StepsPost W hTab (bs.take (64 * m)) m) := fun W hW =>
    steps_any a (64 * m) cap m hTab _ W rfl hTab_bd ((HIN.out.below hW).upto (64 * m) (by have := HNM.out; omega)) rfl (HT.out.below hW (Nat.le_refl _)).kl
  have hfirst : ∀ W, Below w.heap.size w W → Calls Tryd.prog 58 #[] W (FirstPost W) := fun W hW => First_any W (HT.out.below hW (Nat.le_refl _))
  obtain ⟨y0, y1, y2, y3, y4, y5, y6, y7, hy⟩ := list_8 (stepsL hTab (bs.take (64 * m)) m) (stepsL_length rfl _ m)
  have hstep2 : ∀ W, Below w.heap.size w W → Calls Tryd.prog 57 #[stV hTab, .slice a (64 * m) cap] W (fun e w' => e = .returned (.agg #[.int .u32 y0, .int .u32 y1, .int .u32 y2, .int .u32 y3, .int .u32 y4, .int .u32 y5, .int .u32 y6, .int .u32 y7]) ∧ Below W.heap.size W w') := fun W hW => by
    have h := hstep W hW
    unfold StepsPost at h
    rw [hy] at h
    exact h
  have HSTEP := Lib.hid hstep2
  have HFIRST := Lib.hid hfirst
  have HY := Lib.hid hy
  clear hstep hstep2 hfirst hy
  go_cut [4] (fun s4 wx => ∃ g : Nat, s4 = .pointer (some ⟨g, 0, none⟩) ∧ w.heap.size ≤ g ∧ Row .u32 wx 34 g [y0, y1, y2, y3, y4, y5, y6, y7] ∧ Below w.heap.size w wx)
  case first =>
    go_region_with (first
      | (go_at_call 58
         (with_reducible refine (HFIRST.out _ ?_).mono ?_)
         · exact (Below.refl _ _).drew
         rintro _ w1 ⟨rfl, hb1⟩
         have HW1 : Hid (Below w.heap.size w w1) := Lib.hid ((Below.refl _ _).drew.trans (hb1.mono (Nat.le_refl _)))
         clear hb1)
      | (go_at_call 58
         (with_reducible refine (HFIRST.out _ ?_).mono ?_)
         · exact ((Below.refl _ _).alloc (Nat.le_refl _) _).drew
         rintro _ w1 ⟨rfl, hb1⟩
         have HW1 : Hid (Below w.heap.size w w1) := Lib.hid (((Below.refl _ _).alloc (Nat.le_refl _) _).drew.trans (hb1.mono (by simp)))
         have HZ1 : Hid (Row .u32 w1 34 w.heap.size [0, 0, 0, 0, 0, 0, 0, 0]) := Lib.hid ((Row.new w 34 [0, 0, 0, 0, 0, 0, 0, 0]).drew.below hb1 (by simp))
         clear hb1)
      | (go_at_call 58
         (with_reducible refine (HFIRST.out _ ?_).mono ?_)
         · exact ((Below.refl _ _).drew.alloc (Nat.le_refl _) _)
         rintro _ w1 ⟨rfl, hb1⟩
         have HW1 : Hid (Below w.heap.size w w1) := Lib.hid (((Below.refl _ _).drew.alloc (Nat.le_refl _) _).trans (hb1.mono (by simp)))
         have HZ1 : Hid (Row .u32 w1 34 w.heap.size [0, 0, 0, 0, 0, 0, 0, 0]) := Lib.hid ((Row.new w.drew 34 [0, 0, 0, 0, 0, 0, 0, 0]).below hb1 (by simp))
         clear hb1)
      | (go_at_call 57
         (with_reducible refine (HSTEP.out _ ?_).mono ?_)
         · exact HW1.out
         rintro _ w2 ⟨rfl, hb2⟩
         have HW2 : Hid (Below w.heap.size w w2) := Lib.hid (HW1.out.trans (hb2.mono HW1.out.size))
         have HZ2 : Hid (Row .u32 w2 34 w.heap.size [0, 0, 0, 0, 0, 0, 0, 0]) := Lib.hid (HZ1.out.below hb2 HZ1.out.lt)
         have q0 := HZ2.out.cell 0 (by simp)
         have q1 := HZ2.out.cell 1 (by simp)
         have q2 := HZ2.out.cell 2 (by simp)
         have q3 := HZ2.out.cell 3 (by simp)
         have q4 := HZ2.out.cell 4 (by simp)
         have q5 := HZ2.out.cell 5 (by simp)
         have q6 := HZ2.out.cell 6 (by simp)
         have q7 := HZ2.out.cell 7 (by simp)
         simp only [List.getElem_cons_zero, List.getElem_cons_succ] at q0 q1 q2 q3 q4 q5 q6 q7
         have qf := fun o => HZ2.out.frozen o
         clear hb2)
      | (go_at_call 57
         (with_reducible refine (HSTEP.out _ ?_).mono ?_)
         · exact HW1.out.alloc HW1.out.size _
         rintro _ w2 ⟨rfl, hb2⟩
         have HW2 : Hid (Below w.heap.size w w2) := Lib.hid ((HW1.out.alloc HW1.out.size _).trans (hb2.mono (by have := HW1.out.size; simp; omega)))
         have HZ2 : Hid (Row .u32 w2 34 w1.heap.size [0, 0, 0, 0, 0, 0, 0, 0]) := Lib.hid ((Row.new w1 34 [0, 0, 0, 0, 0, 0, 0, 0]).below hb2 (by simp))
         have q0 := HZ2.out.cell 0 (by simp)
         have q1 := HZ2.out.cell 1 (by simp)
         have q2 := HZ2.out.cell 2 (by simp)
         have q3 := HZ2.out.cell 3 (by simp)
         have q4 := HZ2.out.cell 4 (by simp)
         have q5 := HZ2.out.cell 5 (by simp)
         have q6 := HZ2.out.cell 6 (by simp)
         have q7 := HZ2.out.cell 7 (by simp)
         simp only [List.getElem_cons_zero, List.getElem_cons_succ] at q0 q1 q2 q3 q4 q5 q6 q7
         have qf := fun o => HZ2.out.frozen o
         clear hb2)
      | (go_at_call 57
         (with_reducible refine (HSTEP.out _ ?_).mono ?_)
         · exact HW1.out
         rintro _ w2 ⟨rfl, hb2⟩
         have HW2 : Hid (Below w.heap.size w w2) := Lib.hid (HW1.out.trans (hb2.mono HW1.out.size))
         clear hb2))
    · go_wp2_with fail
      go_meet
      exact ⟨w2.heap.size, rfl, HW2.out.size, Row.new w2 34 [y0, y1, y2, y3, y4, y5, y6, y7], HW2.out.alloc HW2.out.size _⟩
    · go_wp2_with fail
      go_meet
      exact ⟨w1.heap.size, rfl, HW1.out.size, ((((((((HZ2.out.set 0 y0).set 1 y1).set 2 y2).set 3 y3).set 4 y4).set 5 y5).set 6 y6).set 7 y7), ((((((((HW2.out.setCell HW1.out.size _).setCell HW1.out.size _).setCell HW1.out.size _).setCell HW1.out.size _).setCell HW1.out.size _).setCell HW1.out.size _).setCell HW1.out.size _).setCell HW1.out.size _)⟩
    · go_wp2_with fail
      go_meet
      exact ⟨w.heap.size, rfl, Nat.le_refl _, ((((((((HZ2.out.set 0 y0).set 1 y1).set 2 y2).set 3 y3).set 4 y4).set 5 y5).set 6 y6).set 7 y7), ((((((((HW2.out.setCell (Nat.le_refl _) _).setCell (Nat.le_refl _) _).setCell (Nat.le_refl _) _).setCell (Nat.le_refl _) _).setCell (Nat.le_refl _) _).setCell (Nat.le_refl _) _).setCell (Nat.le_refl _) _).setCell (Nat.le_refl _) _)⟩
  case rest =>
    obtain ⟨gv, rfl, hgv, hrv, hbv⟩ := hcut
    have HRV := Lib.hid hrv
    have HBV := Lib.hid hbv
    clear hrv hbv HSTEP HFIRST
    go_upto_region 3 with fail
    have hn2 := HNM.out
    obtain ⟨qn, hq1, hq2, hq3, hq4⟩ := whole_blocks n m r hr hn2
    obtain ⟨a2, hif⟩ : ∃ a2, (if cap = 64 * m then a else a.map (fun x => x.add (64 * m))) = a2 := ⟨_, rfl⟩
    have hwt : ∀ W, Below wc.heap.size wc W → Calls Tryd.prog 59 #[.slice a2 (n - 64 * m) (cap - 64 * m), .int .i64 n] W (WithTailPost W (bs.drop (64 * m)) n) := fun W hW => by
      rw [← hif]
      exact withTail_any _ (n - 64 * m) (cap - 64 * m) n (bs.drop (64 * m)) W ((HIN.out.below (HBV.out.trans (hW.mono HBV.out.size))).behind (64 * m) (by omega)) (by omega) hn
    have hrl : (bs.drop (64 * m)).length = r := by rw [List.length_drop, HIN.out.len]; omega
    obtain ⟨z0, z1, z2, z3, z4, z5, z6, z7, hz⟩ := list_8 (stepsL [y0, y1, y2, y3, y4, y5, y6, y7] (bs.drop (64 * m) ++ tailL n) qn) (stepsL_length rfl _ qn)
    have hyb : Words32 [y0, y1, y2, y3, y4, y5, y6, y7] := by
      rw [← HY.out]
      exact stepsL_bd hTab_bd _ _
    have hst : ∀ W g4 cap4, Below wc.heap.size wc W → W.ownsRow wc.heap.size 5 1 (.slice (some ⟨g4, 0, none⟩) (r + (nils n + 9)) cap4) (r + (nils n + 9)) ((bs.drop (64 * m) ++ tailL n).map (Value.int .u8)) →
        Calls Tryd.prog 57 #[.agg #[.int .u32 y0, .int .u32 y1, .int .u32 y2, .int .u32 y3, .int .u32 y4, .int .u32 y5, .int .u32 y6, .int .u32 y7], .slice (some ⟨g4, 0, none⟩) (r + (nils n + 9)) cap4] W
          (fun e w' => e = .returned (.agg #[.int .u32 z0, .int .u32 z1, .int .u32 z2, .int .u32 z3, .int .u32 z4, .int .u32 z5, .int .u32 z6, .int .u32 z7]) ∧ Below W.heap.size W w') := fun W g4 cap4 hW ho => by
      have hbW : Below w.heap.size w W := HBV.out.trans (hW.mono HBV.out.size)
      have h := steps_any (some ⟨g4, 0, none⟩) (r + (nils n + 9)) cap4 qn [y0, y1, y2, y3, y4, y5, y6, y7] (bs.drop (64 * m) ++ tailL n) W rfl hyb (InBytes.of_own ho (app_bytes (fun z h => HIN.out.bytes z (List.mem_of_mem_drop h)) (tailL_bytes n))) hq3 (HT.out.below hbW (Nat.le_refl _)).kl
      unfold StepsPost at h
      rw [hz] at h
      exact h
    have hfin : sumL bs = bytesL [z0, z1, z2, z3, z4, z5, z6, z7] := by
      rw [← hz, sumL_parts bs m qn r hr (by rw [HIN.out.len]; exact hn2) (by rw [HIN.out.len]; exact hq4), HIN.out.len, HY.out]
    have hzb : Words32 [z0, z1, z2, z3, z4, z5, z6, z7] := by
      rw [← hz]
      exact stepsL_bd hyb _ _
    have HWT := Lib.hid hwt
    have HST := Lib.hid hst
    have HFIN := Lib.hid hfin
    have HZB := Lib.hid hzb
    have HRL := Lib.hid hrl
    have p0 := HRV.out.cell 0 (by simp)
    have p1 := HRV.out.cell 1 (by simp)
    have p2 := HRV.out.cell 2 (by simp)
    have p3 := HRV.out.cell 3 (by simp)
    have p4 := HRV.out.cell 4 (by simp)
    have p5 := HRV.out.cell 5 (by simp)
    have p6 := HRV.out.cell 6 (by simp)
    have p7 := HRV.out.cell 7 (by simp)
    simp only [List.getElem_cons_zero, List.getElem_cons_succ] at p0 p1 p2 p3 p4 p5 p6 p7
    have k5 : 64 * m ≤ n := by omega
    clear hwt hst hfin hzb hyb hrl hz hn2 hq1 hq2 hq3 hq4
    go_cut [4] (fun s4 wx => s4 = .pointer (some ⟨gv, 0, none⟩) ∧ Row .u32 wx 34 gv [z0, z1, z2, z3, z4, z5, z6, z7] ∧ Below w.heap.size w wx)
    case first =>
      go_region_with (first
        | (go_at_call 59
           (with_reducible refine (HWT.out _ ?_).mono ?_)
           · exact (Below.refl _ _).drew
           rintro _ w3 ⟨g4, cap4, rfl, ho4, hb3⟩
           rw [HRL.out] at ho4
           rw [HRL.out]
           have HO4 := Lib.hid ho4
           have HRX : Hid (Row .u32 w3 34 gv [y0, y1, y2, y3, y4, y5, y6, y7]) := Lib.hid (HRV.out.drew.below hb3 HRV.out.lt)
           have HW3 : Hid (Below wc.heap.size wc w3) := Lib.hid ((Below.refl _ _).drew.trans (hb3.mono (Nat.le_refl _)))
           have q0 := HRX.out.cell 0 (by simp); have q1 := HRX.out.cell 1 (by simp); have q2 := HRX.out.cell 2 (by simp); have q3 := HRX.out.cell 3 (by simp); have q4 := HRX.out.cell 4 (by simp); have q5 := HRX.out.cell 5 (by simp); have q6 := HRX.out.cell 6 (by simp); have q7 := HRX.out.cell 7 (by simp)
           simp only [List.getElem_cons_zero, List.getElem_cons_succ] at q0 q1 q2 q3 q4 q5 q6 q7
           clear ho4 hb3)
        | (go_at_call 57
           (with_reducible refine (HST.out _ _ _ ?_ ?_).mono ?_)
           · exact HW3.out
           · exact HO4.out
           rintro _ w4 ⟨rfl, hb4⟩
           have HR4 : Hid (Row .u32 w4 34 gv [y0, y1, y2, y3, y4, y5, y6, y7]) := Lib.hid (HRX.out.below hb4 HRX.out.lt)
           have HW4 : Hid (Below w.heap.size w w4) := Lib.hid ((HBV.out.trans (HW3.out.mono HBV.out.size)).trans (hb4.mono (Nat.le_trans HBV.out.size HW3.out.size)))
           have t0 := HR4.out.cell 0 (by simp)
           have t1 := HR4.out.cell 1 (by simp)
           have t2 := HR4.out.cell 2 (by simp)
           have t3 := HR4.out.cell 3 (by simp)
           have t4 := HR4.out.cell 4 (by simp)
           have t5 := HR4.out.cell 5 (by simp)
           have t6 := HR4.out.cell 6 (by simp)
           have t7 := HR4.out.cell 7 (by simp)
           have tf := fun o => HR4.out.frozen o
           clear hb4))
      all_goals
        go_wp2_with fail
        go_meet
        exact ⟨rfl, ((((((((HR4.out.set 0 z0).set 1 z1).set 2 z2).set 3 z3).set 4 z4).set 5 z5).set 6 z6).set 7 z7), ((((((((HW4.out.setCell hgv _).setCell hgv _).setCell hgv _).setCell hgv _).setCell hgv _).setCell hgv _).setCell hgv _).setCell hgv _)⟩
    case rest =>
      obtain ⟨rfl, hrz, hbz⟩ := hcut
      have HRZ := Lib.hid hrz
      have HBZ := Lib.hid hbz
      clear hrz hbz HWT HST p0 p1 p2 p3 p4 p5 p6 p7 hif
      have hsb : ∀ W, Calls Tryd.prog 60 #[.agg #[.int .u32 z0, .int .u32 z1, .int .u32 z2, .int .u32 z3, .int .u32 z4, .int .u32 z5, .int .u32 z6, .int .u32 z7]] W (StateBytesPost W [z0, z1, z2, z3, z4, z5, z6, z7]) := fun W => stateBytes_any [z0, z1, z2, z3, z4, z5, z6, z7] W rfl HZB.out
      have HSBY := Lib.hid hsb
      clear hsb
      go_wp2_with (first
        | (refine wpList_load_ints rfl 34 (.tmp 4) rfl gv rfl 34 .u32 [z0, z1, z2, z3, z4, z5, z6, z7] HRZ.out 8 33 Tryd.underlying34 sizeA8 ?_)
        | (go_at_call 60
           refine (HSBY.out _).mono ?_
           rintro _ w6 ⟨rfl, hr6, hb6⟩
           have HR6 := Lib.hid hr6
           have HB6 := Lib.hid hb6
           clear hr6 hb6))
      go_ret
      refine ⟨_, ?_, rfl, ?_, HBZ.out.trans (HB6.out.mono HBZ.out.size)⟩
      · have := HBZ.out.size
        omega
      · rw [HFIN.out]
        exact HR6.out
end Go.Proofs.YtioifkbkllnkgaaDoor

/- Facts on a sum's bytes. -/
namespace Go.Proofs.YtioifkbkllnkgaaDoor
open Go.RowKit
set_option linter.unusedVariables false

theorem bytesL_at (s : List Int) (i : Nat) (h : i < 4 * s.length) : (bytesL s).getD i 0 = s.getD (i / 4) 0 / 2 ^ (24 - 8 * (i % 4)) % 256 := by
  induction s generalizing i with
  | nil => simp at h
  | cons x r ih =>
    have hb : bytesL (x :: r) = be4 x ++ bytesL r := by simp [bytesL]
    rw [hb]
    by_cases hi : i < 4
    · have hd : i / 4 = 0 := by omega
      have hm : i % 4 = i := by omega
      rw [hd, hm]
      have : i = 0 ∨ i = 1 ∨ i = 2 ∨ i = 3 := by omega
      rcases this with rfl | rfl | rfl | rfl <;> simp [be4]
    · obtain ⟨j, rfl⟩ : ∃ j, i = 4 + j := ⟨i - 4, by omega⟩
      have ih2 := ih j (by simp at h; omega)
      rw [show (4 + j) / 4 = j / 4 + 1 by omega, show (4 + j) % 4 = j % 4 by omega]
      simp only [List.getD, List.getElem?_cons_succ] at ih2 ⊢
      rw [← ih2]
      rw [List.getElem?_append_right (by simp [be4])]
      simp [be4]

theorem sumL_length (bs : List Int) : (sumL bs).length = 32 := by
  unfold sumL
  rw [bytesL_length, stepsL_length rfl]
theorem sumL_bytes (bs : List Int) : Bytes8 (sumL bs) := bytesL_bytes _
end Go.Proofs.YtioifkbkllnkgaaDoor

/- The digest of a tree, as a function. No program is named here. -/
namespace Go.Proofs.YtioifkbkllnkgaaDoor
set_option linter.unusedVariables false

/-- The digest of a value: of a node's, or a dark node's own. -/
def valT (k : Nat) (t : Tr) : List Int := if t.k = 1 then (sumL (valL t.val)).take k else t.dig
/-- The digest of a tree by the width k; none: a digest in it has another width. -/
def digT (k : Nat) (t : Tr) : Option (List Int) := t.fold fun t rs =>
  if t.k = 0 then some ((sumL [3]).take k)
  else if t.k = 3 then (if t.dig.length = k then some t.dig else none)
  else if (valT k t).length ≠ k then none
  else match rs.getD 0 none, rs.getD 1 none with
    | some l, some r => some ((sumL (nodeL l ((sumL (pairL t.key (valT k t))).take k) r)).take k)
    | _, _ => none
theorem digT_0 {k : Nat} {t : Tr} (h : t.k = 0) : digT k t = some ((sumL [3]).take k) := by
  unfold digT
  rw [Tr.fold_eq, if_pos h]
theorem digT_3 {k : Nat} {t : Tr} (h : t.k = 3) : digT k t = if t.dig.length = k then some t.dig else none := by
  unfold digT
  rw [Tr.fold_eq, if_neg (by omega), if_pos h]
theorem digT_bad {k : Nat} {t : Tr} (h0 : t.k ≠ 0) (h3 : t.k ≠ 3) (hv : (valT k t).length ≠ k) : digT k t = none := by
  unfold digT
  rw [Tr.fold_eq, if_neg h0, if_neg h3, if_pos hv]
theorem digT_node {k : Nat} {t : Tr} (h0 : t.k ≠ 0) (h3 : t.k ≠ 3) (hv : (valT k t).length = k) (h2 : t.kids.length = 2) :
    digT k t = match digT k (t.kids[0]'(by omega)), digT k (t.kids[1]'(by omega)) with
    | some l, some r => some ((sumL (nodeL l ((sumL (pairL t.key (valT k t))).take k) r)).take k)
    | _, _ => none := by
  have e : digT k t = match (t.kids.map (digT k)).getD 0 none, (t.kids.map (digT k)).getD 1 none with
      | some l, some r => some ((sumL (nodeL l ((sumL (pairL t.key (valT k t))).take k) r)).take k)
      | _, _ => none := by
    conv => lhs; unfold digT
    rw [Tr.fold_eq, if_neg h0, if_neg h3, if_neg (by omega)]
    rfl
  rw [e]
  simp [List.getD, h2]
theorem take_sum_len {k : Nat} (hk : k ≤ 32) (bs : List Int) : ((sumL bs).take k).length = k := by
  rw [List.length_take, sumL_length]
  omega
theorem digT_len {k : Nat} (hk : k ≤ 32) {t : Tr} {zs : List Int} (h : digT k t = some zs) : zs.length = k := by
  unfold digT at h
  rw [Tr.fold_eq] at h
  split at h
  · injection h with h
    rw [← h]
    exact take_sum_len hk _
  · split at h
    · split at h
      · injection h with h
        rw [← h]
        assumption
      · cases h
    · split at h
      · cases h
      · split at h
        · injection h with h
          rw [← h]
          exact take_sum_len hk _
        · cases h
theorem valL_len (bs : List Int) : (valL bs).length = 1 + bs.length := by simp [valL]; omega
theorem nodeL_len (a b c : List Int) : (nodeL a b c).length = 1 + a.length + b.length + c.length := by simp [nodeL]; omega
theorem pairL_len {a b : List Int} (h : a.length ≤ 1000) : (pairL a b).length ≤ 10 + a.length + b.length := by
  have := numL_le (v := a.length) (by omega)
  simp only [pairL, bytL, List.length_cons, List.length_append]
  omega
end Go.Proofs.YtioifkbkllnkgaaDoor

/- The contracts of the document's checks of trees. -/
namespace Go.Proofs.YtioifkbkllnkgaaDoor
open Go.RowKit
set_option linter.unusedVariables false

/-- It answers v; what was there stays. -/
def Says (w : World) (v : Value) (e : Ending) (w' : World) : Prop := e = .returned v ∧ Below w.heap.size w w'

theorem any_take {α : Type} (l : List α) (p : α → Bool) (i : Nat) (hi : i < l.length) : (l.take (i + 1)).any p = ((l.take i).any p || p l[i]) := by
  rw [List.take_succ_eq_append_getElem hi, List.any_append]
  simp
theorem all_take {α : Type} (l : List α) (p : α → Bool) (i : Nat) (hi : i < l.length) : (l.take (i + 1)).all p = ((l.take i).all p && p l[i]) := by
  rw [List.take_succ_eq_append_getElem hi, List.all_append]
  simp
theorem any_at {α : Type} {l : List α} {p : α → Bool} (i : Nat) (hi : i < l.length) (h : p l[i] = true) : l.any p = true := List.any_eq_true.mpr ⟨_, List.getElem_mem hi, h⟩
theorem all_not {α : Type} {l : List α} {p : α → Bool} (i : Nat) (hi : i < l.length) (h : p l[i] = false) : l.all p = false := by
  rw [Bool.eq_false_iff]
  intro hc
  have := List.all_eq_true.mp hc _ (List.getElem_mem hi)
  rw [this] at h
  cases h
set_option maxRecDepth 100000 in
set_option maxHeartbeats 4000000 in
theorem refDeep_any : ∀ (t : Tr) (h : TH) (b : Int) (w : World), InTree w h t → 0 ≤ b → b ≤ 64 →
    Calls Tryd.prog 50 #[h.v, .int .i64 b] w (Says w (.bool (deepT t b))) := by
  intro t
  induction t using Tr.ind with
  | h t ih =>
  intro h b w ht hb0 hb1
  unfold TH.v
  obtain ⟨H, hp⟩ := ht.parts
  have hkl := hp.key.len
  have hvl := hp.val.len
  have hdl := hp.dig.len
  have htl := hp.len
  have HK := Lib.hid hp.hk
  have htm := Nat.le_trans hp.sl.le hp.sl.max
  have htc := hp.sl.le
  simp only [maxLen] at htm
  have HP := Lib.hid hp
  have IH := Lib.hid ih
  clear hp ht ih
  have hbox := Box.new w 25 h
  have HX := Lib.hid hbox
  obtain ⟨x0, x1, x2, x3, x4⟩ := hbox.cells
  clear hbox
  have hw1 : Below w.heap.size w (w.alloc (.cells #[.int .i64 h.k, .slice h.ka h.kn h.kc, .slice h.va h.vn h.vc, .slice h.da h.dn h.dc, .slice h.ta h.tn h.tc] 25)) := (Below.refl _ _).alloc (Nat.le_refl _) _
  have HB := Lib.hid hw1
  clear hw1
  go_enter Tryd.func50, Tryd.ntmps50
  go_upto_region 1 with fail
  go_cut [5] (fun s5 wx => s5 = .bool (isNode t) ∧ Box wx 25 w.heap.size h ∧ Below w.heap.size w wx)
  case first =>
    have hk := HK.out
    have hin : isNode t = (h.k == 1 || (h.k == 2 || decide (0 < h.tn))) := by unfold isNode; rw [hk, htl]
    have HI := Lib.hid hin
    clear hk hin
    cases hb1 : (h.k == 1)
    · cases hb2 : (h.k == 2)
      · go_wp2_with fail
        go_meet
        refine ⟨?_, HX.out, HB.out⟩
        rw [HI.out, hb1, hb2]
        simp
      · go_wp2_with fail
        go_meet
        refine ⟨?_, HX.out, HB.out⟩
        rw [HI.out, hb1, hb2]
        simp
    · go_wp2_with fail
      go_meet
      refine ⟨?_, HX.out, HB.out⟩
      rw [HI.out, hb1]
      simp
  case rest =>
    obtain ⟨rfl, hbx, hbw⟩ := hcut
    clear x0 x1 x2 x3 x4 HX HB
    have HBX := Lib.hid hbx
    have HBW := Lib.hid hbw
    have hx4 := hbx.cells.2.2.2.2
    clear hbx hbw
    by_cases hn : isNode t = true
    · by_cases hb : b = 0
      · subst hb
        go_wp2_with fail
        go_ret
        have hd : deepT t 0 = true := by rw [deepT_eq, hn]; rfl
        exact ⟨by rw [hd]; rfl, HBW.out⟩
      · have HNB : Hid (0 < h.tn → 1 ≤ b) := Lib.hid (by omega)
        have HC : Hid ((isNode t && b == 0) = false) := Lib.hid (by simp [hb])
        have hbb : (b == 0) = false := by simp [hb]
        go_wp2_with fail
        clear hx4
        go_loopw [6] (fun s6 wx => ∃ i : Nat, i ≤ h.tn ∧ s6 = .int .i64 i ∧ Box wx 25 w.heap.size h ∧ Below w.heap.size w wx ∧ (t.kids.take i).any (fun x => deepT x (b - 1)) = false) (fun s6 _ => h.tn - (intOf s6).toNat)
        case atStart => exact ⟨0, by omega, rfl, HBX.out, HBW.out, by simp⟩
        case round =>
          clear HBX HBW
          obtain ⟨i, hi, rfl, hbx, hbw, hany⟩ := hrel
          have hx4 := hbx.cells.2.2.2.2
          have HBX := Lib.hid hbx
          have HBW := Lib.hid hbw
          have HA := Lib.hid hany
          clear hbx hbw hany
          by_cases hlt : i < h.tn
          · have q1 : (i : Int) < (h.tn : Int) := by omega
            have hb1' := HNB.out (by omega)
            obtain ⟨g, off, hta, hg, hcs⟩ := (HP.out.below HBW.out).place (by omega)
            rw [hta] at hx4
            obtain ⟨k0, k1, k2, k3, k4⟩ := hcs i hlt
            have him : i < t.kids.length := by omega
            clear hcs hta
            go_upto_region 8 with (first
              | (go_at_call 50
                 refine (IH.out _ (List.getElem_mem him) (H i) (b - 1) _ ((HP.out.below HBW.out).kids i him) (by omega) (by omega)).mono ?_
                 rintro _ w1 ⟨rfl, hb1⟩
                 have HB1 : Hid (Below w.heap.size w w1) := Lib.hid (HBW.out.trans (hb1.mono HBW.out.size))
                 have HX1 := Lib.hid (HBX.out.below hb1 HBX.out.lt)
                 generalize hr : deepT t.kids[i] (b - 1) = r
                 have HR := Lib.hid hr
                 clear hb1 hr))
            clear hx4 k0 k1 k2 k3 k4
            cases r
            · go_wp2_with fail
              exact ⟨⟨i + 1, by omega, by go_num, HX1.out, HB1.out, by rw [any_take _ _ i him, HA.out, HR.out]; rfl⟩, by simp [intOf]; omega⟩
            · go_wp2_with fail
              go_ret
              have hd : deepT t b = true := by rw [deepT_eq, any_at i him HR.out, Bool.or_true]
              exact ⟨by rw [hd]; rfl, HB1.out⟩
          · obtain rfl : i = h.tn := by omega
            have q1 : ¬ (h.tn : Int) < (h.tn : Int) := by omega
            go_wp2_with fail
            go_ret
            have hA := HA.out
            rw [List.take_of_length_le (by omega)] at hA
            have hd : deepT t b = false := by rw [deepT_eq, HC.out, hA]; rfl
            exact ⟨by rw [hd]; rfl, HBW.out⟩
    · have hn2 : isNode t = false := by simpa using hn
      have HNB : Hid (0 < h.tn → 1 ≤ b) := Lib.hid (fun h0 => by
        exfalso
        apply hn
        unfold isNode
        rw [htl]
        simp [h0])
      have HC : Hid ((isNode t && b == 0) = false) := Lib.hid (by simp [hn2])
      clear hn
      go_wp2_with fail
      clear hx4
      go_loopw [6] (fun s6 wx => ∃ i : Nat, i ≤ h.tn ∧ s6 = .int .i64 i ∧ Box wx 25 w.heap.size h ∧ Below w.heap.size w wx ∧ (t.kids.take i).any (fun x => deepT x (b - 1)) = false) (fun s6 _ => h.tn - (intOf s6).toNat)
      case atStart => exact ⟨0, by omega, rfl, HBX.out, HBW.out, by simp⟩
      case round =>
        clear HBX HBW
        obtain ⟨i, hi, rfl, hbx, hbw, hany⟩ := hrel
        have hx4 := hbx.cells.2.2.2.2
        have HBX := Lib.hid hbx
        have HBW := Lib.hid hbw
        have HA := Lib.hid hany
        clear hbx hbw hany
        by_cases hlt : i < h.tn
        · have q1 : (i : Int) < (h.tn : Int) := by omega
          have hb1' := HNB.out (by omega)
          obtain ⟨g, off, hta, hg, hcs⟩ := (HP.out.below HBW.out).place (by omega)
          rw [hta] at hx4
          obtain ⟨k0, k1, k2, k3, k4⟩ := hcs i hlt
          have him : i < t.kids.length := by omega
          clear hcs hta
          go_upto_region 8 with (first
            | (go_at_call 50
               refine (IH.out _ (List.getElem_mem him) (H i) (b - 1) _ ((HP.out.below HBW.out).kids i him) (by omega) (by omega)).mono ?_
               rintro _ w1 ⟨rfl, hb1⟩
               have HB1 : Hid (Below w.heap.size w w1) := Lib.hid (HBW.out.trans (hb1.mono HBW.out.size))
               have HX1 := Lib.hid (HBX.out.below hb1 HBX.out.lt)
               generalize hr : deepT t.kids[i] (b - 1) = r
               have HR := Lib.hid hr
               clear hb1 hr))
          clear hx4 k0 k1 k2 k3 k4
          cases r
          · go_wp2_with fail
            exact ⟨⟨i + 1, by omega, by go_num, HX1.out, HB1.out, by rw [any_take _ _ i him, HA.out, HR.out]; rfl⟩, by simp [intOf]; omega⟩
          · go_wp2_with fail
            go_ret
            have hd : deepT t b = true := by rw [deepT_eq, any_at i him HR.out, Bool.or_true]
            exact ⟨by rw [hd]; rfl, HB1.out⟩
        · obtain rfl : i = h.tn := by omega
          have q1 : ¬ (h.tn : Int) < (h.tn : Int) := by omega
          go_wp2_with fail
          go_ret
          have hA := HA.out
          rw [List.take_of_length_le (by omega)] at hA
          have hd : deepT t b = false := by rw [deepT_eq, HC.out, hA]; rfl
          exact ⟨by rw [hd]; rfl, HBW.out⟩
set_option maxRecDepth 100000 in
set_option maxHeartbeats 4000000 in
theorem partB_head {w : World} {h : TH} {t : Tr} {H : Nat → TH} (hp : TreeAt w h t H) : partB t = (if h.k == 0 then (((h.kn : Int) == 0) && (((h.vn : Int) == 0) && (((h.dn : Int) == 0) && ((h.tn : Int) == 0)))) else if h.k == 1 then (decide ((h.kn : Int) ≤ 80) && (decide ((h.vn : Int) ≤ 1024) && (((h.dn : Int) == 0) && ((h.tn : Int) == 2)))) else if h.k == 2 then (decide ((h.kn : Int) ≤ 80) && (((h.vn : Int) == 0) && ((h.tn : Int) == 2))) else if h.k == 3 then (((h.kn : Int) == 0) && (((h.vn : Int) == 0) && ((h.tn : Int) == 0))) else false) := by
  have e1 := hp.hk
  have e2 := hp.key.len
  have e3 := hp.val.len
  have e4 := hp.dig.len
  have e5 := hp.len
  unfold partB
  rw [← e1, e2, e3, e4, e5]
  have q : ∀ (x : Nat) (y : Nat), decide (x = y) = ((x : Int) == (y : Int)) := fun x y => by rw [Bool.eq_iff_iff]; simp; omega
  have q2 : ∀ (x : Nat) (y : Nat), decide (x ≤ y) = decide ((x : Int) ≤ (y : Int)) := fun x y => by rw [Bool.eq_iff_iff]; simp
  rw [q, q, q, q, q, q2, q2]
  simp only [beq_iff_eq]
  rfl
set_option maxRecDepth 100000 in
set_option maxHeartbeats 4000000 in
theorem refFormed_any : ∀ (t : Tr) (h : TH) (w : World), InTree w h t →
    Calls Tryd.prog 51 #[h.v] w (Says w (.bool (formedT t))) := by
  intro t
  induction t using Tr.ind with
  | h t ih =>
  intro h w ht
  unfold TH.v
  obtain ⟨H, hp⟩ := ht.parts
  have hkl := hp.key.len
  have hvl := hp.val.len
  have hdl := hp.dig.len
  have htl := hp.len
  have HK := Lib.hid hp.hk
  have htm := Nat.le_trans hp.sl.le hp.sl.max
  have htc := hp.sl.le
  simp only [maxLen] at htm
  have HP := Lib.hid hp
  have IH := Lib.hid ih
  clear hp ht ih
  have hbox := Box.new w 25 h
  have HX := Lib.hid hbox
  obtain ⟨x0, x1, x2, x3, x4⟩ := hbox.cells
  clear hbox
  have hw1 : Below w.heap.size w (w.alloc (.cells #[.int .i64 h.k, .slice h.ka h.kn h.kc, .slice h.va h.vn h.vc, .slice h.da h.dn h.dc, .slice h.ta h.tn h.tc] 25)) := (Below.refl _ _).alloc (Nat.le_refl _) _
  have HB := Lib.hid hw1
  clear hw1
  have HI := Lib.hid (partB_head HP.out)
  go_enter Tryd.func51, Tryd.ntmps51
  go_upto_block 0 with fail
  go_cut [7] (fun s7 wx => s7 = .bool (partB t) ∧ Box wx 25 w.heap.size h ∧ Below w.heap.size w wx)
  case first =>
    cases f0 : (h.k == 0)
    · cases f1 : (h.k == 1)
      · cases f2 : (h.k == 2)
        · cases f3 : (h.k == 3)
          · go_wp2_with fail
            go_meet
            refine ⟨?_, HX.out, HB.out⟩
            rw [HI.out]
            simp [f0, f1, f2, f3]
          · cases f4 : ((h.kn : Int) == 0)
            · go_wp2_with fail
              go_meet
              refine ⟨?_, HX.out, HB.out⟩
              rw [HI.out]
              simp [f0, f1, f2, f3, f4]
            · cases f5 : ((h.vn : Int) == 0)
              · go_wp2_with fail
                go_meet
                refine ⟨?_, HX.out, HB.out⟩
                rw [HI.out]
                simp [f0, f1, f2, f3, f5]
              · cases f6 : ((h.tn : Int) == 0)
                · go_wp2_with fail
                  go_meet
                  refine ⟨?_, HX.out, HB.out⟩
                  rw [HI.out]
                  simp [f0, f1, f2, f3, f6]
                · go_wp2_with fail
                  go_meet
                  refine ⟨?_, HX.out, HB.out⟩
                  rw [HI.out]
                  simp [f0, f1, f2, f3, f4, f5, f6]
        · by_cases f3 : (h.kn : Int) ≤ 80
          · cases f4 : ((h.vn : Int) == 0)
            · go_wp2_with fail
              go_meet
              refine ⟨?_, HX.out, HB.out⟩
              rw [HI.out]
              simp [f0, f1, f2, f4]
            · cases f5 : ((h.tn : Int) == 2)
              · go_wp2_with fail
                go_meet
                refine ⟨?_, HX.out, HB.out⟩
                rw [HI.out]
                simp [f0, f1, f2, f5]
              · go_wp2_with fail
                go_meet
                refine ⟨?_, HX.out, HB.out⟩
                rw [HI.out]
                simp [f0, f1, f2, f3, f4, f5]
          · go_wp2_with fail
            go_meet
            refine ⟨?_, HX.out, HB.out⟩
            rw [HI.out]
            simp [f0, f1, f2, show ¬ (h.kn : Int) ≤ 80 by omega]
      · by_cases f2 : (h.kn : Int) ≤ 80
        · by_cases f3 : (h.vn : Int) ≤ 1024
          · cases f4 : ((h.dn : Int) == 0)
            · go_wp2_with fail
              go_meet
              refine ⟨?_, HX.out, HB.out⟩
              rw [HI.out]
              simp [f0, f1, f4]
            · cases f5 : ((h.tn : Int) == 2)
              · go_wp2_with fail
                go_meet
                refine ⟨?_, HX.out, HB.out⟩
                rw [HI.out]
                simp [f0, f1, f5]
              · go_wp2_with fail
                go_meet
                refine ⟨?_, HX.out, HB.out⟩
                rw [HI.out]
                simp [f0, f1, f2, f3, f4, f5]
          · go_wp2_with fail
            go_meet
            refine ⟨?_, HX.out, HB.out⟩
            rw [HI.out]
            simp [f0, f1, show ¬ (h.vn : Int) ≤ 1024 by omega]
        · go_wp2_with fail
          go_meet
          refine ⟨?_, HX.out, HB.out⟩
          rw [HI.out]
          simp [f0, f1, show ¬ (h.kn : Int) ≤ 80 by omega]
    · cases f1 : ((h.kn : Int) == 0)
      · go_wp2_with fail
        go_meet
        refine ⟨?_, HX.out, HB.out⟩
        rw [HI.out]
        simp [f0, f1]
      · cases f2 : ((h.vn : Int) == 0)
        · go_wp2_with fail
          go_meet
          refine ⟨?_, HX.out, HB.out⟩
          rw [HI.out]
          simp [f0, f2]
        · cases f3 : ((h.dn : Int) == 0)
          · go_wp2_with fail
            go_meet
            refine ⟨?_, HX.out, HB.out⟩
            rw [HI.out]
            simp [f0, f3]
          · cases f4 : ((h.tn : Int) == 0)
            · go_wp2_with fail
              go_meet
              refine ⟨?_, HX.out, HB.out⟩
              rw [HI.out]
              simp [f0, f4]
            · go_wp2_with fail
              go_meet
              refine ⟨?_, HX.out, HB.out⟩
              rw [HI.out]
              simp [f0, f1, f2, f3, f4]
  case rest =>
    obtain ⟨rfl, hbx, hbw⟩ := hcut
    clear x0 x1 x2 x3 x4
    have HBX := Lib.hid hbx
    have HBW := Lib.hid hbw
    clear hbx hbw HX HB HI
    go_wp2_with fail
    go_loopw [7, 8] (fun s7 s8 wx => ∃ i : Nat, i ≤ h.tn ∧ s7 = .bool (partB t && (t.kids.take i).all formedT) ∧ s8 = .int .i64 i ∧ Box wx 25 w.heap.size h ∧ Below w.heap.size w wx) (fun _ s8 _ => h.tn - (intOf s8).toNat)
    case atStart => exact ⟨0, by omega, by simp, rfl, HBX.out, HBW.out⟩
    case round =>
      clear HBX HBW
      obtain ⟨i, hi, rfl, rfl, hbx, hbw⟩ := hrel
      have hx4 := hbx.cells.2.2.2.2
      have HBX := Lib.hid hbx
      have HBW := Lib.hid hbw
      clear hbx hbw
      by_cases hlt : i < h.tn
      · have q1 : (i : Int) < (h.tn : Int) := by omega
        have him : i < t.kids.length := by omega
        by_cases hok : (partB t && (t.kids.take i).all formedT) = true
        · obtain ⟨g, off, hta, hg, hcs⟩ := (HP.out.below HBW.out).place (by omega)
          rw [hta] at hx4
          obtain ⟨k0, k1, k2, k3, k4⟩ := hcs i hlt
          have HOK := Lib.hid hok
          clear hcs hta
          rw [hok]
          clear hok
          go_wp2_with (first
            | (go_at_call 51
               refine (IH.out _ (List.getElem_mem him) (H i) _ ((HP.out.below HBW.out).kids i him)).mono ?_
               rintro _ w1 ⟨rfl, hb1⟩
               have HB1 : Hid (Below w.heap.size w w1) := Lib.hid (HBW.out.trans (hb1.mono HBW.out.size))
               have HX1 := Lib.hid (HBX.out.below hb1 HBX.out.lt)
               clear hb1))
          exact ⟨⟨i + 1, by omega, by rw [all_take _ _ i him, ← Bool.and_assoc, HOK.out, Bool.true_and], by go_num, HX1.out, HB1.out⟩, by simp [intOf]; omega⟩
        · have hok2 : (partB t && (t.kids.take i).all formedT) = false := by simpa using hok
          have HOK := Lib.hid hok2
          rw [hok2]
          clear hok hok2 hx4
          go_wp2_with fail
          go_ret
          refine ⟨?_, HBW.out⟩
          rw [formedT_eq]
          have h1 := HOK.out
          rw [Bool.and_eq_false_iff] at h1
          rcases h1 with h1 | h1
          · rw [h1]; rfl
          · have h2 : t.kids.all formedT = false := by
              rw [Bool.eq_false_iff]
              intro hc
              rw [List.all_eq_true] at hc
              rw [Bool.eq_false_iff] at h1
              apply h1
              rw [List.all_eq_true]
              exact fun x hx => hc x (List.mem_of_mem_take hx)
            rw [h2, Bool.and_false]
            rfl
      · obtain rfl : i = h.tn := by omega
        have q1 : ¬ (h.tn : Int) < (h.tn : Int) := by omega
        rw [List.take_of_length_le (by omega), ← formedT_eq]
        go_wp2_with fail
        go_ret
        exact ⟨rfl, HBW.out⟩
end Go.Proofs.YtioifkbkllnkgaaDoor

/- The contracts of the document's checks of trees: Check, Full, Depth. -/
namespace Go.Proofs.YtioifkbkllnkgaaDoor
open Go.RowKit
set_option linter.unusedVariables false

set_option maxRecDepth 100000 in
set_option maxHeartbeats 4000000 in
theorem refCheck_any (t : Tr) (h : TH) (w : World) (ht : InTree w h t) :
    Calls Tryd.prog 22 #[h.v] w (Says w (.int .i64 (checkT t : Nat))) := by
  unfold TH.v
  have hbox := Box.new w 25 h
  have HX := Lib.hid hbox
  have HT := Lib.hid ht
  obtain ⟨x0, x1, x2, x3, x4⟩ := hbox.cells
  clear hbox ht
  go_enter Tryd.func22, Tryd.ntmps22
  go_upto_region 2 with (first
    | (go_at_call 50
       refine (refDeep_any t h 64 _ ?_ (by omega) (by omega)).mono ?_
       · exact HT.out.lower ((Below.refl _ _).alloc (Nat.le_refl _) _)
       rintro _ w1 ⟨rfl, hb1⟩
       have HB1 : Hid (Below w.heap.size w w1) := Lib.hid (((Below.refl w.heap.size w).alloc (Nat.le_refl _) _).trans (hb1.mono (by simp)))
       obtain ⟨y0, y1, y2, y3, y4⟩ := (HX.out.below hb1 HX.out.lt).cells
       generalize hr : deepT t 64 = r
       have HR := Lib.hid hr
       clear hb1 hr x0 x1 x2 x3 x4))
  cases r
  · go_upto_region 5 with (first
      | (go_at_call 51
         refine (refFormed_any t h _ ?_).mono ?_
         · exact HT.out.lower HB1.out
         rintro _ w2 ⟨rfl, hb2⟩
         have HB2 : Hid (Below w.heap.size w w2) := Lib.hid (HB1.out.trans (hb2.mono HB1.out.size))
         generalize hq : formedT t = q
         have HQ := Lib.hid hq
         clear hb2 hq y0 y1 y2 y3 y4))
    cases q
    · go_wp2_with fail
      go_ret
      have e : checkT t = 3 := by unfold checkT; rw [HR.out, HQ.out]; rfl
      exact ⟨by rw [e]; rfl, HB2.out⟩
    · go_wp2_with fail
      go_ret
      have e : checkT t = 0 := by unfold checkT; rw [HR.out, HQ.out]; rfl
      exact ⟨by rw [e]; rfl, HB2.out⟩
  · go_wp2_with fail
    go_ret
    have e : checkT t = 5 := by unfold checkT; rw [HR.out]; rfl
    exact ⟨by rw [e]; rfl, HB1.out⟩
theorem formed_kids {t : Tr} (hf : formedT t = true) : partB t = true ∧ ∀ i (hi : i < t.kids.length), formedT t.kids[i] = true := by
  rw [formedT_eq, Bool.and_eq_true, List.all_eq_true] at hf
  exact ⟨hf.1, fun i hi => hf.2 _ (List.getElem_mem hi)⟩
theorem part_kids {t : Tr} (hp : partB t = true) : (t.kids.length = 0 ∧ (t.k = 0 ∨ t.k = 3)) ∨ (t.kids.length = 2 ∧ (t.k = 1 ∨ t.k = 2)) := by
  unfold partB at hp
  split at hp
  · simp only [Bool.and_eq_true, decide_eq_true_eq] at hp; omega
  · split at hp
    · simp only [Bool.and_eq_true, decide_eq_true_eq] at hp; omega
    · split at hp
      · simp only [Bool.and_eq_true, decide_eq_true_eq] at hp; omega
      · split at hp
        · simp only [Bool.and_eq_true, decide_eq_true_eq] at hp; omega
        · cases hp
theorem deep_kids {t : Tr} {b : Int} (hd : deepT t b = false) (h0 : 0 < t.kids.length) : b ≠ 0 ∧ ∀ i (hi : i < t.kids.length), deepT t.kids[i] (b - 1) = false := by
  rw [deepT_eq, Bool.or_eq_false_iff] at hd
  have hn : isNode t = true := by unfold isNode; simp [h0]
  rw [hn, Bool.true_and] at hd
  exact ⟨by simpa using hd.1, fun i hi => by
    have := hd.2
    rw [List.any_eq_false] at this
    simpa using this _ (List.getElem_mem hi)⟩
end Go.Proofs.YtioifkbkllnkgaaDoor

/- AVL trees: what the document says of them, as functions, and that they stay balanced. No program is named here. -/
namespace Go.Proofs.YtioifkbkllnkgaaDoor
set_option linter.unusedVariables false

/-- The order of keys: bytewise. -/
def ltL : List Int → List Int → Bool
  | _, [] => false
  | [], _ :: _ => true
  | a :: x, b :: y => decide (a < b) || (a == b && ltL x y)
theorem ltL_irr : ∀ a : List Int, ltL a a = false
  | [] => rfl
  | a :: x => by simp [ltL, ltL_irr x]
theorem ltL_trans : ∀ {a b c : List Int}, ltL a b = true → ltL b c = true → ltL a c = true
  | _, [], _, h, _ => by simp [ltL] at h
  | _, _ :: _, [], _, h => by simp [ltL] at h
  | [], b :: y, c :: z, _, _ => rfl
  | a :: x, b :: y, c :: z, h1, h2 => by
    simp only [ltL, Bool.or_eq_true, decide_eq_true_eq, Bool.and_eq_true, beq_iff_eq] at h1 h2 ⊢
    rcases h1 with h1 | ⟨h1, h1'⟩
    · rcases h2 with h2 | ⟨h2, _⟩
      · left; omega
      · left; omega
    · rcases h2 with h2 | ⟨h2, h2'⟩
      · left; omega
      · right; exact ⟨by omega, ltL_trans h1' h2'⟩
theorem ltL_asymm {a b : List Int} (h : ltL a b = true) : ltL b a = false := by
  rw [Bool.eq_false_iff]
  intro h2
  have := ltL_trans h h2
  rw [ltL_irr] at this
  cases this
theorem ltL_eq : ∀ {a b : List Int}, ltL a b = false → ltL b a = false → a = b
  | [], [], _, _ => rfl
  | [], b :: y, h, _ => by simp [ltL] at h
  | a :: x, [], _, h => by simp [ltL] at h
  | a :: x, b :: y, h1, h2 => by
    simp only [ltL, Bool.or_eq_false_iff, decide_eq_false_iff_not, Bool.and_eq_false_iff, beq_eq_false_iff_ne] at h1 h2
    have hab : a = b := by omega
    subst hab
    rcases h1.2 with h | h
    · exact absurd rfl h
    · rcases h2.2 with h' | h'
      · exact absurd rfl h'
      · rw [ltL_eq h h']
theorem ltL_three (a b : List Int) : ltL a b = true ∨ a = b ∨ ltL b a = true := by
  cases h1 : ltL a b
  · cases h2 : ltL b a
    · exact .inr (.inl (ltL_eq h1 h2))
    · exact .inr (.inr rfl)
  · exact .inl rfl

/-- A full tree. -/
inductive AT where
  | nil
  | node (l : AT) (k v : List Int) (r : AT)
def AT.depth : AT → Nat
  | .nil => 0
  | .node l _ _ r => max l.depth r.depth + 1
/-- Its pairs, by the order of their keys. -/
def AT.pairs : AT → List (List Int × List Int)
  | .nil => []
  | .node l k v r => l.pairs ++ ((k, v) :: r.pairs)
def AT.bal : AT → Prop
  | .nil => True
  | .node l _ _ r => l.bal ∧ r.bal ∧ l.depth ≤ r.depth + 1 ∧ r.depth ≤ l.depth + 1
def AT.tilt : AT → Int
  | .nil => 0
  | .node l _ _ r => (l.depth : Int) - (r.depth : Int)
def AT.right : AT → AT
  | .node (.node ll lk lv lr) k v r => .node ll lk lv (.node lr k v r)
  | t => t
def AT.left : AT → AT
  | .node l k v (.node rl rk rv rr) => .node (.node l k v rl) rk rv rr
  | t => t
def AT.level : AT → AT
  | .nil => .nil
  | .node l k v r =>
    if (l.depth : Int) - (r.depth : Int) = 2 then AT.right (.node (if l.tilt < 0 then l.left else l) k v r)
    else if (l.depth : Int) - (r.depth : Int) = -2 then AT.left (.node l k v (if 0 < r.tilt then r.right else r))
    else .node l k v r
def AT.isNil : AT → Bool
  | .nil => true
  | _ => false
def AT.put (key val : List Int) : AT → AT
  | .nil => .node .nil key val .nil
  | .node l k v r => if key = k then .node l key val r else if ltL key k then (AT.node (AT.put key val l) k v r).level else (AT.node l k v (AT.put key val r)).level
def AT.del (key : List Int) : AT → AT
  | .nil => .nil
  | .node l k v r =>
    if ltL key k then (AT.node (AT.del key l) k v r).level
    else if ltL k key then (AT.node l k v (AT.del key r)).level
    else if l.isNil then r
    else if r.isNil then l
    else (AT.node l (r.pairs.headD ([], [])).1 (r.pairs.headD ([], [])).2 (AT.del (r.pairs.headD ([], [])).1 r)).level
def AT.get (key : List Int) (a : AT) : Option (List Int) := (a.pairs.find? fun p => p.1 == key).map (·.2)

end Go.Proofs.YtioifkbkllnkgaaDoor

/- The order of strings is the order of keys. No program is named here. -/
namespace Go.Proofs.YtioifkbkllnkgaaDoor
open Go.RowKit
set_option linter.unusedVariables false

theorem str_eq {xs ys : List Int} (hx : Bytes8 xs) (hy : Bytes8 ys) : ((strOfNums xs).toList == (strOfNums ys).toList) = (xs == ys) := by
  by_cases h : xs = ys
  · subst h
    simp
  · rw [str_ne hx hy h, beq_eq_false_iff_ne.2 h]
end Go.Proofs.YtioifkbkllnkgaaDoor

/- A variable of one cell: a closure's, a number's. No program is named here. -/
namespace Go.Proofs.YtioifkbkllnkgaaDoor
open Go.RowKit
set_option linter.unusedVariables false

/-- Block g is a variable of one cell, which holds v. -/
def Var1 (w : World) (ty : TypeId) (g : Nat) (v : Value) : Prop := w.heap[g]? = some (.cells #[v] ty (0, 0))
section
variable {w w' : World} {ty : TypeId} {g : Nat} {v : Value}
theorem Var1.new (w : World) (ty : TypeId) (v : Value) : Var1 (w.alloc (.cells #[v] ty)) ty w.heap.size v := heap_alloc_new w _
theorem Var1.lt (h : Var1 w ty g v) : g < w.heap.size := by
  rcases Nat.lt_or_ge g w.heap.size with hlt | hge
  · exact hlt
  · unfold Var1 at h; rw [Array.getElem?_eq_none hge] at h; cases h
theorem Var1.below {B : Nat} (h : Var1 w ty g v) (hb : Below B w w') (hg : g < B) : Var1 w' ty g v := (hb.block g hg).trans h
theorem Var1.grown {row : Option Nat} (h : Var1 w ty g v) (hb : w.grownBy w' row) (hg : some g ≠ row) : Var1 w' ty g v := (hb.block g h.lt hg).trans h
theorem Var1.cell (h : Var1 w ty g v) : w.cell? ⟨g, 0, none⟩ = some v := by
  rw [cell_of_row w g 0 _ _ (0, 0) h]
  rfl
theorem Var1.frozen (h : Var1 w ty g v) (i : Nat) : w.frozen? ⟨g, i, none⟩ = false := by
  unfold Var1 at h
  simp [World.frozen?, h]
theorem Var1.set (h : Var1 w ty g v) (u : Value) : Var1 (w.setCell ⟨g, 0, none⟩ u) ty g u := by
  unfold Var1 at h ⊢
  simp [World.setCell, Array.getElem?_modify, h]
theorem Var1.far (h : Var1 w ty g v) {p : Addr} (hp : g ≠ p.block) (u : Value) : Var1 (w.setCell p u) ty g v := (Below.heap_setCell w p u g hp).trans h
end
end Go.Proofs.YtioifkbkllnkgaaDoor
