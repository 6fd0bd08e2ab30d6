/- Words for memory, for arguments that are slices of bytes or arrays, and for appends: what the walks of all layers share. No program is named here. Arguments that are slices of anything: their cells, one behind the other, and what each element is. No program is named here. Trees as arguments: the view of a tree that lies somewhere. No program is named here. What the document says of trees, as functions. No program is named here. Partial trees by their kinds. No program is named here. Plain facts on a number's bytes: written, and read again. No program is named here. Trees as bytes, and bytes as trees, as functions: what was written is read as it was, what was read is written as those bytes, and no encoding begins another one. No program is named here. The byte's type, as the program has it; slices of new memory. The contracts of the document's checks of trees. The contracts of the document's checks of trees: Check, Full, Depth. The parts of what is formed are short. No program is named here. Trees as bytes, for any tree: what is too long; what is written; what is read. No program is named here. A variable of one cell: a closure's, a number's. No program is named here. Rows of trees in one's own memory. No program is named here. Boxes of trees that are written; a tree of two that were made; appends of bytes at a step. No program is named here. Errors that are Codes. The empty tree. No program is named here. Rows of one's own, of unlike types. Trees that lie in new blocks alone; what the program's proofs tell, as their contracts say it. AVL trees: what the document says of them, as functions, and that they stay balanced. No program is named here. AVL trees: what pairs they have behind an insertion, and behind a deletion. No program is named here. AVL trees as trees of layer 4; which trees are balanced. No program is named here. A full tree does not lie in a box: what is written there leaves it as it is. No program is named here. A partial tree does not lie in a box; leaves. No program is named here. Bytes, leaves and nodes that lie in new blocks alone. No program is named here. What the program's Write and Read of trees tell, as their contracts say it; how long a tree's bytes are. A tree's bytes, as a fold. No program is named here. The contract of the program's look for a digest that is too long. The contracts of the program's Number and Bytes. The contract of the program's appending of a tree's bytes to a row of its own. -/
import Derived.WalkKit
import Derived.WalkSmall
import Derived.Below
import Derived.Deep.Draws
import Derived.Laws.OwnMore
import Derived.Laws.Rows
import Derived.Deep.RegionLaw
import Derived.Laws.AppendOwnNone
import Derived.OwnWalk
import Derived.Laws.BytesArg
import Derived.Deep.AppendLies
import Derived.ProofKit
import Derived.OpenShut
import Derived.LaidMore
import Derived.Stop.Joined
import Derived.WalkLawsBesides
import Derived.WalkSpells
import Derived.Outline
import Derived.Lib.Hide
import Derived.LoopTactic
import Derived.Deep.RegionWith
import Derived.Deep.DeepCutAuto
import Derived.Lib.IfaceEq
import Derived.Deep.QuietTactic
import Derived.BigQuiet
import Derived.BigRegion
import Derived.StillTailTactics
import Derived.Deep.RegionHeld3
import Derived.IntWalk
import Derived.SizedLaws
import Derived.Deep.Slices
import Derived.Test.YtagmeljjkblpbaaProg
import Derived.Deep.CutBlock
import Derived.Laws.EntriesVeiled
import Derived.Lib.IfaceNeq
import Derived.Test.YtagmeljjkblpbaaPrLen
/- Words for memory, for arguments that are slices of bytes or arrays, and for appends: what the walks of all layers share. No program is named here. -/
namespace Go.Proofs.Ytagmeljjkblpbaa
open Go.ChangeShapes Go.WideShapes Go.RowKit
set_option linter.unusedVariables false

def Bytes8 (bs : List Int) : Prop := ∀ z ∈ bs, 0 ≤ z ∧ z ≤ 255
theorem byte_at {bs : List Int} (h : Bytes8 bs) (i : Nat) : 0 ≤ bs.getD i 0 ∧ bs.getD i 0 ≤ 255 := by
  by_cases hi : i < bs.length
  · have := h bs[i] (List.getElem_mem hi)
    simpa [List.getD, hi] using this
  · simp [List.getD, List.getElem?_eq_none (by omega : bs.length ≤ i)]
/-- Block g holds just the integers zs, of element type t; it may be written. -/
def Row (k : IntKind) (w : World) (t : TypeId) (g : Nat) (zs : List Int) : Prop := w.heap[g]? = some (.cells (zs.map (Value.int k)).toArray t (0, 0))
/-- From the place off of block g on the integers zs lie. -/
def Seg (k : IntKind) (w : World) (g off : Nat) (zs : List Int) : Prop := ∀ (i : Nat) (h : i < zs.length), w.cell? ⟨g, off + i, none⟩ = some (.int k zs[i])

section
variable {k : IntKind} {w w' : World} {t : TypeId} {g off : Nat} {zs : List Int}
theorem Row.cell (h : Row k w t g zs) (i : Nat) (hi : i < zs.length) : w.cell? ⟨g, i, none⟩ = some (.int k zs[i]) := by
  have h1 := cell_of_row w g i _ t (0, 0) h
  rw [h1]
  simp [hi]
theorem Row.has (h : Row k w t g zs) (i : Nat) (hi : i < zs.length) : ∃ z, w.cell? ⟨g, i, none⟩ = some (.int k z) := ⟨_, h.cell i hi⟩
theorem Row.frozen (h : Row k w t g zs) (i : Nat) : w.frozen? ⟨g, i, none⟩ = false := by
  unfold Row at h
  simp [World.frozen?, h]
theorem Row.new (w : World) (t : TypeId) (zs : List Int) : Row k (w.alloc (.cells (zs.map (Value.int k)).toArray t)) t w.heap.size zs := heap_alloc_new w _
theorem Row.set (h : Row k w t g zs) (i : Nat) (z : Int) : Row k (w.setCell ⟨g, i, none⟩ (.int k z)) t g (zs.set i z) := by
  unfold Row at h ⊢
  simp [World.setCell, Array.getElem?_modify, h, List.map_set]
theorem Seg.keep (h : Seg k w g off zs) (hk : ∀ o, w'.cell? ⟨g, o, none⟩ = w.cell? ⟨g, o, none⟩) : Seg k w' g off zs := fun i hi => (hk _).trans (h i hi)
theorem Seg.below {B : Nat} (h : Seg k w g off zs) (hb : Below B w w') (hg : g < B) : Seg k w' g off zs := h.keep fun o => hb.cell (p := ⟨g, o, none⟩) hg
theorem Seg.drop (h : Seg k w g off zs) (j : Nat) : Seg k w g (off + j) (zs.drop j) := fun i hi => by
  rw [List.length_drop] at hi
  have h1 := h (j + i) (by omega)
  rw [List.getElem_drop, show off + j + i = off + (j + i) by omega]
  exact h1
theorem Seg.take (h : Seg k w g off zs) (j : Nat) : Seg k w g off (zs.take j) := fun i hi => by
  rw [List.length_take] at hi
  rw [List.getElem_take]
  exact h i (by omega)
theorem Seg.cellD (h : Seg k w g off zs) (i : Nat) (hi : i < zs.length) : w.cell? ⟨g, off + i, none⟩ = some (.int k (zs.getD i 0)) := by
  rw [h i hi]; simp [List.getD, hi]

theorem Seg.news (h : Seg k w g off zs) : ∀ (j : Nat) (u : Value), (zs.map (Value.int k))[j]? = some u → w.cell? ((⟨g, off, none⟩ : Addr).add j) = some u := by
  intro j u hu
  have hj : j < zs.length := by
    rcases Nat.lt_or_ge j zs.length with h | h
    · exact h
    · rw [List.getElem?_eq_none (by simpa using h)] at hu; cases hu
  have hp : (⟨g, off, none⟩ : Addr).add j = ⟨g, off + j, none⟩ := by unfold Addr.add; split <;> simp_all
  rw [hp, h j hj]
  simpa [hj] using hu
theorem only_refl (a : World) (row : Option Nat) : a.grownBy a row := ⟨rfl, rfl, rfl, Nat.le_refl _, fun _ _ _ => rfl⟩
theorem only_set {a w : World} {g : Nat} (h : a.grownBy w (some g)) (i : Nat) (u : Value) : a.grownBy (w.setCell ⟨g, i, none⟩ u) (some g) :=
  ⟨h.os, h.tape, h.output, by simpa [World.setCell] using h.size, fun j hj hne => (Below.heap_setCell w ⟨g, i, none⟩ u j (by rintro rfl; exact hne rfl)).trans (h.block j hj hne)⟩
theorem only_drawn {a w : World} {row : Option Nat} (h : a.grownBy w row) (n : Nat) : a.grownBy (w.drewN n) row := ⟨h.os, h.tape, h.output, h.size, h.block⟩
theorem only_below {a w : World} (h : Below a.heap.size a w) (row : Option Nat) : a.grownBy w row := ⟨h.os, h.tape, h.output, h.size, fun i hi _ => h.block i hi⟩
/-- What has turned block g alone has left all below B as it was, where B ≤ g. -/
theorem below_only {a b w : World} {B g : Nat} (h : Below B a b) (hg : b.grownBy w (some g)) (hB : B ≤ b.heap.size) (hBg : B ≤ g) : Below B a w :=
  h.grown hg hB (fun j hj => by injection hj; omega)
end

theorem madeCells_ints (k : IntKind) (n : Nat) : madeCells (Value.int k 0).cells n = ((List.replicate n (0 : Int)).map (Value.int k)).toArray := by
  apply Array.ext
  · simp [madeCells]
  · intro i h1 h2
    simp [madeCells, Value.cells, Nat.mod_one]

/-- make([]T, n) of integers: a new block of n noughts. -/
theorem wpList_make_ints {P : Program} (w : World) {ops : Array Oper} {rest : List Oper} {o : Oper} {a : Act} {Q : Exit → Act → World → Prop}
    (hg : o.guard = none) (l c : Operand) (t : TypeId) (hop : o.op = Op.makeSlice t l c)
    (e : TypeId) (i : TypeInfo) (k : IntKind) (h1 : P.underlying t = some (.slice e)) (h2 : P.info? e = some i) (h3 : i.zero = some (.int k 0)) (h4 : i.size = 1)
    (kl kc : IntKind) (L C : Int) (n : Nat) (hl : a.eval l = .int kl L) (hc : a.eval c = .int kc C) (hL : L = (n : Int)) (hC : C = (n : Int)) (b2 : i.bytes * n ≤ 281474976710656) (b3 : n ≤ maxLen)
    (hK : ∀ w', Row k w' e w.heap.size (List.replicate n 0) → Below w.heap.size w w' → w'.heap.size = w.heap.size + 1 → wpList P ops Q rest (a.put o.dst (.slice (some ⟨w.heap.size, 0, none⟩) n n)) w') :
    wpList P ops Q (o :: rest) a w := by
  refine wpList_plain hg fun K hK' => ?_
  subst hL
  subst hC
  have hb : (i.bytes : Int) * (n : Int) ≤ 281474976710656 := by
    have h : ((i.bytes * n : Nat) : Int) ≤ 281474976710656 := by omega
    rwa [Int.natCast_mul] at h
  simp only [maxLen] at b3
  have hrun := run_make (P := P) w t e i _ h1 h2 h3 kl kc n n (by omega) (by omega) hb (by omega)
  rw [Int.toNat_natCast, h4, Nat.mul_one, madeCells_ints] at hrun
  unfold Oper.wp
  simp only [execOp, hop, hl, hc, Sem.run_bind, hrun, Result.andThen_ok, Sem.run_pure]
  exact hK' _ _ (hK _ (Row.new w e _) ((Below.refl _ _).alloc (Nat.le_refl _) _) (by simp))

/-- Two results, the first an array in memory. -/
theorem results_cell_tmp {P : Program} {fn : Func} {p q : Tmp} {ty : TypeId} (h : fn.results = #[.cell p ty, .tmp q]) (tmps : Array Value) (w : World) (g : Nat) (t : TypeId) (cs : Array Value) (fr : Nat × Nat) (d : TypeDesc)
    (hp : tmps.getD p undef = .pointer (some ⟨g, 0, none⟩)) (hg : w.heap[g]? = some (.cells cs t fr))
    (hu : P.underlying ty = some d) (hd : (match d with | .struct _ | .array _ _ => true | _ => false) = true) (hi : (P.info? ty).map (·.size) = some cs.size) :
    (results fn tmps).run P w = .ok (.tuple #[.agg cs, tmps.getD q undef]) w := by
  have hp' : tmps[p]?.getD undef = .pointer (some ⟨g, 0, none⟩) := by simpa using hp
  simp [results, h, hp', asAddr, run_loadVar_row w g t ty cs fr d hg hu hd hi]

section
variable {H : Type} {enc : TypeId × Value → H} {P : Program} {w : World} {base : Nat} {spare : Nat → Bool} {held : Bool}
end

/-- What a walk is told of a slice of bytes: bs: its bytes; where it has one, its place. -/
structure InBytes (w : World) (a : Option Addr) (n cap : Nat) (bs : List Int) : Prop where
  len : bs.length = n
  bytes : Bytes8 bs
  le : n ≤ cap
  max : cap ≤ maxLen
  nil : a = none → cap = 0
  place : 0 < n → ∃ g off, a = some ⟨g, off, none⟩ ∧ g < w.heap.size ∧ Seg .u8 w g off bs

theorem InBytes.below {w w' : World} {a : Option Addr} {n cap : Nat} {bs : List Int} (h : InBytes w a n cap bs) (hb : Below w.heap.size w w') : InBytes w' a n cap bs :=
  ⟨h.len, h.bytes, h.le, h.max, h.nil, fun h0 => by
    obtain ⟨g, off, e, hg, hs⟩ := h.place h0
    exact ⟨g, off, e, Nat.lt_of_lt_of_le hg hb.size, hs.below hb hg⟩⟩
section
variable {H : Type} {enc : TypeId × Value → H} {P : Program} {w : World} {base : Nat} {spare : Nat → Bool} {held : Bool}
theorem open_bytes {t e : TypeId} {a : Option Addr} {n cap : Nat} {d : DataW H} {p : List MemPlace}
    (hu : P.underlying t = some (.slice e)) (he : P.underlying e = some (.int .u8)) (hce : P.cellsOf e = 1)
    (h : DataW.Trod enc P w base spare held t (.slice a n cap) d p) : ∃ bs, InBytes w a n cap bs := by
  obtain ⟨fuel, hf⟩ := h
  rcases open_ints hu he hce hf with ⟨hcs, _⟩ | ⟨x, l, c, zs, hcs, _, hl, hm, hz, _, hcell, hwz⟩
  · simp [Value.cells] at hcs
    obtain ⟨rfl, rfl, rfl⟩ := hcs
    exact ⟨[], { len := rfl, bytes := (fun z hz => by cases hz), le := Nat.le_refl _, max := by simp [maxLen], nil := fun _ => rfl, place := fun h => by omega }⟩
  · simp [Value.cells] at hcs
    obtain ⟨rfl, rfl, rfl⟩ := hcs
    have hlz : n ≤ zs.length := by rw [hz]; split <;> omega
    refine ⟨zs.take n, { len := by simp; omega, bytes := fun z h => bounds_u8 (hwz z (List.mem_of_mem_take h)), le := hl, max := hm, nil := (fun h => by cases h), place := fun h0 => ?_ }⟩
    obtain ⟨g, off, spot⟩ := x
    have h1 := hcell 0 (by omega)
    have hspot : spot = none := by simpa [Addr.add] using World.cell?_spot h1
    subst hspot
    have hlt := World.block_lt_of_cell? w _ h1
    refine ⟨g, off, rfl, by simpa [Addr.add] using hlt, fun i hi => ?_⟩
    have hi2 : i < zs.length := by simp at hi; omega
    have h2 := hcell i hi2
    have hp : (⟨g, off, none⟩ : Addr).add i = ⟨g, off + i, none⟩ := by unfold Addr.add; split <;> simp_all
    rw [hp] at h2
    rw [h2]
    simp [List.getD, hi2]
end

/-- A slice that came in is no longer than what any machine reaches. -/
theorem len_sized {H : Type} {enc : TypeId × Value → H} {P : Program} {w : World} {base : Nat} {spare : Nat → Bool} {held : Bool} {t e : TypeId} {a : Option Addr} {n cap : Nat} {d : DataW H} {p : List MemPlace}
    (hu : P.underlying t = some (.slice e)) (hb : P.bytesOf e = 1) (h : DataW.Trod enc P w base spare held t (.slice a n cap) d p)
    (hw : ∀ elems sp, d = .slice elems sp → (elems.length + sp.length) * P.bytesOf e ≤ reachBytes) : n ≤ 140737488351232 := by
  obtain ⟨fuel, hf⟩ := h
  rcases DataW.trod_slice hu hf with ⟨hcs, _⟩ | ⟨x, l, c, elems, rest, m, _, hcs, hx, _, _, _, hl, _⟩
  · simp [Value.cells] at hcs
    omega
  · simp [Value.cells] at hcs
    obtain ⟨rfl, rfl, rfl⟩ := hcs
    injection hx with hx _
    have h1 := hw _ _ hx
    rw [hb] at h1
    simp only [List.length_map, Nat.mul_one, reachBytes] at h1
    omega

theorem wpList_append_bytes {P : Program} (w : World) {ops : Array Oper} {rest : List Oper} {o : Oper} {a : Act} {Q : Exit → Act → World → Prop} (hgd : o.guard = none) (s x : Operand) (t : TypeId)
    (ho : o.op = .call { callee := .builtin .append, args := #[s, x], argTypes := #[t, t] })
    (base : Nat) (e : TypeId) (i : TypeInfo) (z : Value) (bytes : Nat) (ht : P.underlying t = some (.slice e)) (hi : P.info? e = some i) (hz : i.zero = some z)
    (hsize : i.size = 1) (hby : i.bytes = bytes) (hzs : z.cells.size = 1)
    (v : Value) (n : Nat) (xs : List Value) (hs : a.eval s = v) (hown : w.ownsRow base e 1 v n xs)
    (ad : Option Addr) (k cap : Nat) (r : List Int) (hx : a.eval x = .slice ad k cap) (hin : InBytes w ad k cap r)
    (h63 : n + k ≤ maxLen) (hbytes : (n + k) * bytes ≤ 140737488355328) (hbase : base ≤ w.heap.size)
    (h : ∀ v' w', w'.ownsRow base e 1 v' (n + k) (xs ++ r.map (Value.int .u8)) → w.grownBy w' v.ownBlock → wpList P ops Q rest (a.put o.dst v') w') : wpList P ops Q (o :: rest) a w := by
  cases ad with
  | none =>
    have hc := hin.nil rfl
    have hk : k = 0 := by have := hin.le; omega
    subst hc
    subst hk
    have hr : r = [] := List.eq_nil_of_length_eq_zero hin.len
    subst hr
    refine wpList_append_own_none hgd s x t ho base e i 1 ht hi v n xs hs hown hx ?_
    exact h v w (by simpa using hown) (only_refl w _)
  | some ad =>
    have hnews : ∀ (j : Nat) (u : Value), (r.map (Value.int .u8))[j]? = some u → w.cell? (ad.add j) = some u := by
      intro j u hu
      have hj : j < r.length := by
        rcases Nat.lt_or_ge j r.length with h | h
        · exact h
        · rw [List.getElem?_eq_none (by simpa using h)] at hu; cases hu
      have hl := hin.len
      obtain ⟨g, off, e1, _, hseg⟩ := hin.place (by omega)
      obtain rfl := Option.some.inj e1
      exact hseg.news j u hu
    refine wpList_append_own w hgd s x t ho base e i z 1 bytes ht hi hz hsize hby hzs (by omega) v n xs hs hown ad k cap (r.map (Value.int .u8)) hx (by simp [hin.len]) hnews (by simp [Value.oneCell']) h63 hbytes hbase ?_
    intro v' w' h1 h2 _
    exact h v' w' h1 h2

theorem conv_in {P : Program} {w : World} {a : Option Addr} {n cap : Nat} {bs : List Int} (h : InBytes w a n cap bs) (src e dst : TypeId) (hs : P.underlying src = some (.slice e)) (he : P.underlying e = some (.int .u8)) (hd : P.underlying dst = some .string) :
    (convert src dst (.slice a n cap)).run P w = .ok (.string (strOfNums bs)) w := by
  by_cases h0 : 0 < n
  · obtain ⟨g, off, rfl, _, hseg⟩ := h.place h0
    exact run_convert_bytes_arg w src e hs he g off n cap bs h.len (fun i hi => hseg.cellD i (by rw [h.len]; exact hi)) dst hd
  · have hn : n = 0 := by omega
    subst hn
    have hb : bs = [] := List.eq_nil_of_length_eq_zero h.len
    subst hb
    rw [run_convert_bytes_string w src dst e a 0 cap hs he hd]
    cases a with
    | none => simp [Conv.bytesToString, strOfNums]; rfl
    | some x =>
      have hl : (loadCells x 0).run P w = .ok (([] : List Int).map (Value.int .u8)).toArray w := by
        simpa using run_loadCells_list (P := P) w x [] (fun j v hj => by simp at hj)
      rw [run_bytesToString w x 0 cap [] hl]
      simp [strOfNums]; rfl

theorem wpList_append_bytes' {P : Program} (w : World) {ops : Array Oper} {rest : List Oper} {o : Oper} {a : Act} {Q : Exit → Act → World → Prop} (hgd : o.guard = none) (s x : Operand) (t : TypeId)
    (ho : o.op = .call { callee := .builtin .append, args := #[s, x], argTypes := #[t, t] })
    (base : Nat) (e : TypeId) (i : TypeInfo) (z : Value) (bytes : Nat) (ht : P.underlying t = some (.slice e)) (hi : P.info? e = some i) (hz : i.zero = some z)
    (hsize : i.size = 1) (hby : i.bytes = bytes) (hzs : z.cells.size = 1)
    (g0 n c0 : Nat) (xs : List Value) (hs : a.eval s = .slice (some ⟨g0, 0, none⟩) n c0) (hown : w.ownsRow base e 1 (.slice (some ⟨g0, 0, none⟩) n c0) n xs)
    (ad : Option Addr) (k cap : Nat) (r : List Int) (hx : a.eval x = .slice ad k cap) (hin : InBytes w ad k cap r)
    (h63 : n + k ≤ maxLen) (hbytes : (n + k) * bytes ≤ 140737488355328) (hbase : base ≤ w.heap.size)
    (h : ∀ g c w', w'.ownsRow base e 1 (.slice (some ⟨g, 0, none⟩) (n + k) c) (n + k) (xs ++ r.map (Value.int .u8)) → w.grownBy w' (some g0) → wpList P ops Q rest (a.put o.dst (.slice (some ⟨g, 0, none⟩) (n + k) c)) w') : wpList P ops Q (o :: rest) a w := by
  cases ad with
  | none =>
    have hc := hin.nil rfl
    have hk : k = 0 := by have := hin.le; omega
    subst hc
    subst hk
    have hr : r = [] := List.eq_nil_of_length_eq_zero hin.len
    subst hr
    refine wpList_append_own_none hgd s x t ho base e i 1 ht hi _ n xs hs hown hx ?_
    exact h g0 c0 w (by simpa using hown) (only_refl w _)
  | some ad =>
    have hnews : ∀ (j : Nat) (u : Value), (r.map (Value.int .u8))[j]? = some u → w.cell? (ad.add j) = some u := by
      intro j u hu
      have hj : j < r.length := by
        rcases Nat.lt_or_ge j r.length with h | h
        · exact h
        · rw [List.getElem?_eq_none (by simpa using h)] at hu; cases hu
      have hl := hin.len
      obtain ⟨g, off, e1, _, hseg⟩ := hin.place (by omega)
      obtain rfl := Option.some.inj e1
      exact hseg.news j u hu
    refine wpList_append_own w hgd s x t ho base e i z 1 bytes ht hi hz hsize hby hzs (by omega) _ n xs hs hown ad k cap (r.map (Value.int .u8)) hx (by simp [hin.len]) hnews (by simp [Value.oneCell']) h63 hbytes hbase ?_
    intro v' w' h1 h2 h3
    rcases h1.2 with ⟨hv, _⟩ | ⟨g, cap', cur, hv, _⟩
    · have := (h3.1 hv).1
      cases this
    · rw [hv] at h1 ⊢
      exact h g cap' w' h1 h2

theorem InBytes.upto {w : World} {a : Option Addr} {n cap : Nat} {bs : List Int} (h : InBytes w a n cap bs) (j : Nat) (hj : j ≤ n) : InBytes w a j cap (bs.take j) :=
  ⟨by have := h.len; simp; omega, fun z hz => h.bytes z (List.mem_of_mem_take hz), Nat.le_trans hj h.le, h.max, h.nil, fun h0 => by
    obtain ⟨g, off, e, hg, hs⟩ := h.place (by omega)
    exact ⟨g, off, e, hg, hs.take j⟩⟩
theorem InBytes.behind {w : World} {a : Option Addr} {n cap : Nat} {bs : List Int} (h : InBytes w a n cap bs) (j : Nat) (hj : j ≤ n) : InBytes w (if cap = j then a else a.map (·.add j)) (n - j) (cap - j) (bs.drop j) := by
  have hle := h.le
  refine ⟨by simp [h.len], fun z hz => h.bytes z (List.mem_of_mem_drop hz), by omega, by have := h.max; omega, fun hn => ?_, fun h0 => ?_⟩
  · have : a = none := by
      split at hn
      · exact hn
      · simpa using hn
    have := h.nil this
    omega
  · obtain ⟨g, off, rfl, hg, hs⟩ := h.place (by omega)
    refine ⟨g, off + j, ?_, hg, hs.drop j⟩
    rw [if_neg (by omega)]
    simp [Addr.add]

theorem InBytes.of_own {w : World} {base g n cap : Nat} {t : TypeId} {zs : List Int} (h : w.ownsRow base t 1 (.slice (some ⟨g, 0, none⟩) n cap) n (zs.map (Value.int .u8))) (hb : Bytes8 zs) : InBytes w (some ⟨g, 0, none⟩) n cap zs := by
  have hl : zs.length = n := by simpa using h.1
  have hlt := (h.lt g rfl).2
  have h2 := h.2
  rcases h2 with ⟨hv, _⟩ | ⟨g', cap', cur, hv, _, hh, hnc, hcm, _, _⟩
  · cases hv
  · injection hv with e1 e2 e3
    subst e3
    refine ⟨hl, hb, hnc, hcm, (fun hn => by cases hn), fun _ => ⟨g, 0, rfl, hlt, fun i hi => ?_⟩⟩
    have h3 := h.cells (g := g) rfl i (.int .u8 zs[i]) (by simp [hi])
    have hp : (⟨g, 0, none⟩ : Addr).add i = ⟨g, 0 + i, none⟩ := by unfold Addr.add; split <;> simp_all
    rw [hp] at h3
    exact h3

theorem InBytes.grown {w w' : World} {a : Option Addr} {n cap : Nat} {bs : List Int} {row : Option Nat} (h : InBytes w a n cap bs) (hg : w.grownBy w' row) (hne : ∀ ad, a = some ad → some ad.block ≠ row) : InBytes w' a n cap bs :=
  ⟨h.len, h.bytes, h.le, h.max, h.nil, fun h0 => by
    obtain ⟨g, off, e, hlt, hs⟩ := h.place h0
    exact ⟨g, off, e, Nat.lt_of_lt_of_le hlt hg.size, hs.keep fun o => World.cell?_of_block (hg.block g hlt (hne _ e))⟩⟩
/-- A block that was just made, as a row of one's own. -/
theorem own_new (w : World) (t : TypeId) (k : IntKind) (zs : List Int) (base : Nat) (hb : base ≤ w.heap.size) (hl : zs.length ≤ maxLen) :
    (w.alloc (.cells (zs.map (Value.int k)).toArray t)).ownsRow base t 1 (.slice (some ⟨w.heap.size, 0, none⟩) zs.length zs.length) zs.length (zs.map (Value.int k)) :=
  ⟨by simp, .inr ⟨w.heap.size, zs.length, (zs.map (Value.int k)).toArray, rfl, hb, heap_alloc_new w _, Nat.le_refl _, hl, by simp, by rw [Nat.mul_one]; exact List.take_of_length_le (by simp)⟩⟩
theorem own_form {w : World} {base : Nat} {e : TypeId} {v : Value} {n : Nat} {xs : List Value} (h : w.ownsRow base e 1 v n xs) (hv : v ≠ .slice none 0 0) : ∃ g c, v = .slice (some ⟨g, 0, none⟩) n c := by
  rcases h.2 with ⟨h1, _⟩ | ⟨g, c, _, h1, _⟩
  · exact absurd h1 hv
  · exact ⟨g, c, h1⟩
theorem only_trans {a b c : World} {row : Option Nat} (h1 : a.grownBy b row) (h2 : b.grownBy c row) : a.grownBy c row :=
  ⟨h2.os.trans h1.os, h2.tape.trans h1.tape, h2.output.trans h1.output, Nat.le_trans h1.size h2.size, fun j hj hne => (h2.block j (Nat.lt_of_lt_of_le hj h1.size) hne).trans (h1.block j hj hne)⟩
def lenV : Value → Nat
  | .slice _ l _ => l
  | _ => 0
/-! ### append of bytes that lie somewhere, or of a nil slice, onto a row of one's own, or onto nil -/
theorem InBytes.news {w : World} {ad : Addr} {k cap : Nat} {r : List Int} (hin : InBytes w (some ad) k cap r) : ∀ (j : Nat) (u : Value), (r.map (Value.int .u8))[j]? = some u → w.cell? (ad.add j) = some u := by
  intro j u hu
  have hj : j < r.length := by
    rcases Nat.lt_or_ge j r.length with h | h
    · exact h
    · rw [List.getElem?_eq_none (by simpa using h)] at hu; cases hu
  have hl := hin.len
  obtain ⟨g, off, e1, _, hseg⟩ := hin.place (by omega)
  obtain rfl := Option.some.inj e1
  exact hseg.news j u hu
theorem run_append_in {P : Program} (w : World) (t ty : TypeId) (base : Nat) (e : TypeId) (i : TypeInfo) (z : Value) (bytes : Nat) (ht : P.underlying t = some (.slice e)) (hi : P.info? e = some i) (hz : i.zero = some z)
    (hsize : i.size = 1) (hby : i.bytes = bytes) (hzs : z.cells.size = 1) (v : Value) (n : Nat) (xs : List Value) (hown : w.ownsRow base e 1 v n xs)
    (ad : Option Addr) (k cap : Nat) (r : List Int) (hin : InBytes w ad k cap r) (h63 : n + k ≤ maxLen) (hbytes : (n + k) * bytes ≤ 140737488355328) (hbase : base ≤ w.heap.size) :
    ∃ v' w', (Builtin.append_ #[t, t] ty #[v, .slice ad k cap]).run P w = .ok v' w' ∧ w'.ownsRow base e 1 v' (n + k) (xs ++ r.map (Value.int .u8)) ∧ w.grownBy w' v.ownBlock ∧ (v' = .slice none 0 0 ↔ v = .slice none 0 0 ∧ k = 0) := by
  cases ad with
  | none =>
    have hc := hin.nil rfl
    have hk : k = 0 := by have := hin.le; omega
    subst hc
    subst hk
    have hr : r = [] := List.eq_nil_of_length_eq_zero hin.len
    subst hr
    exact ⟨v, w, run_append_owned_none (P := P) (w := w) base t ty e i 1 ht hi v n xs hown, by simpa using hown, only_refl w _, by simp⟩
  | some ad => exact run_append_own w base t ty e i z 1 bytes ht hi hz hsize hby hzs (by omega) v n xs hown ad k cap (r.map (Value.int .u8)) (by simp [hin.len]) hin.news (by simp [Value.oneCell']) h63 hbytes hbase
theorem wp_append_in {P : Program} {w : World} {o : Oper} {a : Act} {K : Act → World → Prop} {Q : Exit → Act → World → Prop} (s x : Operand) (t : TypeId)
    (ho : o.op = .call { callee := .builtin .append, args := #[s, x], argTypes := #[t, t] })
    (base : Nat) (e : TypeId) (i : TypeInfo) (z : Value) (bytes : Nat) (ht : P.underlying t = some (.slice e)) (hi : P.info? e = some i) (hz : i.zero = some z)
    (hsize : i.size = 1) (hby : i.bytes = bytes) (hzs : z.cells.size = 1) (v : Value) (n : Nat) (xs : List Value) (hs : a.eval s = v) (hown : w.ownsRow base e 1 v n xs)
    (ad : Option Addr) (k cap : Nat) (r : List Int) (hx : a.eval x = .slice ad k cap) (hin : InBytes w ad k cap r) (h63 : n + k ≤ maxLen) (hbytes : (n + k) * bytes ≤ 140737488355328) (hbase : base ≤ w.heap.size)
    (h : ∀ v' w', w'.ownsRow base e 1 v' (n + k) (xs ++ r.map (Value.int .u8)) → w.grownBy w' v.ownBlock → (v' = .slice none 0 0 ↔ v = .slice none 0 0 ∧ k = 0) → K (a.put o.dst v') w') : Oper.wp P o a w K Q := by
  obtain ⟨v', w', hr, h2, h3, h4⟩ := run_append_in (P := P) w t o.type base e i z bytes ht hi hz hsize hby hzs v n xs hown ad k cap r hin h63 hbytes hbase
  unfold Oper.wp execOp
  simp only [ho, resolve, invoke, builtin, Sem.run_bind, Sem.run_pure, Result.andThen_ok, List.map_toArray, List.map_cons, List.map_nil, hs, hx, hr]
  exact h v' w' h2 h3 h4
/-- At a step of a region that draws its order: for go_region_law. -/
theorem step_append_in {P : Program} {w : World} {ops : Array Oper} {o : Oper} {a : Act} {K : Act → World → Prop} {Q : Exit → Act → World → Prop} {E : Prop} (hgd : o.guard = none) (s x : Operand) (t : TypeId)
    (ho : o.op = .call { callee := .builtin .append, args := #[s, x], argTypes := #[t, t] })
    (base : Nat) (e : TypeId) (i : TypeInfo) (z : Value) (bytes : Nat) (ht : P.underlying t = some (.slice e)) (hi : P.info? e = some i) (hz : i.zero = some z)
    (hsize : i.size = 1) (hby : i.bytes = bytes) (hzs : z.cells.size = 1) (v : Value) (n : Nat) (xs : List Value) (hs : a.eval s = v) (hown : w.ownsRow base e 1 v n xs)
    (ad : Option Addr) (k cap : Nat) (r : List Int) (hx : a.eval x = .slice ad k cap) (hin : InBytes w ad k cap r) (h63 : n + k ≤ maxLen) (hbytes : (n + k) * bytes ≤ 140737488355328) (hbase : base ≤ w.heap.size)
    (h : ∀ v' w', w'.ownsRow base e 1 v' (n + k) (xs ++ r.map (Value.int .u8)) → w.grownBy w' v.ownBlock → (v' = .slice none 0 0 ↔ v = .slice none 0 0 ∧ k = 0) → K (a.put o.dst v') w') :
    if Region.wanted o (yielded ops a.tmps) = true then Oper.wp P o a w K Q else E := by
  have hw : Region.wanted o (yielded ops a.tmps) = true := by simp [Region.wanted, hgd]
  rw [if_pos hw]
  exact wp_append_in s x t ho base e i z bytes ht hi hz hsize hby hzs v n xs hs hown ad k cap r hx hin h63 hbytes hbase h
theorem own_bump {w : World} {base g n c i : Nat} {zs : List Int} {e : TypeId} (h : w.ownsRow base e 1 (.slice (some ⟨g, 0, none⟩) n c) n (zs.map (Value.int .u8))) (z : Int) :
    (w.setCell ⟨g, i, none⟩ (.int .u8 z)).ownsRow base e 1 (.slice (some ⟨g, 0, none⟩) n c) n ((zs.set i z).map (Value.int .u8)) := by
  rw [List.map_set]
  exact (h.stored i _).1
theorem none_in (w : World) : InBytes w none 0 0 [] := ⟨rfl, (fun z hz => by cases hz), Nat.le_refl _, by simp [maxLen], fun _ => rfl, (fun h => by omega)⟩
theorem own_any {w : World} {base n : Nat} {t : TypeId} {v : Value} {zs : List Int} (h : w.ownsRow base t 1 v n (zs.map (Value.int .u8))) (hb : Bytes8 zs) : ∃ a c, v = .slice a n c ∧ InBytes w a n c zs := by
  have h0 := h
  rcases h.2 with ⟨rfl, rfl⟩ | ⟨g, c, cur, rfl, _⟩
  · have : zs = [] := by have := h.1; simpa using this
    subst this
    exact ⟨none, 0, rfl, none_in w⟩
  · exact ⟨some ⟨g, 0, none⟩, c, rfl, InBytes.of_own h0 hb⟩
theorem own_keep {w w' : World} {base n : Nat} {t : TypeId} {v : Value} {xs : List Value} (h : w.ownsRow base t 1 v n xs) (hb : Below w.heap.size w w') : w'.ownsRow base t 1 v n xs :=
  h.kept (only_below hb none) (by by_cases h : v.ownBlock = none; exact .inl h; exact .inr h)
theorem below_drawn {B : Nat} {a w : World} (h : Below B a w) (m : Nat) : Below B a (w.drewN m) := ⟨h.os, h.tape, h.output, h.size, h.block⟩
end Go.Proofs.Ytagmeljjkblpbaa

/- Arguments that are slices of anything: their cells, one behind the other, and what each element is. No program is named here. -/
namespace Go.Proofs.Ytagmeljjkblpbaa
open Go.ChangeShapes Go.WideShapes Go.RowKit Go.Deep
set_option linter.unusedVariables false

/-- A slice that lies somewhere: n elements of sz cells each; V: the cells' values. -/
structure InSl (w : World) (a : Option Addr) (n cap sz : Nat) (V : Nat → Value) : Prop where
  le : n ≤ cap
  max : cap ≤ maxLen
  nil : a = none → cap = 0
  place : 0 < n → ∃ g off, a = some ⟨g, off, none⟩ ∧ g < w.heap.size ∧ ∀ i, i < n * sz → w.cell? ⟨g, off + i, none⟩ = some (V i)
theorem InSl.below {w w' : World} {a : Option Addr} {n cap sz : Nat} {V : Nat → Value} (h : InSl w a n cap sz V) (hb : Below w.heap.size w w') : InSl w' a n cap sz V :=
  ⟨h.le, h.max, h.nil, fun h0 => by
    obtain ⟨g, off, e, hg, hc⟩ := h.place h0
    exact ⟨g, off, e, Nat.lt_of_lt_of_le hg hb.size, fun i hi => (hb.cell (p := ⟨g, off + i, none⟩) hg).trans (hc i hi)⟩⟩
section
variable {H : Type} {enc : TypeId × Value → H} {P : Program} {w : World} {base : Nat} {spare : Nat → Bool} {held : Bool}
end
end Go.Proofs.Ytagmeljjkblpbaa

/- Trees as arguments: the view of a tree that lies somewhere. No program is named here. -/
namespace Go.Proofs.Ytagmeljjkblpbaa
open Go.ChangeShapes Go.WideShapes Go.RowKit Go.Deep
set_option linter.unusedVariables false

/-- A tree: its kind, key, value, digest and kids. -/
inductive Tr where
  | mk (k : Int) (key val dig : List Int) (kids : List Tr)
def Tr.k : Tr → Int | .mk k _ _ _ _ => k
def Tr.key : Tr → List Int | .mk _ key _ _ _ => key
def Tr.val : Tr → List Int | .mk _ _ val _ _ => val
def Tr.dig : Tr → List Int | .mk _ _ _ dig _ => dig
def Tr.kids : Tr → List Tr | .mk _ _ _ _ kids => kids
theorem Tr.ind {P : Tr → Prop} (h : ∀ t : Tr, (∀ x ∈ t.kids, P x) → P t) : ∀ t, P t
  | .mk k key val dig kids => h (.mk k key val dig kids) (fun x hx => Tr.ind h x)
termination_by t => SizeOf.sizeOf t
decreasing_by
  have := List.sizeOf_lt_of_mem hx
  simp only [Tr.kids] at *
  simp
  omega
theorem Tr.size_lt {t x : Tr} (hx : x ∈ t.kids) : SizeOf.sizeOf x < SizeOf.sizeOf t := by
  cases t with
  | mk k key val dig kids =>
    have := List.sizeOf_lt_of_mem (show x ∈ kids from hx)
    simp
    omega

/-- The head of a tree's value: its five cells. -/
structure TH where
  k : Int
  ka : Option Addr
  kn : Nat
  kc : Nat
  va : Option Addr
  vn : Nat
  vc : Nat
  da : Option Addr
  dn : Nat
  dc : Nat
  ta : Option Addr
  tn : Nat
  tc : Nat
def TH.cells (h : TH) : List Value := [.int .i64 h.k, .slice h.ka h.kn h.kc, .slice h.va h.vn h.vc, .slice h.da h.dn h.dc, .slice h.ta h.tn h.tc]
def TH.cell (h : TH) (j : Nat) : Value := h.cells.getD j .nilIface
def TH.v (h : TH) : Value := .agg #[.int .i64 h.k, .slice h.ka h.kn h.kc, .slice h.va h.vn h.vc, .slice h.da h.dn h.dc, .slice h.ta h.tn h.tc]

/-- A tree that lies in world w; h is its head. -/
inductive InTree (w : World) : TH → Tr → Prop
  | mk (h : TH) (t : Tr) (H : Nat → TH) (hk : h.k = t.k) (hk1 : -9223372036854775808 ≤ h.k) (hk2 : h.k ≤ 9223372036854775807)
      (key : InBytes w h.ka h.kn h.kc t.key) (val : InBytes w h.va h.vn h.vc t.val) (dig : InBytes w h.da h.dn h.dc t.dig)
      (sl : InSl w h.ta h.tn h.tc 5 (fun i => (H (i / 5)).cell (i % 5))) (len : t.kids.length = h.tn)
      (kids : ∀ i (hi : i < t.kids.length), InTree w (H i) t.kids[i]) : InTree w h t

theorem InTree.lower {w w' : World} (hb : Below w.heap.size w w') {h : TH} {t : Tr} (ht : InTree w h t) : InTree w' h t := by
  induction ht with
  | mk h t H hk hk1 hk2 key val dig sl len kids ih => exact .mk h t H hk hk1 hk2 (key.below hb) (val.below hb) (dig.below hb) (sl.below hb) len ih

/-- What a tree's parts are. -/
structure TreeAt (w : World) (h : TH) (t : Tr) (H : Nat → TH) : Prop where
  hk : h.k = t.k
  hk1 : -9223372036854775808 ≤ h.k
  hk2 : h.k ≤ 9223372036854775807
  key : InBytes w h.ka h.kn h.kc t.key
  val : InBytes w h.va h.vn h.vc t.val
  dig : InBytes w h.da h.dn h.dc t.dig
  sl : InSl w h.ta h.tn h.tc 5 (fun i => (H (i / 5)).cell (i % 5))
  len : t.kids.length = h.tn
  kids : ∀ i (hi : i < t.kids.length), InTree w (H i) t.kids[i]
theorem InTree.parts {w : World} {h : TH} {t : Tr} (ht : InTree w h t) : ∃ H, TreeAt w h t H := by
  cases ht with
  | mk h t H hk hk1 hk2 key val dig sl len kids => exact ⟨H, hk, hk1, hk2, key, val, dig, sl, len, kids⟩
theorem TreeAt.below {w w' : World} {h : TH} {t : Tr} {H : Nat → TH} (ht : TreeAt w h t H) (hb : Below w.heap.size w w') : TreeAt w' h t H :=
  ⟨ht.hk, ht.hk1, ht.hk2, ht.key.below hb, ht.val.below hb, ht.dig.below hb, ht.sl.below hb, ht.len, fun i hi => (ht.kids i hi).lower hb⟩
/-- Where the kids lie, cell by cell. -/
theorem TreeAt.place {w : World} {h : TH} {t : Tr} {H : Nat → TH} (ht : TreeAt w h t H) (h0 : 0 < h.tn) : ∃ g off, h.ta = some ⟨g, off, none⟩ ∧ g < w.heap.size ∧
    ∀ i, i < h.tn → w.cell? ⟨g, off + i * 5, none⟩ = some (.int .i64 (H i).k) ∧ w.cell? ⟨g, off + i * 5 + 1, none⟩ = some (.slice (H i).ka (H i).kn (H i).kc) ∧ w.cell? ⟨g, off + i * 5 + 2, none⟩ = some (.slice (H i).va (H i).vn (H i).vc) ∧
      w.cell? ⟨g, off + i * 5 + 3, none⟩ = some (.slice (H i).da (H i).dn (H i).dc) ∧ w.cell? ⟨g, off + i * 5 + 4, none⟩ = some (.slice (H i).ta (H i).tn (H i).tc) := by
  obtain ⟨g, off, e, hg, hc⟩ := ht.sl.place h0
  refine ⟨g, off, e, hg, fun i hi => ?_⟩
  have key : ∀ j, j < 5 → w.cell? ⟨g, off + i * 5 + j, none⟩ = some ((H i).cell j) := fun j hj => by
    have h1 := hc (i * 5 + j) (by omega)
    try dsimp only at h1
    rw [show (i * 5 + j) / 5 = i by omega, show (i * 5 + j) % 5 = j by omega, ← Nat.add_assoc] at h1
    exact h1
  exact ⟨key 0 (by omega), key 1 (by omega), key 2 (by omega), key 3 (by omega), key 4 (by omega)⟩
/-- The same, where the kids' place is known. -/
theorem TreeAt.cellsAt {w : World} {h : TH} {t : Tr} {H : Nat → TH} (ht : TreeAt w h t H) {g off : Nat} (hta : h.ta = some ⟨g, off, none⟩) (i : Nat) (hi : i < h.tn) : w.cell? ⟨g, off + i * 5, none⟩ = some (.int .i64 (H i).k) ∧ w.cell? ⟨g, off + i * 5 + 1, none⟩ = some (.slice (H i).ka (H i).kn (H i).kc) ∧ w.cell? ⟨g, off + i * 5 + 2, none⟩ = some (.slice (H i).va (H i).vn (H i).vc) ∧ w.cell? ⟨g, off + i * 5 + 3, none⟩ = some (.slice (H i).da (H i).dn (H i).dc) ∧ w.cell? ⟨g, off + i * 5 + 4, none⟩ = some (.slice (H i).ta (H i).tn (H i).tc) := by
  obtain ⟨g', off', e, _, hc⟩ := ht.place (by omega)
  rw [hta] at e
  injection e with e
  injection e with e1 e2
  subst e1 e2
  exact hc i hi
/-- Block g holds a tree's five cells. -/
def Box (w : World) (ty : TypeId) (g : Nat) (h : TH) : Prop := w.heap[g]? = some (.cells #[.int .i64 h.k, .slice h.ka h.kn h.kc, .slice h.va h.vn h.vc, .slice h.da h.dn h.dc, .slice h.ta h.tn h.tc] ty (0, 0))
theorem Box.new (w : World) (ty : TypeId) (h : TH) : Box (w.alloc (.cells #[.int .i64 h.k, .slice h.ka h.kn h.kc, .slice h.va h.vn h.vc, .slice h.da h.dn h.dc, .slice h.ta h.tn h.tc] ty)) ty w.heap.size h := heap_alloc_new w _
section
variable {w w' : World} {ty : TypeId} {g : Nat} {h : TH}
theorem Box.below {B : Nat} (hx : Box w ty g h) (hb : Below B w w') (hg : g < B) : Box w' ty g h := (hb.block g hg).trans hx
theorem Box.lt (hx : Box w ty g h) : g < w.heap.size := by
  rcases Nat.lt_or_ge g w.heap.size with hlt | hge
  · exact hlt
  · unfold Box at hx; rw [Array.getElem?_eq_none hge] at hx; cases hx
theorem Box.drew (hx : Box w ty g h) : Box w.drew ty g h := hx
theorem Box.cells (hx : Box w ty g h) : w.cell? ⟨g, 0, none⟩ = some (.int .i64 h.k) ∧ w.cell? ⟨g, 1, none⟩ = some (.slice h.ka h.kn h.kc) ∧ w.cell? ⟨g, 2, none⟩ = some (.slice h.va h.vn h.vc) ∧ w.cell? ⟨g, 3, none⟩ = some (.slice h.da h.dn h.dc) ∧ w.cell? ⟨g, 4, none⟩ = some (.slice h.ta h.tn h.tc) := by
  unfold Box at hx
  refine ⟨?_, ?_, ?_, ?_, ?_⟩
  all_goals
    rw [cell_of_row w g _ _ _ (0, 0) hx]
    rfl
end
/-- Small enough: the bounds that the document's measure lays. -/
inductive LightOK : Tr → Prop
  | mk (t : Tr) (hk : t.key.length ≤ 3000) (hv : t.val.length ≤ 3000) (hd : t.dig.length ≤ 3000) (hn : t.kids.length ≤ 500) (kids : ∀ i (hi : i < t.kids.length), LightOK t.kids[i]) : LightOK t
end Go.Proofs.Ytagmeljjkblpbaa

/- What the document says of trees, as functions. No program is named here. -/
namespace Go.Proofs.Ytagmeljjkblpbaa
set_option linter.unusedVariables false

/-- A function over a tree, out of its kids' answers. -/
def Tr.fold {α : Type} (f : Tr → List α → α) (t : Tr) : α := f t (t.kids.attach.map fun x => Tr.fold f x.1)
termination_by SizeOf.sizeOf t
decreasing_by exact Tr.size_lt x.2
theorem Tr.fold_eq {α : Type} (f : Tr → List α → α) (t : Tr) : t.fold f = f t (t.kids.map (Tr.fold f)) := by
  rw [Tr.fold]
  congr 1
  exact List.attach_map_val

/-- How many parts it has. -/
def countT (t : Tr) : Nat := t.fold fun _ rs => 1 + rs.sum
theorem countT_eq (t : Tr) : countT t = 1 + (t.kids.map countT).sum := by
  unfold countT
  rw [Tr.fold_eq]
/-- Counts it as a node? -/
def isNode (t : Tr) : Bool := t.k == 1 || (t.k == 2 || decide (0 < t.kids.length))
/-- Is there a way of more than b nodes? -/
def deepT (t : Tr) (b : Int) : Bool := t.fold (fun t (rs : List (Int → Bool)) b => isNode t && b == 0 || rs.any (fun r => r (b - 1))) b
theorem deepT_eq (t : Tr) (b : Int) : deepT t b = (isNode t && b == 0 || t.kids.any (fun x => deepT x (b - 1))) := by
  unfold deepT
  rw [Tr.fold_eq]
  simp [List.any_map, Function.comp_def]

/-- Is a part as it should be, its kids aside? -/
def partB (t : Tr) : Bool :=
  if t.k = 0 then decide (t.key.length = 0) && (decide (t.val.length = 0) && (decide (t.dig.length = 0) && decide (t.kids.length = 0)))
  else if t.k = 1 then decide (t.key.length ≤ 80) && (decide (t.val.length ≤ 1024) && (decide (t.dig.length = 0) && decide (t.kids.length = 2)))
  else if t.k = 2 then decide (t.key.length ≤ 80) && (decide (t.val.length = 0) && decide (t.kids.length = 2))
  else if t.k = 3 then decide (t.key.length = 0) && (decide (t.val.length = 0) && decide (t.kids.length = 0))
  else false
def formedT (t : Tr) : Bool := t.fold fun t rs => partB t && rs.all id
theorem formedT_eq (t : Tr) : formedT t = (partB t && t.kids.all formedT) := by
  unfold formedT
  rw [Tr.fold_eq]
  simp [List.all_map, Function.comp_def]
/-- The number of the error, or 0. -/
def checkT (t : Tr) : Nat := if deepT t 64 then 5 else if formedT t then 0 else 3

def fullT (t : Tr) : Bool := t.fold fun t rs => decide (t.k ≤ 1) && rs.all id
def depthT (t : Tr) : Nat := t.fold fun t rs => if rs.length = 0 then 0 else max (rs.getD 0 0) (rs.getD 1 0) + 1
/-- The nodes of a tree that is formed, by the order of their keys. -/
def listT (t : Tr) : List Tr := t.fold fun t rs => if rs.length = 0 then [] else rs.getD 0 [] ++ (t :: rs.getD 1 [])
end Go.Proofs.Ytagmeljjkblpbaa

/- Partial trees by their kinds. No program is named here. -/
namespace Go.Proofs.Ytagmeljjkblpbaa
open Go.RowKit
set_option linter.unusedVariables false

theorem Tr.eta (t : Tr) : t = .mk t.k t.key t.val t.dig t.kids := by cases t; rfl
/-- A partial tree that is formed. -/
inductive PT where
  | nil
  | cut (d : List Int)
  | shown (l : PT) (key v : List Int) (r : PT)
  | dark (l : PT) (key d : List Int) (r : PT)
def PT.tr : PT → Tr
  | .nil => .mk 0 [] [] [] []
  | .cut d => .mk 3 [] [] d []
  | .shown l key v r => .mk 1 key v [] [l.tr, r.tr]
  | .dark l key d r => .mk 2 key [] d [l.tr, r.tr]
theorem PT.of : ∀ t : Tr, formedT t = true → ∃ p : PT, t = p.tr := by
  intro t
  induction t using Tr.ind with
  | h t ih =>
  intro hf
  rw [formedT_eq, Bool.and_eq_true, List.all_eq_true] at hf
  obtain ⟨hp, hk⟩ := hf
  have nil_of : ∀ {l : List Int}, l.length = 0 → l = [] := fun h => List.eq_nil_of_length_eq_zero h
  have two : t.kids.length = 2 → ∃ l r : PT, t.kids = [l.tr, r.tr] := fun h2 => by
    generalize t.kids = kids at h2 hk ih
    match kids, h2, hk, ih with
    | [x, y], _, hk, ih =>
      obtain ⟨l, hl⟩ := ih x (by simp) (hk x (by simp))
      obtain ⟨r, hr⟩ := ih y (by simp) (hk y (by simp))
      exact ⟨l, r, by rw [hl, hr]⟩
  unfold partB at hp
  split at hp
  · rename_i h0
    simp only [Bool.and_eq_true, decide_eq_true_eq] at hp
    obtain ⟨q1, q2, q3, q4⟩ := hp
    exact ⟨.nil, (Tr.eta t).trans (by rw [h0, nil_of q1, nil_of q2, nil_of q3, List.eq_nil_of_length_eq_zero q4]; rfl)⟩
  · split at hp
    · rename_i h1
      simp only [Bool.and_eq_true, decide_eq_true_eq] at hp
      obtain ⟨q1, q2, q3, q4⟩ := hp
      obtain ⟨l, r, e⟩ := two q4
      exact ⟨.shown l t.key t.val r, (Tr.eta t).trans (by rw [h1, nil_of q3, e]; rfl)⟩
    · split at hp
      · rename_i h2
        simp only [Bool.and_eq_true, decide_eq_true_eq] at hp
        obtain ⟨q1, q2, q3⟩ := hp
        obtain ⟨l, r, e⟩ := two q3
        exact ⟨.dark l t.key t.dig r, (Tr.eta t).trans (by rw [h2, nil_of q2, e]; rfl)⟩
      · split at hp
        · rename_i h3
          simp only [Bool.and_eq_true, decide_eq_true_eq] at hp
          obtain ⟨q1, q2, q3⟩ := hp
          exact ⟨.cut t.dig, (Tr.eta t).trans (by rw [h3, nil_of q1, nil_of q2, List.eq_nil_of_length_eq_zero q3]; rfl)⟩
        · cases hp
/-- Its keys are short. -/
def PT.short : PT → Prop
  | .nil => True
  | .cut _ => True
  | .shown l key _ r => l.short ∧ key.length ≤ 80 ∧ r.short
  | .dark l key _ r => l.short ∧ key.length ≤ 80 ∧ r.short
/-- A tree that is formed, by its kinds. -/
def toP (t : Tr) : PT := t.fold fun t rs => if t.k = 0 then .nil else if t.k = 3 then .cut t.dig else if t.k = 1 then .shown (rs.getD 0 .nil) t.key t.val (rs.getD 1 .nil) else .dark (rs.getD 0 .nil) t.key t.dig (rs.getD 1 .nil)
theorem toP_tr : ∀ p : PT, toP p.tr = p := by
  intro p
  induction p with
  | nil =>
    unfold toP
    rw [Tr.fold_eq]
    rfl
  | cut d =>
    unfold toP
    rw [Tr.fold_eq]
    rfl
  | shown l key v r ihl ihr =>
    unfold toP at ihl ihr ⊢
    rw [Tr.fold_eq]
    show PT.shown (Tr.fold _ l.tr) key v (Tr.fold _ r.tr) = _
    rw [ihl, ihr]
  | dark l key d r ihl ihr =>
    unfold toP at ihl ihr ⊢
    rw [Tr.fold_eq]
    show PT.dark (Tr.fold _ l.tr) key d (Tr.fold _ r.tr) = _
    rw [ihl, ihr]
end Go.Proofs.Ytagmeljjkblpbaa

/- Plain facts on a number's bytes: written, and read again. No program is named here. -/
namespace Go.Proofs.Ytagmeljjkblpbaa
set_option linter.unusedVariables false

/-- How many bytes a number has. -/
def nd (v : Nat) : Nat := if h : v = 0 then 0 else nd (v / 256) + 1
termination_by v
decreasing_by omega
/-- The k lowest bytes of a number, the highest first. -/
def be : Nat → Nat → List Int
  | 0, _ => []
  | k + 1, v => ((v / 256 ^ k % 256 : Nat) : Int) :: be k v
/-- A number's bytes, by the document. -/
def numL (v : Nat) : List Int := if v < 248 then [(v : Int)] else ((247 + nd v : Nat) : Int) :: be (nd v) v
/-- The number that bytes tell. -/
def val (l : List Int) : Nat := l.foldl (fun a x => 256 * a + x.toNat) 0
/-- Bytes with their length in front, by the document. -/
def bytL (bs : List Int) : List Int := numL bs.length ++ bs

theorem nd_zero : nd 0 = 0 := by unfold nd; simp
theorem nd_pos {v : Nat} (h : 0 < v) : nd v = nd (v / 256) + 1 := by
  rw [nd, dif_neg (by omega)]
theorem nd_lt (v : Nat) : v < 256 ^ nd v := by
  induction v using Nat.strongRecOn with
  | ind v ih =>
    by_cases h : v = 0
    · subst h; simp [nd_zero]
    · rw [nd_pos (by omega), Nat.pow_succ]
      have := ih (v / 256) (by omega)
      omega
theorem nd_ge {v : Nat} (h : 0 < v) : 256 ^ (nd v - 1) ≤ v := by
  induction v using Nat.strongRecOn with
  | ind v ih =>
    rw [nd_pos h]
    by_cases h1 : v / 256 = 0
    · rw [h1, nd_zero]; simp; omega
    · have h2 := ih (v / 256) (by omega) (by omega)
      have h3 : nd (v / 256) = nd (v / 256) - 1 + 1 := by rw [nd_pos (by omega)]; rfl
      rw [Nat.add_sub_cancel, h3, Nat.pow_succ]
      omega
theorem nd_le {v k : Nat} (h : v < 256 ^ k) : nd v ≤ k := by
  rcases Nat.eq_zero_or_pos v with rfl | hp
  · simp [nd_zero]
  · have h2 := nd_ge hp
    rcases Nat.lt_or_ge k (nd v) with h3 | h3
    · have h4 : 256 ^ k ≤ 256 ^ (nd v - 1) := Nat.pow_le_pow_right (by omega) (by omega)
      omega
    · exact h3
/-- What a loop that divides finds: it ends at the number of bytes. -/
theorem nd_unique {v k : Nat} (h : v / 256 ^ k = 0) (h2 : k = 0 ∨ v / 256 ^ (k - 1) ≠ 0) : k = nd v := by
  have hp : 0 < 256 ^ k := Nat.pow_pos (by omega)
  have h3 : v < 256 ^ k := by
    rcases Nat.lt_or_ge v (256 ^ k) with h4 | h4
    · exact h4
    · have := Nat.div_pos h4 hp; omega
  have h5 := nd_le h3
  rcases h2 with rfl | h2
  · omega
  · rcases Nat.lt_or_ge (nd v) k with h6 | h6
    · exfalso
      apply h2
      apply Nat.div_eq_of_lt
      exact Nat.lt_of_lt_of_le (nd_lt v) (Nat.pow_le_pow_right (by omega) (by omega))
    · omega
theorem nd_64 {v : Nat} (h : v < 18446744073709551616) : nd v ≤ 8 := nd_le (by simpa using h)
theorem nd_one {v : Nat} (h : 0 < v) : 1 ≤ nd v := by rw [nd_pos h]; omega
theorem div_step (v k : Nat) : v / 256 ^ k / 256 = v / 256 ^ (k + 1) := by rw [Nat.div_div_eq_div_mul, Nat.pow_succ]

theorem be_length : ∀ k v, (be k v).length = k
  | 0, _ => rfl
  | k + 1, v => by simp [be, be_length k v]
theorem be_bytes : ∀ k v, Bytes8 (be k v)
  | 0, _ => fun z hz => by cases hz
  | k + 1, v => fun z hz => by
    rcases List.mem_cons.1 hz with rfl | hz
    · omega
    · exact be_bytes k v z hz
theorem be_at : ∀ k v i, i < k → (be k v).getD i 0 = ((v / 256 ^ (k - 1 - i) % 256 : Nat) : Int)
  | 0, _, i, h => by omega
  | k + 1, v, 0, _ => by simp [be]
  | k + 1, v, i + 1, h => by
    have := be_at k v i (by omega)
    simp only [be, List.getD, List.getElem?_cons_succ] at this ⊢
    rw [this, show k + 1 - 1 - (i + 1) = k - 1 - i by omega]
theorem numL_bytes {v : Nat} (h : v < 18446744073709551616) : Bytes8 (numL v) := by
  unfold numL
  split
  · intro z hz
    simp only [List.mem_cons, List.not_mem_nil, or_false] at hz
    omega
  · intro z hz
    rcases List.mem_cons.1 hz with rfl | hz
    · have := nd_64 h; omega
    · exact be_bytes _ _ z hz
theorem numL_length (v : Nat) : (numL v).length = if v < 248 then 1 else nd v + 1 := by
  unfold numL
  split <;> simp [be_length]
theorem numL_pos (v : Nat) : 0 < (numL v).length := by rw [numL_length]; split <;> omega
theorem numL_le {v : Nat} (h : v < 18446744073709551616) : (numL v).length ≤ 9 := by
  have := nd_64 h
  rw [numL_length]; split <;> omega
theorem bytL_bytes {bs : List Int} (h : Bytes8 bs) (hl : bs.length < 18446744073709551616) : Bytes8 (bytL bs) := by
  intro z hz
  rcases List.mem_append.1 hz with hz | hz
  · exact numL_bytes hl z hz
  · exact h z hz

theorem val_snoc (l : List Int) (x : Int) : val (l ++ [x]) = 256 * val l + x.toNat := by simp [val, List.foldl_append]
theorem val_foldl (l : List Int) : ∀ a, l.foldl (fun a x => 256 * a + x.toNat) a = 256 ^ l.length * a + val l := by
  induction l with
  | nil => intro a; simp [val]
  | cons x r ih =>
    intro a
    simp only [List.foldl_cons, List.length_cons, val]
    rw [ih, ih (256 * 0 + x.toNat), Nat.pow_succ]
    simp only [Nat.mul_zero, Nat.zero_add, Nat.mul_add]
    rw [show 256 ^ r.length * (256 * a) = 256 ^ r.length * 256 * a by rw [Nat.mul_assoc]]
    omega
theorem val_cons (x : Int) (l : List Int) : val (x :: l) = 256 ^ l.length * x.toNat + val l := by
  have e : val (x :: l) = l.foldl (fun a x => 256 * a + x.toNat) x.toNat := by simp [val]
  rw [e, val_foldl]
theorem val_lt {l : List Int} (h : Bytes8 l) : val l < 256 ^ l.length := by
  induction l with
  | nil => simp [val]
  | cons x r ih =>
    rw [val_cons, List.length_cons, Nat.pow_succ]
    have h1 := ih (fun z hz => h z (List.mem_cons_of_mem _ hz))
    have h2 := h x (by simp)
    have h3 : 256 ^ r.length * x.toNat ≤ 256 ^ r.length * 255 := Nat.mul_le_mul_left _ (by omega)
    omega
theorem val_be : ∀ k v, val (be k v) = v % 256 ^ k
  | 0, v => by simp [be, val, Nat.mod_one]
  | k + 1, v => by
    have e : be (k + 1) v = ((v / 256 ^ k % 256 : Nat) : Int) :: be k v := rfl
    rw [e, val_cons, be_length, val_be k v, Int.toNat_natCast, Nat.pow_succ]
    have h : v % (256 ^ k * 256) = v % 256 ^ k + 256 ^ k * (v / 256 ^ k % 256) := Nat.mod_mul
    omega
/-- Bytes are those of the number that they tell. -/
theorem be_val {l : List Int} (h : Bytes8 l) : be l.length (val l) = l := by
  induction l with
  | nil => rfl
  | cons x r ih =>
    have hr : Bytes8 r := fun z hz => h z (List.mem_cons_of_mem _ hz)
    have h1 := val_lt hr
    have h2 := h x (by simp)
    have hp : 0 < 256 ^ r.length := Nat.pow_pos (by omega)
    have e1 : val (x :: r) / 256 ^ r.length % 256 = x.toNat := by
      rw [val_cons, Nat.mul_add_div hp, Nat.div_eq_of_lt h1]
      omega
    have e2 : ∀ k, k ≤ r.length → be k (val (x :: r)) = be k (val r) := by
      intro k
      induction k with
      | zero => intro _; rfl
      | succ k ihk =>
        intro hk
        have e3 : 256 ^ r.length = 256 ^ k * (256 * 256 ^ (r.length - k - 1)) := by
          rw [← Nat.mul_assoc, ← Nat.pow_succ, ← Nat.pow_add]
          congr 1; omega
        simp only [be]
        rw [ihk (by omega), val_cons, e3]
        congr 2
        rw [Nat.mul_assoc, Nat.mul_add_div (Nat.pow_pos (by omega)), Nat.mul_assoc, Nat.mul_add_mod]
    simp only [List.length_cons, be]
    rw [e1, e2 r.length (Nat.le_refl _), ih hr, Int.toNat_of_nonneg h2.1]

/-- The number at the front, and what stands behind it. -/
def getNum : List Int → Option (Nat × List Int)
  | [] => none
  | c :: r =>
    if c < 248 then some (c.toNat, r)
    else if r.length < (c - 247).toNat then none
    else if r.getD 0 0 = 0 ∨ val (r.take (c - 247).toNat) < 248 then none
    else some (val (r.take (c - 247).toNat), r.drop (c - 247).toNat)
/-- What a reader tells of a number, a byte, bytes; and what is left. No list: the flag is set. -/
def rdNum : Option (List Int) → Nat × Option (List Int)
  | none => (0, none)
  | some r => match getNum r with
    | none => (0, none)
    | some (v, r') => (v, some r')
def rdByte : Option (List Int) → Int × Option (List Int)
  | none => (0, none)
  | some [] => (0, none)
  | some (c :: r) => (c, some r)
def rdBytes (most : Int) (s : Option (List Int)) : List Int × Option (List Int) :=
  match (rdNum s).2 with
  | none => ([], none)
  | some r => if most < 0 ∨ most < ((rdNum s).1 : Int) ∨ r.length < (rdNum s).1 then ([], none) else (r.take (rdNum s).1, some (r.drop (rdNum s).1))
def rdEnd : Option (List Int) → Int
  | none => 3
  | some [] => 0
  | some _ => 4

theorem getNum_lt {l r : List Int} {v : Nat} (hb : Bytes8 l) (h : getNum l = some (v, r)) : v < 18446744073709551616 := by
  cases l with
  | nil => simp [getNum] at h
  | cons c t =>
    have hc := hb c (by simp)
    simp only [getNum] at h
    split at h
    · injection h with h; injection h with h1 h2; omega
    · split at h
      · cases h
      · split at h
        · cases h
        · injection h with h; injection h with h1 h2
          subst h1
          have h3 := val_lt (l := t.take (c - 247).toNat) (fun z hz => hb z (List.mem_cons_of_mem _ (List.mem_of_mem_take hz)))
          have h4 : 256 ^ (t.take (c - 247).toNat).length ≤ 256 ^ 8 := Nat.pow_le_pow_right (by omega) (by rw [List.length_take]; omega)
          have h5 : (256 : Nat) ^ 8 = 18446744073709551616 := by decide
          omega
/-- What was written is read as it was, whatever stands behind it. -/
theorem getNum_numL {v : Nat} (h : v < 18446744073709551616) (r : List Int) : getNum (numL v ++ r) = some (v, r) := by
  unfold numL
  split
  · rename_i h1
    have : ((v : Int) < 248) := by omega
    simp [getNum, this]
  · rename_i h1
    have hn := nd_64 h
    have hn1 := nd_one (v := v) (by omega)
    have e1 : ¬ (((247 + nd v : Nat) : Int) < 248) := by omega
    have e2 : (((247 + nd v : Nat) : Int) - 247).toNat = nd v := by omega
    have e3 : (be (nd v) v ++ r).take (nd v) = be (nd v) v := by
      rw [List.take_append_of_le_length (by rw [be_length]; omega), List.take_of_length_le (by rw [be_length]; omega)]
    have e4 : (be (nd v) v ++ r).drop (nd v) = r := by
      have := List.drop_left (l₁ := be (nd v) v) (l₂ := r)
      rw [be_length] at this
      exact this
    have e5 : val (be (nd v) v) = v := by rw [val_be, Nat.mod_eq_of_lt (nd_lt v)]
    have e6 : (be (nd v) v ++ r).getD 0 0 = ((v / 256 ^ (nd v - 1) : Nat) : Int) := by
      have h2 := be_at (nd v) v 0 (by omega)
      have h3 : v / 256 ^ (nd v - 1) < 256 := by
        apply Nat.div_lt_of_lt_mul
        rw [← Nat.pow_succ, show (nd v - 1).succ = nd v by omega]
        exact nd_lt v
      rw [Nat.sub_zero, Nat.mod_eq_of_lt h3] at h2
      rw [← h2]
      simp only [List.getD]
      rw [List.getElem?_append_left (by rw [be_length]; omega)]
    have e7 : 0 < v / 256 ^ (nd v - 1) := Nat.div_pos (nd_ge (by omega)) (Nat.pow_pos (by omega))
    simp only [List.cons_append, getNum]
    rw [if_neg e1, e2, if_neg (by rw [List.length_append, be_length]; omega), e3, e4, e5, e6, if_neg (by omega)]
theorem rdNum_numL {v : Nat} (h : v < 18446744073709551616) (r : List Int) : rdNum (some (numL v ++ r)) = (v, some r) := by
  simp [rdNum, getNum_numL h r]
theorem rdBytes_bytL {bs : List Int} (h : bs.length < 18446744073709551616) (r : List Int) (most : Int) (hm : (bs.length : Int) ≤ most) : rdBytes most (some (bytL bs ++ r)) = (bs, some r) := by
  unfold bytL rdBytes
  rw [List.append_assoc, rdNum_numL h]
  simp
  omega
end Go.Proofs.Ytagmeljjkblpbaa

/- Trees as bytes, and bytes as trees, as functions: what was written is read as it was, what was read is written as those bytes, and no encoding begins another one. No program is named here. -/
namespace Go.Proofs.Ytagmeljjkblpbaa
set_option linter.unusedVariables false

/-- A tree's bytes. -/
def codeP : PT → List Int
  | .nil => [0]
  | .cut d => 3 :: bytL d
  | .shown l key v r => 1 :: (bytL key ++ (bytL v ++ (codeP l ++ codeP r)))
  | .dark l key d r => 2 :: (bytL key ++ (bytL d ++ (codeP l ++ codeP r)))
/-- Its parts are short enough to be written. -/
def PT.fits10 : PT → Prop
  | .nil => True
  | .cut d => d.length ≤ 32
  | .shown l key v r => key.length ≤ 80 ∧ v.length ≤ 1024 ∧ l.fits10 ∧ r.fits10
  | .dark l key d r => key.length ≤ 80 ∧ d.length ≤ 32 ∧ l.fits10 ∧ r.fits10
def PT.depthP : PT → Nat
  | .nil => 0
  | .cut _ => 0
  | .shown l _ _ r => max l.depthP r.depthP + 1
  | .dark l _ _ r => max l.depthP r.depthP + 1
/-- Bytes, at most so many: what they are, and what is left. -/
def takeBy (most : Int) (s : List Int) : Option (List Int × List Int) := match rdBytes most (some s) with
  | (b, some r) => some (b, r)
  | (_, none) => none
/-- The tree that stands next, at most so deep, and what is left. -/
def readP : Nat → List Int → Option (PT × List Int)
  | _, [] => none
  | n, c :: s =>
    if c = 0 then some (.nil, s)
    else if c = 3 then (takeBy 32 s).map fun x => (.cut x.1, x.2)
    else match n with
      | 0 => none
      | n + 1 =>
        if c = 1 ∨ c = 2 then
          match takeBy 80 s with
          | none => none
          | some (key, s1) =>
            match takeBy (if c = 1 then 1024 else 32) s1 with
            | none => none
            | some (z, s2) =>
              match readP n s2 with
              | none => none
              | some (l, s3) =>
                match readP n s3 with
                | none => none
                | some (r, s4) => some (if c = 1 then .shown l key z r else .dark l key z r, s4)
        else none
theorem take_bytL {bs : List Int} (r : List Int) (most : Int) (hm : (bs.length : Int) ≤ most) (h1 : most ≤ 2000) : takeBy most (bytL bs ++ r) = some (bs, r) := by
  unfold takeBy
  rw [rdBytes_bytL (by omega) r most hm]
theorem read_code : ∀ (p : PT) (n : Nat) (rest : List Int), p.fits10 → p.depthP ≤ n → readP n (codeP p ++ rest) = some (p, rest) := by
  intro p
  induction p with
  | nil =>
    intro n rest _ _
    cases n <;> rfl
  | cut d =>
    intro n rest h _
    have e : codeP (.cut d) ++ rest = 3 :: (bytL d ++ rest) := rfl
    rw [e]
    have ht := take_bytL (bs := d) rest 32 (by have : d.length ≤ 32 := h; omega) (by omega)
    cases n <;> simp [readP, ht]
  | shown l key v r ihl ihr =>
    intro n rest h hd
    have hd' : max l.depthP r.depthP + 1 ≤ n := hd
    obtain ⟨m, rfl⟩ : ∃ m, n = m + 1 := ⟨n - 1, by omega⟩
    have e : codeP (.shown l key v r) ++ rest = 1 :: (bytL key ++ (bytL v ++ (codeP l ++ (codeP r ++ rest)))) := by simp [codeP]
    have t1 := take_bytL (bs := key) (bytL v ++ (codeP l ++ (codeP r ++ rest))) 80 (by have := h.1; omega) (by omega)
    have t2 := take_bytL (bs := v) (codeP l ++ (codeP r ++ rest)) 1024 (by have := h.2.1; omega) (by omega)
    have t3 := ihl m (codeP r ++ rest) h.2.2.1 (by omega)
    have t4 := ihr m rest h.2.2.2 (by omega)
    rw [e, readP, if_neg (by omega), if_neg (by omega)]
    simp [t1, t2, t3, t4]
  | dark l key d r ihl ihr =>
    intro n rest h hd
    have hd' : max l.depthP r.depthP + 1 ≤ n := hd
    obtain ⟨m, rfl⟩ : ∃ m, n = m + 1 := ⟨n - 1, by omega⟩
    have e : codeP (.dark l key d r) ++ rest = 2 :: (bytL key ++ (bytL d ++ (codeP l ++ (codeP r ++ rest)))) := by simp [codeP]
    have t1 := take_bytL (bs := key) (bytL d ++ (codeP l ++ (codeP r ++ rest))) 80 (by have := h.1; omega) (by omega)
    have t2 := take_bytL (bs := d) (codeP l ++ (codeP r ++ rest)) 32 (by have := h.2.1; omega) (by omega)
    have t3 := ihl m (codeP r ++ rest) h.2.2.1 (by omega)
    have t4 := ihr m rest h.2.2.2 (by omega)
    rw [e, readP, if_neg (by omega), if_neg (by omega)]
    simp [t1, t2, t3, t4]
/-- A number that was read was written so. -/
theorem getNum_inv {l r : List Int} {v : Nat} (hb : Bytes8 l) (h : getNum l = some (v, r)) : l = numL v ++ r := by
  cases l with
  | nil => simp [getNum] at h
  | cons c t =>
    have hc := hb c (by simp)
    simp only [getNum] at h
    split at h
    · rename_i h1
      injection h with h
      injection h with h2 h3
      subst h2 h3
      unfold numL
      rw [if_pos (by omega)]
      simp
      omega
    · rename_i h1
      split at h
      · cases h
      · rename_i h2
        split at h
        · cases h
        · rename_i h3
          injection h with h
          injection h with h4 h5
          obtain ⟨n, hn⟩ : ∃ n, (c - 247).toNat = n := ⟨_, rfl⟩
          rw [hn] at h2 h3 h4 h5
          have hn1 : 1 ≤ n := by omega
          have hlen : (t.take n).length = n := by rw [List.length_take]; omega
          have hba : Bytes8 (t.take n) := fun z hz => hb z (List.mem_cons_of_mem _ (List.mem_of_mem_take hz))
          have hlt := val_lt hba
          rw [hlen] at hlt
          match t, h2, h3, h4, h5, hlen, hba, hlt with
          | [], h2, _, _, _, _, _, _ => simp at h2; omega
          | x :: t', h2, h3, h4, h5, hlen, hba, hlt =>
            obtain ⟨m, rfl⟩ : ∃ m, n = m + 1 := ⟨n - 1, by omega⟩
            rw [List.take_succ_cons] at h3 h4 hlen hba hlt
            have hlm : (t'.take m).length = m := by simpa using hlen
            have hx := hba x (by simp)
            have hx0 : x ≠ 0 := fun e => h3 (.inl (by simp [e]))
            have hbig : 256 ^ m ≤ val (x :: t'.take m) := by
              rw [val_cons, hlm]
              have : 1 ≤ x.toNat := by omega
              have q := Nat.mul_le_mul_left (256 ^ m) this
              omega
            have hnd : m + 1 = nd v := by
              rw [← h4]
              refine nd_unique (Nat.div_eq_of_lt hlt) (.inr ?_)
              rw [Nat.add_sub_cancel]
              have := Nat.div_pos hbig (Nat.pow_pos (by omega))
              omega
            have hbe := be_val hba
            rw [List.length_cons, hlm, hnd, h4] at hbe
            unfold numL
            rw [if_neg (by rw [← h4]; omega), hbe, ← h5, List.drop_succ_cons, List.cons_append, List.cons_append]
            have e1 : c = ((247 + nd v : Nat) : Int) := by omega
            rw [e1, List.take_append_drop]
theorem take_inv {most : Int} {s b r : List Int} (hb : Bytes8 s) (h : takeBy most s = some (b, r)) : s = bytL b ++ r ∧ (b.length : Int) ≤ most := by
  cases hg : getNum s with
  | none =>
    have e : rdNum (some s) = (0, none) := by simp [rdNum, hg]
    unfold takeBy rdBytes at h
    rw [e] at h
    cases h
  | some x =>
    obtain ⟨v, q⟩ := x
    have e : rdNum (some s) = (v, some q) := by simp [rdNum, hg]
    unfold takeBy rdBytes at h
    rw [e] at h
    dsimp only at h
    by_cases hc : most < 0 ∨ most < (v : Int) ∨ q.length < v
    · rw [if_pos hc] at h
      cases h
    · rw [if_neg hc] at h
      injection h with h
      injection h with h1 h2
      subst h1 h2
      have e3 := getNum_inv hb hg
      have e4 : (q.take v).length = v := by rw [List.length_take]; omega
      refine ⟨?_, by omega⟩
      unfold bytL
      rw [e4, List.append_assoc, List.take_append_drop]
      exact e3
theorem bytes_rest {a r : List Int} (h : Bytes8 (a ++ r)) : Bytes8 r := fun z hz => h z (by simp [hz])
theorem read_inv : ∀ (n : Nat) (s : List Int) (p : PT) (rest : List Int), Bytes8 s → readP n s = some (p, rest) → s = codeP p ++ rest ∧ p.fits10 ∧ p.depthP ≤ n := by
  intro n
  induction n with
  | zero =>
    intro s p rest hb h
    cases s with
    | nil => simp [readP] at h
    | cons c s =>
      rw [readP] at h
      split at h
      · rename_i c0
        injection h with h
        injection h with h1 h2
        subst h1 h2 c0
        exact ⟨rfl, trivial, Nat.le_refl _⟩
      · split at h
        · rename_i c3
          rw [Option.map_eq_some_iff] at h
          obtain ⟨⟨d, r⟩, h1, h2⟩ := h
          injection h2 with h2 h3
          subst h2 h3 c3
          obtain ⟨e, hl⟩ := take_inv (fun z hz => hb z (List.mem_cons_of_mem _ hz)) h1
          exact ⟨by rw [e]; rfl, (by show d.length ≤ 32; omega), Nat.le_refl _⟩
        · cases h
  | succ n ih =>
    intro s p rest hb h
    cases s with
    | nil => simp [readP] at h
    | cons c s =>
      have hbs : Bytes8 s := fun z hz => hb z (List.mem_cons_of_mem _ hz)
      rw [readP] at h
      split at h
      · rename_i c0
        injection h with h
        injection h with h1 h2
        subst h1 h2 c0
        exact ⟨rfl, trivial, Nat.zero_le _⟩
      · split at h
        · rename_i c3
          rw [Option.map_eq_some_iff] at h
          obtain ⟨⟨d, r⟩, h1, h2⟩ := h
          injection h2 with h2 h3
          subst h2 h3 c3
          obtain ⟨e, hl⟩ := take_inv hbs h1
          exact ⟨by rw [e]; rfl, (by show d.length ≤ 32; omega), Nat.zero_le _⟩
        · split at h
          · rename_i c12
            cases h1 : takeBy 80 s with
            | none => rw [h1] at h; cases h
            | some x1 =>
              obtain ⟨key, s1⟩ := x1
              rw [h1] at h
              dsimp only at h
              obtain ⟨e1, l1⟩ := take_inv hbs h1
              have hb1 : Bytes8 s1 := bytes_rest (e1 ▸ hbs)
              cases h2 : takeBy (if c = 1 then 1024 else 32) s1 with
              | none => rw [h2] at h; cases h
              | some x2 =>
                obtain ⟨z, s2⟩ := x2
                rw [h2] at h
                dsimp only at h
                obtain ⟨e2, l2⟩ := take_inv hb1 h2
                have hb2 : Bytes8 s2 := bytes_rest (e2 ▸ hb1)
                cases h3 : readP n s2 with
                | none => rw [h3] at h; cases h
                | some x3 =>
                  obtain ⟨l, s3⟩ := x3
                  rw [h3] at h
                  dsimp only at h
                  obtain ⟨e3, f3, d3⟩ := ih s2 l s3 hb2 h3
                  have hb3 : Bytes8 s3 := bytes_rest (e3 ▸ hb2)
                  cases h4 : readP n s3 with
                  | none => rw [h4] at h; cases h
                  | some x4 =>
                    obtain ⟨r, s4⟩ := x4
                    rw [h4] at h
                    dsimp only at h
                    obtain ⟨e4, f4, d4⟩ := ih s3 r s4 hb3 h4
                    injection h with h
                    injection h with h5 h6
                    subst h6
                    by_cases c1 : c = 1
                    · rw [if_pos c1] at h5 l2
                      subst h5 c1
                      refine ⟨?_, ⟨by omega, by omega, f3, f4⟩, ?_⟩
                      · rw [e1, e2, e3, e4]
                        simp [codeP]
                      · show max l.depthP r.depthP + 1 ≤ n + 1
                        omega
                    · have c2 : c = 2 := by omega
                      rw [if_neg c1] at h5 l2
                      subst h5 c2
                      refine ⟨?_, ⟨by omega, by omega, f3, f4⟩, ?_⟩
                      · rw [e1, e2, e3, e4]
                        simp [codeP]
                      · show max l.depthP r.depthP + 1 ≤ n + 1
                        omega
          · cases h
/-- With a byte less, it isn't read. -/
theorem read_less {n : Nat} {p : PT} {y : List Int} {z : Int} (hf : p.fits10) (hd : p.depthP ≤ n) (hb : Bytes8 y) (h : codeP p = y ++ [z]) : readP n y = none := by
  cases hr : readP n y with
  | none => rfl
  | some x =>
    obtain ⟨q, rest⟩ := x
    obtain ⟨e, fq, dq⟩ := read_inv n y q rest hb hr
    have h1 := read_code p n [] hf hd
    rw [List.append_nil, h, e, List.append_assoc, read_code q n (rest ++ [z]) fq dq] at h1
    injection h1 with h1
    injection h1 with _ h1
    simp at h1
end Go.Proofs.Ytagmeljjkblpbaa

/- The byte's type, as the program has it; slices of new memory. -/
namespace Go.Proofs.Ytagmeljjkblpbaa
open Go.RowKit
theorem infoU8 : (Try.prog.info? 5).map (fun i => (i.zero, i.size, i.bytes)) = some (some (.int .u8 0), 1, 1) := by kernel_rfl
theorem conv_own {w : World} {base g c : Nat} {zs : List Int} (h : w.ownsRow base 5 1 (.slice (some ⟨g, 0, none⟩) zs.length c) zs.length (zs.map (Value.int .u8))) (hb : Bytes8 zs) :
    (convert 22 9 (.slice (some ⟨g, 0, none⟩) zs.length c)).run Try.prog w = .ok (.string (strOfNums zs)) w :=
  conv_in (P := Try.prog) (InBytes.of_own h hb) 22 5 9 Try.underlying22 Try.underlying5 Try.underlying9
/-- A slice of new memory that holds the bytes zs. -/
def OwnPost (w : World) (zs : List Int) (e : Ending) (w' : World) : Prop :=
  ∃ g c, e = .returned (.slice (some ⟨g, 0, none⟩) zs.length c) ∧ w'.ownsRow w.heap.size 5 1 (.slice (some ⟨g, 0, none⟩) zs.length c) zs.length (zs.map (Value.int .u8)) ∧ Below w.heap.size w w'
end Go.Proofs.Ytagmeljjkblpbaa

/- The contracts of the document's checks of trees. -/
namespace Go.Proofs.Ytagmeljjkblpbaa
open Go.RowKit
set_option linter.unusedVariables false

/-- It answers v; what was there stays. -/
def Says (w : World) (v : Value) (e : Ending) (w' : World) : Prop := e = .returned v ∧ Below w.heap.size w w'

theorem any_take {α : Type} (l : List α) (p : α → Bool) (i : Nat) (hi : i < l.length) : (l.take (i + 1)).any p = ((l.take i).any p || p l[i]) := by
  rw [List.take_succ_eq_append_getElem hi, List.any_append]
  simp
theorem all_take {α : Type} (l : List α) (p : α → Bool) (i : Nat) (hi : i < l.length) : (l.take (i + 1)).all p = ((l.take i).all p && p l[i]) := by
  rw [List.take_succ_eq_append_getElem hi, List.all_append]
  simp
theorem any_at {α : Type} {l : List α} {p : α → Bool} (i : Nat) (hi : i < l.length) (h : p l[i] = true) : l.any p = true := List.any_eq_true.mpr ⟨_, List.getElem_mem hi, h⟩
theorem all_not {α : Type} {l : List α} {p : α → Bool} (i : Nat) (hi : i < l.length) (h : p l[i] = false) : l.all p = false := by
  rw [Bool.eq_false_iff]
  intro hc
  have := List.all_eq_true.mp hc _ (List.getElem_mem hi)
  rw [this] at h
  cases h
set_option maxRecDepth 100000 in
set_option maxHeartbeats 4000000 in
theorem refDeep_any : ∀ (t : Tr) (h : TH) (b : Int) (w : World), InTree w h t → 0 ≤ b → b ≤ 64 →
    Calls Try.prog 34 #[h.v, .int .i64 b] w (Says w (.bool (deepT t b))) := by
  intro t
  induction t using Tr.ind with
  | h t ih =>
  intro h b w ht hb0 hb1
  unfold TH.v
  obtain ⟨H, hp⟩ := ht.parts
  have hkl := hp.key.len
  have hvl := hp.val.len
  have hdl := hp.dig.len
  have htl := hp.len
  have HK := Lib.hid hp.hk
  have htm := Nat.le_trans hp.sl.le hp.sl.max
  have htc := hp.sl.le
  simp only [maxLen] at htm
  have HP := Lib.hid hp
  have IH := Lib.hid ih
  clear hp ht ih
  have hbox := Box.new w 25 h
  have HX := Lib.hid hbox
  obtain ⟨x0, x1, x2, x3, x4⟩ := hbox.cells
  clear hbox
  have hw1 : Below w.heap.size w (w.alloc (.cells #[.int .i64 h.k, .slice h.ka h.kn h.kc, .slice h.va h.vn h.vc, .slice h.da h.dn h.dc, .slice h.ta h.tn h.tc] 25)) := (Below.refl _ _).alloc (Nat.le_refl _) _
  have HB := Lib.hid hw1
  clear hw1
  go_enter Try.func34, Try.ntmps34
  go_upto_region 1 with fail
  go_cut [5] (fun s5 wx => s5 = .bool (isNode t) ∧ Box wx 25 w.heap.size h ∧ Below w.heap.size w wx)
  case first =>
    have hk := HK.out
    have hin : isNode t = (h.k == 1 || (h.k == 2 || decide (0 < h.tn))) := by unfold isNode; rw [hk, htl]
    have HI := Lib.hid hin
    clear hk hin
    cases hb1 : (h.k == 1)
    · cases hb2 : (h.k == 2)
      · go_wp2_with fail
        go_meet
        refine ⟨?_, HX.out, HB.out⟩
        rw [HI.out, hb1, hb2]
        simp
      · go_wp2_with fail
        go_meet
        refine ⟨?_, HX.out, HB.out⟩
        rw [HI.out, hb1, hb2]
        simp
    · go_wp2_with fail
      go_meet
      refine ⟨?_, HX.out, HB.out⟩
      rw [HI.out, hb1]
      simp
  case rest =>
    obtain ⟨rfl, hbx, hbw⟩ := hcut
    clear x0 x1 x2 x3 x4 HX HB
    have HBX := Lib.hid hbx
    have HBW := Lib.hid hbw
    have hx4 := hbx.cells.2.2.2.2
    clear hbx hbw
    by_cases hn : isNode t = true
    · by_cases hb : b = 0
      · subst hb
        go_wp2_with fail
        go_ret
        have hd : deepT t 0 = true := by rw [deepT_eq, hn]; rfl
        exact ⟨by rw [hd]; rfl, HBW.out⟩
      · have HNB : Hid (0 < h.tn → 1 ≤ b) := Lib.hid (by omega)
        have HC : Hid ((isNode t && b == 0) = false) := Lib.hid (by simp [hb])
        have hbb : (b == 0) = false := by simp [hb]
        go_wp2_with fail
        clear hx4
        go_loopw [6] (fun s6 wx => ∃ i : Nat, i ≤ h.tn ∧ s6 = .int .i64 i ∧ Box wx 25 w.heap.size h ∧ Below w.heap.size w wx ∧ (t.kids.take i).any (fun x => deepT x (b - 1)) = false) (fun s6 _ => h.tn - (intOf s6).toNat)
        case atStart => exact ⟨0, by omega, rfl, HBX.out, HBW.out, by simp⟩
        case round =>
          clear HBX HBW
          obtain ⟨i, hi, rfl, hbx, hbw, hany⟩ := hrel
          have hx4 := hbx.cells.2.2.2.2
          have HBX := Lib.hid hbx
          have HBW := Lib.hid hbw
          have HA := Lib.hid hany
          clear hbx hbw hany
          by_cases hlt : i < h.tn
          · have q1 : (i : Int) < (h.tn : Int) := by omega
            have hb1' := HNB.out (by omega)
            obtain ⟨g, off, hta, hg, hcs⟩ := (HP.out.below HBW.out).place (by omega)
            rw [hta] at hx4
            obtain ⟨k0, k1, k2, k3, k4⟩ := hcs i hlt
            have him : i < t.kids.length := by omega
            clear hcs hta
            go_upto_region 8 with (first
              | (go_at_call 34
                 refine (IH.out _ (List.getElem_mem him) (H i) (b - 1) _ ((HP.out.below HBW.out).kids i him) (by omega) (by omega)).mono ?_
                 rintro _ w1 ⟨rfl, hb1⟩
                 have HB1 : Hid (Below w.heap.size w w1) := Lib.hid (HBW.out.trans (hb1.mono HBW.out.size))
                 have HX1 := Lib.hid (HBX.out.below hb1 HBX.out.lt)
                 generalize hr : deepT t.kids[i] (b - 1) = r
                 have HR := Lib.hid hr
                 clear hb1 hr))
            clear hx4 k0 k1 k2 k3 k4
            cases r
            · go_wp2_with fail
              exact ⟨⟨i + 1, by omega, by go_num, HX1.out, HB1.out, by rw [any_take _ _ i him, HA.out, HR.out]; rfl⟩, by simp [intOf]; omega⟩
            · go_wp2_with fail
              go_ret
              have hd : deepT t b = true := by rw [deepT_eq, any_at i him HR.out, Bool.or_true]
              exact ⟨by rw [hd]; rfl, HB1.out⟩
          · obtain rfl : i = h.tn := by omega
            have q1 : ¬ (h.tn : Int) < (h.tn : Int) := by omega
            go_wp2_with fail
            go_ret
            have hA := HA.out
            rw [List.take_of_length_le (by omega)] at hA
            have hd : deepT t b = false := by rw [deepT_eq, HC.out, hA]; rfl
            exact ⟨by rw [hd]; rfl, HBW.out⟩
    · have hn2 : isNode t = false := by simpa using hn
      have HNB : Hid (0 < h.tn → 1 ≤ b) := Lib.hid (fun h0 => by
        exfalso
        apply hn
        unfold isNode
        rw [htl]
        simp [h0])
      have HC : Hid ((isNode t && b == 0) = false) := Lib.hid (by simp [hn2])
      clear hn
      go_wp2_with fail
      clear hx4
      go_loopw [6] (fun s6 wx => ∃ i : Nat, i ≤ h.tn ∧ s6 = .int .i64 i ∧ Box wx 25 w.heap.size h ∧ Below w.heap.size w wx ∧ (t.kids.take i).any (fun x => deepT x (b - 1)) = false) (fun s6 _ => h.tn - (intOf s6).toNat)
      case atStart => exact ⟨0, by omega, rfl, HBX.out, HBW.out, by simp⟩
      case round =>
        clear HBX HBW
        obtain ⟨i, hi, rfl, hbx, hbw, hany⟩ := hrel
        have hx4 := hbx.cells.2.2.2.2
        have HBX := Lib.hid hbx
        have HBW := Lib.hid hbw
        have HA := Lib.hid hany
        clear hbx hbw hany
        by_cases hlt : i < h.tn
        · have q1 : (i : Int) < (h.tn : Int) := by omega
          have hb1' := HNB.out (by omega)
          obtain ⟨g, off, hta, hg, hcs⟩ := (HP.out.below HBW.out).place (by omega)
          rw [hta] at hx4
          obtain ⟨k0, k1, k2, k3, k4⟩ := hcs i hlt
          have him : i < t.kids.length := by omega
          clear hcs hta
          go_upto_region 8 with (first
            | (go_at_call 34
               refine (IH.out _ (List.getElem_mem him) (H i) (b - 1) _ ((HP.out.below HBW.out).kids i him) (by omega) (by omega)).mono ?_
               rintro _ w1 ⟨rfl, hb1⟩
               have HB1 : Hid (Below w.heap.size w w1) := Lib.hid (HBW.out.trans (hb1.mono HBW.out.size))
               have HX1 := Lib.hid (HBX.out.below hb1 HBX.out.lt)
               generalize hr : deepT t.kids[i] (b - 1) = r
               have HR := Lib.hid hr
               clear hb1 hr))
          clear hx4 k0 k1 k2 k3 k4
          cases r
          · go_wp2_with fail
            exact ⟨⟨i + 1, by omega, by go_num, HX1.out, HB1.out, by rw [any_take _ _ i him, HA.out, HR.out]; rfl⟩, by simp [intOf]; omega⟩
          · go_wp2_with fail
            go_ret
            have hd : deepT t b = true := by rw [deepT_eq, any_at i him HR.out, Bool.or_true]
            exact ⟨by rw [hd]; rfl, HB1.out⟩
        · obtain rfl : i = h.tn := by omega
          have q1 : ¬ (h.tn : Int) < (h.tn : Int) := by omega
          go_wp2_with fail
          go_ret
          have hA := HA.out
          rw [List.take_of_length_le (by omega)] at hA
          have hd : deepT t b = false := by rw [deepT_eq, HC.out, hA]; rfl
          exact ⟨by rw [hd]; rfl, HBW.out⟩
set_option maxRecDepth 100000 in
set_option maxHeartbeats 4000000 in
theorem partB_head {w : World} {h : TH} {t : Tr} {H : Nat → TH} (hp : TreeAt w h t H) : partB t = (if h.k == 0 then (((h.kn : Int) == 0) && (((h.vn : Int) == 0) && (((h.dn : Int) == 0) && ((h.tn : Int) == 0)))) else if h.k == 1 then (decide ((h.kn : Int) ≤ 80) && (decide ((h.vn : Int) ≤ 1024) && (((h.dn : Int) == 0) && ((h.tn : Int) == 2)))) else if h.k == 2 then (decide ((h.kn : Int) ≤ 80) && (((h.vn : Int) == 0) && ((h.tn : Int) == 2))) else if h.k == 3 then (((h.kn : Int) == 0) && (((h.vn : Int) == 0) && ((h.tn : Int) == 0))) else false) := by
  have e1 := hp.hk
  have e2 := hp.key.len
  have e3 := hp.val.len
  have e4 := hp.dig.len
  have e5 := hp.len
  unfold partB
  rw [← e1, e2, e3, e4, e5]
  have q : ∀ (x : Nat) (y : Nat), decide (x = y) = ((x : Int) == (y : Int)) := fun x y => by rw [Bool.eq_iff_iff]; simp; omega
  have q2 : ∀ (x : Nat) (y : Nat), decide (x ≤ y) = decide ((x : Int) ≤ (y : Int)) := fun x y => by rw [Bool.eq_iff_iff]; simp
  rw [q, q, q, q, q, q2, q2]
  simp only [beq_iff_eq]
  rfl
set_option maxRecDepth 100000 in
set_option maxHeartbeats 4000000 in
theorem refFormed_any : ∀ (t : Tr) (h : TH) (w : World), InTree w h t →
    Calls Try.prog 35 #[h.v] w (Says w (.bool (formedT t))) := by
  intro t
  induction t using Tr.ind with
  | h t ih =>
  intro h w ht
  unfold TH.v
  obtain ⟨H, hp⟩ := ht.parts
  have hkl := hp.key.len
  have hvl := hp.val.len
  have hdl := hp.dig.len
  have htl := hp.len
  have HK := Lib.hid hp.hk
  have htm := Nat.le_trans hp.sl.le hp.sl.max
  have htc := hp.sl.le
  simp only [maxLen] at htm
  have HP := Lib.hid hp
  have IH := Lib.hid ih
  clear hp ht ih
  have hbox := Box.new w 25 h
  have HX := Lib.hid hbox
  obtain ⟨x0, x1, x2, x3, x4⟩ := hbox.cells
  clear hbox
  have hw1 : Below w.heap.size w (w.alloc (.cells #[.int .i64 h.k, .slice h.ka h.kn h.kc, .slice h.va h.vn h.vc, .slice h.da h.dn h.dc, .slice h.ta h.tn h.tc] 25)) := (Below.refl _ _).alloc (Nat.le_refl _) _
  have HB := Lib.hid hw1
  clear hw1
  have HI := Lib.hid (partB_head HP.out)
  go_enter Try.func35, Try.ntmps35
  go_upto_block 0 with fail
  go_cut [7] (fun s7 wx => s7 = .bool (partB t) ∧ Box wx 25 w.heap.size h ∧ Below w.heap.size w wx)
  case first =>
    cases f0 : (h.k == 0)
    · cases f1 : (h.k == 1)
      · cases f2 : (h.k == 2)
        · cases f3 : (h.k == 3)
          · go_wp2_with fail
            go_meet
            refine ⟨?_, HX.out, HB.out⟩
            rw [HI.out]
            simp [f0, f1, f2, f3]
          · cases f4 : ((h.kn : Int) == 0)
            · go_wp2_with fail
              go_meet
              refine ⟨?_, HX.out, HB.out⟩
              rw [HI.out]
              simp [f0, f1, f2, f3, f4]
            · cases f5 : ((h.vn : Int) == 0)
              · go_wp2_with fail
                go_meet
                refine ⟨?_, HX.out, HB.out⟩
                rw [HI.out]
                simp [f0, f1, f2, f3, f5]
              · cases f6 : ((h.tn : Int) == 0)
                · go_wp2_with fail
                  go_meet
                  refine ⟨?_, HX.out, HB.out⟩
                  rw [HI.out]
                  simp [f0, f1, f2, f3, f6]
                · go_wp2_with fail
                  go_meet
                  refine ⟨?_, HX.out, HB.out⟩
                  rw [HI.out]
                  simp [f0, f1, f2, f3, f4, f5, f6]
        · by_cases f3 : (h.kn : Int) ≤ 80
          · cases f4 : ((h.vn : Int) == 0)
            · go_wp2_with fail
              go_meet
              refine ⟨?_, HX.out, HB.out⟩
              rw [HI.out]
              simp [f0, f1, f2, f4]
            · cases f5 : ((h.tn : Int) == 2)
              · go_wp2_with fail
                go_meet
                refine ⟨?_, HX.out, HB.out⟩
                rw [HI.out]
                simp [f0, f1, f2, f5]
              · go_wp2_with fail
                go_meet
                refine ⟨?_, HX.out, HB.out⟩
                rw [HI.out]
                simp [f0, f1, f2, f3, f4, f5]
          · go_wp2_with fail
            go_meet
            refine ⟨?_, HX.out, HB.out⟩
            rw [HI.out]
            simp [f0, f1, f2, show ¬ (h.kn : Int) ≤ 80 by omega]
      · by_cases f2 : (h.kn : Int) ≤ 80
        · by_cases f3 : (h.vn : Int) ≤ 1024
          · cases f4 : ((h.dn : Int) == 0)
            · go_wp2_with fail
              go_meet
              refine ⟨?_, HX.out, HB.out⟩
              rw [HI.out]
              simp [f0, f1, f4]
            · cases f5 : ((h.tn : Int) == 2)
              · go_wp2_with fail
                go_meet
                refine ⟨?_, HX.out, HB.out⟩
                rw [HI.out]
                simp [f0, f1, f5]
              · go_wp2_with fail
                go_meet
                refine ⟨?_, HX.out, HB.out⟩
                rw [HI.out]
                simp [f0, f1, f2, f3, f4, f5]
          · go_wp2_with fail
            go_meet
            refine ⟨?_, HX.out, HB.out⟩
            rw [HI.out]
            simp [f0, f1, show ¬ (h.vn : Int) ≤ 1024 by omega]
        · go_wp2_with fail
          go_meet
          refine ⟨?_, HX.out, HB.out⟩
          rw [HI.out]
          simp [f0, f1, show ¬ (h.kn : Int) ≤ 80 by omega]
    · cases f1 : ((h.kn : Int) == 0)
      · go_wp2_with fail
        go_meet
        refine ⟨?_, HX.out, HB.out⟩
        rw [HI.out]
        simp [f0, f1]
      · cases f2 : ((h.vn : Int) == 0)
        · go_wp2_with fail
          go_meet
          refine ⟨?_, HX.out, HB.out⟩
          rw [HI.out]
          simp [f0, f2]
        · cases f3 : ((h.dn : Int) == 0)
          · go_wp2_with fail
            go_meet
            refine ⟨?_, HX.out, HB.out⟩
            rw [HI.out]
            simp [f0, f3]
          · cases f4 : ((h.tn : Int) == 0)
            · go_wp2_with fail
              go_meet
              refine ⟨?_, HX.out, HB.out⟩
              rw [HI.out]
              simp [f0, f4]
            · go_wp2_with fail
              go_meet
              refine ⟨?_, HX.out, HB.out⟩
              rw [HI.out]
              simp [f0, f1, f2, f3, f4]
  case rest =>
    obtain ⟨rfl, hbx, hbw⟩ := hcut
    clear x0 x1 x2 x3 x4
    have HBX := Lib.hid hbx
    have HBW := Lib.hid hbw
    clear hbx hbw HX HB HI
    go_wp2_with fail
    go_loopw [7, 8] (fun s7 s8 wx => ∃ i : Nat, i ≤ h.tn ∧ s7 = .bool (partB t && (t.kids.take i).all formedT) ∧ s8 = .int .i64 i ∧ Box wx 25 w.heap.size h ∧ Below w.heap.size w wx) (fun _ s8 _ => h.tn - (intOf s8).toNat)
    case atStart => exact ⟨0, by omega, by simp, rfl, HBX.out, HBW.out⟩
    case round =>
      clear HBX HBW
      obtain ⟨i, hi, rfl, rfl, hbx, hbw⟩ := hrel
      have hx4 := hbx.cells.2.2.2.2
      have HBX := Lib.hid hbx
      have HBW := Lib.hid hbw
      clear hbx hbw
      by_cases hlt : i < h.tn
      · have q1 : (i : Int) < (h.tn : Int) := by omega
        have him : i < t.kids.length := by omega
        by_cases hok : (partB t && (t.kids.take i).all formedT) = true
        · obtain ⟨g, off, hta, hg, hcs⟩ := (HP.out.below HBW.out).place (by omega)
          rw [hta] at hx4
          obtain ⟨k0, k1, k2, k3, k4⟩ := hcs i hlt
          have HOK := Lib.hid hok
          clear hcs hta
          rw [hok]
          clear hok
          go_wp2_with (first
            | (go_at_call 35
               refine (IH.out _ (List.getElem_mem him) (H i) _ ((HP.out.below HBW.out).kids i him)).mono ?_
               rintro _ w1 ⟨rfl, hb1⟩
               have HB1 : Hid (Below w.heap.size w w1) := Lib.hid (HBW.out.trans (hb1.mono HBW.out.size))
               have HX1 := Lib.hid (HBX.out.below hb1 HBX.out.lt)
               clear hb1))
          exact ⟨⟨i + 1, by omega, by rw [all_take _ _ i him, ← Bool.and_assoc, HOK.out, Bool.true_and], by go_num, HX1.out, HB1.out⟩, by simp [intOf]; omega⟩
        · have hok2 : (partB t && (t.kids.take i).all formedT) = false := by simpa using hok
          have HOK := Lib.hid hok2
          rw [hok2]
          clear hok hok2 hx4
          go_wp2_with fail
          go_ret
          refine ⟨?_, HBW.out⟩
          rw [formedT_eq]
          have h1 := HOK.out
          rw [Bool.and_eq_false_iff] at h1
          rcases h1 with h1 | h1
          · rw [h1]; rfl
          · have h2 : t.kids.all formedT = false := by
              rw [Bool.eq_false_iff]
              intro hc
              rw [List.all_eq_true] at hc
              rw [Bool.eq_false_iff] at h1
              apply h1
              rw [List.all_eq_true]
              exact fun x hx => hc x (List.mem_of_mem_take hx)
            rw [h2, Bool.and_false]
            rfl
      · obtain rfl : i = h.tn := by omega
        have q1 : ¬ (h.tn : Int) < (h.tn : Int) := by omega
        rw [List.take_of_length_le (by omega), ← formedT_eq]
        go_wp2_with fail
        go_ret
        exact ⟨rfl, HBW.out⟩
end Go.Proofs.Ytagmeljjkblpbaa

/- The contracts of the document's checks of trees: Check, Full, Depth. -/
namespace Go.Proofs.Ytagmeljjkblpbaa
open Go.RowKit
set_option linter.unusedVariables false

set_option maxRecDepth 100000 in
set_option maxHeartbeats 4000000 in
theorem refCheck_any (t : Tr) (h : TH) (w : World) (ht : InTree w h t) :
    Calls Try.prog 20 #[h.v] w (Says w (.int .i64 (checkT t : Nat))) := by
  unfold TH.v
  have hbox := Box.new w 25 h
  have HX := Lib.hid hbox
  have HT := Lib.hid ht
  obtain ⟨x0, x1, x2, x3, x4⟩ := hbox.cells
  clear hbox ht
  go_enter Try.func20, Try.ntmps20
  go_upto_region 2 with (first
    | (go_at_call 34
       refine (refDeep_any t h 64 _ ?_ (by omega) (by omega)).mono ?_
       · exact HT.out.lower ((Below.refl _ _).alloc (Nat.le_refl _) _)
       rintro _ w1 ⟨rfl, hb1⟩
       have HB1 : Hid (Below w.heap.size w w1) := Lib.hid (((Below.refl w.heap.size w).alloc (Nat.le_refl _) _).trans (hb1.mono (by simp)))
       obtain ⟨y0, y1, y2, y3, y4⟩ := (HX.out.below hb1 HX.out.lt).cells
       generalize hr : deepT t 64 = r
       have HR := Lib.hid hr
       clear hb1 hr x0 x1 x2 x3 x4))
  cases r
  · go_upto_region 5 with (first
      | (go_at_call 35
         refine (refFormed_any t h _ ?_).mono ?_
         · exact HT.out.lower HB1.out
         rintro _ w2 ⟨rfl, hb2⟩
         have HB2 : Hid (Below w.heap.size w w2) := Lib.hid (HB1.out.trans (hb2.mono HB1.out.size))
         generalize hq : formedT t = q
         have HQ := Lib.hid hq
         clear hb2 hq y0 y1 y2 y3 y4))
    cases q
    · go_wp2_with fail
      go_ret
      have e : checkT t = 3 := by unfold checkT; rw [HR.out, HQ.out]; rfl
      exact ⟨by rw [e]; rfl, HB2.out⟩
    · go_wp2_with fail
      go_ret
      have e : checkT t = 0 := by unfold checkT; rw [HR.out, HQ.out]; rfl
      exact ⟨by rw [e]; rfl, HB2.out⟩
  · go_wp2_with fail
    go_ret
    have e : checkT t = 5 := by unfold checkT; rw [HR.out]; rfl
    exact ⟨by rw [e]; rfl, HB1.out⟩
theorem formed_kids {t : Tr} (hf : formedT t = true) : partB t = true ∧ ∀ i (hi : i < t.kids.length), formedT t.kids[i] = true := by
  rw [formedT_eq, Bool.and_eq_true, List.all_eq_true] at hf
  exact ⟨hf.1, fun i hi => hf.2 _ (List.getElem_mem hi)⟩
theorem part_kids {t : Tr} (hp : partB t = true) : (t.kids.length = 0 ∧ (t.k = 0 ∨ t.k = 3)) ∨ (t.kids.length = 2 ∧ (t.k = 1 ∨ t.k = 2)) := by
  unfold partB at hp
  split at hp
  · simp only [Bool.and_eq_true, decide_eq_true_eq] at hp; omega
  · split at hp
    · simp only [Bool.and_eq_true, decide_eq_true_eq] at hp; omega
    · split at hp
      · simp only [Bool.and_eq_true, decide_eq_true_eq] at hp; omega
      · split at hp
        · simp only [Bool.and_eq_true, decide_eq_true_eq] at hp; omega
        · cases hp
end Go.Proofs.Ytagmeljjkblpbaa

/- The parts of what is formed are short. No program is named here. -/
namespace Go.Proofs.Ytagmeljjkblpbaa
open Go.RowKit
set_option linter.unusedVariables false

theorem part_lens80 {t : Tr} (hp : partB t = true) : t.key.length ≤ 80 ∧ t.val.length ≤ 1024 := by
  unfold partB at hp
  split at hp
  · simp only [Bool.and_eq_true, decide_eq_true_eq] at hp; omega
  · split at hp
    · simp only [Bool.and_eq_true, decide_eq_true_eq] at hp; omega
    · split at hp
      · simp only [Bool.and_eq_true, decide_eq_true_eq] at hp; omega
      · split at hp
        · simp only [Bool.and_eq_true, decide_eq_true_eq] at hp; omega
        · cases hp
end Go.Proofs.Ytagmeljjkblpbaa

/- Trees as bytes, for any tree: what is too long; what is written; what is read. No program is named here. -/
namespace Go.Proofs.Ytagmeljjkblpbaa
open Go.RowKit
set_option linter.unusedVariables false

/-- A digest is too long. -/
def longT (t : Tr) : Bool := t.fold fun t rs => decide (32 < t.dig.length) || rs.any id
theorem longT_eq (t : Tr) : longT t = (decide (32 < t.dig.length) || t.kids.any longT) := by
  conv => lhs; unfold longT
  rw [Tr.fold_eq, List.any_map]
  rfl
/-- All of Write: the error's number, and the bytes. -/
def writeX (t : Tr) : Nat × List Int := if checkT t ≠ 0 then (checkT t, []) else if longT t then (2, []) else (0, codeP (toP t))
theorem writeX_le (t : Tr) : (writeX t).1 ≤ 13 := by
  unfold writeX
  split
  · unfold checkT
    split
    · show 5 ≤ 13; omega
    · split
      · show 0 ≤ 13; omega
      · show 3 ≤ 13; omega
  · split
    · show 2 ≤ 13; omega
    · show 0 ≤ 13; omega
/-- What may be written is what fits. -/
theorem fits_of : ∀ p : PT, formedT p.tr = true → longT p.tr = false → p.fits10 := by
  intro p
  induction p with
  | nil => exact fun _ _ => trivial
  | cut d =>
    intro _ h
    rw [longT_eq, Bool.or_eq_false_iff, decide_eq_false_iff_not] at h
    have q : ¬ 32 < d.length := h.1
    show d.length ≤ 32
    omega
  | shown l key v r ihl ihr =>
    intro hf h
    have hp := part_lens80 (formed_kids hf).1
    rw [longT_eq, Bool.or_eq_false_iff, List.any_eq_false] at h
    rw [formedT_eq, Bool.and_eq_true, List.all_eq_true] at hf
    exact ⟨hp.1, hp.2, ihl (hf.2 _ (by simp [PT.tr, Tr.kids])) (by simpa using h.2 l.tr (by simp [PT.tr, Tr.kids])), ihr (hf.2 _ (by simp [PT.tr, Tr.kids])) (by simpa using h.2 r.tr (by simp [PT.tr, Tr.kids]))⟩
  | dark l key d r ihl ihr =>
    intro hf h
    have hp := part_lens80 (formed_kids hf).1
    rw [longT_eq, Bool.or_eq_false_iff, decide_eq_false_iff_not, List.any_eq_false] at h
    rw [formedT_eq, Bool.and_eq_true, List.all_eq_true] at hf
    have q : ¬ 32 < d.length := h.1
    exact ⟨hp.1, (by omega), ihl (hf.2 _ (by simp [PT.tr, Tr.kids])) (by simpa using h.2 l.tr (by simp [PT.tr, Tr.kids])), ihr (hf.2 _ (by simp [PT.tr, Tr.kids])) (by simpa using h.2 r.tr (by simp [PT.tr, Tr.kids]))⟩
/-- What fits may be written. -/
theorem fits_formed : ∀ p : PT, p.fits10 → formedT p.tr = true ∧ longT p.tr = false := by
  intro p
  induction p with
  | nil => exact fun _ => ⟨by rw [formedT_eq]; rfl, by rw [longT_eq]; rfl⟩
  | cut d =>
    intro h
    have h' : d.length ≤ 32 := h
    refine ⟨by rw [formedT_eq]; rfl, ?_⟩
    rw [longT_eq]
    show (decide (32 < d.length) || _) = false
    rw [decide_eq_false (by omega)]
    rfl
  | shown l key v r ihl ihr =>
    intro h
    obtain ⟨h1, h2, h3, h4⟩ := h
    obtain ⟨a1, a2⟩ := ihl h3
    obtain ⟨b1, b2⟩ := ihr h4
    have hp : partB (PT.shown l key v r).tr = true := by
      show (decide (key.length ≤ 80) && (decide (v.length ≤ 1024) && true)) = true
      rw [decide_eq_true h1, decide_eq_true h2]
      rfl
    refine ⟨?_, ?_⟩
    · rw [formedT_eq, hp]
      show (true && [l.tr, r.tr].all formedT) = true
      simp [a1, b1]
    · rw [longT_eq]
      show (decide (32 < ([] : List Int).length) || [l.tr, r.tr].any longT) = false
      simp [a2, b2]
  | dark l key d r ihl ihr =>
    intro h
    obtain ⟨h1, h2, h3, h4⟩ := h
    obtain ⟨a1, a2⟩ := ihl h3
    obtain ⟨b1, b2⟩ := ihr h4
    have hp : partB (PT.dark l key d r).tr = true := by
      show (decide (key.length ≤ 80) && true) = true
      rw [decide_eq_true h1]
      rfl
    refine ⟨?_, ?_⟩
    · rw [formedT_eq, hp]
      show (true && [l.tr, r.tr].all formedT) = true
      simp [a1, b1]
    · rw [longT_eq]
      show (decide (32 < d.length) || [l.tr, r.tr].any longT) = false
      rw [decide_eq_false (by omega)]
      simp [a2, b2]
/-- All of Read: the error's number, and the tree. -/
def readX (s : List Int) : Nat × PT := match readP 64 s with
  | none => (3, .nil)
  | some (p, []) => (0, p)
  | some (_, _ :: _) => (4, .nil)
/-- The depth, as deepT says it. -/
theorem deep_depth : ∀ (p : PT) (n : Nat), deepT p.tr n = decide (n < p.depthP) := by
  intro p
  induction p with
  | nil =>
    intro n
    rw [deepT_eq]
    show (false && _ || false) = decide (n < 0)
    simp
  | cut d =>
    intro n
    rw [deepT_eq]
    show (false && _ || false) = decide (n < 0)
    simp
  | shown l key v r ihl ihr =>
    intro n
    rw [deepT_eq]
    show ((true && ((n : Int) == 0)) || ([l.tr, r.tr].any fun x => deepT x ((n : Int) - 1))) = decide (n < max l.depthP r.depthP + 1)
    cases n with
    | zero => simp
    | succ n =>
      have e : (((n + 1 : Nat) : Int) - 1) = (n : Int) := by omega
      have e0 : (((n + 1 : Nat) : Int) == 0) = false := by simp; omega
      rw [e, e0, Bool.and_false, Bool.false_or, List.any_cons, List.any_cons, List.any_nil, ihl n, ihr n, Bool.or_false]
      rw [← Bool.decide_or]
      congr 1
      simp only [eq_iff_iff]
      omega
  | dark l key d r ihl ihr =>
    intro n
    rw [deepT_eq]
    show ((true && ((n : Int) == 0)) || ([l.tr, r.tr].any fun x => deepT x ((n : Int) - 1))) = decide (n < max l.depthP r.depthP + 1)
    cases n with
    | zero => simp
    | succ n =>
      have e : (((n + 1 : Nat) : Int) - 1) = (n : Int) := by omega
      have e0 : (((n + 1 : Nat) : Int) == 0) = false := by simp; omega
      rw [e, e0, Bool.and_false, Bool.false_or, List.any_cons, List.any_cons, List.any_nil, ihl n, ihr n, Bool.or_false]
      rw [← Bool.decide_or]
      congr 1
      simp only [eq_iff_iff]
      omega
theorem check_fits (p : PT) (h : p.fits10) (hd : p.depthP ≤ 64) : checkT p.tr = 0 ∧ longT p.tr = false := by
  have f := fits_formed p h
  refine ⟨?_, f.2⟩
  unfold checkT
  have d := deep_depth p 64
  rw [decide_eq_false (by omega)] at d
  have d' : deepT p.tr 64 = false := d
  rw [d', f.1]
  rfl
theorem fits_check (p : PT) (h : checkT p.tr = 0) (hl : longT p.tr = false) : p.fits10 ∧ p.depthP ≤ 64 := by
  unfold checkT at h
  split at h
  · cases h
  · rename_i hd
    split at h
    · rename_i hf
      refine ⟨fits_of p hf hl, ?_⟩
      have d := deep_depth p 64
      have d' : deepT p.tr 64 = false := by simpa using hd
      have d2 : decide (64 < p.depthP) = false := d.symm.trans d'
      simpa using d2
    · cases h
/-- What was written is read as it was. -/
theorem read_write {t : Tr} (h : (writeX t).1 = 0) : readX (writeX t).2 = (0, toP t) ∧ ∃ p : PT, t = p.tr ∧ p.fits10 ∧ p.depthP ≤ 64 ∧ writeX t = (0, codeP p) := by
  unfold writeX at h ⊢
  by_cases hc : checkT t = 0
  · rw [if_neg (by rw [hc]; simp)] at h ⊢
    cases hl : longT t with
    | true =>
      rw [hl] at h
      cases h
    | false =>
      have hf : formedT t = true := by
        unfold checkT at hc
        split at hc
        · cases hc
        · split at hc
          · assumption
          · cases hc
      obtain ⟨p, rfl⟩ := PT.of t hf
      obtain ⟨f, d⟩ := fits_check p hc hl
      rw [if_neg (by simp), toP_tr]
      refine ⟨?_, p, rfl, f, d, rfl⟩
      have q := read_code p 64 [] f d
      rw [List.append_nil] at q
      show readX (codeP p) = _
      unfold readX
      rw [q]
  · rw [if_pos hc] at h
    exact absurd h hc
/-- What was read is written as those bytes. -/
theorem write_read {s : List Int} (hb : Bytes8 s) (h : (readX s).1 = 0) : writeX (readX s).2.tr = (0, s) ∧ (readX s).2.fits10 ∧ (readX s).2.depthP ≤ 64 := by
  unfold readX at h ⊢
  cases hr : readP 64 s with
  | none =>
    rw [hr] at h
    cases h
  | some x =>
    obtain ⟨p, rest⟩ := x
    rw [hr] at h
    cases rest with
    | cons z zs => cases h
    | nil =>
      obtain ⟨e, f, d⟩ := read_inv 64 s p [] hb hr
      rw [List.append_nil] at e
      obtain ⟨c, l⟩ := check_fits p f d
      refine ⟨?_, f, d⟩
      show writeX p.tr = _
      unfold writeX
      rw [if_neg (by rw [c]; simp), l, if_neg (by simp), toP_tr, e]
end Go.Proofs.Ytagmeljjkblpbaa

/- A variable of one cell: a closure's, a number's. No program is named here. -/
namespace Go.Proofs.Ytagmeljjkblpbaa
open Go.RowKit
set_option linter.unusedVariables false

/-- Block g is a variable of one cell, which holds v. -/
def Var1 (w : World) (ty : TypeId) (g : Nat) (v : Value) : Prop := w.heap[g]? = some (.cells #[v] ty (0, 0))
section
variable {w w' : World} {ty : TypeId} {g : Nat} {v : Value}
theorem Var1.new (w : World) (ty : TypeId) (v : Value) : Var1 (w.alloc (.cells #[v] ty)) ty w.heap.size v := heap_alloc_new w _
theorem Var1.lt (h : Var1 w ty g v) : g < w.heap.size := by
  rcases Nat.lt_or_ge g w.heap.size with hlt | hge
  · exact hlt
  · unfold Var1 at h; rw [Array.getElem?_eq_none hge] at h; cases h
theorem Var1.below {B : Nat} (h : Var1 w ty g v) (hb : Below B w w') (hg : g < B) : Var1 w' ty g v := (hb.block g hg).trans h
theorem Var1.grown {row : Option Nat} (h : Var1 w ty g v) (hb : w.grownBy w' row) (hg : some g ≠ row) : Var1 w' ty g v := (hb.block g h.lt hg).trans h
theorem Var1.cell (h : Var1 w ty g v) : w.cell? ⟨g, 0, none⟩ = some v := by
  rw [cell_of_row w g 0 _ _ (0, 0) h]
  rfl
theorem Var1.frozen (h : Var1 w ty g v) (i : Nat) : w.frozen? ⟨g, i, none⟩ = false := by
  unfold Var1 at h
  simp [World.frozen?, h]
theorem Var1.set (h : Var1 w ty g v) (u : Value) : Var1 (w.setCell ⟨g, 0, none⟩ u) ty g u := by
  unfold Var1 at h ⊢
  simp [World.setCell, Array.getElem?_modify, h]
theorem Var1.far (h : Var1 w ty g v) {p : Addr} (hp : g ≠ p.block) (u : Value) : Var1 (w.setCell p u) ty g v := (Below.heap_setCell w p u g hp).trans h
end
end Go.Proofs.Ytagmeljjkblpbaa

/- Rows of trees in one's own memory. No program is named here. -/
namespace Go.Proofs.Ytagmeljjkblpbaa
open Go.RowKit
set_option linter.unusedVariables false

/-- The cells of trees, one behind the other. -/
def cellsT (hs : List TH) : List Value := hs.flatMap TH.cells
theorem cellsT_len (hs : List TH) : (cellsT hs).length = hs.length * 5 := by
  unfold cellsT
  induction hs with
  | nil => rfl
  | cons h r ih =>
    rw [List.flatMap_cons, List.length_append, ih]
    simp [TH.cells]
    omega
theorem cellsT_app (a b : List TH) : cellsT (a ++ b) = cellsT a ++ cellsT b := by simp [cellsT]
theorem cellsT_one {hs : List TH} {u : Value} (h : u ∈ cellsT hs) : u.oneCell' = true := by
  unfold cellsT at h
  rw [List.mem_flatMap] at h
  obtain ⟨x, _, hx⟩ := h
  simp [TH.cells] at hx
  rcases hx with rfl | rfl | rfl | rfl | rfl <;> rfl
theorem cellsT_get (hs : List TH) (i j : Nat) (hi : i < hs.length) (hj : j < 5) : (cellsT hs)[i * 5 + j]? = some (hs[i].cell j) := by
  induction hs generalizing i with
  | nil => simp at hi
  | cons h r ih =>
    have e : cellsT (h :: r) = h.cells ++ cellsT r := by simp [cellsT]
    rw [e]
    rcases i with _ | i
    · rw [List.getElem?_append_left (by simp [TH.cells]; omega)]
      rcases (by omega : j = 0 ∨ j = 1 ∨ j = 2 ∨ j = 3 ∨ j = 4) with rfl | rfl | rfl | rfl | rfl <;> rfl
    · rw [List.getElem?_append_right (by simp [TH.cells]; omega)]
      have e2 : (i + 1) * 5 + j - h.cells.length = i * 5 + j := by simp [TH.cells]; omega
      rw [e2, ih i (by simpa using hi)]
      simp

/-- A row of trees in new memory, from the block base on. -/
def OwnT (W : World) (base : Nat) (ty : TypeId) (v : Value) (hs : List TH) : Prop := W.ownsRow base ty 5 v hs.length (cellsT hs)
theorem OwnT.keep {W W' : World} {base : Nat} {ty : TypeId} {v : Value} {hs : List TH} (h : OwnT W base ty v hs) (hb : Below W.heap.size W W') : OwnT W' base ty v hs := by
  refine ⟨h.1, ?_⟩
  rcases h.2 with h1 | ⟨g, cap, cur, h1, h2, h3, h4⟩
  · exact .inl h1
  · have hlt : g < W.heap.size := by
      rcases Nat.lt_or_ge g W.heap.size with hlt | hge
      · exact hlt
      · rw [Array.getElem?_eq_none hge] at h3; cases h3
    exact .inr ⟨g, cap, cur, h1, h2, (hb.block g hlt).trans h3, h4⟩
theorem OwnT.nil (W : World) (base : Nat) (ty : TypeId) : OwnT W base ty (.slice none 0 0) [] := ⟨rfl, .inl ⟨rfl, rfl⟩⟩
/-- Its block, and its cells. -/
theorem OwnT.form {W : World} {base : Nat} {ty : TypeId} {v : Value} {hs : List TH} (h : OwnT W base ty v hs) : (v = .slice none 0 0 ∧ hs = []) ∨ ∃ g c, v = .slice (some ⟨g, 0, none⟩) hs.length c ∧ base ≤ g ∧ g < W.heap.size ∧ hs.length ≤ c ∧ c ≤ maxLen ∧ ∀ j u, (cellsT hs)[j]? = some u → W.cell? ⟨g, j, none⟩ = some u := by
  rcases h.2 with ⟨h1, h2⟩ | ⟨g, cap, cur, h1, h2, h3, h4, h5, h6, h7⟩
  · exact .inl ⟨h1, List.eq_nil_of_length_eq_zero h2⟩
  · right
    have hlt : g < W.heap.size := by
      rcases Nat.lt_or_ge g W.heap.size with hlt | hge
      · exact hlt
      · rw [Array.getElem?_eq_none hge] at h3; cases h3
    refine ⟨g, cap, h1, h2, hlt, h4, h5, fun j u hu => ?_⟩
    rw [cell_of_row W g j _ _ (0, 0) h3]
    rw [← h7, List.getElem?_take] at hu
    split at hu
    · simpa using hu
    · cases hu
/-- Where an append to a row of one's own puts it: where it was, or in the next new block. -/
theorem run_append_where {P : Program} (w : World) (base : Nat) (t ty e : TypeId) (i : TypeInfo) (z : Value) (size bytes : Nat) (ht : P.underlying t = some (.slice e)) (hi : P.info? e = some i) (hz : i.zero = some z)
    (hsize : i.size = size) (hby : i.bytes = bytes) (v : Value) (n : Nat) (xs : List Value) (hown : w.ownsRow base e size v n xs)
    (a : Addr) (m c : Nat) (news : List Value) (hl : news.length = m * size) (hnews : ∀ j u, news[j]? = some u → w.cell? (a.add j) = some u) (h1 : ∀ u ∈ news, u.oneCell' = true)
    (hzs : z.cells.size = size) (hsz : 0 < size) (hbase : base ≤ w.heap.size) (h63 : n + m ≤ maxLen) (hbytes : (n + m) * bytes ≤ 140737488355328) :
    ∃ v' w', (Builtin.append_ #[t, t] ty #[v, .slice (some a) m c]).run P w = .ok v' w' ∧ (v'.ownBlock = v.ownBlock ∨ v'.ownBlock = some w.heap.size) := by
  subst hsize
  subst hby
  simp only [maxLen] at h63
  rcases hown.2 with ⟨rfl, rfl⟩ | ⟨g, cap, cur, rfl, _, hg, _, _, hcs, _⟩
  · by_cases hm0 : 0 < m
    · exact ⟨_, _, run_append_nil (P := P) w t ty e i z ht hi hz a m c news hl hnews (by omega) (by omega) (by simp only [Nat.zero_add] at hbytes; omega), .inr rfl⟩
    · obtain ⟨v', w', hr, _, _, h4⟩ := run_append_own (P := P) w base t ty e i z i.size i.bytes ht hi hz rfl rfl hzs hsz (.slice none 0 0) 0 xs hown a m c news hl hnews h1 (by simp only [maxLen]; omega) hbytes hbase
      exact ⟨v', w', hr, .inl (by rw [h4.2 ⟨rfl, by omega⟩])⟩
  · by_cases hroom : n + m ≤ cap
    · exact ⟨_, _, run_append_room (P := P) w t ty e i ht hi g n cap cur hg a m c news hl hnews h1 hroom (by rw [hl, hcs, ← Nat.add_mul]; exact Nat.mul_le_mul_right _ hroom), .inl rfl⟩
    · exact ⟨_, _, run_append_grow (P := P) w t ty e i z ht hi hz ⟨g, 0, none⟩ n cap xs hown.1 (hown.cells (g := g) rfl) a m c news hl hnews (by omega) (by omega) (growslice_fits (by omega) hbytes), .inr rfl⟩
/-- append(a, b...), both rows of trees of one's own, at a step. -/
theorem wp_append_trees {P : Program} (w : World) {o : Oper} {a : Act} {K : Act → World → Prop} {Q : Exit → Act → World → Prop} (s x : Operand) (t : TypeId)
    (ho : o.op = .call { callee := .builtin .append, args := #[s, x], argTypes := #[t, t] })
    (base : Nat) (e : TypeId) (i : TypeInfo) (z : Value) (bytes : Nat) (ht : P.underlying t = some (.slice e)) (hi : P.info? e = some i) (hz : i.zero = some z)
    (hsize : i.size = 5) (hby : i.bytes = bytes) (hzs : z.cells.size = 5)
    (v : Value) (hs1 : List TH) (hs : a.eval s = v) (hown : OwnT w base e v hs1) (g c : Nat) (hs2 : List TH) (hx : a.eval x = .slice (some ⟨g, 0, none⟩) hs2.length c) (hcells : ∀ j u, (cellsT hs2)[j]? = some u → w.cell? ⟨g, j, none⟩ = some u)
    (hbytes : (hs1.length + hs2.length) * bytes ≤ 140737488355328) (hb0 : 0 < bytes) (hbase : base ≤ w.heap.size)
    (h : ∀ v' w', OwnT w' base e v' (hs1 ++ hs2) → w.grownBy w' v.ownBlock → (v'.ownBlock = v.ownBlock ∨ v'.ownBlock = some w.heap.size) → K (a.put o.dst v') w') : o.wp P a w K Q := by
  have hmax : hs1.length + hs2.length ≤ maxLen := by
    have : hs1.length + hs2.length ≤ (hs1.length + hs2.length) * bytes := Nat.le_mul_of_pos_right _ hb0
    simp only [maxLen]
    omega
  have hnews : ∀ j u, (cellsT hs2)[j]? = some u → w.cell? ((⟨g, 0, none⟩ : Addr).add j) = some u := fun j u hu => by
    have hp : (⟨g, 0, none⟩ : Addr).add j = ⟨g, j, none⟩ := by unfold Addr.add; split <;> simp_all
    rw [hp]
    exact hcells j u hu
  obtain ⟨v', w', hr, h2, h3, h4⟩ := run_append_own (P := P) w base t o.type e i z 5 bytes ht hi hz hsize hby hzs (by omega) v hs1.length (cellsT hs1) hown ⟨g, 0, none⟩ hs2.length c (cellsT hs2) (cellsT_len hs2) hnews (fun u hu => cellsT_one hu) hmax hbytes hbase
  obtain ⟨v2, w2, hr2, h5⟩ := run_append_where (P := P) w base t o.type e i z 5 bytes ht hi hz hsize hby v hs1.length (cellsT hs1) hown ⟨g, 0, none⟩ hs2.length c (cellsT hs2) (cellsT_len hs2) hnews (fun u hu => cellsT_one hu) hzs (by omega) hbase hmax hbytes
  rw [hr] at hr2
  injection hr2 with e1 e2
  subst e1 e2
  unfold Oper.wp execOp
  simp only [ho, resolve, invoke, builtin, Sem.run_bind, Sem.run_pure, Result.andThen_ok, List.map_toArray, List.map_cons, List.map_nil, hs, hx, hr]
  refine h v' w' ?_ h3 h5
  unfold OwnT
  rw [cellsT_app, List.length_append]
  exact h2
theorem step_append_trees {P : Program} (w : World) {ops : Array Oper} {o : Oper} {a : Act} {K : Act → World → Prop} {Q : Exit → Act → World → Prop} {E : Prop} (hgd : o.guard = none) (s x : Operand) (t : TypeId)
    (ho : o.op = .call { callee := .builtin .append, args := #[s, x], argTypes := #[t, t] })
    (base : Nat) (e : TypeId) (i : TypeInfo) (z : Value) (bytes : Nat) (ht : P.underlying t = some (.slice e)) (hi : P.info? e = some i) (hz : i.zero = some z)
    (hsize : i.size = 5) (hby : i.bytes = bytes) (hzs : z.cells.size = 5)
    (v : Value) (hs1 : List TH) (hs : a.eval s = v) (hown : OwnT w base e v hs1) (g c : Nat) (hs2 : List TH) (hx : a.eval x = .slice (some ⟨g, 0, none⟩) hs2.length c) (hcells : ∀ j u, (cellsT hs2)[j]? = some u → w.cell? ⟨g, j, none⟩ = some u)
    (hbytes : (hs1.length + hs2.length) * bytes ≤ 140737488355328) (hb0 : 0 < bytes) (hbase : base ≤ w.heap.size)
    (h : ∀ v' w', OwnT w' base e v' (hs1 ++ hs2) → w.grownBy w' v.ownBlock → (v'.ownBlock = v.ownBlock ∨ v'.ownBlock = some w.heap.size) → K (a.put o.dst v') w') : if Region.wanted o (yielded ops a.tmps) = true then Oper.wp P o a w K Q else E := by
  have hw : Region.wanted o (yielded ops a.tmps) = true := by simp [Region.wanted, hgd]
  rw [if_pos hw]
  exact wp_append_trees w s x t ho base e i z bytes ht hi hz hsize hby hzs v hs1 hs hown g c hs2 hx hcells hbytes hb0 hbase h
/-- The cells of a box, as a row of one. -/
theorem Box.row {W : World} {ty : TypeId} {g : Nat} {h : TH} (hb : Box W ty g h) : ∀ j u, (cellsT [h])[j]? = some u → W.cell? ⟨g, j, none⟩ = some u := by
  intro j u hu
  rw [cell_of_row W g j _ _ (0, 0) hb]
  have e2 : cellsT [h] = h.cells := by simp [cellsT]
  rw [e2] at hu
  simpa [TH.cells] using hu
/-- Heads and trees, side by side. -/
def Heads (w : World) (hs : List TH) (ts : List Tr) : Prop := hs.length = ts.length ∧ ∀ i (h1 : i < hs.length) (h2 : i < ts.length), InTree w hs[i] ts[i]
/-- Its form. -/
theorem OwnT.sl {W : World} {base : Nat} {ty : TypeId} {v : Value} {hs : List TH} (h : OwnT W base ty v hs) : ∃ a c, v = .slice a hs.length c := by
  rcases h.form with ⟨h1, h2⟩ | ⟨g, c, h1, _⟩
  · exact ⟨none, 0, by rw [h1, h2]; rfl⟩
  · exact ⟨_, c, h1⟩
theorem OwnT.far {W : World} {base : Nat} {ty : TypeId} {v : Value} {hs : List TH} (h : OwnT W base ty v hs) {p : Addr} (hp : some p.block ≠ v.ownBlock) (u : Value) : OwnT (W.setCell p u) base ty v hs := by
  refine ⟨h.1, ?_⟩
  rcases h.2 with h1 | ⟨g, cap, cur, h1, h2, h3, h4⟩
  · exact .inl h1
  · refine .inr ⟨g, cap, cur, h1, h2, ?_, h4⟩
    rw [Below.heap_setCell W p u g (fun e => hp (by rw [h1, ← e]; rfl))]
    exact h3
/-- The empty tree's head. -/
def hZ : TH := ⟨0, none, 0, 0, none, 0, 0, none, 0, 0, none, 0, 0⟩
end Go.Proofs.Ytagmeljjkblpbaa

/- Boxes of trees that are written; a tree of two that were made; appends of bytes at a step. No program is named here. -/
namespace Go.Proofs.Ytagmeljjkblpbaa
open Go.RowKit
set_option linter.unusedVariables false

/-- A tree is stored into a box, at a step. -/
theorem wp_store_box {P : Program} {o : Oper} {a : Act} {w : World} {K : Act → World → Prop} {Q : Exit → Act → World → Prop} (ty : TypeId) (x y : Operand) (ho : o.op = .store ty x y)
    (g : Nat) (old new : TH) (hx : a.eval x = .pointer (some ⟨g, 0, none⟩)) (hy : a.eval y = new.v) (t : TypeId) (hr : Box w t g old) (hi : (P.info? ty).map (·.size) = some 5)
    (h : ∀ w', Box w' t g new → w.grownBy w' (some g) → K (a.put o.dst undef) w') : o.wp P a w K Q := by
  refine wp_store_row ty x y ho g _ hx hy t _ hr hi rfl (by simp [Value.oneCell']) ?_
  exact h _ (setRow_heap w g _ _ t _ hr) ⟨rfl, rfl, rfl, by simp, fun j hj hne => setRow_other w g j _ (fun e => hne (by rw [e]))⟩
theorem wpList_store_box {P : Program} {ops : Array Oper} {rest : List Oper} {o : Oper} {a : Act} {w : World} {Q : Exit → Act → World → Prop} (hgd : o.guard = none) (ty : TypeId) (x y : Operand) (ho : o.op = .store ty x y)
    (g : Nat) (old new : TH) (hx : a.eval x = .pointer (some ⟨g, 0, none⟩)) (hy : a.eval y = new.v) (t : TypeId) (hr : Box w t g old) (hi : (P.info? ty).map (·.size) = some 5)
    (h : ∀ w', Box w' t g new → w.grownBy w' (some g) → wpList P ops Q rest (a.put o.dst undef) w') : wpList P ops Q (o :: rest) a w :=
  wpList_plain hgd fun _ hK => wp_store_box ty x y ho g old new hx hy t hr hi fun w' h1 h2 => hK _ _ (h w' h1 h2)
theorem step_store_box {P : Program} {ops : Array Oper} {o : Oper} {a : Act} {w : World} {K : Act → World → Prop} {Q : Exit → Act → World → Prop} {E : Prop} (hgd : o.guard = none) (ty : TypeId) (x y : Operand) (ho : o.op = .store ty x y)
    (g : Nat) (old new : TH) (hx : a.eval x = .pointer (some ⟨g, 0, none⟩)) (hy : a.eval y = new.v) (t : TypeId) (hr : Box w t g old) (hi : (P.info? ty).map (·.size) = some 5)
    (h : ∀ w', Box w' t g new → w.grownBy w' (some g) → K (a.put o.dst undef) w') : if Region.wanted o (yielded ops a.tmps) = true then Oper.wp P o a w K Q else E := by
  have hw : Region.wanted o (yielded ops a.tmps) = true := by simp [Region.wanted, hgd]
  rw [if_pos hw]
  exact wp_store_box ty x y ho g old new hx hy t hr hi h
theorem Box.grown {w w' : World} {ty : TypeId} {g : Nat} {h : TH} {row : Option Nat} (hx : Box w ty g h) (hg : w.grownBy w' row) (hne : some g ≠ row) : Box w' ty g h := (hg.block g hx.lt hne).trans hx
theorem Box.result {P : Program} {fn : Func} {p q : Tmp} {ty : TypeId} (hr : fn.results = #[.cell p ty, .tmp q]) (tmps : Array Value) {w : World} {g : Nat} {t : TypeId} {h : TH} {fs : Array Field} (hx : Box w t g h)
    (hp : tmps.getD p undef = .pointer (some ⟨g, 0, none⟩)) (hu : P.underlying ty = some (.struct fs)) (hi : (P.info? ty).map (·.size) = some 5) :
    (results fn tmps).run P w = .ok (.tuple #[h.v, tmps.getD q undef]) w := results_cell_tmp hr tmps w g t _ _ _ hp hx hu rfl hi

/-- Block g holds two trees' cells. -/
def Two5 (w : World) (ty : TypeId) (g : Nat) (h1 h2 : TH) : Prop := w.heap[g]? = some (.cells #[.int .i64 h1.k, .slice h1.ka h1.kn h1.kc, .slice h1.va h1.vn h1.vc, .slice h1.da h1.dn h1.dc, .slice h1.ta h1.tn h1.tc, .int .i64 h2.k, .slice h2.ka h2.kn h2.kc, .slice h2.va h2.vn h2.vc, .slice h2.da h2.dn h2.dc, .slice h2.ta h2.tn h2.tc] ty (0, 0))
theorem Two5.new (w : World) (ty : TypeId) (h1 h2 : TH) : Two5 (w.alloc (.cells #[.int .i64 h1.k, .slice h1.ka h1.kn h1.kc, .slice h1.va h1.vn h1.vc, .slice h1.da h1.dn h1.dc, .slice h1.ta h1.tn h1.tc, .int .i64 h2.k, .slice h2.ka h2.kn h2.kc, .slice h2.va h2.vn h2.vc, .slice h2.da h2.dn h2.dc, .slice h2.ta h2.tn h2.tc] ty)) ty w.heap.size h1 h2 := heap_alloc_new w _
theorem Two5.lt {w : World} {ty : TypeId} {g : Nat} {h1 h2 : TH} (hx : Two5 w ty g h1 h2) : g < w.heap.size := by
  rcases Nat.lt_or_ge g w.heap.size with hlt | hge
  · exact hlt
  · unfold Two5 at hx; rw [Array.getElem?_eq_none hge] at hx; cases hx
/-- A tree of two kids that lie side by side. -/
theorem inTree_pair {w : World} {ty : TypeId} {g : Nat} {h1 h2 : TH} {c1 c2 : Tr} (hx : Two5 w ty g h1 h2) (i1 : InTree w h1 c1) (i2 : InTree w h2 c2) {k : Int} (hk1 : -9223372036854775808 ≤ k) (hk2 : k ≤ 9223372036854775807)
    {ka va da : Option Addr} {kn kc vn vc dn dc : Nat} {key val dig : List Int} (hkey : InBytes w ka kn kc key) (hval : InBytes w va vn vc val) (hdig : InBytes w da dn dc dig) :
    InTree w ⟨k, ka, kn, kc, va, vn, vc, da, dn, dc, some ⟨g, 0, none⟩, 2, 2⟩ (.mk k key val dig [c1, c2]) := by
  refine .mk _ _ (fun i => if i = 0 then h1 else h2) rfl hk1 hk2 hkey hval hdig ⟨Nat.le_refl _, by simp [maxLen], (fun h => by cases h), fun _ => ⟨g, 0, rfl, hx.lt, fun i hi => ?_⟩⟩ rfl (fun i hi => ?_)
  · have hi' : i < 10 := hi
    rw [Nat.zero_add, cell_of_row w g i _ _ (0, 0) hx]
    rcases (by omega : i = 0 ∨ i = 1 ∨ i = 2 ∨ i = 3 ∨ i = 4 ∨ i = 5 ∨ i = 6 ∨ i = 7 ∨ i = 8 ∨ i = 9) with rfl | rfl | rfl | rfl | rfl | rfl | rfl | rfl | rfl | rfl <;> rfl
  · have hi' : i < 2 := hi
    rcases (by omega : i = 0 ∨ i = 1) with rfl | rfl
    · exact i1
    · exact i2
theorem InBytes.agree {w w' : World} {a : Option Addr} {n c : Nat} {zs : List Int} (h : InBytes w a n c zs) (hs : w.heap.size ≤ w'.heap.size) (ha : ∀ ad, a = some ad → w'.heap[ad.block]? = w.heap[ad.block]?) : InBytes w' a n c zs :=
  ⟨h.len, h.bytes, h.le, h.max, h.nil, fun h0 => by
    obtain ⟨g, off, e, hlt, hc⟩ := h.place h0
    exact ⟨g, off, e, Nat.lt_of_lt_of_le hlt hs, hc.keep fun o => World.cell?_of_block (a := ⟨g, o, none⟩) (ha ⟨g, off, none⟩ e)⟩⟩
/-- The tree c lies below the world wb, and in the blocks from lo on that lie below hi, as they are in w. -/
def From (wb : World) (lo hi : Nat) (w : World) (h : TH) (c : Tr) : Prop := ∀ W : World, Below wb.heap.size wb W → hi ≤ W.heap.size → (∀ j, lo ≤ j → j < hi → W.heap[j]? = w.heap[j]?) → InTree W h c
theorem From.self {wb w : World} {lo hi : Nat} {h : TH} {c : Tr} (f : From wb lo hi w h c) (hb : Below wb.heap.size wb w) (hs : hi ≤ w.heap.size) : InTree w h c := f w hb hs fun _ _ _ => rfl
theorem From.below {wb w w' : World} {lo hi : Nat} {h : TH} {c : Tr} (f : From wb lo hi w h c) (hb : Below w.heap.size w w') (hs : hi ≤ w.heap.size) : From wb lo hi w' h c := fun W h1 h2 h3 => f W h1 h2 fun j hl hh => (h3 j hl hh).trans (hb.block j (by omega))
end Go.Proofs.Ytagmeljjkblpbaa

/- Errors that are Codes. -/
namespace Go.Proofs.Ytagmeljjkblpbaa
open Go.RowKit
set_option linter.unusedVariables false

/-- An error that is one of api's Codes, itself; 0: none. -/
def codeV (k : Nat) : Value := if k = 0 then .nilIface else .iface 41 (.int .i64 k)
theorem compCode : (Try.prog.info? 41).map (·.comparable) = some true := by kernel_rfl
theorem eql_code (a b : Int) (w : World) : (binOp .eql 29 (.iface 41 (.int .i64 a)) (.iface 41 (.int .i64 b))).run Try.prog w = .ok (.bool (a == b)) w :=
  Lib.run_eql_iface_int w a b Try.underlying29 compCode Try.underlying41

end Go.Proofs.Ytagmeljjkblpbaa

/- The empty tree. No program is named here. -/
namespace Go.Proofs.Ytagmeljjkblpbaa
open Go.RowKit
set_option linter.unusedVariables false

/-- The empty tree, and its head. -/
def tNil : Tr := .mk 0 [] [] [] []
def hNil : TH := ⟨0, none, 0, 0, none, 0, 0, none, 0, 0, none, 0, 0⟩
theorem in_nil (w : World) : InBytes w none 0 0 [] := ⟨rfl, (fun z hz => by cases hz), Nat.le_refl _, by simp [maxLen], fun _ => rfl, fun h => by omega⟩
theorem inTree_nil (w : World) : InTree w hNil tNil :=
  .mk hNil tNil (fun _ => hNil) rfl (by decide) (by decide) (in_nil w) (in_nil w) (in_nil w) ⟨Nat.le_refl _, by simp [maxLen, hNil], fun _ => rfl, fun h => absurd h (by decide)⟩ rfl (fun i hi => absurd hi (by simp [tNil, Tr.kids]))
end Go.Proofs.Ytagmeljjkblpbaa

/- Rows of one's own, of unlike types. -/
namespace Go.Proofs.Ytagmeljjkblpbaa
open Go.RowKit
set_option linter.unusedVariables false

/-- Rows of unlike types lie in unlike blocks. -/
theorem own_type {w : World} {base size n g : Nat} {e ty : TypeId} {v : Value} {xs : List Value} {cs : Array Value} {fr : Nat × Nat} (h : w.ownsRow base e size v n xs) (hg : v.ownBlock = some g) (hh : w.heap[g]? = some (.cells cs ty fr)) : ty = e := by
  rcases h.2 with ⟨rfl, _⟩ | ⟨g', c, cur, rfl, _, hq, _⟩
  · cases hg
  · have e1 : g' = g := Option.some.inj hg
    subst e1
    rw [hq] at hh
    injection hh with hh
    injection hh with _ hh
    exact hh.symm
theorem own_weak {w : World} {base base' size n : Nat} {e : TypeId} {v : Value} {xs : List Value} (h : w.ownsRow base e size v n xs) (hb : base' ≤ base) : w.ownsRow base' e size v n xs := by
  rcases h.2 with q | ⟨g, c, cur, q1, q2, q3⟩
  · exact ⟨h.1, .inl q⟩
  · exact ⟨h.1, .inr ⟨g, c, cur, q1, Nat.le_trans hb q2, q3⟩⟩
theorem own_in {w : World} {base n : Nat} {t : TypeId} {a : Option Addr} {m c : Nat} {zs : List Int} (h : w.ownsRow base t 1 (.slice a m c) n (zs.map (Value.int .u8))) (hb : Bytes8 zs) : InBytes w a m c zs := by
  obtain ⟨a', c', e, hi⟩ := own_any h hb
  injection e with e1 e2 e3
  subst e1 e2 e3
  exact hi
end Go.Proofs.Ytagmeljjkblpbaa

/- Trees that lie in new blocks alone; what the program's proofs tell, as their contracts say it. -/
namespace Go.Proofs.Ytagmeljjkblpbaa
open Go.RowKit
set_option linter.unusedVariables false

/-- A tree in the blocks from lo up to hi, and nowhere else. -/
def FreshT (lo hi : Nat) (w : World) (h : TH) (c : Tr) : Prop := ∀ W : World, hi ≤ W.heap.size → (∀ j, lo ≤ j → j < hi → W.heap[j]? = w.heap[j]?) → InTree W h c
section
variable {lo hi : Nat} {w w' : World} {h : TH} {c : Tr}
theorem FreshT.self (f : FreshT lo hi w h c) (hs : hi ≤ w.heap.size) : InTree w h c := f w hs fun _ _ _ => rfl
theorem FreshT.below (f : FreshT lo hi w h c) (hb : Below w.heap.size w w') (hs : hi ≤ w.heap.size) : FreshT lo hi w' h c := fun W h1 h2 => f W h1 fun j hl hh => (h2 j hl hh).trans (hb.block j (by omega))
theorem FreshT.wide {lo' hi' : Nat} (f : FreshT lo hi w h c) (h1 : lo' ≤ lo) (h2 : hi ≤ hi') : FreshT lo' hi' w h c := fun W q1 q2 => f W (Nat.le_trans h2 q1) fun j hl hh => q2 j (by omega) (by omega)
theorem FreshT.agree (f : FreshT lo hi w h c) (h1 : ∀ j, lo ≤ j → j < hi → w'.heap[j]? = w.heap[j]?) : FreshT lo hi w' h c := fun W q1 q2 => f W q1 fun j hl hh => (q2 j hl hh).trans (h1 j hl hh)
end
/-- Prove's proof. -/
def ProveOk (w : World) (c : Tr) (e : Ending) (w' : World) : Prop := ∃ h', e = .returned (.tuple #[h'.v, .nilIface]) ∧ FreshT w.heap.size w'.heap.size w' h' c ∧ Below w.heap.size w w'
/-- Prove's error: no tree, and a code. -/
def ProveErr (w : World) (n : Nat) (e : Ending) (w' : World) : Prop := ∃ h', e = .returned (.tuple #[h'.v, codeV n]) ∧ InTree w' h' tNil ∧ Below w.heap.size w w'
end Go.Proofs.Ytagmeljjkblpbaa

/- AVL trees: what the document says of them, as functions, and that they stay balanced. No program is named here. -/
namespace Go.Proofs.Ytagmeljjkblpbaa
set_option linter.unusedVariables false

/-- The order of keys: bytewise. -/
def ltL : List Int → List Int → Bool
  | _, [] => false
  | [], _ :: _ => true
  | a :: x, b :: y => decide (a < b) || (a == b && ltL x y)
/-- A full tree. -/
inductive AT where
  | nil
  | node (l : AT) (k v : List Int) (r : AT)
def AT.depth : AT → Nat
  | .nil => 0
  | .node l _ _ r => max l.depth r.depth + 1
/-- Its pairs, by the order of their keys. -/
def AT.pairs : AT → List (List Int × List Int)
  | .nil => []
  | .node l k v r => l.pairs ++ ((k, v) :: r.pairs)
def AT.bal : AT → Prop
  | .nil => True
  | .node l _ _ r => l.bal ∧ r.bal ∧ l.depth ≤ r.depth + 1 ∧ r.depth ≤ l.depth + 1
def AT.tilt : AT → Int
  | .nil => 0
  | .node l _ _ r => (l.depth : Int) - (r.depth : Int)
def AT.right : AT → AT
  | .node (.node ll lk lv lr) k v r => .node ll lk lv (.node lr k v r)
  | t => t
def AT.left : AT → AT
  | .node l k v (.node rl rk rv rr) => .node (.node l k v rl) rk rv rr
  | t => t
def AT.level : AT → AT
  | .nil => .nil
  | .node l k v r =>
    if (l.depth : Int) - (r.depth : Int) = 2 then AT.right (.node (if l.tilt < 0 then l.left else l) k v r)
    else if (l.depth : Int) - (r.depth : Int) = -2 then AT.left (.node l k v (if 0 < r.tilt then r.right else r))
    else .node l k v r
def AT.isNil : AT → Bool
  | .nil => true
  | _ => false
def AT.put (key val : List Int) : AT → AT
  | .nil => .node .nil key val .nil
  | .node l k v r => if key = k then .node l key val r else if ltL key k then (AT.node (AT.put key val l) k v r).level else (AT.node l k v (AT.put key val r)).level
def AT.del (key : List Int) : AT → AT
  | .nil => .nil
  | .node l k v r =>
    if ltL key k then (AT.node (AT.del key l) k v r).level
    else if ltL k key then (AT.node l k v (AT.del key r)).level
    else if l.isNil then r
    else if r.isNil then l
    else (AT.node l (r.pairs.headD ([], [])).1 (r.pairs.headD ([], [])).2 (AT.del (r.pairs.headD ([], [])).1 r)).level
def AT.get (key : List Int) (a : AT) : Option (List Int) := (a.pairs.find? fun p => p.1 == key).map (·.2)

end Go.Proofs.Ytagmeljjkblpbaa

/- AVL trees: what pairs they have behind an insertion, and behind a deletion. No program is named here. -/
namespace Go.Proofs.Ytagmeljjkblpbaa
set_option linter.unusedVariables false

abbrev KV := List Int × List Int
/-- The keys rise. -/
def Rise (l : List KV) : Prop := l.Pairwise fun p q => ltL p.1 q.1 = true
end Go.Proofs.Ytagmeljjkblpbaa

/- AVL trees as trees of layer 4; which trees are balanced. No program is named here. -/
namespace Go.Proofs.Ytagmeljjkblpbaa
set_option linter.unusedVariables false

def AT.tr : AT → Tr
  | .nil => .mk 0 [] [] [] []
  | .node l k v r => .mk 1 k v [] [l.tr, r.tr]
/-- Keys and values within their bounds. -/
def Lim (l : List KV) : Prop := ∀ p ∈ l, p.1.length ≤ 80 ∧ p.2.length ≤ 1024
/-- The nodes, by the order of their keys. -/
def AT.nodes : AT → List AT
  | .nil => []
  | .node l k v r => l.nodes ++ (.node l k v r :: r.nodes)
def AT.kv : AT → KV
  | .nil => ([], [])
  | .node _ k v _ => (k, v)
/-- Its kids' depths, one less the other. -/
def tiltT (t : Tr) : Int := ((t.kids.map depthT).getD 0 0 : Int) - ((t.kids.map depthT).getD 1 0 : Int)
/-- Do the keys rise, and is each node balanced? -/
def levelB (l : List Tr) : Bool := (List.range l.length).all fun i => (i == 0 || ltL (l.getD (i - 1) (.mk 0 [] [] [] [])).key (l.getD i (.mk 0 [] [] [] [])).key) && (decide (tiltT (l.getD i (.mk 0 [] [] [] [])) ≤ 1) && decide (-1 ≤ tiltT (l.getD i (.mk 0 [] [] [] []))))
def isT (t : Tr) : Bool := decide (checkT t = 0) && (fullT t && levelB (listT t))
end Go.Proofs.Ytagmeljjkblpbaa

/- A full tree does not lie in a box: what is written there leaves it as it is. No program is named here. -/
namespace Go.Proofs.Ytagmeljjkblpbaa
open Go.RowKit
set_option linter.unusedVariables false

theorem box_bytes' {W : World} {ty : TypeId} {g off : Nat} {hh : TH} {zs : List Int} (hb : Box W ty g hh) (hs : Seg .u8 W g off zs) (h0 : 0 < zs.length) : False := by
  have h1 := hs 0 h0
  rw [cell_of_row W g (off + 0) _ _ (0, 0) hb] at h1
  rcases (by omega : off = 0 ∨ off = 1 ∨ off = 2 ∨ off = 3 ∨ off = 4 ∨ 5 ≤ off) with rfl | rfl | rfl | rfl | rfl | h5
  · simp at h1
  · simp at h1
  · simp at h1
  · simp at h1
  · simp at h1
  · rw [Array.getElem?_eq_none (by simp; omega)] at h1
    cases h1
theorem InBytes.outBox {W W' : World} {ty : TypeId} {g : Nat} {hh : TH} {a : Option Addr} {n c : Nat} {zs : List Int} (h : InBytes W a n c zs) (hb : Box W ty g hh) (hg : W.grownBy W' (some g)) : InBytes W' a n c zs :=
  ⟨h.len, h.bytes, h.le, h.max, h.nil, fun h0 => by
    obtain ⟨g', off, e, hlt, hc⟩ := h.place h0
    have hne : some g' ≠ some g := fun q => by
      injection q with q
      subst q
      exact box_bytes' hb hc (by rw [h.len]; exact h0)
    exact ⟨g', off, e, Nat.lt_of_lt_of_le hlt hg.size, hc.keep fun o => World.cell?_of_block (a := ⟨g', o, none⟩) (hg.block g' hlt hne)⟩⟩
end Go.Proofs.Ytagmeljjkblpbaa

/- A partial tree does not lie in a box; leaves. No program is named here. -/
namespace Go.Proofs.Ytagmeljjkblpbaa
open Go.RowKit
set_option linter.unusedVariables false

theorem InTree.outBox {W W' : World} {ty : TypeId} {g : Nat} {hh : TH} (hb : Box W ty g hh) (hg : W.grownBy W' (some g)) : ∀ (t : Tr) (h : TH), formedT t = true → InTree W h t → InTree W' h t := by
  intro t
  induction t using Tr.ind with
  | h t ih =>
  intro h hf ht
  obtain ⟨hp, hk⟩ := formed_kids hf
  obtain ⟨H, hp2⟩ := ht.parts
  have hl := hp2.len
  refine .mk h _ H hp2.hk hp2.hk1 hp2.hk2 (hp2.key.outBox hb hg) (hp2.val.outBox hb hg) (hp2.dig.outBox hb hg) ⟨hp2.sl.le, hp2.sl.max, hp2.sl.nil, fun q => ?_⟩ hp2.len (fun i hi => ih _ (List.getElem_mem hi) (H i) (hk i hi) (hp2.kids i hi))
  rcases part_kids hp with ⟨h0, _⟩ | ⟨h2, _⟩
  · omega
  · obtain ⟨g', off, e, hlt, hc⟩ := hp2.sl.place q
    have hne : some g' ≠ some g := fun q => by
      injection q with q
      subst q
      have h9 := hc 9 (by omega)
      rw [cell_of_row W g' (off + 9) _ _ (0, 0) hb, Array.getElem?_eq_none (by simp)] at h9
      cases h9
    exact ⟨g', off, e, Nat.lt_of_lt_of_le hlt hg.size, fun i hi => (World.cell?_of_block (a := ⟨g', off + i, none⟩) (hg.block g' hlt hne)).trans (hc i hi)⟩
/-- A part that its digest alone tells. -/
theorem inTree_leaf {w : World} {k : Int} (hk1 : -9223372036854775808 ≤ k) (hk2 : k ≤ 9223372036854775807) {da : Option Addr} {dn dc : Nat} {dig : List Int} (h : InBytes w da dn dc dig) : InTree w ⟨k, none, 0, 0, none, 0, 0, da, dn, dc, none, 0, 0⟩ (.mk k [] [] dig []) :=
  .mk _ _ (fun _ => hNil) rfl hk1 hk2 (none_in w) (none_in w) h ⟨Nat.le_refl _, by simp [maxLen], fun _ => rfl, fun h => absurd h (by simp)⟩ rfl (fun i hi => absurd hi (by simp [Tr.kids]))
end Go.Proofs.Ytagmeljjkblpbaa

/- Bytes, leaves and nodes that lie in new blocks alone. No program is named here. -/
namespace Go.Proofs.Ytagmeljjkblpbaa
open Go.RowKit
set_option linter.unusedVariables false

/-- Bytes in the blocks from lo up to hi, and nowhere else. -/
def FreshB (lo hi : Nat) (w : World) (a : Option Addr) (n c : Nat) (zs : List Int) : Prop := ∀ W : World, hi ≤ W.heap.size → (∀ j, lo ≤ j → j < hi → W.heap[j]? = w.heap[j]?) → InBytes W a n c zs
theorem FreshB.of {lo hi : Nat} {w : World} {a : Option Addr} {n c : Nat} {zs : List Int} (h : InBytes w a n c zs) (hp : ∀ y, a = some y → lo ≤ y.block ∧ y.block < hi) : FreshB lo hi w a n c zs := fun W h1 h2 =>
  ⟨h.len, h.bytes, h.le, h.max, h.nil, fun h0 => by
    obtain ⟨g, off, e, hlt, hc⟩ := h.place h0
    have q := hp _ e
    exact ⟨g, off, e, Nat.lt_of_lt_of_le q.2 h1, hc.keep fun o => World.cell?_of_block (a := ⟨g, o, none⟩) (h2 g q.1 q.2)⟩⟩
theorem FreshB.none (lo hi : Nat) (w : World) : FreshB lo hi w none 0 0 [] := fun W _ _ => none_in W
section
variable {lo hi lo' hi' : Nat} {w w' : World} {a : Option Addr} {n c : Nat} {zs : List Int}
theorem FreshB.wide (f : FreshB lo hi w a n c zs) (h1 : lo' ≤ lo) (h2 : hi ≤ hi') : FreshB lo' hi' w a n c zs := fun W q1 q2 => f W (Nat.le_trans h2 q1) fun j hl hh => q2 j (by omega) (by omega)
theorem FreshB.agree (f : FreshB lo hi w a n c zs) (h1 : ∀ j, lo ≤ j → j < hi → w'.heap[j]? = w.heap[j]?) : FreshB lo hi w' a n c zs := fun W q1 q2 => f W q1 fun j hl hh => (q2 j hl hh).trans (h1 j hl hh)
/-- One block was written, that lies elsewhere. -/
theorem FreshB.grown {g : Nat} (f : FreshB lo hi w a n c zs) (hg : w.grownBy w' (some g)) (hs : hi ≤ w.heap.size) (hn : g < lo ∨ hi ≤ g) : FreshB lo hi w' a n c zs := f.agree fun j hl hh => hg.block j (by omega) (fun q => by injection q; omega)
theorem FreshT.grown {g : Nat} {h : TH} {t : Tr} (f : FreshT lo hi w h t) (hg : w.grownBy w' (some g)) (hs : hi ≤ w.heap.size) (hn : g < lo ∨ hi ≤ g) : FreshT lo hi w' h t := f.agree fun j hl hh => hg.block j (by omega) (fun q => by injection q; omega)
end
theorem FreshT.nil (lo hi : Nat) (w : World) : FreshT lo hi w hNil tNil := fun W _ _ => inTree_nil W
theorem FreshT.leaf {lo hi : Nat} {w : World} {k : Int} (hk1 : -9223372036854775808 ≤ k) (hk2 : k ≤ 9223372036854775807) {da : Option Addr} {dn dc : Nat} {dig : List Int} (d : FreshB lo hi w da dn dc dig) : FreshT lo hi w ⟨k, none, 0, 0, none, 0, 0, da, dn, dc, none, 0, 0⟩ (.mk k [] [] dig []) := fun W h1 h2 => inTree_leaf hk1 hk2 (d W h1 h2)
/-- A node over two such trees that lie side by side in block g. -/
theorem FreshT.node {lo hi g : Nat} {w : World} {ty : TypeId} {h1 h2 : TH} {c1 c2 : Tr} (hx : Two5 w ty g h1 h2) (hg1 : lo ≤ g) (hg2 : g < hi) (f1 : FreshT lo hi w h1 c1) (f2 : FreshT lo hi w h2 c2) {k : Int} (hk1 : -9223372036854775808 ≤ k) (hk2 : k ≤ 9223372036854775807)
    {ka va da : Option Addr} {kn kc vn vc dn dc : Nat} {key val dig : List Int} (bk : FreshB lo hi w ka kn kc key) (bv : FreshB lo hi w va vn vc val) (bd : FreshB lo hi w da dn dc dig) :
    FreshT lo hi w ⟨k, ka, kn, kc, va, vn, vc, da, dn, dc, some ⟨g, 0, none⟩, 2, 2⟩ (.mk k key val dig [c1, c2]) := fun W q1 q2 =>
  inTree_pair (ty := ty) ((q2 g hg1 hg2).trans hx) (f1 W q1 q2) (f2 W q1 q2) hk1 hk2 (bk W q1 q2) (bv W q1 q2) (bd W q1 q2)
end Go.Proofs.Ytagmeljjkblpbaa

/- What the program's Write and Read of trees tell, as their contracts say it; how long a tree's bytes are. -/
namespace Go.Proofs.Ytagmeljjkblpbaa
open Go.RowKit
set_option linter.unusedVariables false

/-- Write's answer: bytes in new memory. -/
def WriteTold (w : World) (r : Nat × List Int) (e : Ending) (w' : World) : Prop := ∃ a n c, e = .returned (.tuple #[.slice a n c, codeV r.1]) ∧ FreshB w.heap.size w'.heap.size w' a n c r.2 ∧ Below w.heap.size w w'
/-- Read's answer: a tree in new memory. -/
def ReadTold (w : World) (r : Nat × PT) (e : Ending) (w' : World) : Prop := ∃ h', e = .returned (.tuple #[h'.v, codeV r.1]) ∧ FreshT w.heap.size w'.heap.size w' h' r.2.tr ∧ Below w.heap.size w w'
theorem readX_le (s : List Int) : (readX s).1 ≤ 13 := by
  unfold readX
  split
  · show 3 ≤ 13; omega
  · show 0 ≤ 13; omega
  · show 4 ≤ 13; omega
theorem numL_short {v : Nat} (h : v ≤ 2000) : (numL v).length ≤ 10 := by
  have := numL_le (v := v) (by omega)
  omega
theorem code_len : ∀ p : PT, p.fits10 → (codeP p).length ≤ 1200 * countT p.tr := by
  have bl : ∀ l : List Int, l.length ≤ 1024 → (bytL l).length ≤ l.length + 10 := fun l h => by
    unfold bytL
    rw [List.length_append]
    have := numL_short (v := l.length) (by omega)
    omega
  intro p
  induction p with
  | nil =>
    intro _
    rw [countT_eq]
    show 1 ≤ 1200 * _
    omega
  | cut d =>
    intro h
    have h' : d.length ≤ 32 := h
    rw [countT_eq]
    have := bl d (by omega)
    show (bytL d).length + 1 ≤ 1200 * _
    omega
  | shown l key v r ihl ihr =>
    intro h
    obtain ⟨h1, h2, h3, h4⟩ := h
    have a := ihl h3
    have b := ihr h4
    have e : countT (PT.shown l key v r).tr = 1 + (countT l.tr + countT r.tr) := by
      rw [countT_eq]
      show 1 + ([l.tr, r.tr].map countT).sum = _
      simp
    have k1 := bl key (by omega)
    have k2 := bl v h2
    rw [e]
    show (bytL key ++ (bytL v ++ (codeP l ++ codeP r))).length + 1 ≤ _
    rw [List.length_append, List.length_append, List.length_append]
    omega
  | dark l key d r ihl ihr =>
    intro h
    obtain ⟨h1, h2, h3, h4⟩ := h
    have a := ihl h3
    have b := ihr h4
    have e : countT (PT.dark l key d r).tr = 1 + (countT l.tr + countT r.tr) := by
      rw [countT_eq]
      show 1 + ([l.tr, r.tr].map countT).sum = _
      simp
    have k1 := bl key (by omega)
    have k2 := bl d (by omega)
    rw [e]
    show (bytL key ++ (bytL d ++ (codeP l ++ codeP r))).length + 1 ≤ _
    rw [List.length_append, List.length_append, List.length_append]
    omega
end Go.Proofs.Ytagmeljjkblpbaa

/- A tree's bytes, as a fold. No program is named here. -/
namespace Go.Proofs.Ytagmeljjkblpbaa
open Go.RowKit
set_option linter.unusedVariables false

/-- What stands ahead of the kids. -/
def hdT (t : Tr) : List Int := t.k :: ((if t.k = 1 ∨ t.k = 2 then bytL t.key else []) ++ ((if t.k = 1 then bytL t.val else []) ++ (if 1 < t.k then bytL t.dig else [])))
def codeT (t : Tr) : List Int := t.fold fun t rs => hdT t ++ rs.flatten
theorem codeT_eq (t : Tr) : codeT t = hdT t ++ (t.kids.map codeT).flatten := by
  conv => lhs; unfold codeT
  rw [Tr.fold_eq]
  rfl
theorem codeT_tr : ∀ p : PT, codeT p.tr = codeP p := by
  intro p
  induction p with
  | nil => rw [codeT_eq]; rfl
  | cut d =>
    rw [codeT_eq]
    show (3 :: ([] ++ ([] ++ bytL d))) ++ [] = 3 :: bytL d
    simp
  | shown l key v r ihl ihr =>
    rw [codeT_eq]
    show (1 :: (bytL key ++ (bytL v ++ []))) ++ ([l.tr, r.tr].map codeT).flatten = codeP (.shown l key v r)
    simp [ihl, ihr, codeP]
  | dark l key d r ihl ihr =>
    rw [codeT_eq]
    show (2 :: (bytL key ++ ([] ++ bytL d))) ++ ([l.tr, r.tr].map codeT).flatten = codeP (.dark l key d r)
    simp [ihl, ihr, codeP]
theorem codeT_len {t : Tr} (hf : formedT t = true) (hl : longT t = false) : (codeT t).length ≤ 1200 * countT t := by
  obtain ⟨p, rfl⟩ := PT.of t hf
  rw [codeT_tr]
  exact code_len p (fits_of p hf hl)
/-- What is written ahead of the i-th kid. -/
def accT (t : Tr) (i : Nat) : List Int := hdT t ++ ((t.kids.take i).map codeT).flatten
theorem accT_zero (t : Tr) : accT t 0 = hdT t := by simp [accT]
theorem accT_succ (t : Tr) (i : Nat) (hi : i < t.kids.length) : accT t (i + 1) = accT t i ++ codeT t.kids[i] := by
  unfold accT
  rw [List.take_add_one, List.getElem?_eq_getElem hi, List.map_append, List.flatten_append, List.append_assoc]
  simp only [Option.toList, List.map_cons, List.map_nil, List.flatten_cons, List.flatten_nil, List.append_nil]
theorem accT_all (t : Tr) (i : Nat) (hi : t.kids.length ≤ i) : accT t i = codeT t := by
  unfold accT
  rw [List.take_of_length_le hi, codeT_eq]
theorem accT_len (t : Tr) (i : Nat) : (accT t i).length ≤ (codeT t).length := by
  rw [codeT_eq]
  unfold accT
  rw [List.length_append, List.length_append]
  have : ((t.kids.take i).map codeT).flatten.length ≤ (t.kids.map codeT).flatten.length := by
    conv => rhs; rw [← List.take_append_drop i t.kids, List.map_append, List.flatten_append, List.length_append]
    omega
  omega
theorem long_kid {t : Tr} (h : longT t = false) (i : Nat) (hi : i < t.kids.length) : longT t.kids[i] = false := by
  rw [longT_eq, Bool.or_eq_false_iff, List.any_eq_false] at h
  simpa using h.2 _ (List.getElem_mem hi)
theorem count_kid (t : Tr) (i : Nat) (hi : i < t.kids.length) : countT t.kids[i] ≤ countT t := by
  rw [countT_eq t]
  have : countT t.kids[i] ≤ (t.kids.map countT).sum := by
    have e : t.kids = t.kids.take i ++ (t.kids[i] :: t.kids.drop (i + 1)) := by rw [← List.drop_eq_getElem_cons hi, List.take_append_drop]
    have q : (t.kids.map countT).sum = ((t.kids.take i).map countT ++ (countT t.kids[i] :: (t.kids.drop (i + 1)).map countT)).sum := by
      conv => lhs; rw [e, List.map_append, List.map_cons]
    rw [q, List.sum_append, List.sum_cons]
    omega
  omega
theorem hdT_0 {t : Tr} (h : t.k = 0) : hdT t = [0] := by
  unfold hdT
  rw [h, if_neg (by omega), if_neg (by omega), if_neg (by omega)]
  rfl
theorem hdT_1 {t : Tr} (h : t.k = 1) : hdT t = [1] ++ bytL t.key ++ bytL t.val := by
  unfold hdT
  rw [h, if_pos (by omega), if_pos (by omega), if_neg (by omega)]
  simp
theorem hdT_2 {t : Tr} (h : t.k = 2) : hdT t = [2] ++ bytL t.key ++ bytL t.dig := by
  unfold hdT
  rw [h, if_pos (by omega), if_neg (by omega), if_pos (by omega)]
  simp
theorem hdT_3 {t : Tr} (h : t.k = 3) : hdT t = [3] ++ bytL t.dig := by
  unfold hdT
  rw [h, if_neg (by omega), if_neg (by omega), if_pos (by omega)]
  simp
end Go.Proofs.Ytagmeljjkblpbaa

/- The contract of the program's look for a digest that is too long. -/
namespace Go.Proofs.Ytagmeljjkblpbaa
open Go.RowKit
set_option linter.unusedVariables false

set_option maxRecDepth 100000 in
set_option maxHeartbeats 4000000 in
theorem hasLong_any : ∀ (t : Tr) (h : TH) (w : World), InTree w h t → Calls Try.prog 18 #[h.v] w (Says w (.bool (longT t))) := by
  intro t
  induction t using Tr.ind with
  | h t ih =>
  intro h w ht
  unfold TH.v
  obtain ⟨H, hp⟩ := ht.parts
  have hdl := hp.dig.len
  have htl := hp.len
  have htm := Nat.le_trans hp.sl.le hp.sl.max
  have htc := hp.sl.le
  simp only [maxLen] at htm
  have HP := Lib.hid hp
  have IH := Lib.hid ih
  have HBX := Lib.hid (Box.new w 25 h)
  have HBW : Hid (Below w.heap.size w (w.alloc (.cells #[.int .i64 h.k, .slice h.ka h.kn h.kc, .slice h.va h.vn h.vc, .slice h.da h.dn h.dc, .slice h.ta h.tn h.tc] 25))) := Lib.hid ((Below.refl _ _).alloc (Nat.le_refl _) _)
  have HLE := Lib.hid (longT_eq t)
  clear hp ht ih
  go_enter Try.func18, Try.ntmps18
  go_upto_region 1 with fail
  generalize (w.alloc (.cells #[.int .i64 h.k, .slice h.ka h.kn h.kc, .slice h.va h.vn h.vc, .slice h.da h.dn h.dc, .slice h.ta h.tn h.tc] 25)) = w0 at *
  obtain ⟨x0, x1, x2, x3, x4⟩ := HBX.out.cells
  by_cases hd : 32 < t.dig.length
  · have q0 : (32 : Int) < (h.dn : Int) := by omega
    have E : Hid (longT t = true) := Lib.hid (by rw [HLE.out, decide_eq_true hd, Bool.true_or])
    clear hd hdl
    go_wp2_with fail
    go_ret
    exact ⟨by rw [E.out]; rfl, HBW.out⟩
  have q0 : ¬ (32 : Int) < (h.dn : Int) := by omega
  have HD : Hid (decide (32 < t.dig.length) = false) := Lib.hid (decide_eq_false hd)
  clear hd hdl
  go_wp2_with fail
  clear x0 x1 x2 x3 x4 q0 HBX
  go_loopw [12] (fun s12 wx => ∃ i : Nat, i ≤ h.tn ∧ s12 = .int .i64 i ∧ Below w.heap.size w wx ∧ (t.kids.take i).any longT = false) (fun s12 _ => h.tn - (intOf s12).toNat)
  case atStart => exact ⟨0, by omega, rfl, HBW.out, by simp⟩
  case round =>
    clear HBW
    obtain ⟨i, hi, rfl, hbw, hany⟩ := hrel
    have HBW := Lib.hid hbw
    have HA := Lib.hid hany
    clear hbw hany
    by_cases hlt : i < h.tn
    · have q1 : (i : Int) < (h.tn : Int) := by omega
      obtain ⟨g, off, hta, hg, hcs⟩ := (HP.out.below HBW.out).place (by omega)
      obtain ⟨k0, k1, k2, k3, k4⟩ := hcs i hlt
      have him : i < t.kids.length := by omega
      clear hcs
      rw [hta]
      go_upto_region 6 with fail
      have b2 : Below wr.heap.size wr (wr.alloc (.cells #[.int .i64 (H i).k, .slice (H i).ka (H i).kn (H i).kc, .slice (H i).va (H i).vn (H i).vc, .slice (H i).da (H i).dn (H i).dc, .slice (H i).ta (H i).tn (H i).tc] 25)) := (Below.refl _ _).alloc (Nat.le_refl _) _
      have bx := Box.new wr 25 (H i)
      generalize (wr.alloc (.cells #[.int .i64 (H i).k, .slice (H i).ka (H i).kn (H i).kc, .slice (H i).va (H i).vn (H i).vc, .slice (H i).da (H i).dn (H i).dc, .slice (H i).ta (H i).tn (H i).tc] 25)) = w2 at *
      have HB2 : Hid (Below w.heap.size w w2) := Lib.hid (HBW.out.trans (b2.mono HBW.out.size))
      obtain ⟨y0, y1, y2, y3, y4⟩ := bx.cells
      clear b2 bx k0 k1 k2 k3 k4
      go_upto_if 17 with (first
        | (go_at_call 18
           refine (IH.out _ (List.getElem_mem him) (H i) _ ((HP.out.below HB2.out).kids i him)).mono ?_
           rintro _ w3 ⟨rfl, hb3⟩
           have HB3 : Hid (Below w.heap.size w w3) := Lib.hid (HB2.out.trans (hb3.mono HB2.out.size))
           generalize hr : longT t.kids[i] = r
           have HR := Lib.hid hr
           clear hb3 hr))
      clear y0 y1 y2 y3 y4
      cases r
      · clear hta
        go_wp2_with fail
        exact ⟨⟨i + 1, by omega, by go_num, HB3.out, by rw [any_take _ _ i him, HA.out, HR.out]; rfl⟩, by simp [intOf]; omega⟩
      · go_wp2_with fail
        go_ret
        have hd : longT t = true := by rw [HLE.out, any_at i him HR.out, Bool.or_true]
        exact ⟨by rw [hd]; rfl, HB3.out⟩
    · obtain rfl : i = h.tn := by omega
      have q1 : ¬ (h.tn : Int) < (h.tn : Int) := by omega
      go_wp2_with fail
      go_ret
      have hA := HA.out
      rw [List.take_of_length_le (by omega)] at hA
      have hd : longT t = false := by rw [HLE.out, HD.out, hA]; rfl
      exact ⟨by rw [hd]; rfl, HBW.out⟩
end Go.Proofs.Ytagmeljjkblpbaa

/- The contracts of the program's Number and Bytes. -/
namespace Go.Proofs.Ytagmeljjkblpbaa
open Go.RowKit
set_option linter.unusedVariables false

theorem nd_of_len {v : Nat} {r : Int} (h : LenAt v r) : ∃ L : Nat, r = (L : Int) ∧ L ≤ 64 ∧ (L + 7) / 8 = nd v := by
  obtain ⟨k, l, rfl, h1, h2, h3, h4, h5⟩ := h
  have e0 : ((v : Int) / 256 ^ k) = ((v / 256 ^ k : Nat) : Int) := by rw [Int.natCast_ediv, Int.natCast_pow]; rfl
  rw [e0] at h3 h4
  have hn : k + 1 = nd v := by
    refine nd_unique ?_ (.inr ?_)
    · rw [← div_step]; omega
    · rw [Nat.add_sub_cancel]; omega
  exact ⟨8 * k + l.toNat, by omega, by omega, by omega⟩
theorem len64_any (v : Nat) (w : World) (hp : 0 < v) (hv : v < 18446744073709551616) :
    Calls Try.prog 48 #[.int .u64 v] w (fun e w' => (∃ L : Nat, e = .returned (.int .i64 L) ∧ L ≤ 64 ∧ (L + 7) / 8 = nd v) ∧ w' = w) :=
  (len64_raw v w (by omega) (by omega)).mono fun e w' ⟨⟨r, h1, h2⟩, h3⟩ => by
    obtain ⟨L, rfl, h⟩ := nd_of_len h2
    exact ⟨⟨L, h1, h⟩, h3⟩

/-- What has been written when i of the m bytes are there. -/
def part (m v i : Nat) : List Int := ((247 + m : Nat) : Int) :: (List.replicate (m - i) 0 ++ be i v)
theorem part_length (m v i : Nat) (h : i ≤ m) : (part m v i).length = m + 1 := by simp [part, be_length]; omega
theorem part_zero (m v : Nat) : part m v 0 = ((247 + m : Nat) : Int) :: List.replicate m 0 := by simp [part, be]
theorem part_set (m v i : Nat) (h : i < m) : (part m v i).set (m - i) ((v / 256 ^ i % 256 : Nat) : Int) = part m v (i + 1) := by
  have e1 : m - i = (m - (i + 1)) + 1 := by omega
  have e2 : List.replicate (m - i) (0 : Int) = List.replicate (m - (i + 1)) 0 ++ [0] := by rw [e1, List.replicate_succ']
  unfold part
  rw [e2]
  conv => lhs; rw [e1]
  rw [List.set_cons_succ, List.append_assoc, List.set_append_right _ _ (by simp)]
  simp [be]
theorem shr_is (v i : Nat) : (v : Int) / 2 ^ (8 * (i : Int)).toNat = ((v / 256 ^ i : Nat) : Int) := by
  rw [show (8 * (i : Int)).toNat = 8 * i by omega, Int.natCast_ediv, Int.natCast_pow, Int.pow_mul]
  rfl

set_option maxRecDepth 100000 in
set_option maxHeartbeats 2000000 in
theorem number_any (v : Nat) (w : World) (hv : v < 18446744073709551616) :
    Calls Try.prog 45 #[.int .u64 v] w (OwnPost w (numL v)) := by
  obtain ⟨i0, hi0, hz0, hz1, hz2⟩ := info_parts infoU8
  go_enter Try.func45, Try.ntmps45
  by_cases h : v < 248
  · have hb : (v : Int) ≤ 247 := by omega
    go_wp2_with fail
    go_ret
    have e : numL v = [(v : Int)] := by unfold numL; rw [if_pos h]
    rw [e]
    exact ⟨w.heap.size, 1, rfl, own_new w 5 .u8 [(v : Int)] w.heap.size (Nat.le_refl _) (by simp [maxLen]), (Below.refl _ _).alloc (Nat.le_refl _) _⟩
  · have hb : ¬ (v : Int) ≤ 247 := by omega
    have hm1 := nd_one (v := v) (by omega)
    have hm8 := nd_64 hv
    have hlen := Lib.hid (fun W => len64_any v W (by omega) hv)
    obtain ⟨m, hm⟩ : ∃ m, m = nd v := ⟨_, rfl⟩
    rw [← hm] at hm1 hm8 hlen
    have HM := Lib.hid hm
    clear hm
    go_wp2_with (first
      | (go_at_call 48
         (with_reducible refine (hlen.out _).mono ?_)
         rintro _ w1 ⟨⟨L, rfl, hL1, hL2⟩, rfl⟩
         have hLq : ((L : Int) + 7) / 8 = (m : Int) := by omega
         have hLq2 : ((L : Int) + 7).tdiv 8 = (m : Int) := by rw [Int.tdiv_eq_ediv_of_nonneg (by omega)]; exact hLq)
      | (at_make
         refine wpList_make_ints _ rfl (.tmp 16) (.tmp 16) 22 rfl 5 i0 .u8 Try.underlying22 hi0 hz0 hz1 .i64 .i64 _ _ (1 + m) rfl rfl (by push_cast; omega) (by push_cast; omega) (by rw [hz2]; omega) (by simp only [maxLen]; omega) ?_
         intro w2 hr2 hb2 hs2
         obtain ⟨z0, hc0⟩ := hr2.has 0 (by simp; omega)
         have hf0 := hr2.frozen 0
         have HR2 := Lib.hid hr2
         have HB2 := Lib.hid hb2
         clear hr2 hs2 hb2))
    have hrow : Row .u8 (w2.setCell ⟨w1.heap.size, 0, none⟩ (.int .u8 (247 + (m : Int)))) 5 w1.heap.size (part m v 0) := by
      have h := HR2.out.set 0 (247 + (m : Int))
      rw [part_zero, show (((247 + m : Nat)) : Int) = 247 + (m : Int) by omega]
      rwa [Nat.add_comm 1 m, List.replicate_succ, List.set_cons_zero] at h
    have hbel : Below w1.heap.size w1 (w2.setCell ⟨w1.heap.size, 0, none⟩ (.int .u8 (247 + (m : Int)))) := HB2.out.setCell (Nat.le_refl _) _
    have H0 := Lib.hid (And.intro hrow hbel)
    clear hrow hbel HR2 HB2 hc0 hf0 hLq hLq2 hL1 hL2 hlen
    go_loopw [24] (fun s24 wx => ∃ i : Nat, i ≤ m ∧ s24 = .int .i64 i ∧ Row .u8 wx 5 w1.heap.size (part m v i) ∧ Below w1.heap.size w1 wx) (fun s24 _ => m - (intOf s24).toNat)
    case atStart => exact ⟨0, by omega, rfl, H0.out.1, H0.out.2⟩
    case round =>
      obtain ⟨i, hi, rfl, hr, hbl⟩ := hrel
      by_cases hlt : i < m
      · have q1 : (i : Int) < (m : Int) := by omega
        have q2 : (0 : Int) ≤ (m : Int) - (i : Int) := by omega
        have q3 : (m : Int) - (i : Int) < 1 + (m : Int) := by omega
        have q4 : ((m : Int) - (i : Int)).toNat = m - i := by omega
        have q5 : (0 : Int) ≤ 8 * (i : Int) := by omega
        have q6 : 8 * (i : Int) ≤ 64 := by omega
        obtain ⟨z, hc⟩ := hr.has (m - i) (by rw [part_length _ _ _ hi]; omega)
        have hf := hr.frozen (m - i)
        have hsh := shr_is v i
        have HR := Lib.hid hr
        have HB := Lib.hid hbl
        have hset := part_set m v i hlt
        have HSET := Lib.hid hset
        clear hr hbl hset H0
        go_wp2_with fail
        have e : ((v : Int) / 256 ^ i % 256) = ((v / 256 ^ i % 256 : Nat) : Int) := by push_cast; rfl
        rw [e]
        refine ⟨⟨i + 1, by omega, by go_num, ?_, HB.out.setCell (Nat.le_refl _) _⟩, by simp [intOf]; omega⟩
        rw [← HSET.out]
        exact HR.out.set _ _
      · obtain rfl : i = m := by omega
        have q1 : ¬ (i : Int) < (i : Int) := by omega
        have HR := Lib.hid hr
        have HB := Lib.hid hbl
        clear hr hbl H0
        go_wp2_with fail
        go_ret
        have hm := HM.out
        have e : numL v = part i v i := by unfold numL part; rw [if_neg h, ← hm]; simp
        have hl := part_length i v i hi
        have hr := HR.out
        rw [e]
        refine ⟨w1.heap.size, i + 1, by rw [hl, Nat.add_comm 1 i]; rfl, ?_, HB.out⟩
        rw [hl]
        exact ⟨by simp [hl], .inr ⟨w1.heap.size, i + 1, _, rfl, Nat.le_refl _, hr, Nat.le_refl _, by simp only [maxLen]; omega, by simp [hl], by rw [Nat.mul_one]; exact List.take_of_length_le (by simp [hl])⟩⟩

set_option maxRecDepth 100000 in
set_option maxHeartbeats 2000000 in
theorem bytes_any (a : Option Addr) (n cap : Nat) (bs : List Int) (w : World) (hin : InBytes w a n cap bs) (hn : n ≤ 140737488351232) :
    Calls Try.prog 33 #[.slice a n cap] w (OwnPost w (bytL bs)) := by
  obtain ⟨i0, hi0, hz0, hz1, hz2⟩ := info_parts infoU8
  have hlen := hin.len
  have h9 := numL_le (v := n) (by omega)
  have hnum := Lib.hid (fun W => number_any n W (by omega))
  have HIN := Lib.hid hin
  clear hin
  go_enter Try.func33, Try.ntmps33
  go_wp2_with (first
    | (go_at_call 45
       (with_reducible refine (hnum.out _).mono ?_)
       rintro _ w1 ⟨g1, c1, rfl, hown1, hb1⟩
       have HO1 := Lib.hid hown1
       have HB1 := Lib.hid hb1
       clear hown1 hb1)
    | (at_builtin
       refine wpList_append_bytes' _ rfl (.tmp 6) (.tmp 7) 22 rfl w.heap.size 5 i0 _ 1 Try.underlying22 hi0 hz0 hz1 hz2 rfl g1 (numL n).length c1 ((numL n).map (Value.int .u8)) rfl HO1.out a n cap bs rfl (HIN.out.below HB1.out) (by simp only [maxLen]; omega) (by omega) HB1.out.size ?_
       intro g2 c2 w2 hown2 hg2
       have HO2 := Lib.hid hown2
       have HB2 : Hid (Below w.heap.size w w2) := Lib.hid (below_only HB1.out hg2 HB1.out.size (HO1.out.lt g1 rfl).1)
       clear hown2 hg2))
  go_ret
  have e : (bytL bs).length = (numL n).length + n := by unfold bytL; rw [List.length_append, hlen]
  refine ⟨g2, c2, by rw [e]; rfl, ?_, HB2.out⟩
  rw [e]
  have h := HO2.out
  rw [← List.map_append] at h
  unfold bytL
  rw [hlen]
  exact h
end Go.Proofs.Ytagmeljjkblpbaa

/- The contract of the program's appending of a tree's bytes to a row of its own. -/
namespace Go.Proofs.Ytagmeljjkblpbaa
open Go.RowKit
set_option linter.unusedVariables false

/-- From w to w' the row v alone was written; it lies in block g now: where it lay, or in new memory. -/
structure AK (w w' : World) (v : Value) (g : Nat) : Prop where
  grown : w.grownBy w' v.ownBlock
  ob : v.ownBlock = some g ∨ w.heap.size ≤ g
theorem AK.trans {w w1 w2 : World} {v : Value} {g1 n c g2 : Nat} (a : AK w w1 v g1) (b : AK w1 w2 (.slice (some ⟨g1, 0, none⟩) n c) g2) : AK w w2 v g2 :=
  ⟨⟨b.grown.os.trans a.grown.os, b.grown.tape.trans a.grown.tape, b.grown.output.trans a.grown.output, Nat.le_trans a.grown.size b.grown.size, fun j hj hne => by
    rw [b.grown.block j (Nat.lt_of_lt_of_le hj a.grown.size) ?_]
    · exact a.grown.block j hj hne
    · intro q
      have q' : j = g1 := by simpa [Value.ownBlock] using q
      subst q'
      rcases a.ob with e | e
      · exact hne e.symm
      · omega⟩, by
    have hs := a.grown.size
    rcases b.ob with e | e
    · have e' : g1 = g2 := by simpa [Value.ownBlock] using e
      rw [← e']
      exact a.ob
    · exact .inr (by omega)⟩
theorem AK.below {w w' W : World} {v : Value} {g : Nat} (a : AK w w' v g) (hb : Below w'.heap.size w' W) : AK w W v g :=
  ⟨⟨hb.os.trans a.grown.os, hb.tape.trans a.grown.tape, hb.output.trans a.grown.output, Nat.le_trans a.grown.size hb.size, fun j hj hne => (hb.block j (Nat.lt_of_lt_of_le hj a.grown.size)).trans (a.grown.block j hj hne)⟩, a.ob⟩
theorem AK.behind {w w' W : World} {v : Value} {g : Nat} (hb : Below w.heap.size w w') (a : AK w' W v g) : AK w W v g :=
  ⟨⟨a.grown.os.trans hb.os, a.grown.tape.trans hb.tape, a.grown.output.trans hb.output, Nat.le_trans hb.size a.grown.size, fun j hj hne => (a.grown.block j (Nat.lt_of_lt_of_le hj hb.size) hne).trans (hb.block j hj)⟩, a.ob.elim .inl fun q => .inr (Nat.le_trans hb.size q)⟩
/-- append(s, b...), b no empty slice: where it lies then. -/
theorem wpList_append_where {P : Program} (w : World) {ops : Array Oper} {rest : List Oper} {o : Oper} {a : Act} {Q : Exit → Act → World → Prop} (hgd : o.guard = none) (s x : Operand) (t : TypeId)
    (ho : o.op = .call { callee := .builtin .append, args := #[s, x], argTypes := #[t, t] })
    (base : Nat) (e : TypeId) (i : TypeInfo) (z : Value) (bytes : Nat) (ht : P.underlying t = some (.slice e)) (hi : P.info? e = some i) (hz : i.zero = some z)
    (hsize : i.size = 1) (hby : i.bytes = bytes) (hzs : z.cells.size = 1)
    (v : Value) (n : Nat) (xs : List Int) (hs : a.eval s = v) (hown : w.ownsRow base e 1 v n (xs.map (Value.int .u8)))
    (ad : Addr) (k cap : Nat) (r : List Int) (hx : a.eval x = .slice (some ad) k cap) (hin : InBytes w (some ad) k cap r) (hk : 0 < k)
    (h63 : n + k ≤ maxLen) (hbytes : (n + k) * bytes ≤ 140737488355328) (hbase : base ≤ w.heap.size)
    (h : ∀ g c w', w'.ownsRow base e 1 (.slice (some ⟨g, 0, none⟩) (n + k) c) (n + k) ((xs ++ r).map (Value.int .u8)) → AK w w' v g → wpList P ops Q rest (a.put o.dst (.slice (some ⟨g, 0, none⟩) (n + k) c)) w') : wpList P ops Q (o :: rest) a w := by
  refine wpList_plain hgd fun K hK => ?_
  have hl : (r.map (Value.int .u8)).length = k * 1 := by simp [hin.len]
  obtain ⟨v', w', hr, h2, h3, h4⟩ := run_append_own (P := P) w base t o.type e i z 1 bytes ht hi hz hsize hby hzs (by omega) v n (xs.map (Value.int .u8)) hown ad k cap (r.map (Value.int .u8)) hl hin.news (by simp [Value.oneCell']) h63 hbytes hbase
  obtain ⟨v2, w2, hr2, h5⟩ := run_append_where (P := P) w base t o.type e i z 1 bytes ht hi hz hsize hby v n (xs.map (Value.int .u8)) hown ad k cap (r.map (Value.int .u8)) hl hin.news (by simp [Value.oneCell']) hzs (by omega) hbase h63 hbytes
  rw [hr] at hr2
  injection hr2 with e1 e2
  subst e1 e2
  obtain ⟨g, c, rfl⟩ := own_form h2 (fun q => by have := (h4.1 q).2; omega)
  unfold Oper.wp execOp
  simp only [ho, resolve, invoke, builtin, Sem.run_bind, Sem.run_pure, Result.andThen_ok, List.map_toArray, List.map_cons, List.map_nil, hs, hx, hr]
  refine hK _ _ (h g c w' (by rw [List.map_append]; exact h2) ⟨h3, ?_⟩)
  rcases h5 with q | q
  · exact .inl (q.symm.trans rfl)
  · have q' : g = w.heap.size := by simpa [Value.ownBlock] using q
    exact .inr (Nat.le_of_eq q'.symm)
theorem bytL_pos (l : List Int) : 0 < (bytL l).length := by
  unfold bytL
  rw [List.length_append]
  have q : 0 < (numL l.length).length := numL_pos _
  omega
/-- A tree's box, and the row. -/
structure AS (wb w W : World) (h : TH) (v : Value) (g n c : Nat) (xs : List Int) : Prop where
  box : Box W 25 w.heap.size h
  own : W.ownsRow wb.heap.size 5 1 (.slice (some ⟨g, 0, none⟩) n c) n (xs.map (Value.int .u8))
  b : Below wb.heap.size wb W
  k : AK w W v g
section
variable {wb w W W' : World} {h : TH} {v : Value} {g n c g' n' c' : Nat} {xs ys : List Int}
theorem AS.len (d : AS wb w W h v g n c xs) : n = xs.length := by
  have q := d.own.1
  simp at q
  omega
theorem AS.below (d : AS wb w W h v g n c xs) (hb : Below W.heap.size W W') : AS wb w W' h v g n c xs :=
  ⟨d.box.below hb d.box.lt, own_keep d.own hb, d.b.trans (hb.mono d.b.size), d.k.below hb⟩
theorem AS.ne (d : AS wb w W h v g n c xs) : g ≠ w.heap.size := fun e => by
  have q : 25 = 5 := own_type (g := w.heap.size) d.own (by rw [e]; rfl) d.box
  exact absurd q (by decide)
theorem AS.app (d : AS wb w W h v g n c xs) {m : Nat} (ho : W'.ownsRow wb.heap.size 5 1 (.slice (some ⟨g', 0, none⟩) m c') m (ys.map (Value.int .u8))) (hk : AK W W' (.slice (some ⟨g, 0, none⟩) n c) g') : AS wb w W' h v g' m c' ys :=
  have q := d.box.lt
  ⟨d.box.grown hk.grown (fun e => d.ne (by simpa [Value.ownBlock] using e.symm)), ho, below_only d.b hk.grown d.b.size (d.own.lt g rfl).1, d.k.trans hk⟩
theorem AS.app' (d : AS wb w W h v g n c xs) (hl : n' = (xs ++ ys).length) (ho : W'.ownsRow wb.heap.size 5 1 (.slice (some ⟨g', 0, none⟩) n' c') n' ((xs ++ ys).map (Value.int .u8))) (hk : AK W W' (.slice (some ⟨g, 0, none⟩) n c) g') : AS wb w W' h v g' n' c' (xs ++ ys) := d.app ho hk
end
theorem oneB (w : World) (c : Int) : Below w.heap.size w (w.alloc (.cells #[.int .u8 c] 5)) := (Below.refl _ _).alloc (Nat.le_refl _) _
theorem oneI (w : World) (c : Int) (hc : 0 ≤ c ∧ c ≤ 255) : InBytes (w.alloc (.cells #[.int .u8 c] 5)) (some ⟨w.heap.size, 0, none⟩) 1 1 [c] :=
  InBytes.of_own (own_new w 5 .u8 [c] w.heap.size (Nat.le_refl _) (by simp [maxLen])) (fun z hz => by simp at hz; omega)
theorem AS.new {wb w w0 w1 W : World} {h : TH} {v : Value} {g n c : Nat} {xs : List Int} (h1 : Below w0.heap.size w0 w1) (hbx : Box w0 25 w.heap.size h) (hb : Below wb.heap.size wb w0) (hw : Below w.heap.size w w0 ∧ v.ownBlock ≠ some w.heap.size ∧ ∀ j, v.ownBlock = some j → wb.heap.size ≤ j)
    (ho : W.ownsRow wb.heap.size 5 1 (.slice (some ⟨g, 0, none⟩) n c) n (xs.map (Value.int .u8))) (hk : AK w1 W v g) : AS wb w W h v g n c xs :=
  have q := hbx.lt
  ⟨(hbx.below h1 hbx.lt).grown hk.grown (fun e => hw.2.1 e.symm), ho, (hb.trans (h1.mono hb.size)).grown hk.grown (Nat.le_trans hb.size h1.size) (fun j hj => hw.2.2 j hj), AK.behind (hw.1.trans (h1.mono hw.1.size)) hk⟩
/-- What appended tells. -/
def AppPost (wb w : World) (v : Value) (xs ys : List Int) (e : Ending) (w' : World) : Prop :=
  ∃ g n c, e = .returned (.slice (some ⟨g, 0, none⟩) n c) ∧ n = (xs ++ ys).length ∧ w'.ownsRow wb.heap.size 5 1 (.slice (some ⟨g, 0, none⟩) n c) n ((xs ++ ys).map (Value.int .u8)) ∧ AK w w' v g

set_option maxRecDepth 100000 in
set_option maxHeartbeats 4000000 in
theorem appended_any (wb : World) : ∀ (t : Tr) (h : TH) (w : World) (v : Value) (n : Nat) (xs : List Int), InTree wb h t → formedT t = true → longT t = false → xs.length + (codeT t).length ≤ 8000000 → Below wb.heap.size wb w → w.ownsRow wb.heap.size 5 1 v n (xs.map (Value.int .u8)) →
    Calls Try.prog 19 #[v, h.v] w (AppPost wb w v xs (codeT t)) := by
  intro t
  induction t using Tr.ind with
  | h t ih =>
  intro h w v n xs ht hf hlg hcl hbw hv
  unfold TH.v
  obtain ⟨i0, hi0, hz0, hz1, hz2⟩ := info_parts infoU8
  obtain ⟨hpb, hfk⟩ := formed_kids hf
  obtain ⟨H, hp⟩ := ht.parts
  have hl := part_lens80 hpb
  have htl := hp.len
  have hkn : h.kn ≤ 80 := by rw [← hp.key.len]; exact hl.1
  have hvn : h.vn ≤ 1024 := by rw [← hp.val.len]; exact hl.2
  have hdn : h.dn ≤ 32 := by
    have q := hlg
    rw [longT_eq, Bool.or_eq_false_iff, decide_eq_false_iff_not] at q
    rw [← hp.dig.len]
    omega
  have htm := Nat.le_trans hp.sl.le hp.sl.max
  simp only [maxLen] at htm
  have bl9 : ∀ bs : List Int, bs.length ≤ 2000 → (bytL bs).length ≤ bs.length + 9 := fun bs hb => by
    have q := numL_le (v := bs.length) (by omega)
    unfold bytL
    rw [List.length_append]
    omega
  have HLB : Hid ((bytL t.key).length ≤ 100 ∧ (bytL t.val).length ≤ 1100 ∧ (bytL t.dig).length ≤ 100 ∧ n ≤ 8000000) := Lib.hid ⟨by have q := bl9 t.key (by omega); omega, by have q := bl9 t.val (by omega); omega, by have q := bl9 t.dig (by have := hp.dig.len; omega); have := hp.dig.len; omega, by have q := hv.1; simp at q; omega⟩
  have HCL := Lib.hid hcl
  have HLG := Lib.hid hlg
  have HFK := Lib.hid hfk
  have HP := Lib.hid hp
  have IH := Lib.hid ih
  have HKK := Lib.hid hp.hk
  have hkind : t.k = 0 ∨ t.k = 1 ∨ t.k = 2 ∨ t.k = 3 := by rcases part_kids hpb with ⟨-, q | q⟩ | ⟨-, q | q⟩ <;> omega
  have hb1 : Below w.heap.size w (w.alloc (.cells #[.int .i64 h.k, .slice h.ka h.kn h.kc, .slice h.va h.vn h.vc, .slice h.da h.dn h.dc, .slice h.ta h.tn h.tc] 25)) := (Below.refl _ _).alloc (Nat.le_refl _) _
  have HBX0 := Lib.hid (Box.new w 25 h)
  have HBW : Hid (Below wb.heap.size wb (w.alloc (.cells #[.int .i64 h.k, .slice h.ka h.kn h.kc, .slice h.va h.vn h.vc, .slice h.da h.dn h.dc, .slice h.ta h.tn h.tc] 25))) := Lib.hid (hbw.trans (hb1.mono hbw.size))
  have HV0 := Lib.hid (own_keep hv hb1)
  have HWW : Hid (Below w.heap.size w (w.alloc (.cells #[.int .i64 h.k, .slice h.ka h.kn h.kc, .slice h.va h.vn h.vc, .slice h.da h.dn h.dc, .slice h.ta h.tn h.tc] 25)) ∧ v.ownBlock ≠ some w.heap.size ∧ ∀ j, v.ownBlock = some j → wb.heap.size ≤ j) := Lib.hid ⟨hb1, fun e => by have q := (hv.lt _ e).2; omega, fun j hj => (hv.lt j hj).1⟩
  clear hp ht ih hl hcl hlg hfk hf hpb bl9 hbw hv hb1
  go_enter Try.func19, Try.ntmps19
  go_upto_region 1 with fail
  generalize (w.alloc (.cells #[.int .i64 h.k, .slice h.ka h.kn h.kc, .slice h.va h.vn h.vc, .slice h.da h.dn h.dc, .slice h.ta h.tn h.tc] 25)) = w0 at *
  obtain ⟨x0, x1, x2, x3, x4⟩ := HBX0.out.cells
  rcases hkind with hk | hk | hk | hk
  · have HKT := Lib.hid hk
    clear hk
    have hk0 : h.k = 0 := HKK.out.trans HKT.out
    rw [hk0] at x0
    go_wp2_with (first
      | (at_builtin
         refine wpList_append_where _ rfl (.tmp 7) (.tmp 11) 22 rfl wb.heap.size 5 i0 _ 1 Try.underlying22 hi0 hz0 hz1 hz2 rfl v n xs rfl (own_keep HV0.out (oneB w0 0)) ⟨w0.heap.size, 0, none⟩ 1 1 [0] rfl (oneI w0 0 (by omega)) (by omega) (by have q1 := HLB.out; simp only [maxLen]; omega) (by have q1 := HLB.out; omega) (by have q1 := HBW.out.size; simp; omega) ?_
         intro g1 c1 w1 hown1 hk1
         have HS1 := Lib.hid (AS.new (oneB w0 0) HBX0.out HBW.out HWW.out hown1 hk1)
         clear hown1 hk1 x0 x1 x2 x3 x4 HBX0 HBW HV0
         obtain ⟨x0, x1, x2, x3, x4⟩ := HS1.out.box.cells
         rw [hk0] at x0))
    clear x0 x1 x2 x3 x4 hk0
    have HTL := Lib.hid htl
    clear htl
    go_loopw [0, 49] (fun s0 s49 wx => ∃ (i g m c : Nat), i ≤ h.tn ∧ s0 = .slice (some ⟨g, 0, none⟩) m c ∧ s49 = .int .i64 i ∧ AS wb w wx h v g m c (xs ++ accT t i)) (fun _ s49 _ => h.tn - (intOf s49).toNat)
    case atStart => exact ⟨0, g1, (n + 1), c1, by omega, rfl, rfl, by rw [accT_zero, hdT_0 HKT.out]; simpa only [List.append_assoc] using HS1.out⟩
    case round =>
      clear HS1
      obtain ⟨i, g, m, c, hi, rfl, rfl, hs⟩ := hrel
      have hm := hs.len
      have HS := Lib.hid hs
      clear hs
      by_cases hlt : i < h.tn
      · have q1 : (i : Int) < (h.tn : Int) := by omega
        obtain ⟨gq, off, hta, hg, hcs⟩ := (HP.out.below HS.out.b).place (by omega)
        obtain ⟨k0, k1, k2, k3, k4⟩ := hcs i hlt
        have him : i < t.kids.length := by rw [HTL.out]; exact hlt
        have HQL : Hid ((xs ++ accT t i).length + (codeT t.kids[i]).length ≤ 8000000) := Lib.hid (by
          have q2 := accT_len t (i + 1)
          rw [accT_succ t i him, List.length_append] at q2
          rw [List.length_append]
          have q3 := HCL.out
          omega)
        clear hcs hm
        rw [hta]
        go_upto_region 14 with fail
        have b2 : Below wr.heap.size wr (wr.alloc (.cells #[.int .i64 (H i).k, .slice (H i).ka (H i).kn (H i).kc, .slice (H i).va (H i).vn (H i).vc, .slice (H i).da (H i).dn (H i).dc, .slice (H i).ta (H i).tn (H i).tc] 25)) := (Below.refl _ _).alloc (Nat.le_refl _) _
        have bx := Box.new wr 25 (H i)
        generalize (wr.alloc (.cells #[.int .i64 (H i).k, .slice (H i).ka (H i).kn (H i).kc, .slice (H i).va (H i).vn (H i).vc, .slice (H i).da (H i).dn (H i).dc, .slice (H i).ta (H i).tn (H i).tc] 25)) = w2 at *
        have HS2 := Lib.hid (HS.out.below b2)
        obtain ⟨y0, y1, y2, y3, y4⟩ := bx.cells
        clear b2 bx k0 k1 k2 k3 k4
        go_wp2_with (first
          | (go_at_call 19
             refine (IH.out _ (List.getElem_mem him) (H i) _ (.slice (some ⟨g, 0, none⟩) m c) m (xs ++ accT t i) (HP.out.kids i him) (HFK.out i him) (long_kid HLG.out i him) HQL.out HS2.out.b HS2.out.own).mono ?_
             rintro _ w3 ⟨g3, n3, c3, rfl, hl3, ho3, hk3⟩
             have HS3 := Lib.hid (HS2.out.app' hl3 ho3 hk3)
             clear hl3 ho3 hk3 y0 y1 y2 y3 y4 hta))
        exact ⟨⟨i + 1, g3, n3, c3, by omega, rfl, by go_num, by rw [accT_succ t i him, ← List.append_assoc]; exact HS3.out⟩, by simp [intOf]; omega⟩
      · obtain rfl : i = h.tn := by omega
        have q1 : ¬ (h.tn : Int) < (h.tn : Int) := by omega
        have e := accT_all t h.tn (Nat.le_of_eq HTL.out)
        have HE := Lib.hid e
        clear e hm
        go_wp2_with fail
        go_ret
        have hs := HS.out
        rw [HE.out] at hs
        exact ⟨g, m, c, rfl, hs.len, hs.own, hs.k⟩
  · have HKT := Lib.hid hk
    clear hk
    have hk0 : h.k = 1 := HKK.out.trans HKT.out
    rw [hk0] at x0
    go_wp2_with (first
      | (at_builtin
         refine wpList_append_where _ rfl (.tmp 7) (.tmp 11) 22 rfl wb.heap.size 5 i0 _ 1 Try.underlying22 hi0 hz0 hz1 hz2 rfl v n xs rfl (own_keep HV0.out (oneB w0 1)) ⟨w0.heap.size, 0, none⟩ 1 1 [1] rfl (oneI w0 1 (by omega)) (by omega) (by have q1 := HLB.out; simp only [maxLen]; omega) (by have q1 := HLB.out; omega) (by have q1 := HBW.out.size; simp; omega) ?_
         intro g1 c1 w1 hown1 hk1
         have HS1 := Lib.hid (AS.new (oneB w0 1) HBX0.out HBW.out HWW.out hown1 hk1)
         clear hown1 hk1 x0 x1 x2 x3 x4 HBX0 HBW HV0
         obtain ⟨x0, x1, x2, x3, x4⟩ := HS1.out.box.cells
         rw [hk0] at x0)
      | (go_at_call 33
         (with_reducible refine (bytes_any h.ka h.kn h.kc t.key _ ?_ (by omega)).mono ?_)
         · exact (HP.out.below HS1.out.b).key
         rintro _ w2 ⟨g2, c2, rfl, ho2, hb2⟩
         have HI2 := Lib.hid (InBytes.of_own ho2 (bytL_bytes HP.out.key.bytes (by have q1 := HP.out.key.len; omega)))
         have HS2 := Lib.hid (HS1.out.below hb2)
         clear ho2 hb2 x0 x1 x2 x3 x4
         obtain ⟨x0, x1, x2, x3, x4⟩ := HS2.out.box.cells
         rw [hk0] at x0)
      | (at_builtin
         refine wpList_append_where _ rfl (.tmp 17) (.tmp 20) 22 rfl wb.heap.size 5 i0 _ 1 Try.underlying22 hi0 hz0 hz1 hz2 rfl (.slice (some ⟨g1, 0, none⟩) (n + 1) c1) (n + 1) (xs ++ [1]) rfl HS2.out.own ⟨g2, 0, none⟩ _ c2 (bytL t.key) rfl HI2.out (bytL_pos _) (by have q1 := HLB.out; simp only [maxLen]; omega) (by have q1 := HLB.out; omega) HS2.out.b.size ?_
         intro g3 c3 w3 hown3 hk3
         have HS3 := Lib.hid (HS2.out.app hown3 hk3)
         clear hown3 hk3 x0 x1 x2 x3 x4
         obtain ⟨x0, x1, x2, x3, x4⟩ := HS3.out.box.cells
         rw [hk0] at x0)
      | (go_at_call 33
         (with_reducible refine (bytes_any h.va h.vn h.vc t.val _ ?_ (by omega)).mono ?_)
         · exact (HP.out.below HS3.out.b).val
         rintro _ w4 ⟨g4, c4, rfl, ho4, hb4⟩
         have HI4 := Lib.hid (InBytes.of_own ho4 (bytL_bytes HP.out.val.bytes (by have q1 := HP.out.val.len; omega)))
         have HS4 := Lib.hid (HS3.out.below hb4)
         clear ho4 hb4 x0 x1 x2 x3 x4
         obtain ⟨x0, x1, x2, x3, x4⟩ := HS4.out.box.cells
         rw [hk0] at x0)
      | (at_builtin
         refine wpList_append_where _ rfl (.tmp 22) (.tmp 25) 22 rfl wb.heap.size 5 i0 _ 1 Try.underlying22 hi0 hz0 hz1 hz2 rfl (.slice (some ⟨g3, 0, none⟩) ((n + 1) + (bytL t.key).length) c3) ((n + 1) + (bytL t.key).length) (xs ++ [1] ++ bytL t.key) rfl HS4.out.own ⟨g4, 0, none⟩ _ c4 (bytL t.val) rfl HI4.out (bytL_pos _) (by have q1 := HLB.out; simp only [maxLen]; omega) (by have q1 := HLB.out; omega) HS4.out.b.size ?_
         intro g5 c5 w5 hown5 hk5
         have HS5 := Lib.hid (HS4.out.app hown5 hk5)
         clear hown5 hk5 x0 x1 x2 x3 x4
         obtain ⟨x0, x1, x2, x3, x4⟩ := HS5.out.box.cells
         rw [hk0] at x0))
    clear x0 x1 x2 x3 x4 hk0
    have HTL := Lib.hid htl
    clear htl
    go_loopw [0, 49] (fun s0 s49 wx => ∃ (i g m c : Nat), i ≤ h.tn ∧ s0 = .slice (some ⟨g, 0, none⟩) m c ∧ s49 = .int .i64 i ∧ AS wb w wx h v g m c (xs ++ accT t i)) (fun _ s49 _ => h.tn - (intOf s49).toNat)
    case atStart => exact ⟨0, g5, (((n + 1) + (bytL t.key).length) + (bytL t.val).length), c5, by omega, rfl, rfl, by rw [accT_zero, hdT_1 HKT.out]; simpa only [List.append_assoc] using HS5.out⟩
    case round =>
      clear HS5
      obtain ⟨i, g, m, c, hi, rfl, rfl, hs⟩ := hrel
      have hm := hs.len
      have HS := Lib.hid hs
      clear hs
      by_cases hlt : i < h.tn
      · have q1 : (i : Int) < (h.tn : Int) := by omega
        obtain ⟨gq, off, hta, hg, hcs⟩ := (HP.out.below HS.out.b).place (by omega)
        obtain ⟨k0, k1, k2, k3, k4⟩ := hcs i hlt
        have him : i < t.kids.length := by rw [HTL.out]; exact hlt
        have HQL : Hid ((xs ++ accT t i).length + (codeT t.kids[i]).length ≤ 8000000) := Lib.hid (by
          have q2 := accT_len t (i + 1)
          rw [accT_succ t i him, List.length_append] at q2
          rw [List.length_append]
          have q3 := HCL.out
          omega)
        clear hcs hm
        rw [hta]
        go_upto_region 14 with fail
        have b2 : Below wr.heap.size wr (wr.alloc (.cells #[.int .i64 (H i).k, .slice (H i).ka (H i).kn (H i).kc, .slice (H i).va (H i).vn (H i).vc, .slice (H i).da (H i).dn (H i).dc, .slice (H i).ta (H i).tn (H i).tc] 25)) := (Below.refl _ _).alloc (Nat.le_refl _) _
        have bx := Box.new wr 25 (H i)
        generalize (wr.alloc (.cells #[.int .i64 (H i).k, .slice (H i).ka (H i).kn (H i).kc, .slice (H i).va (H i).vn (H i).vc, .slice (H i).da (H i).dn (H i).dc, .slice (H i).ta (H i).tn (H i).tc] 25)) = w2 at *
        have HS2 := Lib.hid (HS.out.below b2)
        obtain ⟨y0, y1, y2, y3, y4⟩ := bx.cells
        clear b2 bx k0 k1 k2 k3 k4
        go_wp2_with (first
          | (go_at_call 19
             refine (IH.out _ (List.getElem_mem him) (H i) _ (.slice (some ⟨g, 0, none⟩) m c) m (xs ++ accT t i) (HP.out.kids i him) (HFK.out i him) (long_kid HLG.out i him) HQL.out HS2.out.b HS2.out.own).mono ?_
             rintro _ w3 ⟨g3, n3, c3, rfl, hl3, ho3, hk3⟩
             have HS3 := Lib.hid (HS2.out.app' hl3 ho3 hk3)
             clear hl3 ho3 hk3 y0 y1 y2 y3 y4 hta))
        exact ⟨⟨i + 1, g3, n3, c3, by omega, rfl, by go_num, by rw [accT_succ t i him, ← List.append_assoc]; exact HS3.out⟩, by simp [intOf]; omega⟩
      · obtain rfl : i = h.tn := by omega
        have q1 : ¬ (h.tn : Int) < (h.tn : Int) := by omega
        have e := accT_all t h.tn (Nat.le_of_eq HTL.out)
        have HE := Lib.hid e
        clear e hm
        go_wp2_with fail
        go_ret
        have hs := HS.out
        rw [HE.out] at hs
        exact ⟨g, m, c, rfl, hs.len, hs.own, hs.k⟩
  · have HKT := Lib.hid hk
    clear hk
    have hk0 : h.k = 2 := HKK.out.trans HKT.out
    rw [hk0] at x0
    go_wp2_with (first
      | (at_builtin
         refine wpList_append_where _ rfl (.tmp 7) (.tmp 11) 22 rfl wb.heap.size 5 i0 _ 1 Try.underlying22 hi0 hz0 hz1 hz2 rfl v n xs rfl (own_keep HV0.out (oneB w0 2)) ⟨w0.heap.size, 0, none⟩ 1 1 [2] rfl (oneI w0 2 (by omega)) (by omega) (by have q1 := HLB.out; simp only [maxLen]; omega) (by have q1 := HLB.out; omega) (by have q1 := HBW.out.size; simp; omega) ?_
         intro g1 c1 w1 hown1 hk1
         have HS1 := Lib.hid (AS.new (oneB w0 2) HBX0.out HBW.out HWW.out hown1 hk1)
         clear hown1 hk1 x0 x1 x2 x3 x4 HBX0 HBW HV0
         obtain ⟨x0, x1, x2, x3, x4⟩ := HS1.out.box.cells
         rw [hk0] at x0)
      | (go_at_call 33
         (with_reducible refine (bytes_any h.ka h.kn h.kc t.key _ ?_ (by omega)).mono ?_)
         · exact (HP.out.below HS1.out.b).key
         rintro _ w2 ⟨g2, c2, rfl, ho2, hb2⟩
         have HI2 := Lib.hid (InBytes.of_own ho2 (bytL_bytes HP.out.key.bytes (by have q1 := HP.out.key.len; omega)))
         have HS2 := Lib.hid (HS1.out.below hb2)
         clear ho2 hb2 x0 x1 x2 x3 x4
         obtain ⟨x0, x1, x2, x3, x4⟩ := HS2.out.box.cells
         rw [hk0] at x0)
      | (at_builtin
         refine wpList_append_where _ rfl (.tmp 29) (.tmp 32) 22 rfl wb.heap.size 5 i0 _ 1 Try.underlying22 hi0 hz0 hz1 hz2 rfl (.slice (some ⟨g1, 0, none⟩) (n + 1) c1) (n + 1) (xs ++ [2]) rfl HS2.out.own ⟨g2, 0, none⟩ _ c2 (bytL t.key) rfl HI2.out (bytL_pos _) (by have q1 := HLB.out; simp only [maxLen]; omega) (by have q1 := HLB.out; omega) HS2.out.b.size ?_
         intro g3 c3 w3 hown3 hk3
         have HS3 := Lib.hid (HS2.out.app hown3 hk3)
         clear hown3 hk3 x0 x1 x2 x3 x4
         obtain ⟨x0, x1, x2, x3, x4⟩ := HS3.out.box.cells
         rw [hk0] at x0)
      | (go_at_call 33
         (with_reducible refine (bytes_any h.da h.dn h.dc t.dig _ ?_ (by omega)).mono ?_)
         · exact (HP.out.below HS3.out.b).dig
         rintro _ w4 ⟨g4, c4, rfl, ho4, hb4⟩
         have HI4 := Lib.hid (InBytes.of_own ho4 (bytL_bytes HP.out.dig.bytes (by have q1 := HP.out.dig.len; omega)))
         have HS4 := Lib.hid (HS3.out.below hb4)
         clear ho4 hb4 x0 x1 x2 x3 x4
         obtain ⟨x0, x1, x2, x3, x4⟩ := HS4.out.box.cells
         rw [hk0] at x0)
      | (at_builtin
         refine wpList_append_where _ rfl (.tmp 34) (.tmp 37) 22 rfl wb.heap.size 5 i0 _ 1 Try.underlying22 hi0 hz0 hz1 hz2 rfl (.slice (some ⟨g3, 0, none⟩) ((n + 1) + (bytL t.key).length) c3) ((n + 1) + (bytL t.key).length) (xs ++ [2] ++ bytL t.key) rfl HS4.out.own ⟨g4, 0, none⟩ _ c4 (bytL t.dig) rfl HI4.out (bytL_pos _) (by have q1 := HLB.out; simp only [maxLen]; omega) (by have q1 := HLB.out; omega) HS4.out.b.size ?_
         intro g5 c5 w5 hown5 hk5
         have HS5 := Lib.hid (HS4.out.app hown5 hk5)
         clear hown5 hk5 x0 x1 x2 x3 x4
         obtain ⟨x0, x1, x2, x3, x4⟩ := HS5.out.box.cells
         rw [hk0] at x0))
    clear x0 x1 x2 x3 x4 hk0
    have HTL := Lib.hid htl
    clear htl
    go_loopw [0, 49] (fun s0 s49 wx => ∃ (i g m c : Nat), i ≤ h.tn ∧ s0 = .slice (some ⟨g, 0, none⟩) m c ∧ s49 = .int .i64 i ∧ AS wb w wx h v g m c (xs ++ accT t i)) (fun _ s49 _ => h.tn - (intOf s49).toNat)
    case atStart => exact ⟨0, g5, (((n + 1) + (bytL t.key).length) + (bytL t.dig).length), c5, by omega, rfl, rfl, by rw [accT_zero, hdT_2 HKT.out]; simpa only [List.append_assoc] using HS5.out⟩
    case round =>
      clear HS5
      obtain ⟨i, g, m, c, hi, rfl, rfl, hs⟩ := hrel
      have hm := hs.len
      have HS := Lib.hid hs
      clear hs
      by_cases hlt : i < h.tn
      · have q1 : (i : Int) < (h.tn : Int) := by omega
        obtain ⟨gq, off, hta, hg, hcs⟩ := (HP.out.below HS.out.b).place (by omega)
        obtain ⟨k0, k1, k2, k3, k4⟩ := hcs i hlt
        have him : i < t.kids.length := by rw [HTL.out]; exact hlt
        have HQL : Hid ((xs ++ accT t i).length + (codeT t.kids[i]).length ≤ 8000000) := Lib.hid (by
          have q2 := accT_len t (i + 1)
          rw [accT_succ t i him, List.length_append] at q2
          rw [List.length_append]
          have q3 := HCL.out
          omega)
        clear hcs hm
        rw [hta]
        go_upto_region 14 with fail
        have b2 : Below wr.heap.size wr (wr.alloc (.cells #[.int .i64 (H i).k, .slice (H i).ka (H i).kn (H i).kc, .slice (H i).va (H i).vn (H i).vc, .slice (H i).da (H i).dn (H i).dc, .slice (H i).ta (H i).tn (H i).tc] 25)) := (Below.refl _ _).alloc (Nat.le_refl _) _
        have bx := Box.new wr 25 (H i)
        generalize (wr.alloc (.cells #[.int .i64 (H i).k, .slice (H i).ka (H i).kn (H i).kc, .slice (H i).va (H i).vn (H i).vc, .slice (H i).da (H i).dn (H i).dc, .slice (H i).ta (H i).tn (H i).tc] 25)) = w2 at *
        have HS2 := Lib.hid (HS.out.below b2)
        obtain ⟨y0, y1, y2, y3, y4⟩ := bx.cells
        clear b2 bx k0 k1 k2 k3 k4
        go_wp2_with (first
          | (go_at_call 19
             refine (IH.out _ (List.getElem_mem him) (H i) _ (.slice (some ⟨g, 0, none⟩) m c) m (xs ++ accT t i) (HP.out.kids i him) (HFK.out i him) (long_kid HLG.out i him) HQL.out HS2.out.b HS2.out.own).mono ?_
             rintro _ w3 ⟨g3, n3, c3, rfl, hl3, ho3, hk3⟩
             have HS3 := Lib.hid (HS2.out.app' hl3 ho3 hk3)
             clear hl3 ho3 hk3 y0 y1 y2 y3 y4 hta))
        exact ⟨⟨i + 1, g3, n3, c3, by omega, rfl, by go_num, by rw [accT_succ t i him, ← List.append_assoc]; exact HS3.out⟩, by simp [intOf]; omega⟩
      · obtain rfl : i = h.tn := by omega
        have q1 : ¬ (h.tn : Int) < (h.tn : Int) := by omega
        have e := accT_all t h.tn (Nat.le_of_eq HTL.out)
        have HE := Lib.hid e
        clear e hm
        go_wp2_with fail
        go_ret
        have hs := HS.out
        rw [HE.out] at hs
        exact ⟨g, m, c, rfl, hs.len, hs.own, hs.k⟩
  · have HKT := Lib.hid hk
    clear hk
    have hk0 : h.k = 3 := HKK.out.trans HKT.out
    rw [hk0] at x0
    go_wp2_with (first
      | (at_builtin
         refine wpList_append_where _ rfl (.tmp 7) (.tmp 11) 22 rfl wb.heap.size 5 i0 _ 1 Try.underlying22 hi0 hz0 hz1 hz2 rfl v n xs rfl (own_keep HV0.out (oneB w0 3)) ⟨w0.heap.size, 0, none⟩ 1 1 [3] rfl (oneI w0 3 (by omega)) (by omega) (by have q1 := HLB.out; simp only [maxLen]; omega) (by have q1 := HLB.out; omega) (by have q1 := HBW.out.size; simp; omega) ?_
         intro g1 c1 w1 hown1 hk1
         have HS1 := Lib.hid (AS.new (oneB w0 3) HBX0.out HBW.out HWW.out hown1 hk1)
         clear hown1 hk1 x0 x1 x2 x3 x4 HBX0 HBW HV0
         obtain ⟨x0, x1, x2, x3, x4⟩ := HS1.out.box.cells
         rw [hk0] at x0)
      | (go_at_call 33
         (with_reducible refine (bytes_any h.da h.dn h.dc t.dig _ ?_ (by omega)).mono ?_)
         · exact (HP.out.below HS1.out.b).dig
         rintro _ w2 ⟨g2, c2, rfl, ho2, hb2⟩
         have HI2 := Lib.hid (InBytes.of_own ho2 (bytL_bytes HP.out.dig.bytes (by have q1 := HP.out.dig.len; omega)))
         have HS2 := Lib.hid (HS1.out.below hb2)
         clear ho2 hb2 x0 x1 x2 x3 x4
         obtain ⟨x0, x1, x2, x3, x4⟩ := HS2.out.box.cells
         rw [hk0] at x0)
      | (at_builtin
         refine wpList_append_where _ rfl (.tmp 41) (.tmp 44) 22 rfl wb.heap.size 5 i0 _ 1 Try.underlying22 hi0 hz0 hz1 hz2 rfl (.slice (some ⟨g1, 0, none⟩) (n + 1) c1) (n + 1) (xs ++ [3]) rfl HS2.out.own ⟨g2, 0, none⟩ _ c2 (bytL t.dig) rfl HI2.out (bytL_pos _) (by have q1 := HLB.out; simp only [maxLen]; omega) (by have q1 := HLB.out; omega) HS2.out.b.size ?_
         intro g3 c3 w3 hown3 hk3
         have HS3 := Lib.hid (HS2.out.app hown3 hk3)
         clear hown3 hk3 x0 x1 x2 x3 x4
         obtain ⟨x0, x1, x2, x3, x4⟩ := HS3.out.box.cells
         rw [hk0] at x0))
    clear x0 x1 x2 x3 x4 hk0
    have HTL := Lib.hid htl
    clear htl
    go_loopw [0, 49] (fun s0 s49 wx => ∃ (i g m c : Nat), i ≤ h.tn ∧ s0 = .slice (some ⟨g, 0, none⟩) m c ∧ s49 = .int .i64 i ∧ AS wb w wx h v g m c (xs ++ accT t i)) (fun _ s49 _ => h.tn - (intOf s49).toNat)
    case atStart => exact ⟨0, g3, ((n + 1) + (bytL t.dig).length), c3, by omega, rfl, rfl, by rw [accT_zero, hdT_3 HKT.out]; simpa only [List.append_assoc] using HS3.out⟩
    case round =>
      clear HS3
      obtain ⟨i, g, m, c, hi, rfl, rfl, hs⟩ := hrel
      have hm := hs.len
      have HS := Lib.hid hs
      clear hs
      by_cases hlt : i < h.tn
      · have q1 : (i : Int) < (h.tn : Int) := by omega
        obtain ⟨gq, off, hta, hg, hcs⟩ := (HP.out.below HS.out.b).place (by omega)
        obtain ⟨k0, k1, k2, k3, k4⟩ := hcs i hlt
        have him : i < t.kids.length := by rw [HTL.out]; exact hlt
        have HQL : Hid ((xs ++ accT t i).length + (codeT t.kids[i]).length ≤ 8000000) := Lib.hid (by
          have q2 := accT_len t (i + 1)
          rw [accT_succ t i him, List.length_append] at q2
          rw [List.length_append]
          have q3 := HCL.out
          omega)
        clear hcs hm
        rw [hta]
        go_upto_region 14 with fail
        have b2 : Below wr.heap.size wr (wr.alloc (.cells #[.int .i64 (H i).k, .slice (H i).ka (H i).kn (H i).kc, .slice (H i).va (H i).vn (H i).vc, .slice (H i).da (H i).dn (H i).dc, .slice (H i).ta (H i).tn (H i).tc] 25)) := (Below.refl _ _).alloc (Nat.le_refl _) _
        have bx := Box.new wr 25 (H i)
        generalize (wr.alloc (.cells #[.int .i64 (H i).k, .slice (H i).ka (H i).kn (H i).kc, .slice (H i).va (H i).vn (H i).vc, .slice (H i).da (H i).dn (H i).dc, .slice (H i).ta (H i).tn (H i).tc] 25)) = w2 at *
        have HS2 := Lib.hid (HS.out.below b2)
        obtain ⟨y0, y1, y2, y3, y4⟩ := bx.cells
        clear b2 bx k0 k1 k2 k3 k4
        go_wp2_with (first
          | (go_at_call 19
             refine (IH.out _ (List.getElem_mem him) (H i) _ (.slice (some ⟨g, 0, none⟩) m c) m (xs ++ accT t i) (HP.out.kids i him) (HFK.out i him) (long_kid HLG.out i him) HQL.out HS2.out.b HS2.out.own).mono ?_
             rintro _ w3 ⟨g3, n3, c3, rfl, hl3, ho3, hk3⟩
             have HS3 := Lib.hid (HS2.out.app' hl3 ho3 hk3)
             clear hl3 ho3 hk3 y0 y1 y2 y3 y4 hta))
        exact ⟨⟨i + 1, g3, n3, c3, by omega, rfl, by go_num, by rw [accT_succ t i him, ← List.append_assoc]; exact HS3.out⟩, by simp [intOf]; omega⟩
      · obtain rfl : i = h.tn := by omega
        have q1 : ¬ (h.tn : Int) < (h.tn : Int) := by omega
        have e := accT_all t h.tn (Nat.le_of_eq HTL.out)
        have HE := Lib.hid e
        clear e hm
        go_wp2_with fail
        go_ret
        have hs := HS.out
        rw [HE.out] at hs
        exact ⟨g, m, c, rfl, hs.len, hs.own, hs.k⟩
end Go.Proofs.Ytagmeljjkblpbaa
