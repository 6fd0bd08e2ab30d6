/- Rows of records in one's own memory, and as arguments. No program is named here. A tree that is an argument is one that lies in memory. No program is named here. Records of two byte strings and a bit. No program is named here. Spans of keys: what the document says of them, as functions. No program is named here. AVL trees: what pairs they have behind an insertion, and behind a deletion. No program is named here. AVL trees as trees of layer 4; which trees are balanced. No program is named here. The proof of a balanced tree for a span, as a function: its digest, its form, its nodes. No program is named here. The empty tree. No program is named here. Rows of one's own, of unlike types. Trees that lie in new blocks alone; what the program's proofs tell, as their contracts say it. Boxes of trees that are written; a tree of two that were made; appends of bytes at a step. No program is named here. A full tree does not lie in a box: what is written there leaves it as it is. No program is named here. A partial tree does not lie in a box; leaves. No program is named here. Bytes, leaves and nodes that lie in new blocks alone. No program is named here. Boxes of trees, results that are trees, strings of bytes: the types alone are named. A region that draws its order and whose last operation waits for all others: what the reads lean on need not hold behind that last one. No program is named here. The contracts of the parts of the program's proofs: a node that is shown, a dark one, a digest alone. The contracts of the program's withKids, by what it is handed. Rows of pairs of a key and a value. No program is named here. What the program's scan tells, as its contracts say it: the types alone are named. The contract of bytes.Compare: the order of byte strings. The contract of the program's In of spans. -/
import Derived.Test.YtkfjhegehhahcaaDoorMSA
import Derived.Test.YtkfjhegehhahcaaDoorMSB
import Derived.Test.YtkfjhegehhahcaaDoorProg
import Derived.Lib.Bytealg
import Derived.Lib.BytesEntry
/- Rows of records in one's own memory, and as arguments. No program is named here. -/
namespace Go.Proofs.YtkfjhegehhahcaaDoor
open Go.ChangeShapes Go.WideShapes Go.RowKit Go.Deep
set_option linter.unusedVariables false

/-- A kind of record: its cells. -/
structure Rec (R : Type) where
  cells : R → List Value
  sz : Nat
  pos : 0 < sz
  len : ∀ r, (cells r).length = sz
  one : ∀ r u, u ∈ cells r → u.oneCell' = true
section
variable {R : Type}
/-- The cells of records, one behind the other. -/
def Rec.row (c : Rec R) (rs : List R) : List Value := rs.flatMap c.cells
theorem Rec.row_len (c : Rec R) (rs : List R) : (c.row rs).length = rs.length * c.sz := by
  unfold Rec.row
  induction rs with
  | nil => simp
  | cons h r ih =>
    rw [List.flatMap_cons, List.length_append, ih, c.len, List.length_cons, Nat.succ_mul]
    omega
theorem Rec.row_app (c : Rec R) (a b : List R) : c.row (a ++ b) = c.row a ++ c.row b := by simp [Rec.row]
theorem Rec.row_single (c : Rec R) (a : R) : c.row [a] = c.cells a := by simp [Rec.row]
theorem Rec.row_one (c : Rec R) {rs : List R} {u : Value} (h : u ∈ c.row rs) : u.oneCell' = true := by
  unfold Rec.row at h
  rw [List.mem_flatMap] at h
  obtain ⟨x, _, hx⟩ := h
  exact c.one x u hx
theorem Rec.row_get (c : Rec R) (rs : List R) (i j : Nat) (hi : i < rs.length) (hj : j < c.sz) : (c.row rs)[i * c.sz + j]? = (c.cells rs[i])[j]? := by
  induction rs generalizing i with
  | nil => simp at hi
  | cons h r ih =>
    have e : c.row (h :: r) = c.cells h ++ c.row r := by simp [Rec.row]
    rw [e]
    rcases i with _ | i
    · rw [List.getElem?_append_left (by rw [c.len]; omega), Nat.zero_mul, Nat.zero_add]
      rfl
    · rw [List.getElem?_append_right (by rw [c.len, Nat.succ_mul]; omega)]
      have e2 : (i + 1) * c.sz + j - (c.cells h).length = i * c.sz + j := by rw [c.len, Nat.succ_mul]; omega
      rw [e2, ih i (by simpa using hi)]
      simp

/-- A row of records in new memory, from the block base on. -/
def OwnR (c : Rec R) (W : World) (base : Nat) (ty : TypeId) (v : Value) (rs : List R) : Prop := W.ownsRow base ty c.sz v rs.length (c.row rs)
variable {c : Rec R} {W W' : World} {base base' : Nat} {ty : TypeId} {v : Value} {rs : List R}
theorem OwnR.grown (h : OwnR c W base ty v rs) {row : Option Nat} (hg : W.grownBy W' row) (hne : v.ownBlock = none ∨ v.ownBlock ≠ row) : OwnR c W' base ty v rs := World.ownsRow.kept h hg hne
theorem OwnR.keep (h : OwnR c W base ty v rs) (hb : Below W.heap.size W W') : OwnR c W' base ty v rs :=
  h.grown (only_below hb none) (by by_cases h : v.ownBlock = none; exact .inl h; exact .inr h)
theorem OwnR.weak (h : OwnR c W base ty v rs) (hb : base' ≤ base) : OwnR c W base' ty v rs := by
  refine ⟨h.1, ?_⟩
  rcases h.2 with h1 | ⟨g, cap, cur, h1, h2, h3⟩
  · exact .inl h1
  · exact .inr ⟨g, cap, cur, h1, Nat.le_trans hb h2, h3⟩
theorem OwnR.nil (c : Rec R) (W : World) (base : Nat) (ty : TypeId) : OwnR c W base ty (.slice none 0 0) [] := ⟨by simp [Rec.row], .inl ⟨rfl, rfl⟩⟩
/-- Its block, and its cells. -/
theorem OwnR.form (h : OwnR c W base ty v rs) : (v = .slice none 0 0 ∧ rs = []) ∨ ∃ g k, v = .slice (some ⟨g, 0, none⟩) rs.length k ∧ base ≤ g ∧ g < W.heap.size ∧ rs.length ≤ k ∧ k ≤ maxLen ∧ ∀ j u, (c.row rs)[j]? = some u → W.cell? ⟨g, j, none⟩ = some u := by
  rcases h.2 with ⟨h1, h2⟩ | ⟨g, cap, cur, h1, h2, h3, h4, h5, h6, h7⟩
  · exact .inl ⟨h1, List.eq_nil_of_length_eq_zero h2⟩
  · right
    have hlt : g < W.heap.size := by
      rcases Nat.lt_or_ge g W.heap.size with hlt | hge
      · exact hlt
      · rw [Array.getElem?_eq_none hge] at h3; cases h3
    refine ⟨g, cap, h1, h2, hlt, h4, h5, fun j u hu => ?_⟩
    rw [cell_of_row W g j _ _ (0, 0) h3]
    rw [← h7, List.getElem?_take] at hu
    split at hu
    · simpa using hu
    · cases hu
theorem OwnR.sl (h : OwnR c W base ty v rs) : ∃ a k, v = .slice a rs.length k := by
  rcases h.form with ⟨h1, h2⟩ | ⟨g, k, h1, _⟩
  · exact ⟨none, 0, by rw [h1, h2]; rfl⟩
  · exact ⟨_, k, h1⟩
theorem OwnR.base_le (h : OwnR c W base ty v rs) {g : Nat} (hg : v.ownBlock = some g) : base ≤ g ∧ g < W.heap.size := by
  rcases h.form with ⟨h1, _⟩ | ⟨g', k, h1, h2, h3, _⟩
  · rw [h1] at hg; cases hg
  · rw [h1] at hg
    have e : g' = g := Option.some.inj hg
    subst e
    exact ⟨h2, h3⟩
/-- The cells of the i-th record. -/
theorem OwnR.at {a : Option Addr} {n k : Nat} (h : OwnR c W base ty (.slice a n k) rs) (i : Nat) (hi : i < rs.length) : ∃ g, a = some ⟨g, 0, none⟩ ∧ ∀ j u, (c.cells rs[i])[j]? = some u → W.cell? ⟨g, i * c.sz + j, none⟩ = some u := by
  rcases h.form with ⟨_, h2⟩ | ⟨g, k', h1, _, _, _, _, hc⟩
  · rw [h2] at hi
    simp at hi
  · injection h1 with h1
    refine ⟨g, h1, fun j u hu => ?_⟩
    have hj : j < c.sz := by rw [← c.len rs[i]]; exact (List.getElem?_eq_some_iff.1 hu).1
    exact hc _ _ (by rw [c.row_get rs i j hi hj]; exact hu)

/-- All cells of a row's block, the spare ones too. -/
def AllP (q : Value → Prop) (W : World) (v : Value) : Prop := ∀ g, v.ownBlock = some g → ∀ j u, W.cell? ⟨g, j, none⟩ = some u → q u
theorem AllP.nil (q : Value → Prop) (W : World) : AllP q W (.slice none 0 0) := fun g hg => by cases hg
theorem AllP.keep {q : Value → Prop} (h : AllP q W v) (ho : OwnR c W base ty v rs) (hb : Below W.heap.size W W') : AllP q W' v := fun g hg j u hu =>
  h g hg j u (((hb.cell (p := ⟨g, j, none⟩) (ho.base_le hg).2).symm).trans hu)
theorem AllP.grown {q : Value → Prop} (h : AllP q W v) (ho : OwnR c W base ty v rs) {row : Option Nat} (hb : W.grownBy W' row) (hne : v.ownBlock ≠ row) : AllP q W' v := fun g hg j u hu =>
  h g hg j u ((World.cell?_of_block (a := ⟨g, j, none⟩) (hb.block g (ho.base_le hg).2 (by rw [← hg]; exact hne))).symm.trans hu)
theorem zero_mem {z : Array Value} {n : Nat} {u : Value} (h : u ∈ Builtin.zeroCells z n) : u ∈ z := by
  unfold Builtin.zeroCells at h
  rw [Array.mem_map] at h
  obtain ⟨i, hi, rfl⟩ := h
  have hi' : i < n * z.size := by simpa using hi
  have hz : 0 < z.size := by
    rcases Nat.eq_zero_or_pos z.size with h0 | h0
    · rw [h0] at hi'; omega
    · exact h0
  have hm : i % z.size < z.size := Nat.mod_lt _ hz
  rw [getElem!_pos z (i % z.size) hm]
  exact Array.getElem_mem hm
theorem cell_mem {g : Nat} {cs : Array Value} {fr : Nat × Nat} {j : Nat} {u : Value} (h : W.heap[g]? = some (.cells cs ty fr)) (hu : W.cell? ⟨g, j, none⟩ = some u) : u ∈ cs := by
  rw [cell_of_row W g j _ _ fr h] at hu
  exact Array.mem_of_getElem? hu
/-- Where an append to a row of one's own puts it, and what is in its block. -/
theorem run_append_all {P : Program} (w : World) (base : Nat) (t ty e : TypeId) (i : TypeInfo) (z : Value) (size bytes : Nat) (ht : P.underlying t = some (.slice e)) (hi : P.info? e = some i) (hz : i.zero = some z)
    (hsize : i.size = size) (hby : i.bytes = bytes) (v : Value) (n : Nat) (xs : List Value) (hown : w.ownsRow base e size v n xs)
    (a : Addr) (m c : Nat) (news : List Value) (hl : news.length = m * size) (hnews : ∀ j u, news[j]? = some u → w.cell? (a.add j) = some u) (h1 : ∀ u ∈ news, u.oneCell' = true)
    (hm : 0 < m) (h63 : n + m ≤ maxLen) (hbytes : (n + m) * bytes ≤ 140737488355328) :
    ∃ v' w', (Builtin.append_ #[t, t] ty #[v, .slice (some a) m c]).run P w = .ok v' w' ∧ (v'.ownBlock = v.ownBlock ∨ v'.ownBlock = some w.heap.size) ∧
      ∀ q : Value → Prop, AllP q w v → (∀ u ∈ news, q u) → (∀ u ∈ z.cells, q u) → AllP q w' v' := by
  subst hsize
  subst hby
  simp only [maxLen] at h63
  rcases hown.2 with ⟨rfl, rfl⟩ | ⟨g, cap, cur, rfl, _, hg, _, _, hcs, htk⟩
  · refine ⟨_, _, run_append_nil (P := P) w t ty e i z ht hi hz a m c news hl hnews hm (by omega) (by simp only [Nat.zero_add] at hbytes; omega), .inr rfl, fun q _ hn hzq g' hg' j u hu => ?_⟩
    have e1 : w.heap.size = g' := Option.some.inj hg'
    subst e1
    have := cell_mem (heap_alloc_new w.drew _) hu
    rcases Array.mem_append.1 this with q1 | q1
    · exact hn u (by simpa using q1)
    · exact hzq u (zero_mem q1)
  · by_cases hroom : n + m ≤ cap
    · refine ⟨_, _, run_append_room (P := P) w t ty e i ht hi g n cap cur hg a m c news hl hnews h1 hroom (by rw [hl, hcs, ← Nat.add_mul]; exact Nat.mul_le_mul_right _ hroom), .inl rfl, fun q ha hn _ g' hg' j u hu => ?_⟩
      have e1 : g = g' := Option.some.inj hg'
      subst e1
      have hq : ∀ x ∈ cur, q x := fun x hx => by
        obtain ⟨k, hk, e⟩ := Array.getElem_of_mem hx
        exact ha g rfl k x (by rw [cell_of_row w g k _ _ (0, 0) hg, Array.getElem?_eq_getElem hk, e])
      have := cell_mem (setRow_heap w g cur _ e _ hg) hu
      simp only [List.mem_toArray, List.mem_append] at this
      rcases this with (q1 | q1) | q1
      · exact hq u (by simpa using List.mem_of_mem_take q1)
      · exact hn u q1
      · exact hq u (by simpa using List.mem_of_mem_drop q1)
    · refine ⟨_, _, run_append_grow (P := P) w t ty e i z ht hi hz ⟨g, 0, none⟩ n cap xs hown.1 (hown.cells (g := g) rfl) a m c news hl hnews (by omega) (by omega) (growslice_fits (by omega) hbytes), .inr rfl, fun q ha hn hzq g' hg' j u hu => ?_⟩
      have e1 : w.heap.size = g' := Option.some.inj hg'
      subst e1
      have hq : ∀ x ∈ cur, q x := fun x hx => by
        obtain ⟨k, hk, e⟩ := Array.getElem_of_mem hx
        exact ha g rfl k x (by rw [cell_of_row w g k _ _ (0, 0) hg, Array.getElem?_eq_getElem hk, e])
      have := cell_mem (heap_alloc_new w.drew _) hu
      rcases Array.mem_append.1 this with q1 | q1
      · rcases Array.mem_append.1 q1 with q2 | q2
        · refine hq u ?_
          have q3 : u ∈ xs := by simpa using q2
          rw [← htk] at q3
          simpa using List.mem_of_mem_take q3
        · exact hn u (by simpa using q2)
      · exact hzq u (zero_mem q1)
/-- append(a, r), of one record r that lies in a block g, to a row of one's own, at a step. -/
theorem wp_append_rec {P : Program} (w : World) {o : Oper} {a : Act} {K : Act → World → Prop} {Q : Exit → Act → World → Prop} (s x : Operand) (t : TypeId)
    (ho : o.op = .call { callee := .builtin .append, args := #[s, x], argTypes := #[t, t] }) (c : Rec R)
    (base : Nat) (e : TypeId) (i : TypeInfo) (z : Value) (bytes : Nat) (ht : P.underlying t = some (.slice e)) (hi : P.info? e = some i) (hz : i.zero = some z)
    (hsize : i.size = c.sz) (hby : i.bytes = bytes) (hzs : z.cells.size = c.sz)
    (v : Value) (rs : List R) (hs : a.eval s = v) (hown : OwnR c w base e v rs) (g k : Nat) (r : R) (hx : a.eval x = .slice (some ⟨g, 0, none⟩) 1 k) (hcells : ∀ j u, (c.cells r)[j]? = some u → w.cell? ⟨g, j, none⟩ = some u)
    (hbytes : (rs.length + 1) * bytes ≤ 140737488355328) (hb0 : 0 < bytes) (hbase : base ≤ w.heap.size)
    (h : ∀ v' w', OwnR c w' base e v' (rs ++ [r]) → w.grownBy w' v.ownBlock → (v'.ownBlock = v.ownBlock ∨ v'.ownBlock = some w.heap.size) → (∀ q : Value → Prop, AllP q w v → (∀ u ∈ c.cells r, q u) → (∀ u ∈ z.cells, q u) → AllP q w' v') → K (a.put o.dst v') w') : o.wp P a w K Q := by
  have hmax : rs.length + 1 ≤ maxLen := by
    have : rs.length + 1 ≤ (rs.length + 1) * bytes := Nat.le_mul_of_pos_right _ hb0
    simp only [maxLen]
    omega
  have hnews : ∀ j u, (c.cells r)[j]? = some u → w.cell? ((⟨g, 0, none⟩ : Addr).add j) = some u := fun j u hu => by
    have hp : (⟨g, 0, none⟩ : Addr).add j = ⟨g, j, none⟩ := by unfold Addr.add; split <;> simp_all
    rw [hp]
    exact hcells j u hu
  obtain ⟨v', w', hr, h2, h3, h4⟩ := run_append_own (P := P) w base t o.type e i z c.sz bytes ht hi hz hsize hby hzs c.pos v rs.length (c.row rs) hown ⟨g, 0, none⟩ 1 k (c.cells r) (by rw [c.len, Nat.one_mul]) hnews (fun u hu => c.one r u hu) hmax hbytes hbase
  obtain ⟨v2, w2, hr2, h5, h6⟩ := run_append_all (P := P) w base t o.type e i z c.sz bytes ht hi hz hsize hby v rs.length (c.row rs) hown ⟨g, 0, none⟩ 1 k (c.cells r) (by rw [c.len, Nat.one_mul]) hnews (fun u hu => c.one r u hu) (by omega) hmax hbytes
  rw [hr] at hr2
  injection hr2 with e1 e2
  subst e1 e2
  unfold Oper.wp execOp
  simp only [ho, resolve, invoke, builtin, Sem.run_bind, Sem.run_pure, Result.andThen_ok, List.map_toArray, List.map_cons, List.map_nil, hs, hx, hr]
  refine h v' w' ?_ h3 h5 h6
  unfold OwnR
  rw [c.row_app, c.row_single, List.length_append]
  exact h2
/-- append(a, r), of one record r that lies in a block g, to a row of one's own. -/
theorem wpList_append_rec {P : Program} (w : World) {ops : Array Oper} {rest : List Oper} {o : Oper} {a : Act} {Q : Exit → Act → World → Prop} (hgd : o.guard = none) (s x : Operand) (t : TypeId)
    (ho : o.op = .call { callee := .builtin .append, args := #[s, x], argTypes := #[t, t] }) (c : Rec R)
    (base : Nat) (e : TypeId) (i : TypeInfo) (z : Value) (bytes : Nat) (ht : P.underlying t = some (.slice e)) (hi : P.info? e = some i) (hz : i.zero = some z)
    (hsize : i.size = c.sz) (hby : i.bytes = bytes) (hzs : z.cells.size = c.sz)
    (v : Value) (rs : List R) (hs : a.eval s = v) (hown : OwnR c w base e v rs) (g k : Nat) (r : R) (hx : a.eval x = .slice (some ⟨g, 0, none⟩) 1 k) (hcells : ∀ j u, (c.cells r)[j]? = some u → w.cell? ⟨g, j, none⟩ = some u)
    (hbytes : (rs.length + 1) * bytes ≤ 140737488355328) (hb0 : 0 < bytes) (hbase : base ≤ w.heap.size)
    (h : ∀ v' w', OwnR c w' base e v' (rs ++ [r]) → w.grownBy w' v.ownBlock → (v'.ownBlock = v.ownBlock ∨ v'.ownBlock = some w.heap.size) → (∀ q : Value → Prop, AllP q w v → (∀ u ∈ c.cells r, q u) → (∀ u ∈ z.cells, q u) → AllP q w' v') → wpList P ops Q rest (a.put o.dst v') w') : wpList P ops Q (o :: rest) a w :=
  wpList_plain hgd fun K hK => wp_append_rec w s x t ho c base e i z bytes ht hi hz hsize hby hzs v rs hs hown g k r hx hcells hbytes hb0 hbase fun v' w' h1 h2 h3 h4 => hK _ _ (h v' w' h1 h2 h3 h4)
theorem step_append_rec {P : Program} (w : World) {ops : Array Oper} {o : Oper} {a : Act} {K : Act → World → Prop} {Q : Exit → Act → World → Prop} {E : Prop} (hgd : o.guard = none) (s x : Operand) (t : TypeId)
    (ho : o.op = .call { callee := .builtin .append, args := #[s, x], argTypes := #[t, t] }) (c : Rec R)
    (base : Nat) (e : TypeId) (i : TypeInfo) (z : Value) (bytes : Nat) (ht : P.underlying t = some (.slice e)) (hi : P.info? e = some i) (hz : i.zero = some z)
    (hsize : i.size = c.sz) (hby : i.bytes = bytes) (hzs : z.cells.size = c.sz)
    (v : Value) (rs : List R) (hs : a.eval s = v) (hown : OwnR c w base e v rs) (g k : Nat) (r : R) (hx : a.eval x = .slice (some ⟨g, 0, none⟩) 1 k) (hcells : ∀ j u, (c.cells r)[j]? = some u → w.cell? ⟨g, j, none⟩ = some u)
    (hbytes : (rs.length + 1) * bytes ≤ 140737488355328) (hb0 : 0 < bytes) (hbase : base ≤ w.heap.size)
    (h : ∀ v' w', OwnR c w' base e v' (rs ++ [r]) → w.grownBy w' v.ownBlock → (v'.ownBlock = v.ownBlock ∨ v'.ownBlock = some w.heap.size) → (∀ q : Value → Prop, AllP q w v → (∀ u ∈ c.cells r, q u) → (∀ u ∈ z.cells, q u) → AllP q w' v') → K (a.put o.dst v') w') : if Region.wanted o (yielded ops a.tmps) = true then Oper.wp P o a w K Q else E := by
  have hw : Region.wanted o (yielded ops a.tmps) = true := by simp [Region.wanted, hgd]
  rw [if_pos hw]
  exact wp_append_rec w s x t ho c base e i z bytes ht hi hz hsize hby hzs v rs hs hown g k r hx hcells hbytes hb0 hbase h

/-- append(a, b...), both rows of records of one's own. -/
theorem wpList_append_recs {P : Program} (w : World) {ops : Array Oper} {rest : List Oper} {o : Oper} {a : Act} {Q : Exit → Act → World → Prop} (hgd : o.guard = none) (s x : Operand) (t : TypeId)
    (ho : o.op = .call { callee := .builtin .append, args := #[s, x], argTypes := #[t, t] }) (c : Rec R)
    (base : Nat) (e : TypeId) (i : TypeInfo) (z : Value) (bytes : Nat) (ht : P.underlying t = some (.slice e)) (hi : P.info? e = some i) (hz : i.zero = some z)
    (hsize : i.size = c.sz) (hby : i.bytes = bytes) (hzs : z.cells.size = c.sz)
    (v : Value) (rs : List R) (hs : a.eval s = v) (hown : OwnR c w base e v rs) (base2 : Nat) (v2 : Value) (rs2 : List R) (hx : a.eval x = v2) (hown2 : OwnR c w base2 e v2 rs2)
    (hbytes : (rs.length + rs2.length) * bytes ≤ 140737488355328) (hb0 : 0 < bytes) (hbase : base ≤ w.heap.size)
    (h : ∀ v' w', OwnR c w' base e v' (rs ++ rs2) → w.grownBy w' v.ownBlock → wpList P ops Q rest (a.put o.dst v') w') : wpList P ops Q (o :: rest) a w := by
  rcases hown2.form with ⟨rfl, rfl⟩ | ⟨g, k, rfl, _, _, _, _, hcells⟩
  · refine wpList_append_own_none hgd s x t ho base e i c.sz ht hi v rs.length (c.row rs) hs hown hx ?_
    exact h v w (by simpa using hown) (only_refl w _)
  · have hmax : rs.length + rs2.length ≤ maxLen := by
      have : rs.length + rs2.length ≤ (rs.length + rs2.length) * bytes := Nat.le_mul_of_pos_right _ hb0
      simp only [maxLen]
      omega
    have hnews : ∀ j u, (c.row rs2)[j]? = some u → w.cell? ((⟨g, 0, none⟩ : Addr).add j) = some u := fun j u hu => by
      have hp : (⟨g, 0, none⟩ : Addr).add j = ⟨g, j, none⟩ := by unfold Addr.add; split <;> simp_all
      rw [hp]
      exact hcells j u hu
    obtain ⟨v', w', hr, h2, h3, h4⟩ := run_append_own (P := P) w base t o.type e i z c.sz bytes ht hi hz hsize hby hzs c.pos v rs.length (c.row rs) hown ⟨g, 0, none⟩ rs2.length k (c.row rs2) (c.row_len rs2) hnews (fun u hu => c.row_one hu) hmax hbytes hbase
    refine wpList_plain hgd fun K hK => ?_
    unfold Oper.wp execOp
    simp only [ho, resolve, invoke, builtin, Sem.run_bind, Sem.run_pure, Result.andThen_ok, List.map_toArray, List.map_cons, List.map_nil, hs, hx, hr]
    refine hK _ _ (h v' w' ?_ h3)
    unfold OwnR
    rw [c.row_app, List.length_append]
    exact h2
/-- An empty row, in a block of its own. -/
theorem OwnR.empty (c : Rec R) (W : World) (ty : TypeId) (base : Nat) (hb : base ≤ W.heap.size) : OwnR c (W.alloc (.cells #[] ty)) base ty (.slice (some ⟨W.heap.size, 0, none⟩) 0 0) [] :=
  ⟨by simp [Rec.row], .inr ⟨W.heap.size, 0, _, rfl, hb, heap_alloc_new W _, Nat.le_refl _, Nat.zero_le _, by simp, by simp [Rec.row]⟩⟩

/-- Block g holds a record's cells. -/
def RBox (c : Rec R) (W : World) (ty : TypeId) (g : Nat) (r : R) : Prop := W.heap[g]? = some (.cells (c.cells r).toArray ty (0, 0))
variable {g : Nat} {r : R}
theorem RBox.lt (h : RBox c W ty g r) : g < W.heap.size := by
  rcases Nat.lt_or_ge g W.heap.size with hlt | hge
  · exact hlt
  · unfold RBox at h; rw [Array.getElem?_eq_none hge] at h; cases h
theorem RBox.below {B : Nat} (h : RBox c W ty g r) (hb : Below B W W') (hg : g < B) : RBox c W' ty g r := (hb.block g hg).trans h
theorem RBox.grown {row : Option Nat} (h : RBox c W ty g r) (hg : W.grownBy W' row) (hne : some g ≠ row) : RBox c W' ty g r := (hg.block g h.lt hne).trans h
theorem RBox.cell (h : RBox c W ty g r) (j : Nat) (u : Value) (hu : (c.cells r)[j]? = some u) : W.cell? ⟨g, j, none⟩ = some u := by
  rw [cell_of_row W g j _ _ (0, 0) h]
  simpa using hu
/-- A record is stored into its box. -/
theorem wpList_store_rec {P : Program} {ops : Array Oper} {rest : List Oper} {o : Oper} {a : Act} {w : World} {Q : Exit → Act → World → Prop} (hgd : o.guard = none) (ty : TypeId) (x y : Operand) (ho : o.op = .store ty x y) (c : Rec R)
    (g : Nat) (old new : R) (hx : a.eval x = .pointer (some ⟨g, 0, none⟩)) (hy : a.eval y = .agg (c.cells new).toArray) (t : TypeId) (hr : RBox c w t g old) (hi : (P.info? ty).map (·.size) = some c.sz)
    (h : ∀ w', RBox c w' t g new → w.grownBy w' (some g) → wpList P ops Q rest (a.put o.dst undef) w') : wpList P ops Q (o :: rest) a w := by
  refine wpList_store_row hgd ty x y ho g _ hx hy t _ hr (by rw [List.size_toArray, c.len]; exact hi) (by simp [c.len]) (by simp only [List.all_toArray, List.all_eq_true]; exact fun u hu => c.one new u hu) ?_
  exact h _ (setRow_heap w g _ _ t _ hr) ⟨rfl, rfl, rfl, by simp, fun j hj hne => setRow_other w g j _ (fun e => hne (by rw [e]))⟩

/-- Records that came in. -/
def InRec (c : Rec R) (w : World) (a : Option Addr) (n cap : Nat) (D : Nat → R) : Prop := InSl w a n cap c.sz (fun i => (c.cells (D (i / c.sz))).getD (i % c.sz) .nilIface)
theorem InRec.below {w w' : World} {a : Option Addr} {n cap : Nat} {D : Nat → R} (h : InRec c w a n cap D) (hb : Below w.heap.size w w') : InRec c w' a n cap D := InSl.below h hb
/-- The cells of the i-th record that came in. -/
theorem InRec.at {w : World} {a : Option Addr} {n cap : Nat} {D : Nat → R} (h : InRec c w a n cap D) (h0 : 0 < n) : ∃ g off, a = some ⟨g, off, none⟩ ∧ g < w.heap.size ∧ ∀ i, i < n → ∀ j u, (c.cells (D i))[j]? = some u → w.cell? ⟨g, off + i * c.sz + j, none⟩ = some u := by
  obtain ⟨g, off, e, hg, hc⟩ := InSl.place h h0
  refine ⟨g, off, e, hg, fun i hi j u hu => ?_⟩
  have hj : j < c.sz := by rw [← c.len (D i)]; exact (List.getElem?_eq_some_iff.1 hu).1
  have h1 := hc (i * c.sz + j) (by
    have : (i + 1) * c.sz ≤ n * c.sz := Nat.mul_le_mul_right _ hi
    rw [Nat.succ_mul] at this
    omega)
  have e1 : (i * c.sz + j) / c.sz = i := by rw [Nat.mul_comm, Nat.mul_add_div c.pos, Nat.div_eq_of_lt hj, Nat.add_zero]
  have e2 : (i * c.sz + j) % c.sz = j := by rw [Nat.mul_comm, Nat.mul_add_mod, Nat.mod_eq_of_lt hj]
  try dsimp only at h1
  rw [e1, e2, ← Nat.add_assoc] at h1
  rw [h1, List.getD, hu]
  rfl
/-- A row of one's own, as one that came in. -/
theorem OwnR.inRec {a : Option Addr} {n k : Nat} (h : OwnR c W base ty (.slice a n k) rs) (r0 : R) : rs.length = n ∧ InRec c W a n k (fun i => rs.getD i r0) := by
  rcases h.form with ⟨h1, h2⟩ | ⟨g, k', h1, _, hg, hl, hm, hc⟩
  · injection h1 with h1 h1n h1k
    subst h1 h1n h1k h2
    exact ⟨rfl, Nat.le_refl _, by simp [maxLen], fun _ => rfl, fun q => by omega⟩
  · injection h1 with h1 h1n h1k
    subst h1 h1n h1k
    refine ⟨rfl, hl, hm, (fun q => by cases q), fun _ => ⟨g, 0, rfl, hg, fun i hi => ?_⟩⟩
    have hd : i / c.sz < rs.length := Nat.div_lt_of_lt_mul (by rw [Nat.mul_comm]; exact hi)
    have hmo : i % c.sz < c.sz := Nat.mod_lt _ c.pos
    rw [Nat.zero_add]
    have e1 : rs.getD (i / c.sz) r0 = rs[i / c.sz] := by simp [List.getD, hd]
    dsimp only
    rw [e1]
    have hq := c.row_get rs (i / c.sz) (i % c.sz) hd hmo
    rw [show i / c.sz * c.sz + i % c.sz = i by rw [Nat.mul_comm]; exact Nat.div_add_mod i c.sz] at hq
    refine hc i _ ?_
    rw [hq, List.getD, List.getElem?_eq_getElem (by rw [c.len]; exact hmo)]
    rfl
end
section
variable {H : Type} {enc : TypeId × Value → H} {P : Program} {w : World} {base : Nat} {spare : Nat → Bool} {held : Bool} {R : Type}
/-- A slice of records that came in, one opened like the other. -/
theorem open_rec (c : Rec R) (Q : R → Prop) (r0 : R) {t e : TypeId} {a : Option Addr} {n cap : Nat} {d : DataW H} {p : List MemPlace}
    (hu : P.underlying t = some (.slice e)) (hc : P.cellsOf e = c.sz)
    (hel : ∀ (fuel : Nat) (cs : List Value) (x : DataW H × List MemPlace), DataW.trod enc P w base spare held fuel e cs = some x → ∃ r, cs = c.cells r ∧ Q r)
    (h : DataW.Trod enc P w base spare held t (.slice a n cap) d p) : ∃ D : Nat → R, InRec c w a n cap D ∧ ∀ i, i < n → Q (D i) := by
  obtain ⟨V, hin, hV⟩ := open_sl hu hc c.pos h
  have hq : ∀ i, i < n → ∃ r, ((List.range c.sz).map fun j => V (i * c.sz + j)) = c.cells r ∧ Q r := fun i hi => by
    obtain ⟨fuel, x, hx⟩ := hV i hi
    exact hel fuel _ x hx
  obtain ⟨D, hD⟩ : ∃ D : Nat → R, ∀ i, i < n → ((List.range c.sz).map fun j => V (i * c.sz + j)) = c.cells (D i) ∧ Q (D i) := by
    refine ⟨fun i => if hi : i < n then (hq i hi).choose else r0, fun i hi => ?_⟩
    simp only [hi, dif_pos]
    exact (hq i hi).choose_spec
  refine ⟨D, ⟨hin.le, hin.max, hin.nil, fun h0 => ?_⟩, fun i hi => (hD i hi).2⟩
  obtain ⟨g, off, e1, hg, hcc⟩ := hin.place h0
  refine ⟨g, off, e1, hg, fun i hi => ?_⟩
  rw [hcc i hi]
  have hd : i / c.sz < n := Nat.div_lt_of_lt_mul (by rw [Nat.mul_comm]; exact hi)
  have hm : i % c.sz < c.sz := Nat.mod_lt _ c.pos
  have h5 := (hD (i / c.sz) hd).1
  have h8 : ((List.range c.sz).map fun j => V (i / c.sz * c.sz + j)).getD (i % c.sz) .nilIface = V (i / c.sz * c.sz + i % c.sz) := by
    simp [List.getD, hm]
  rw [h5, show i / c.sz * c.sz + i % c.sz = i by rw [Nat.mul_comm]; exact Nat.div_add_mod i c.sz] at h8
  rw [h8]
end
end Go.Proofs.YtkfjhegehhahcaaDoor

/- A tree that is an argument is one that lies in memory. No program is named here. -/
namespace Go.Proofs.YtkfjhegehhahcaaDoor
open Go.ChangeShapes Go.WideShapes Go.RowKit Go.Deep
set_option linter.unusedVariables false

section
variable {H : Type} {enc : TypeId × Value → H} {P : Program} {w : World} {base : Nat} {spare : Nat → Bool} {held : Bool}
/-- A slice that came in: its cells, and that each element is read with less fuel. -/
theorem open_slF {t e : TypeId} {a : Option Addr} {n cap sz fuel : Nat} {x : DataW H × List MemPlace}
    (hu : P.underlying t = some (.slice e)) (hc : P.cellsOf e = sz) (hsz : 0 < sz)
    (h : DataW.trod enc P w base spare held fuel t [.slice a n cap] = some x) :
    ∃ V, InSl w a n cap sz V ∧ ∀ i, i < n → ∃ m x, m < fuel ∧ DataW.trod enc P w base spare held m e ((List.range sz).map fun j => V (i * sz + j)) = some x := by
  rcases DataW.trod_slice hu h with ⟨hcs, _⟩ | ⟨ad, len, cp, elems, rest, m, hfm, hcs, _, hb, hl, hm, hlen, hel, _, _⟩
  · simp at hcs
    obtain ⟨rfl, rfl, rfl⟩ := hcs
    exact ⟨fun _ => .nilIface, ⟨Nat.le_refl _, by simp [maxLen], fun _ => rfl, fun h => by omega⟩, fun i hi => by omega⟩
  · simp at hcs
    obtain ⟨rfl, rfl, rfl⟩ := hcs
    rw [hc] at hel
    have hx : ∀ i, i < n → ∃ cs', w.cells? base (ad.add (i * sz)) sz = some cs' ∧ ∃ y, DataW.trod enc P w base spare held m e cs' = some y := by
      intro i hi
      have h1 := hel i hi
      rw [List.getElem?_eq_getElem (by omega)] at h1
      obtain ⟨cs', h2, h3⟩ := Option.bind_eq_some_iff.1 h1
      exact ⟨cs', h2, _, h3⟩
    by_cases h0 : 0 < n
    · obtain ⟨g, off, spot⟩ := ad
      have hspot : spot = none := by
        obtain ⟨cs', h1, _⟩ := hx 0 (by omega)
        obtain ⟨_, hlen', hcc⟩ := World.cells?_some h1
        have h2 := hcc 0 hsz
        rw [List.getElem?_eq_getElem (by omega)] at h2
        simpa [Addr.add] using World.cell?_spot h2
      subst hspot
      have hadd : ∀ k, (⟨g, off, none⟩ : Addr).add k = ⟨g, off + k, none⟩ := fun k => by unfold Addr.add; split <;> simp_all
      have hadd2 : ∀ k j, ((⟨g, off, none⟩ : Addr).add k).add j = ⟨g, off + (k + j), none⟩ := fun k j => by
        rw [hadd k]
        unfold Addr.add
        split <;> simp_all
        omega
      have hcs : ∀ i, i < n → ∃ cs', cs'.length = sz ∧ (∀ j, j < sz → w.cell? ⟨g, off + (i * sz + j), none⟩ = cs'[j]?) ∧ ∃ y, DataW.trod enc P w base spare held m e cs' = some y := by
        intro i hi
        obtain ⟨cs', h1, h2⟩ := hx i hi
        obtain ⟨_, hlen', hcc⟩ := World.cells?_some h1
        exact ⟨cs', hlen', fun j hj => by have := hcc j hj; rwa [hadd2] at this, h2⟩
      refine ⟨fun i => (w.cell? ⟨g, off + i, none⟩).getD .nilIface, ⟨hl, hm, (fun h => by cases h), fun _ => ⟨g, off, rfl, ?_, fun i hi => ?_⟩⟩, fun i hi => ?_⟩
      · obtain ⟨cs', hlen', hcc, _⟩ := hcs 0 h0
        have h2 := hcc 0 hsz
        rw [List.getElem?_eq_getElem (by omega)] at h2
        exact World.block_lt_of_cell? w _ h2
      · obtain ⟨cs', hlen', hcc, _⟩ := hcs (i / sz) (Nat.div_lt_of_lt_mul (by rw [Nat.mul_comm]; exact hi))
        have h2 := hcc (i % sz) (Nat.mod_lt _ hsz)
        rw [show i / sz * sz + i % sz = i by rw [Nat.mul_comm]; exact Nat.div_add_mod i sz] at h2
        have h3 := Nat.mod_lt i hsz
        rw [List.getElem?_eq_getElem (by omega)] at h2
        simp only [h2, Option.getD_some]
      · obtain ⟨cs', hlen', hcc, y, ht⟩ := hcs i hi
        refine ⟨m, y, by omega, ?_⟩
        have e : ((List.range sz).map fun j => (w.cell? ⟨g, off + (i * sz + j), none⟩).getD .nilIface) = cs' := by
          apply List.ext_getElem
          · simp [hlen']
          · intro j h1 h2
            simp only [List.getElem_map, List.getElem_range]
            rw [hcc j (by omega), List.getElem?_eq_getElem h2]
            rfl
        rw [e]
        exact ht
    · obtain rfl : n = 0 := by omega
      exact ⟨fun _ => .nilIface, ⟨hl, hm, (fun h => by cases h), fun h => by omega⟩, fun i hi => by omega⟩

theorem slice_form {t e : TypeId} {fuel : Nat} {v : Value} {x : DataW H × List MemPlace} (hu : P.underlying t = some (.slice e)) (h : DataW.trod enc P w base spare held fuel t [v] = some x) : ∃ a n c, v = .slice a n c := by
  rcases DataW.trod_slice hu h with ⟨h1, _⟩ | ⟨a', l', c', _, _, _, _, h1, _⟩
  · simp at h1; exact ⟨_, _, _, h1⟩
  · simp at h1; exact ⟨_, _, _, h1⟩

theorem trod_tree {T B : TypeId} {f0 f1 f2 f3 f4 : Field} (he : P.underlying T = some (.struct #[f0, f1, f2, f3, f4])) (hc : P.cellsOf T = 5)
    (o0 : f0.offset = 0) (o1 : f1.offset = 1) (o2 : f2.offset = 2) (o3 : f3.offset = 3) (o4 : f4.offset = 4)
    (c0 : P.cellsOf f0.type = 1) (c1 : P.cellsOf f1.type = 1) (c2 : P.cellsOf f2.type = 1) (c3 : P.cellsOf f3.type = 1) (c4 : P.cellsOf f4.type = 1)
    (u0 : P.underlying f0.type = some (.int .i64)) (u1 : P.underlying f1.type = some (.slice B)) (u2 : P.underlying f2.type = some (.slice B)) (u3 : P.underlying f3.type = some (.slice B)) (u4 : P.underlying f4.type = some (.slice T))
    (hB : P.underlying B = some (.int .u8)) (hcB : P.cellsOf B = 1) (fuel : Nat) :
    ∀ (cs : List Value) (x : DataW H × List MemPlace), DataW.trod enc P w base spare held fuel T cs = some x → ∃ (hd : TH) (t : Tr), cs = hd.cells ∧ InTree w hd t := by
  induction fuel using Nat.strongRecOn with
  | ind fuel ih =>
  intro cs x hx
  obtain ⟨xs, n, hn, _, hl, hxl, hf⟩ := DataW.trod_struct he hx
  rw [hc] at hl
  obtain ⟨v0, v1, v2, v3, v4, rfl⟩ : ∃ v0 v1 v2 v3 v4, cs = [v0, v1, v2, v3, v4] := by
    rcases cs with _ | ⟨v0, _ | ⟨v1, _ | ⟨v2, _ | ⟨v3, _ | ⟨v4, _ | ⟨y, r⟩⟩⟩⟩⟩⟩ <;> simp at hl
    exact ⟨_, _, _, _, _, rfl⟩
  have hxs : xs.length = 5 := by simpa using hxl
  have g0 := hf 0 f0 rfl
  have g1 := hf 1 f1 rfl
  have g2 := hf 2 f2 rfl
  have g3 := hf 3 f3 rfl
  have g4 := hf 4 f4 rfl
  rw [o0, c0, List.getElem?_eq_getElem (by omega)] at g0
  rw [o1, c1, List.getElem?_eq_getElem (by omega)] at g1
  rw [o2, c2, List.getElem?_eq_getElem (by omega)] at g2
  rw [o3, c3, List.getElem?_eq_getElem (by omega)] at g3
  rw [o4, c4, List.getElem?_eq_getElem (by omega)] at g4
  replace g0 : DataW.trod enc P w base spare held n f0.type [v0] = some xs[0] := g0
  replace g1 : DataW.trod enc P w base spare held n f1.type [v1] = some xs[1] := g1
  replace g2 : DataW.trod enc P w base spare held n f2.type [v2] = some xs[2] := g2
  replace g3 : DataW.trod enc P w base spare held n f3.type [v3] = some xs[3] := g3
  replace g4 : DataW.trod enc P w base spare held n f4.type [v4] = some xs[4] := g4
  obtain ⟨k, e0, _, hwf⟩ := DataW.trod_int u0 g0
  obtain ⟨a1, n1, k1, rfl⟩ := slice_form u1 g1
  obtain ⟨a2, n2, k2, rfl⟩ := slice_form u2 g2
  obtain ⟨a3, n3, k3, rfl⟩ := slice_form u3 g3
  obtain ⟨a4, n4, k4, rfl⟩ := slice_form u4 g4
  obtain ⟨key, hkey⟩ := open_bytes (d := xs[1].1) (p := xs[1].2) u1 hB hcB ⟨n, g1⟩
  obtain ⟨val, hval⟩ := open_bytes (d := xs[2].1) (p := xs[2].2) u2 hB hcB ⟨n, g2⟩
  obtain ⟨dig, hdig⟩ := open_bytes (d := xs[3].1) (p := xs[3].2) u3 hB hcB ⟨n, g3⟩
  obtain ⟨V, hsl, hV⟩ := open_slF u4 hc (by omega) g4
  have hq : ∀ i, i < n4 → ∃ q : TH × Tr, ((List.range 5).map fun j => V (i * 5 + j)) = q.1.cells ∧ InTree w q.1 q.2 := by
    intro i hi
    obtain ⟨m, y, hm, hy⟩ := hV i hi
    obtain ⟨hd, t, h1, h2⟩ := ih m (by omega) _ _ hy
    exact ⟨(hd, t), h1, h2⟩
  have hnil : ∃ q : TH × Tr, True := ⟨(⟨0, none, 0, 0, none, 0, 0, none, 0, 0, none, 0, 0⟩, .mk 0 [] [] [] []), trivial⟩
  obtain ⟨Q, hQ⟩ : ∃ Q : Nat → TH × Tr, ∀ i, i < n4 → ((List.range 5).map fun j => V (i * 5 + j)) = (Q i).1.cells ∧ InTree w (Q i).1 (Q i).2 := by
    refine ⟨fun i => if hi : i < n4 then (hq i hi).choose else hnil.choose, fun i hi => ?_⟩
    simp only [hi, dif_pos]
    exact (hq i hi).choose_spec
  have hb := bounds_i64 hwf
  simp at e0
  refine ⟨⟨k, a1, n1, k1, a2, n2, k2, a3, n3, k3, a4, n4, k4⟩, .mk k key val dig ((List.range n4).map fun i => (Q i).2), by rw [e0]; rfl, ?_⟩
  refine .mk _ _ (fun i => (Q i).1) rfl hb.1 hb.2 hkey hval hdig ⟨hsl.le, hsl.max, hsl.nil, fun h0 => ?_⟩ (by simp [Tr.kids]) fun i hi => ?_
  · obtain ⟨g, off, e1, hg, hcc⟩ := hsl.place h0
    refine ⟨g, off, e1, hg, fun i hi => ?_⟩
    rw [hcc i hi]
    have h5 := (hQ (i / 5) (by dsimp only at hi; omega)).1
    have h6 : ((List.range 5).map fun j => V (i / 5 * 5 + j)).getD (i % 5) .nilIface = ((Q (i / 5)).1.cells).getD (i % 5) .nilIface := by rw [h5]
    have h7 : i % 5 < 5 := by omega
    have h8 : ((List.range 5).map fun j => V (i / 5 * 5 + j)).getD (i % 5) .nilIface = V (i / 5 * 5 + i % 5) := by
      simp [List.getD, h7]
    rw [h8, show i / 5 * 5 + i % 5 = i by omega] at h6
    rw [h6]
    rfl
  · simp only [Tr.kids, List.length_map, List.length_range] at hi
    simp only [Tr.kids, List.getElem_map, List.getElem_range]
    exact (hQ i hi).2
end
end Go.Proofs.YtkfjhegehhahcaaDoor

/- Records of two byte strings and a bit. No program is named here. -/
namespace Go.Proofs.YtkfjhegehhahcaaDoor
open Go.ChangeShapes Go.WideShapes Go.RowKit Go.Deep
set_option linter.unusedVariables false

/-- Two byte strings and a bit: a change (its key, its value, whether it is a deletion), a span (its beginning, its end, whether it is open). -/
structure DH where
  ka : Option Addr
  kn : Nat
  kc : Nat
  va : Option Addr
  vn : Nat
  vc : Nat
  out : Bool
def recD : Rec DH where
  cells := fun p => [.slice p.ka p.kn p.kc, .slice p.va p.vn p.vc, .bool p.out]
  sz := 3
  pos := by omega
  len := fun _ => rfl
  one := fun r u hu => by
    simp at hu
    rcases hu with rfl | rfl | rfl <;> rfl
def dZ : DH := ⟨none, 0, 0, none, 0, 0, false⟩

section
variable {H : Type} {enc : TypeId × Value → H} {P : Program} {w : World} {base : Nat} {spare : Nat → Bool} {held : Bool}
theorem trod_deed {T B : TypeId} {f0 f1 f2 : Field} (he : P.underlying T = some (.struct #[f0, f1, f2])) (hc : P.cellsOf T = 3)
    (o0 : f0.offset = 0) (o1 : f1.offset = 1) (o2 : f2.offset = 2) (c0 : P.cellsOf f0.type = 1) (c1 : P.cellsOf f1.type = 1) (c2 : P.cellsOf f2.type = 1)
    (u0 : P.underlying f0.type = some (.slice B)) (u1 : P.underlying f1.type = some (.slice B)) (u2 : P.underlying f2.type = some .bool) (hB : P.underlying B = some (.int .u8)) (hcB : P.cellsOf B = 1)
    (fuel : Nat) (cs : List Value) (x : DataW H × List MemPlace) (hx : DataW.trod enc P w base spare held fuel T cs = some x) :
    ∃ r : DH, cs = recD.cells r ∧ ∃ key val, InBytes w r.ka r.kn r.kc key ∧ InBytes w r.va r.vn r.vc val := by
  obtain ⟨xs, n, hn, _, hl, hxl, hf⟩ := DataW.trod_struct he hx
  rw [hc] at hl
  obtain ⟨v0, v1, v2, rfl⟩ : ∃ v0 v1 v2, cs = [v0, v1, v2] := by
    rcases cs with _ | ⟨v0, _ | ⟨v1, _ | ⟨v2, _ | ⟨y, r⟩⟩⟩⟩ <;> simp at hl
    exact ⟨_, _, _, rfl⟩
  have hxs : xs.length = 3 := by simpa using hxl
  have g0 := hf 0 f0 rfl
  have g1 := hf 1 f1 rfl
  have g2 := hf 2 f2 rfl
  rw [o0, c0, List.getElem?_eq_getElem (by omega)] at g0
  rw [o1, c1, List.getElem?_eq_getElem (by omega)] at g1
  rw [o2, c2, List.getElem?_eq_getElem (by omega)] at g2
  replace g0 : DataW.trod enc P w base spare held n f0.type [v0] = some xs[0] := g0
  replace g1 : DataW.trod enc P w base spare held n f1.type [v1] = some xs[1] := g1
  replace g2 : DataW.trod enc P w base spare held n f2.type [v2] = some xs[2] := g2
  obtain ⟨a0, n0, k0, rfl⟩ := slice_form u0 g0
  obtain ⟨a1, n1, k1, rfl⟩ := slice_form u1 g1
  obtain ⟨b, hb, _⟩ := DataW.trod_bool u2 g2
  simp at hb
  subst hb
  obtain ⟨key, hkey⟩ := open_bytes (d := xs[0].1) (p := xs[0].2) u0 hB hcB ⟨n, g0⟩
  obtain ⟨val, hval⟩ := open_bytes (d := xs[1].1) (p := xs[1].2) u1 hB hcB ⟨n, g1⟩
  exact ⟨⟨a0, n0, k0, a1, n1, k1, b⟩, rfl, key, val, hkey, hval⟩
end
end Go.Proofs.YtkfjhegehhahcaaDoor

/- Spans of keys: what the document says of them, as functions. No program is named here. -/
namespace Go.Proofs.YtkfjhegehhahcaaDoor
open Go.RowKit
set_option linter.unusedVariables false

/-- Not above. -/
theorem le_not (f k : List Int) : (ltL f k || f == k) = !ltL k f := by
  rcases ltL_three f k with c | c | c
  · rw [c, ltL_asymm c]; rfl
  · subst c
    rw [ltL_irr]
    simp
  · rw [c, ltL_asymm c, beq_eq_false_iff_ne.2 (fun q => ltL_ne c q.symm)]
    rfl
/-- Is a key in a span? -/
def inS (f t : List Int) (o : Bool) (key : List Int) : Bool := !ltL key f && (o || ltL key t)
/-- The least key that may be there. -/
def leastS (f low : List Int) (hl : Bool) : List Int := if hl && !ltL low f then low ++ [0] else f
/-- Is no key there? -/
def emptyS (f t : List Int) (o : Bool) (low high : List Int) (hl hh : Bool) : Bool := (hh && !ltL (leastS f low hl) high) || (!o && !ltL (leastS f low hl) t)
/-- Between a key and the key followed by a byte 0 there is none. -/
theorem lt_zero : ∀ (a b : List Int), Bytes8 b → (ltL b (a ++ [0]) = !ltL a b)
  | [], [], _ => rfl
  | [], b :: y, h => by
    have h1 := h b (by simp)
    have e : ltL (b :: y) ([] ++ [0]) = false := by
      simp only [List.nil_append, ltL, Bool.or_eq_false_iff, decide_eq_false_iff_not, Bool.and_eq_false_iff]
      refine ⟨by omega, ?_⟩
      right
      trivial
    rw [e]
    rfl
  | a :: x, [], _ => by simp [ltL]
  | a :: x, b :: y, h => by
    have ih := lt_zero x y (fun z hz => h z (by simp [hz]))
    simp only [List.cons_append, ltL, ih]
    rcases (by omega : a < b ∨ a = b ∨ b < a) with c | c | c
    · have e1 : decide (b < a) = false := decide_eq_false (by omega)
      have e2 : (b == a) = false := by simp; omega
      have e3 : decide (a < b) = true := decide_eq_true c
      rw [e1, e2, e3]
      rfl
    · subst c
      simp
    · have e1 : decide (b < a) = true := decide_eq_true c
      have e2 : (a == b) = false := by simp; omega
      have e3 : decide (a < b) = false := decide_eq_false (by omega)
      rw [e1, e2, e3]
      rfl
theorem zero_lt (a : List Int) : ltL a (a ++ [0]) = true := by
  induction a with
  | nil => rfl
  | cons x a ih => simp [ltL, ih]
/-- What is above a key is not below the key followed by a byte 0. -/
theorem above_zero {a b : List Int} (hb : Bytes8 b) : ltL a b = !ltL b (a ++ [0]) := by rw [lt_zero a b hb, Bool.not_not]
/-- The span's two byte strings lie in memory. -/
structure SpanIn (w : World) (h : DH) (f t : List Int) : Prop where
  f : InBytes w h.ka h.kn h.kc f
  t : InBytes w h.va h.vn h.vc t
theorem SpanIn.below {w w' : World} {h : DH} {f t : List Int} (x : SpanIn w h f t) (hb : Below w.heap.size w w') : SpanIn w' h f t := ⟨x.f.below hb, x.t.below hb⟩
def DH.v (h : DH) : Value := .agg #[.slice h.ka h.kn h.kc, .slice h.va h.vn h.vc, .bool h.out]
/-- The span's box: three cells. -/
theorem DH.box (w : World) (ty : TypeId) (h : DH) : RBox recD (w.alloc (.cells #[.slice h.ka h.kn h.kc, .slice h.va h.vn h.vc, .bool h.out] ty)) ty w.heap.size h := heap_alloc_new w _
theorem RBox.three {w : World} {ty : TypeId} {g : Nat} {h : DH} (x : RBox recD w ty g h) : w.cell? ⟨g, 0, none⟩ = some (.slice h.ka h.kn h.kc) ∧ w.cell? ⟨g, 1, none⟩ = some (.slice h.va h.vn h.vc) ∧ w.cell? ⟨g, 2, none⟩ = some (.bool h.out) := ⟨x.cell 0 _ rfl, x.cell 1 _ rfl, x.cell 2 _ rfl⟩
/-- A byte string and a byte 0, as strings. -/
theorem str_zero (a : List Int) : strOfNums a ++ ⟨#[0]⟩ = strOfNums (a ++ [0]) := by
  apply ByteArray.ext
  simp [strOfNums]
theorem str_len (a : List Int) : (strOfNums a).size = a.length := by simp [strOfNums, ByteArray.size]
theorem bytes_zero {a : List Int} (h : Bytes8 a) : Bytes8 (a ++ [0]) := fun z hz => by
  rcases List.mem_append.1 hz with q | q
  · exact h z q
  · simp at q
    omega
end Go.Proofs.YtkfjhegehhahcaaDoor

/- AVL trees: what pairs they have behind an insertion, and behind a deletion. No program is named here. -/
namespace Go.Proofs.YtkfjhegehhahcaaDoor
set_option linter.unusedVariables false

abbrev KV := List Int × List Int
/-- The keys rise. -/
def Rise (l : List KV) : Prop := l.Pairwise fun p q => ltL p.1 q.1 = true
theorem Rise.app {a b : List KV} {k v : List Int} (h : Rise (a ++ ((k, v) :: b))) : Rise a ∧ Rise b ∧ (∀ p ∈ a, ltL p.1 k = true) ∧ (∀ p ∈ b, ltL k p.1 = true) := by
  unfold Rise at h
  rw [List.pairwise_append, List.pairwise_cons] at h
  exact ⟨h.1, h.2.1.2, fun p hp => h.2.2 p hp (k, v) (by simp), fun p hp => h.2.1.1 p hp⟩
theorem filter_all {l : List KV} {p : KV → Bool} (h : ∀ x ∈ l, p x = true) : l.filter p = l := List.filter_eq_self.2 h
theorem filter_no {l : List KV} {p : KV → Bool} (h : ∀ x ∈ l, p x = false) : l.filter p = [] := List.filter_eq_nil_iff.2 fun x hx => by rw [h x hx]; simp
/-- The pairs behind an insertion. -/
theorem AT.put_pairs (key val : List Int) : ∀ a : AT, Rise a.pairs → (a.put key val).pairs = a.pairs.filter (fun p => ltL p.1 key) ++ ((key, val) :: a.pairs.filter (fun p => ltL key p.1)) := by
  intro a
  induction a with
  | nil => intro _; rfl
  | node l k v r ihl ihr =>
    intro h
    rw [AT.pairs] at h
    obtain ⟨hl, hr, hlk, hrk⟩ := h.app
    rw [AT.put_node]
    rw [AT.pairs, List.filter_append, List.filter_append, List.filter_cons, List.filter_cons]
    by_cases c : key = k
    · subst c
      rw [if_pos rfl, AT.pairs, ltL_irr]
      rw [filter_all hlk, filter_no (p := fun p => ltL p.1 key) (fun x hx => ltL_asymm (hrk x hx)), filter_no (p := fun p => ltL key p.1) (fun x hx => ltL_asymm (hlk x hx)), filter_all hrk]
      simp
    · rw [if_neg c]
      by_cases c2 : ltL key k = true
      · rw [if_pos c2, AT.level_pairs, AT.pairs, ihl hl]
        simp only [c2, ltL_asymm c2]
        rw [filter_no (l := r.pairs) (p := fun p => ltL p.1 key) (fun x hx => ltL_asymm (ltL_trans c2 (hrk x hx))), filter_all (l := r.pairs) (p := fun p => ltL key p.1) (fun x hx => ltL_trans c2 (hrk x hx))]
        simp
      · have c3 : ltL k key = true := by
          rcases ltL_three key k with q | q | q
          · exact absurd q c2
          · exact absurd q c
          · exact q
        rw [if_neg c2, AT.level_pairs, AT.pairs, ihr hr]
        simp only [c3, ltL_asymm c3]
        rw [filter_all (l := l.pairs) (p := fun p => ltL p.1 key) (fun x hx => ltL_trans (hlk x hx) c3), filter_no (l := l.pairs) (p := fun p => ltL key p.1) (fun x hx => ltL_asymm (ltL_trans (hlk x hx) c3))]
        simp
theorem AT.pairs_nil {a : AT} (h : a.isNil = false) : a.pairs ≠ [] := by
  cases a with
  | nil => cases h
  | node l k v r => simp [AT.pairs]
/-- The pairs behind a deletion. -/
theorem AT.del_pairs (key : List Int) : ∀ a : AT, Rise a.pairs → (a.del key).pairs = a.pairs.filter (fun p => !(p.1 == key)) := by
  intro a
  induction a generalizing key with
  | nil => intro _; rfl
  | node l k v r ihl ihr =>
    intro h
    rw [AT.pairs] at h
    obtain ⟨hl, hr, hlk, hrk⟩ := h.app
    have ne : ∀ {a b : List Int}, a ≠ b → (!(a == b)) = true := fun {a b} q => by rw [beq_eq_false_iff_ne.2 q]; rfl
    rw [AT.del_node, AT.pairs, List.filter_append, List.filter_cons]
    by_cases c1 : ltL key k = true
    · rw [if_pos c1, AT.level_pairs, AT.pairs, ihl key hl, if_pos (ne (fun q => ltL_ne c1 q.symm)), filter_all (l := r.pairs) (fun x hx => ne (fun q => ltL_ne (ltL_trans c1 (hrk x hx)) q.symm))]
    · rw [if_neg c1]
      by_cases c2 : ltL k key = true
      · rw [if_pos c2, AT.level_pairs, AT.pairs, ihr key hr, if_pos (ne (ltL_ne c2)), filter_all (l := l.pairs) (fun x hx => ne (ltL_ne (ltL_trans (hlk x hx) c2)))]
      · have c3 : key = k := ltL_eq (by simpa using c1) (by simpa using c2)
        subst c3
        have e0 : ¬ ((!(((key, v) : KV).1 == key)) = true) := by simp
        rw [if_neg c2, filter_all (l := l.pairs) (fun x hx => ne (ltL_ne (hlk x hx))), filter_all (l := r.pairs) (fun x hx => ne (fun q => ltL_ne (hrk x hx) q.symm)), if_neg e0]
        by_cases n1 : l.isNil = true
        · rw [if_pos n1, AT.isNil_eq n1]
          rfl
        · rw [if_neg n1]
          by_cases n2 : r.isNil = true
          · rw [if_pos n2, AT.isNil_eq n2]
            simp [AT.pairs]
          · rw [if_neg n2, AT.level_pairs, AT.pairs, ihr _ hr]
            cases hp : r.pairs with
            | nil => exact absurd hp (AT.pairs_nil (by simpa using n2))
            | cons m rest =>
              have hm : ∀ p ∈ rest, ltL m.1 p.1 = true := by
                unfold Rise at hr
                rw [hp, List.pairwise_cons] at hr
                exact hr.1
              have e1 : ¬ ((!(m.1 == m.1)) = true) := by simp
              rw [List.headD_cons, List.filter_cons, if_neg e1, filter_all (l := rest) (fun x hx => ne (fun q => ltL_ne (hm x hx) q.symm))]
theorem Rise.filter {l : List KV} (h : Rise l) (p : KV → Bool) : Rise (l.filter p) := List.Pairwise.filter p h
theorem AT.put_rise (key val : List Int) (a : AT) (h : Rise a.pairs) : Rise (a.put key val).pairs := by
  rw [AT.put_pairs key val a h]
  unfold Rise
  rw [List.pairwise_append, List.pairwise_cons]
  refine ⟨h.filter _, ⟨fun q hq => (List.mem_filter.1 hq).2, h.filter _⟩, fun p hp q hq => ?_⟩
  have h1 := (List.mem_filter.1 hp).2
  rcases List.mem_cons.1 hq with rfl | hq
  · exact h1
  · exact ltL_trans h1 (List.mem_filter.1 hq).2
theorem AT.del_rise (key : List Int) (a : AT) (h : Rise a.pairs) : Rise (a.del key).pairs := by
  rw [AT.del_pairs key a h]
  exact h.filter _
/-- What is put in, in whatever order the others are told. -/
theorem put_perm (key val : List Int) (l : List KV) : (l.filter (fun p => ltL p.1 key) ++ ((key, val) :: l.filter (fun p => ltL key p.1))).Perm (l.filter (fun p => !(p.1 == key)) ++ [(key, val)]) := by
  induction l with
  | nil => exact List.Perm.refl _
  | cons x r ih =>
    rw [List.filter_cons, List.filter_cons, List.filter_cons]
    rcases ltL_three x.1 key with q | q | q
    · have e1 : (!(x.1 == key)) = true := by rw [beq_eq_false_iff_ne.2 (ltL_ne q)]; rfl
      rw [if_pos q, if_neg (by rw [ltL_asymm q]; simp), if_pos e1]
      exact ih.cons x
    · rw [if_neg (by rw [q, ltL_irr]; simp), if_neg (by rw [q, ltL_irr]; simp), if_neg (by rw [q]; simp)]
      exact ih
    · have e1 : (!(x.1 == key)) = true := by rw [beq_eq_false_iff_ne.2 (fun e => ltL_ne q e.symm)]; rfl
      rw [if_neg (by rw [ltL_asymm q]; simp), if_pos q, if_pos e1]
      refine List.Perm.trans ?_ (ih.cons x)
      have := List.perm_middle (a := x) (l₁ := r.filter (fun p => ltL p.1 key) ++ [(key, val)]) (l₂ := r.filter (fun p => ltL key p.1))
      simpa using this
/-- A row of pairs that has what a tree has. -/
theorem perm_filter {a b : List KV} (h : a.Perm b) (p : KV → Bool) : (a.filter p).Perm (b.filter p) := h.filter p
/-- In rising pairs each key occurs once: what is found is what is there. -/
theorem find_rise : ∀ {l : List KV} {p : KV}, Rise l → p ∈ l → l.find? (fun q => q.1 == p.1) = some p
  | x :: r, p, h, hp => by
    rw [List.find?_cons]
    unfold Rise at h
    rw [List.pairwise_cons] at h
    rcases List.mem_cons.1 hp with rfl | hp
    · simp
    · have e : (x.1 == p.1) = false := beq_eq_false_iff_ne.2 (ltL_ne (h.1 p hp))
      rw [e]
      exact find_rise h.2 hp
end Go.Proofs.YtkfjhegehhahcaaDoor

/- AVL trees as trees of layer 4; which trees are balanced. No program is named here. -/
namespace Go.Proofs.YtkfjhegehhahcaaDoor
set_option linter.unusedVariables false

def AT.tr : AT → Tr
  | .nil => .mk 0 [] [] [] []
  | .node l k v r => .mk 1 k v [] [l.tr, r.tr]
/-- Keys and values within their bounds. -/
def Lim (l : List KV) : Prop := ∀ p ∈ l, p.1.length ≤ 80 ∧ p.2.length ≤ 1024
/-- The nodes, by the order of their keys. -/
def AT.nodes : AT → List AT
  | .nil => []
  | .node l k v r => l.nodes ++ (.node l k v r :: r.nodes)
def AT.kv : AT → KV
  | .nil => ([], [])
  | .node _ k v _ => (k, v)
theorem AT.tr_kids (l : AT) (k v : List Int) (r : AT) : (AT.node l k v r).tr.kids = [l.tr, r.tr] := rfl
theorem AT.tr_formed : ∀ a : AT, formedT a.tr = true ↔ Lim a.pairs := by
  intro a
  induction a with
  | nil =>
    rw [formedT_eq]
    exact ⟨fun _ p hp => by simp [AT.pairs] at hp, fun _ => rfl⟩
  | node l k v r ihl ihr =>
    have e : formedT (AT.node l k v r).tr = ((decide (k.length ≤ 80) && decide (v.length ≤ 1024)) && (formedT l.tr && formedT r.tr)) := by
      have e2 : partB (AT.node l k v r).tr = (decide (k.length ≤ 80) && (decide (v.length ≤ 1024) && (true && true))) := rfl
      rw [formedT_eq, AT.tr_kids, e2]
      simp
    rw [e]
    simp only [Bool.and_eq_true, decide_eq_true_eq, ihl, ihr]
    unfold Lim
    simp only [AT.pairs, List.mem_append, List.mem_cons]
    constructor
    · rintro ⟨h1, h2, h3⟩ p (hp | rfl | hp)
      · exact h2 p hp
      · exact h1
      · exact h3 p hp
    · intro h
      exact ⟨h _ (.inr (.inl rfl)), fun p hp => h p (.inl hp), fun p hp => h p (.inr (.inr hp))⟩
theorem AT.tr_full : ∀ a : AT, fullT a.tr = true := by
  intro a
  induction a with
  | nil => rw [fullT_eq]; rfl
  | node l k v r ihl ihr =>
    rw [fullT_eq, AT.tr_kids]
    simp [ihl, ihr, AT.tr, Tr.k]
theorem part_0 {t : Tr} (h : partB t = true) (hk : t.k = 0) : t.key = [] ∧ t.val = [] ∧ t.dig = [] ∧ t.kids = [] := by
  unfold partB at h
  rw [if_pos hk] at h
  simpa only [Bool.and_eq_true, decide_eq_true_eq, List.length_eq_zero_iff] using h
theorem part_1 {t : Tr} (h : partB t = true) (hk : t.k = 1) : t.dig = [] := by
  unfold partB at h
  rw [if_neg (by omega), if_pos hk] at h
  simp only [Bool.and_eq_true, decide_eq_true_eq, List.length_eq_zero_iff] at h
  exact h.2.2.1
theorem Tr.eta (t : Tr) : t = .mk t.k t.key t.val t.dig t.kids := by cases t; rfl
theorem AT.of_full : ∀ t : Tr, formedT t = true → fullT t = true → ∃ a : AT, t = a.tr := by
  intro t
  induction t using Tr.ind with
  | h t ih =>
  intro hf hl
  obtain ⟨hp, hk⟩ := formed_kids hf
  rw [fullT_eq, Bool.and_eq_true, decide_eq_true_eq, List.all_eq_true] at hl
  rcases part_kids hp with ⟨h0, h | h⟩ | ⟨h2, h | h⟩
  · obtain ⟨q1, q2, q3, q4⟩ := part_0 hp h
    exact ⟨.nil, by rw [Tr.eta t, h, q1, q2, q3, q4]; rfl⟩
  · omega
  · have q := part_1 hp h
    obtain ⟨a, ha⟩ := ih _ (List.getElem_mem (by omega : 0 < t.kids.length)) (hk 0 (by omega)) (hl.2 _ (List.getElem_mem _))
    obtain ⟨b, hb⟩ := ih _ (List.getElem_mem (by omega : 1 < t.kids.length)) (hk 1 (by omega)) (hl.2 _ (List.getElem_mem _))
    have hks : t.kids = [a.tr, b.tr] := by
      rw [← ha, ← hb]
      exact List.ext_getElem (by simpa using h2) (fun i h3 h4 => by
        rcases (by omega : i = 0 ∨ i = 1) with rfl | rfl <;> rfl)
    exact ⟨.node a t.key t.val b, by rw [Tr.eta t, h, q, hks]; rfl⟩
  · omega
theorem AT.tr_depth : ∀ a : AT, depthT a.tr = a.depth := by
  intro a
  induction a with
  | nil => rw [depthT_eq]; rfl
  | node l k v r ihl ihr =>
    rw [depth_two (by rfl)]
    simp only [AT.tr_kids, List.getElem_cons_zero, List.getElem_cons_succ, ihl, ihr, AT.depth]
theorem AT.tr_list : ∀ a : AT, listT a.tr = a.nodes.map AT.tr := by
  intro a
  induction a with
  | nil => exact listT_0 rfl
  | node l k v r ihl ihr =>
    rw [listT_2 (by rfl)]
    simp only [AT.tr_kids, List.getElem_cons_zero, List.getElem_cons_succ, ihl, ihr, AT.nodes, List.map_append, List.map_cons]
theorem AT.nodes_kv : ∀ a : AT, a.nodes.map AT.kv = a.pairs := by
  intro a
  induction a with
  | nil => rfl
  | node l k v r ihl ihr => simp [AT.nodes, AT.pairs, ihl, ihr, AT.kv]
theorem AT.tr_deep : ∀ (a : AT) (b : Int), 0 ≤ b → deepT a.tr b = decide (b < (a.depth : Int)) := by
  intro a
  induction a with
  | nil =>
    intro b hb
    have e : isNode AT.nil.tr = false := rfl
    have e2 : AT.nil.tr.kids = [] := rfl
    rw [deepT_eq, e, e2, Bool.false_and, List.any_nil, Bool.or_false]
    symm
    rw [decide_eq_false_iff_not, AT.depth]
    omega
  | node l k v r ihl ihr =>
    intro b hb
    rw [deepT_eq, AT.tr_kids]
    have hn : isNode (AT.node l k v r).tr = true := by simp [isNode, AT.tr, Tr.k]
    rw [hn, Bool.true_and]
    by_cases h0 : b = 0
    · subst h0
      have e : decide ((0 : Int) < ((AT.node l k v r).depth : Int)) = true := by rw [decide_eq_true_eq, AT.depth]; omega
      rw [e]
      rfl
    · have e : (b == 0) = false := by simp [h0]
      rw [e, Bool.false_or]
      rw [List.any_cons, List.any_cons, List.any_nil, Bool.or_false, ihl (b - 1) (by omega), ihr (b - 1) (by omega), AT.depth, Bool.eq_iff_iff, Bool.or_eq_true, decide_eq_true_eq, decide_eq_true_eq, decide_eq_true_eq]
      omega
/-- Its kids' depths, one less the other. -/
def tiltT (t : Tr) : Int := ((t.kids.map depthT).getD 0 0 : Int) - ((t.kids.map depthT).getD 1 0 : Int)
/-- Do the keys rise, and is each node balanced? -/
def levelB (l : List Tr) : Bool := (List.range l.length).all fun i => (i == 0 || ltL (l.getD (i - 1) (.mk 0 [] [] [] [])).key (l.getD i (.mk 0 [] [] [] [])).key) && (decide (tiltT (l.getD i (.mk 0 [] [] [] [])) ≤ 1) && decide (-1 ≤ tiltT (l.getD i (.mk 0 [] [] [] []))))
def isT (t : Tr) : Bool := decide (checkT t = 0) && (fullT t && levelB (listT t))
theorem AT.bal_nodes : ∀ a : AT, a.bal ↔ ∀ n ∈ a.nodes, n.tilt ≤ 1 ∧ -1 ≤ n.tilt := by
  intro a
  induction a with
  | nil => exact ⟨fun _ n hn => (by simp [AT.nodes] at hn), fun _ => trivial⟩
  | node l k v r ihl ihr =>
    simp only [AT.bal, AT.nodes, List.mem_append, List.mem_cons, ihl, ihr]
    constructor
    · rintro ⟨h1, h2, h3, h4⟩ n (hn | rfl | hn)
      · exact h1 n hn
      · simp only [AT.tilt]; omega
      · exact h2 n hn
    · intro h
      have := h _ (.inr (.inl rfl))
      simp only [AT.tilt] at this
      exact ⟨fun n hn => h n (.inl hn), fun n hn => h n (.inr (.inr hn)), by omega, by omega⟩
theorem AT.nodes_node : ∀ (a : AT) (n : AT), n ∈ a.nodes → n.isNil = false := by
  intro a
  induction a with
  | nil => intro n hn; simp [AT.nodes] at hn
  | node l k v r ihl ihr =>
    intro n hn
    simp only [AT.nodes, List.mem_append, List.mem_cons] at hn
    rcases hn with hn | rfl | hn
    · exact ihl n hn
    · rfl
    · exact ihr n hn
theorem AT.tilt_tr {n : AT} (h : n.isNil = false) : tiltT n.tr = n.tilt ∧ n.tr.key = n.kv.1 ∧ n.tr.val = n.kv.2 := by
  cases n with
  | nil => cases h
  | node l k v r =>
    refine ⟨?_, rfl, rfl⟩
    unfold tiltT
    rw [AT.tr_kids]
    simp [AT.tr_depth, AT.tilt]
theorem rise_of_steps : ∀ (l : List KV), (∀ i (h : i + 1 < l.length), ltL l[i].1 l[i + 1].1 = true) → Rise l
  | [], _ => List.Pairwise.nil
  | [x], _ => List.pairwise_singleton _ _
  | x :: y :: r, h => by
    have ih := rise_of_steps (y :: r) (fun i hi => h (i + 1) (by simp at hi ⊢; omega))
    have h0 := h 0 (by simp)
    unfold Rise at ih ⊢
    rw [List.pairwise_cons]
    refine ⟨fun q hq => ?_, ih⟩
    rcases List.mem_cons.1 hq with rfl | hq
    · exact h0
    · rw [List.pairwise_cons] at ih
      exact ltL_trans h0 (ih.1 q hq)
theorem steps_of_rise {l : List KV} (h : Rise l) : ∀ i (hi : i + 1 < l.length), ltL l[i].1 l[i + 1].1 = true := fun i hi => List.pairwise_iff_getElem.1 h i (i + 1) (by omega) hi (by omega)
theorem AT.level_iff (a : AT) : levelB (listT a.tr) = true ↔ a.bal ∧ Rise a.pairs := by
  rw [AT.tr_list]
  have hlen : (a.nodes.map AT.tr).length = a.nodes.length := List.length_map _
  have hpl : a.pairs.length = a.nodes.length := by rw [← AT.nodes_kv, List.length_map]
  have hkey : ∀ i (hi : i < a.nodes.length), ((a.nodes.map AT.tr).getD i (.mk 0 [] [] [] [])).key = (a.pairs[i]'(by omega)).1 := fun i hi => by
    have h1 := (AT.tilt_tr (AT.nodes_node a _ (List.getElem_mem hi))).2.1
    have e : a.pairs[i]'(by omega) = (a.nodes[i]).kv := by simp only [← AT.nodes_kv, List.getElem_map]
    rw [e, ← h1]
    simp [List.getD, hi]
  have htil : ∀ i (hi : i < a.nodes.length), tiltT ((a.nodes.map AT.tr).getD i (.mk 0 [] [] [] [])) = (a.nodes[i]).tilt := fun i hi => by
    rw [← (AT.tilt_tr (AT.nodes_node a _ (List.getElem_mem hi))).1]
    simp [List.getD, hi]
  unfold levelB
  rw [List.all_eq_true]
  simp only [List.mem_range, hlen, Bool.and_eq_true, Bool.or_eq_true, beq_iff_eq, decide_eq_true_eq]
  constructor
  · intro h
    refine ⟨(AT.bal_nodes a).2 fun n hn => ?_, rise_of_steps _ fun i hi => ?_⟩
    · obtain ⟨i, hi, rfl⟩ := List.getElem_of_mem hn
      have := (h i hi).2
      rw [htil i hi] at this
      exact this
    · rcases (h (i + 1) (by omega)).1 with q | q
      · omega
      · rw [Nat.add_sub_cancel, hkey i (by omega), hkey (i + 1) (by omega)] at q
        exact q
  · rintro ⟨h1, h2⟩ i hi
    refine ⟨?_, ?_⟩
    · rcases Nat.eq_zero_or_pos i with rfl | hp
      · exact .inl rfl
      · right
        obtain ⟨j, rfl⟩ : ∃ j, i = j + 1 := ⟨i - 1, by omega⟩
        rw [Nat.add_sub_cancel, hkey j (by omega), hkey (j + 1) hi]
        exact steps_of_rise h2 j (by omega)
    · rw [htil i hi]
      exact (AT.bal_nodes a).1 h1 _ (List.getElem_mem hi)
/-- Which trees are balanced. -/
theorem isT_iff (t : Tr) : isT t = true ↔ ∃ a : AT, t = a.tr ∧ a.bal ∧ Rise a.pairs ∧ Lim a.pairs ∧ a.depth ≤ 64 := by
  unfold isT
  rw [Bool.and_eq_true, Bool.and_eq_true, decide_eq_true_eq]
  constructor
  · rintro ⟨hc, hf, hl⟩
    have hfo : formedT t = true := by
      unfold checkT at hc
      split at hc
      · cases hc
      · split at hc
        · assumption
        · cases hc
    obtain ⟨a, rfl⟩ := AT.of_full t hfo hf
    have hd : deepT a.tr 64 = false := by
      unfold checkT at hc
      split at hc
      · cases hc
      · rename_i q; simpa using q
    rw [AT.tr_deep a 64 (by omega), decide_eq_false_iff_not] at hd
    exact ⟨a, rfl, ((AT.level_iff a).1 hl).1, ((AT.level_iff a).1 hl).2, (AT.tr_formed a).1 hfo, by omega⟩
  · rintro ⟨a, rfl, h1, h2, h3, h4⟩
    refine ⟨?_, AT.tr_full a, (AT.level_iff a).2 ⟨h1, h2⟩⟩
    have hd : deepT a.tr 64 = false := by rw [AT.tr_deep a 64 (by omega), decide_eq_false_iff_not]; omega
    unfold checkT
    rw [hd, (AT.tr_formed a).2 h3]
    rfl
/-- One tree at most is a tree of layer 4. -/
theorem AT.tr_inj : ∀ {a b : AT}, a.tr = b.tr → a = b
  | .nil, .nil, _ => rfl
  | .nil, .node l k v r, h => by simp [AT.tr] at h
  | .node l k v r, .nil, h => by simp [AT.tr] at h
  | .node l k v r, .node l' k' v' r', h => by
    simp only [AT.tr, Tr.mk.injEq, List.cons.injEq, and_true, true_and] at h
    rw [h.1, h.2.1, AT.tr_inj h.2.2.1, AT.tr_inj h.2.2.2]
end Go.Proofs.YtkfjhegehhahcaaDoor

/- The proof of a balanced tree for a span, as a function: its digest, its form, its nodes. No program is named here. -/
namespace Go.Proofs.YtkfjhegehhahcaaDoor
set_option linter.unusedVariables false

theorem dig_kids {k : Nat} {t : Tr} (h0 : t.k ≠ 0) (h3 : t.k ≠ 3) {p q z : List Int} (hv : valT k t = z) (hz : z.length = k) (h2 : t.kids.length = 2) (hx : digT k (t.kids[0]'(by omega)) = some p) (hy : digT k (t.kids[1]'(by omega)) = some q) :
    digT k t = some ((sumL (nodeL p ((sumL (pairL t.key z)).take k) q)).take k) := by
  rw [digT_node h0 h3 (by rw [hv]; exact hz) h2, hx, hy, hv]
theorem dig_two {k : Nat} (kd : Int) (key v d : List Int) (x y : Tr) (h0 : kd ≠ 0) (h3 : kd ≠ 3) {p q z : List Int} (hv : valT k (.mk kd key v d [x, y]) = z) (hz : z.length = k) (hx : digT k x = some p) (hy : digT k y = some q) :
    digT k (.mk kd key v d [x, y]) = some ((sumL (nodeL p ((sumL (pairL key z)).take k) q)).take k) :=
  dig_kids (t := .mk kd key v d [x, y]) h0 h3 hv hz rfl hx hy
/-- A tree's digest; no digest is asked for that there isn't. -/
def digA (k : Nat) (a : AT) : List Int := (digT k a.tr).getD []
theorem AT.digs {k : Nat} (hk : k ≤ 32) : ∀ a : AT, digT k a.tr = some (digA k a) := by
  have h : ∀ a : AT, ∃ zs, digT k a.tr = some zs := by
    intro a
    induction a with
    | nil => exact ⟨_, digT_0 rfl⟩
    | node l key v r ihl ihr =>
      obtain ⟨x, hx⟩ := ihl
      obtain ⟨y, hy⟩ := ihr
      exact ⟨_, dig_two 1 key v [] l.tr r.tr (by decide) (by decide) rfl (take_sum_len hk _) hx hy⟩
  intro a
  obtain ⟨zs, hz⟩ := h a
  unfold digA
  rw [hz]
  rfl
theorem digA_len {k : Nat} (hk : k ≤ 32) (a : AT) : (digA k a).length = k := digT_len hk (AT.digs hk a)
/-- A value's digest. -/
def dvL (k : Nat) (v : List Int) : List Int := (sumL (valL v)).take k
theorem dvL_len {k : Nat} (hk : k ≤ 32) (v : List Int) : (dvL k v).length = k := take_sum_len hk _
/-- A tree's digest alone. -/
def hideA (k : Nat) (a : AT) : Tr := if a.isNil then .mk 0 [] [] [] [] else .mk 3 [] [] (digA k a) []
/-- The proof. -/
def showA (k : Nat) (f t : List Int) (o : Bool) : AT → Tr
  | .nil => .mk 0 [] [] [] []
  | .node l key v r =>
    if inS f t o key then .mk 1 key v [] [showA k f t o l, showA k f t o r]
    else if ltL key f then .mk 2 key [] (dvL k v) [hideA k l, showA k f t o r]
    else .mk 2 key [] (dvL k v) [showA k f t o l, hideA k r]
theorem show_in {k : Nat} {f t : List Int} {o : Bool} {l : AT} {key v : List Int} {r : AT} (h : inS f t o key = true) : showA k f t o (.node l key v r) = .mk 1 key v [] [showA k f t o l, showA k f t o r] := by rw [showA, if_pos h]
theorem show_lt {k : Nat} {f t : List Int} {o : Bool} {l : AT} {key v : List Int} {r : AT} (h : inS f t o key = false) (h2 : ltL key f = true) : showA k f t o (.node l key v r) = .mk 2 key [] (dvL k v) [hideA k l, showA k f t o r] := by rw [showA, if_neg (by rw [h]; simp), if_pos h2]
theorem show_ge {k : Nat} {f t : List Int} {o : Bool} {l : AT} {key v : List Int} {r : AT} (h : inS f t o key = false) (h2 : ltL key f = false) : showA k f t o (.node l key v r) = .mk 2 key [] (dvL k v) [showA k f t o l, hideA k r] := by rw [showA, if_neg (by rw [h]; simp), if_neg (by rw [h2]; simp)]
/-- The three ways of a node. -/
theorem show_ways (k : Nat) (f t : List Int) (o : Bool) (l : AT) (key v : List Int) (r : AT) :
    (inS f t o key = true ∧ showA k f t o (.node l key v r) = .mk 1 key v [] [showA k f t o l, showA k f t o r]) ∨
    (inS f t o key = false ∧ ltL key f = true ∧ showA k f t o (.node l key v r) = .mk 2 key [] (dvL k v) [hideA k l, showA k f t o r]) ∨
    (inS f t o key = false ∧ ltL key f = false ∧ showA k f t o (.node l key v r) = .mk 2 key [] (dvL k v) [showA k f t o l, hideA k r]) := by
  cases h : inS f t o key with
  | true => exact .inl ⟨rfl, show_in h⟩
  | false =>
    right
    cases h2 : ltL key f with
    | true => exact .inl ⟨rfl, rfl, show_lt h h2⟩
    | false => exact .inr ⟨rfl, rfl, show_ge h h2⟩
theorem hide_dig {k : Nat} (hk : k ≤ 32) (a : AT) : digT k (hideA k a) = some (digA k a) := by
  unfold hideA
  cases h : a.isNil with
  | true =>
    have e := AT.isNil_eq h
    subst e
    exact AT.digs hk .nil
  | false =>
    have e : digT k (.mk 3 [] [] (digA k a) []) = if (digA k a).length = k then some (digA k a) else none := digT_3 rfl
    rw [if_neg (by simp), e, if_pos (digA_len hk a)]
theorem show_dig {k : Nat} (hk : k ≤ 32) (f t : List Int) (o : Bool) : ∀ a : AT, digT k (showA k f t o a) = some (digA k a) := by
  intro a
  induction a with
  | nil => exact AT.digs hk .nil
  | node l key v r ihl ihr =>
    have e : digT k (AT.node l key v r).tr = some ((sumL (nodeL (digA k l) ((sumL (pairL key (dvL k v))).take k) (digA k r))).take k) :=
      dig_two 1 key v [] l.tr r.tr (by decide) (by decide) rfl (dvL_len hk v) (AT.digs hk l) (AT.digs hk r)
    rw [AT.digs hk] at e
    rw [e]
    rcases show_ways k f t o l key v r with ⟨-, h⟩ | ⟨-, -, h⟩ | ⟨-, -, h⟩
    · rw [h]
      exact dig_two 1 key v [] _ _ (by decide) (by decide) rfl (dvL_len hk v) ihl ihr
    · rw [h]
      exact dig_two 2 key [] _ _ _ (by decide) (by decide) rfl (dvL_len hk v) (hide_dig hk l) ihr
    · rw [h]
      exact dig_two 2 key [] _ _ _ (by decide) (by decide) rfl (dvL_len hk v) ihl (hide_dig hk r)
theorem hide_formed {k : Nat} (a : AT) : formedT (hideA k a) = true := by
  unfold hideA
  split <;> (rw [formedT_eq]; rfl)
theorem formed_two {kd : Int} {key v d : List Int} {x y : Tr} (hp : partB (.mk kd key v d [x, y]) = true) (hx : formedT x = true) (hy : formedT y = true) : formedT (.mk kd key v d [x, y]) = true := by
  rw [formedT_eq, hp]
  show ([x, y].all formedT) = true
  simp [hx, hy]
theorem part_node {key v : List Int} {x y : Tr} (hk : key.length ≤ 80) (hv : v.length ≤ 1024) : partB (.mk 1 key v [] [x, y]) = true := by
  show (decide (key.length ≤ 80) && (decide (v.length ≤ 1024) && true)) = true
  simp [hk, hv]
theorem part_dark {key d : List Int} {x y : Tr} (hk : key.length ≤ 80) : partB (.mk 2 key [] d [x, y]) = true := by
  show (decide (key.length ≤ 80) && true) = true
  simp [hk]
theorem show_formed {k : Nat} (f t : List Int) (o : Bool) : ∀ a : AT, Lim a.pairs → formedT (showA k f t o a) = true := by
  intro a
  induction a with
  | nil => intro _; rw [formedT_eq]; rfl
  | node l key v r ihl ihr =>
    intro h
    have hk := h (key, v) (by simp [AT.pairs])
    have hl := ihl (fun p hp => h p (by simp [AT.pairs, hp]))
    have hr := ihr (fun p hp => h p (by simp [AT.pairs, hp]))
    rcases show_ways k f t o l key v r with ⟨-, e⟩ | ⟨-, -, e⟩ | ⟨-, -, e⟩
    · rw [e]
      exact formed_two (part_node hk.1 hk.2) hl hr
    · rw [e]
      exact formed_two (part_dark hk.1) (hide_formed l) hr
    · rw [e]
      exact formed_two (part_dark hk.1) hl (hide_formed r)
theorem hide_deep {k : Nat} (a : AT) (b : Int) : deepT (hideA k a) b = false := by
  unfold hideA
  split <;> (rw [deepT_eq]; rfl)
theorem deep_two {kd : Int} {key v d : List Int} {x y : Tr} {b : Int} (hb : 0 < b) (hx : deepT x (b - 1) = false) (hy : deepT y (b - 1) = false) : deepT (.mk kd key v d [x, y]) b = false := by
  rw [deepT_eq]
  have e : (b == 0) = false := by simp; omega
  rw [e, Bool.and_false, Bool.false_or]
  show ([x, y].any fun z => deepT z (b - 1)) = false
  simp [hx, hy]
theorem show_deep {k : Nat} (f t : List Int) (o : Bool) : ∀ (a : AT) (b : Int), (a.depth : Int) ≤ b → deepT (showA k f t o a) b = false := by
  intro a
  induction a with
  | nil => intro b _; rw [showA, deepT_eq]; rfl
  | node l key v r ihl ihr =>
    intro b hb
    have hd : (AT.node l key v r).depth = max l.depth r.depth + 1 := rfl
    have hl := ihl (b - 1) (by omega)
    have hr := ihr (b - 1) (by omega)
    rcases show_ways k f t o l key v r with ⟨-, e⟩ | ⟨-, -, e⟩ | ⟨-, -, e⟩
    · rw [e]
      exact deep_two (by omega) hl hr
    · rw [e]
      exact deep_two (by omega) (hide_deep l _) hr
    · rw [e]
      exact deep_two (by omega) hl (hide_deep r _)
theorem show_check {k : Nat} (f t : List Int) (o : Bool) {a : AT} (h : Lim a.pairs) (hd : a.depth ≤ 64) : checkT (showA k f t o a) = 0 := by
  unfold checkT
  rw [show_deep f t o a 64 (by omega), show_formed f t o a h]
  rfl
/-- The pairs that a partial tree tells. -/
def toldB (x : Tr) : Bool := x.k == 1
def toldT (t : Tr) : List KV := ((listT t).filter toldB).map fun x => (x.key, x.val)
theorem told_0 {t : Tr} (h : t.kids.length = 0) : toldT t = [] := by
  unfold toldT
  rw [listT_0 h]
  rfl
theorem told_kids {t x y : Tr} (h2 : t.kids.length = 2) (hx : t.kids[0]'(by omega) = x) (hy : t.kids[1]'(by omega) = y) : toldT t = toldT x ++ ((if t.k == 1 then [(t.key, t.val)] else []) ++ toldT y) := by
  unfold toldT
  rw [listT_2 h2, hx, hy, List.filter_append, List.map_append, List.filter_cons]
  have e2 : toldB t = (t.k == 1) := rfl
  rw [e2]
  cases (t.k == 1) <;> rfl
theorem told_two (kd : Int) (key v d : List Int) (x y : Tr) : toldT (.mk kd key v d [x, y]) = toldT x ++ ((if kd == 1 then [(key, v)] else []) ++ toldT y) :=
  told_kids (t := .mk kd key v d [x, y]) rfl rfl rfl
theorem hide_told {k : Nat} (a : AT) : toldT (hideA k a) = [] := by
  unfold hideA
  split <;> exact told_0 rfl
theorem in_above {f t key x : List Int} {o : Bool} (h : inS f t o key = false) (h2 : ltL key f = false) (hx : ltL key x = true) : inS f t o x = false := by
  unfold inS at h ⊢
  rw [h2, Bool.not_false, Bool.true_and, Bool.or_eq_false_iff] at h
  rw [h.1, Bool.false_or, Bool.and_eq_false_iff]
  right
  cases q : ltL x t with
  | false => rfl
  | true => rw [ltL_trans hx q] at h; cases h.2
theorem in_below {f t key x : List Int} {o : Bool} (h2 : ltL key f = true) (hx : ltL x key = true) : inS f t o x = false := by
  unfold inS
  rw [ltL_trans hx h2]
  rfl
theorem show_told {k : Nat} (f t : List Int) (o : Bool) : ∀ a : AT, Rise a.pairs → toldT (showA k f t o a) = a.pairs.filter (fun p => inS f t o p.1) := by
  intro a
  induction a with
  | nil => intro _; exact told_0 rfl
  | node l key v r ihl ihr =>
    intro h
    obtain ⟨h1, h2, h3, h4⟩ := Rise.app h
    have ep : (AT.node l key v r).pairs = l.pairs ++ ((key, v) :: r.pairs) := rfl
    rw [ep, List.filter_append, List.filter_cons]
    rcases show_ways k f t o l key v r with ⟨q1, e⟩ | ⟨q1, q2, e⟩ | ⟨q1, q2, e⟩
    · rw [e, told_two, ihl h1, ihr h2, q1]
      rfl
    · have hn : l.pairs.filter (fun p => inS f t o p.1) = [] := filter_no fun p hp => in_below q2 (h3 p hp)
      rw [e, told_two, ihr h2, hide_told, q1, hn]
      rfl
    · have hn : r.pairs.filter (fun p => inS f t o p.1) = [] := filter_no fun p hp => in_above q1 q2 (h4 p hp)
      rw [e, told_two, ihl h1, hide_told, q1, hn]
      rfl
theorem hide_count {k : Nat} (a : AT) : countT (hideA k a) = 1 := by
  unfold hideA
  split <;> (rw [countT_eq]; rfl)
theorem count_pair {kd : Int} {key v d : List Int} {x y : Tr} : countT (.mk kd key v d [x, y]) = 1 + (countT x + countT y) := by
  rw [countT_eq]
  show 1 + ([x, y].map countT).sum = _
  simp
theorem AT.count1 (a : AT) : 1 ≤ countT a.tr := by
  rw [countT_eq]
  omega
theorem show_count {k : Nat} (f t : List Int) (o : Bool) : ∀ a : AT, countT (showA k f t o a) ≤ countT a.tr := by
  intro a
  induction a with
  | nil => exact Nat.le_refl _
  | node l key v r ihl ihr =>
    have h1 := l.count1
    have h2 := r.count1
    have e2 : countT (AT.node l key v r).tr = 1 + (countT l.tr + countT r.tr) := count_pair
    rcases show_ways k f t o l key v r with ⟨q1, e⟩ | ⟨q1, q2, e⟩ | ⟨q1, q2, e⟩
    · rw [e, e2, count_pair]
      omega
    · rw [e, e2, count_pair, hide_count]
      omega
    · rw [e, e2, count_pair, hide_count]
      omega
theorem light_two {kd : Int} {key v d : List Int} {x y : Tr} (hk : key.length ≤ 3000) (hv : v.length ≤ 3000) (hd : d.length ≤ 3000) (hx : LightOK x) (hy : LightOK y) : LightOK (.mk kd key v d [x, y]) :=
  .mk _ hk hv hd (by show 2 ≤ 500; omega) (fun i hi => by
    have hi2 : i < 2 := hi
    rcases (by omega : i = 0 ∨ i = 1) with rfl | rfl
    · exact hx
    · exact hy)
theorem light_none {kd : Int} {key v d : List Int} (hk : key.length ≤ 3000) (hv : v.length ≤ 3000) (hd : d.length ≤ 3000) : LightOK (.mk kd key v d []) :=
  .mk _ hk hv hd (by show 0 ≤ 500; omega) (fun i hi => by
    have hi2 : i < 0 := hi
    omega)
theorem hide_light {k : Nat} (hk : k ≤ 32) (a : AT) : LightOK (hideA k a) := by
  unfold hideA
  split
  · exact light_none (Nat.zero_le _) (Nat.zero_le _) (Nat.zero_le _)
  · exact light_none (Nat.zero_le _) (Nat.zero_le _) (by rw [digA_len hk]; omega)
theorem show_light {k : Nat} (hk : k ≤ 32) (f t : List Int) (o : Bool) : ∀ a : AT, Lim a.pairs → LightOK (showA k f t o a) := by
  intro a
  induction a with
  | nil => intro _; exact light_none (Nat.zero_le _) (Nat.zero_le _) (Nat.zero_le _)
  | node l key v r ihl ihr =>
    intro h
    have hkv := h (key, v) (by simp [AT.pairs])
    have h1 : key.length ≤ 3000 := Nat.le_trans hkv.1 (by omega)
    have h2 : v.length ≤ 3000 := Nat.le_trans hkv.2 (by omega)
    have hl := ihl (fun p hp => h p (by simp [AT.pairs, hp]))
    have hr := ihr (fun p hp => h p (by simp [AT.pairs, hp]))
    rcases show_ways k f t o l key v r with ⟨q1, e⟩ | ⟨q1, q2, e⟩ | ⟨q1, q2, e⟩
    · rw [e]
      exact light_two h1 h2 (Nat.zero_le _) hl hr
    · rw [e]
      exact light_two h1 (Nat.zero_le _) (by rw [dvL_len hk]; omega) (hide_light hk l) hr
    · rw [e]
      exact light_two h1 (Nat.zero_le _) (by rw [dvL_len hk]; omega) hl (hide_light hk r)
end Go.Proofs.YtkfjhegehhahcaaDoor

/- The empty tree. No program is named here. -/
namespace Go.Proofs.YtkfjhegehhahcaaDoor
open Go.RowKit
set_option linter.unusedVariables false

/-- The empty tree, and its head. -/
def tNil : Tr := .mk 0 [] [] [] []
def hNil : TH := ⟨0, none, 0, 0, none, 0, 0, none, 0, 0, none, 0, 0⟩
theorem in_nil (w : World) : InBytes w none 0 0 [] := ⟨rfl, (fun z hz => by cases hz), Nat.le_refl _, by simp [maxLen], fun _ => rfl, fun h => by omega⟩
theorem inTree_nil (w : World) : InTree w hNil tNil :=
  .mk hNil tNil (fun _ => hNil) rfl (by decide) (by decide) (in_nil w) (in_nil w) (in_nil w) ⟨Nat.le_refl _, by simp [maxLen, hNil], fun _ => rfl, fun h => absurd h (by decide)⟩ rfl (fun i hi => absurd hi (by simp [tNil, Tr.kids]))
end Go.Proofs.YtkfjhegehhahcaaDoor

/- Rows of one's own, of unlike types. -/
namespace Go.Proofs.YtkfjhegehhahcaaDoor
open Go.RowKit
set_option linter.unusedVariables false

/-- Rows of unlike types lie in unlike blocks. -/
theorem own_type {w : World} {base size n g : Nat} {e ty : TypeId} {v : Value} {xs : List Value} {cs : Array Value} {fr : Nat × Nat} (h : w.ownsRow base e size v n xs) (hg : v.ownBlock = some g) (hh : w.heap[g]? = some (.cells cs ty fr)) : ty = e := by
  rcases h.2 with ⟨rfl, _⟩ | ⟨g', c, cur, rfl, _, hq, _⟩
  · cases hg
  · have e1 : g' = g := Option.some.inj hg
    subst e1
    rw [hq] at hh
    injection hh with hh
    injection hh with _ hh
    exact hh.symm
theorem own_apart {w : World} {base base' size size' n n' : Nat} {e e' : TypeId} {v v' : Value} {xs xs' : List Value} (h : w.ownsRow base e size v n xs) (h' : w.ownsRow base' e' size' v' n' xs') (hne : e ≠ e') : v.ownBlock = none ∨ v.ownBlock ≠ v'.ownBlock := by
  rcases h.2 with ⟨rfl, _⟩ | ⟨g, c, cur, rfl, _, hq, _⟩
  · exact .inl rfl
  · right
    intro q
    exact hne (own_type h' q.symm hq)
theorem own_weak {w : World} {base base' size n : Nat} {e : TypeId} {v : Value} {xs : List Value} (h : w.ownsRow base e size v n xs) (hb : base' ≤ base) : w.ownsRow base' e size v n xs := by
  rcases h.2 with q | ⟨g, c, cur, q1, q2, q3⟩
  · exact ⟨h.1, .inl q⟩
  · exact ⟨h.1, .inr ⟨g, c, cur, q1, Nat.le_trans hb q2, q3⟩⟩
theorem own_in {w : World} {base n : Nat} {t : TypeId} {a : Option Addr} {m c : Nat} {zs : List Int} (h : w.ownsRow base t 1 (.slice a m c) n (zs.map (Value.int .u8))) (hb : Bytes8 zs) : InBytes w a m c zs := by
  obtain ⟨a', c', e, hi⟩ := own_any h hb
  injection e with e1 e2 e3
  subst e1 e2 e3
  exact hi
end Go.Proofs.YtkfjhegehhahcaaDoor

/- Trees that lie in new blocks alone; what the program's proofs tell, as their contracts say it. -/
namespace Go.Proofs.YtkfjhegehhahcaaDoor
open Go.RowKit
set_option linter.unusedVariables false

/-- A tree in the blocks from lo up to hi, and nowhere else. -/
def FreshT (lo hi : Nat) (w : World) (h : TH) (c : Tr) : Prop := ∀ W : World, hi ≤ W.heap.size → (∀ j, lo ≤ j → j < hi → W.heap[j]? = w.heap[j]?) → InTree W h c
section
variable {lo hi : Nat} {w w' : World} {h : TH} {c : Tr}
theorem FreshT.self (f : FreshT lo hi w h c) (hs : hi ≤ w.heap.size) : InTree w h c := f w hs fun _ _ _ => rfl
theorem FreshT.below (f : FreshT lo hi w h c) (hb : Below w.heap.size w w') (hs : hi ≤ w.heap.size) : FreshT lo hi w' h c := fun W h1 h2 => f W h1 fun j hl hh => (h2 j hl hh).trans (hb.block j (by omega))
theorem FreshT.wide {lo' hi' : Nat} (f : FreshT lo hi w h c) (h1 : lo' ≤ lo) (h2 : hi ≤ hi') : FreshT lo' hi' w h c := fun W q1 q2 => f W (Nat.le_trans h2 q1) fun j hl hh => q2 j (by omega) (by omega)
theorem FreshT.agree (f : FreshT lo hi w h c) (h1 : ∀ j, lo ≤ j → j < hi → w'.heap[j]? = w.heap[j]?) : FreshT lo hi w' h c := fun W q1 q2 => f W q1 fun j hl hh => (q2 j hl hh).trans (h1 j hl hh)
end
/-- Prove's proof. -/
def ProveOk (w : World) (c : Tr) (e : Ending) (w' : World) : Prop := ∃ h', e = .returned (.tuple #[h'.v, .nilIface]) ∧ FreshT w.heap.size w'.heap.size w' h' c ∧ Below w.heap.size w w'
/-- Prove's error: no tree, and a code. -/
def ProveErr (w : World) (n : Nat) (e : Ending) (w' : World) : Prop := ∃ h', e = .returned (.tuple #[h'.v, codeV n]) ∧ InTree w' h' tNil ∧ Below w.heap.size w w'
end Go.Proofs.YtkfjhegehhahcaaDoor

/- Boxes of trees that are written; a tree of two that were made; appends of bytes at a step. No program is named here. -/
namespace Go.Proofs.YtkfjhegehhahcaaDoor
open Go.RowKit
set_option linter.unusedVariables false

/-- A tree is stored into a box, at a step. -/
theorem wp_store_box {P : Program} {o : Oper} {a : Act} {w : World} {K : Act → World → Prop} {Q : Exit → Act → World → Prop} (ty : TypeId) (x y : Operand) (ho : o.op = .store ty x y)
    (g : Nat) (old new : TH) (hx : a.eval x = .pointer (some ⟨g, 0, none⟩)) (hy : a.eval y = new.v) (t : TypeId) (hr : Box w t g old) (hi : (P.info? ty).map (·.size) = some 5)
    (h : ∀ w', Box w' t g new → w.grownBy w' (some g) → K (a.put o.dst undef) w') : o.wp P a w K Q := by
  refine wp_store_row ty x y ho g _ hx hy t _ hr hi rfl (by simp [Value.oneCell']) ?_
  exact h _ (setRow_heap w g _ _ t _ hr) ⟨rfl, rfl, rfl, by simp, fun j hj hne => setRow_other w g j _ (fun e => hne (by rw [e]))⟩
theorem wpList_store_box {P : Program} {ops : Array Oper} {rest : List Oper} {o : Oper} {a : Act} {w : World} {Q : Exit → Act → World → Prop} (hgd : o.guard = none) (ty : TypeId) (x y : Operand) (ho : o.op = .store ty x y)
    (g : Nat) (old new : TH) (hx : a.eval x = .pointer (some ⟨g, 0, none⟩)) (hy : a.eval y = new.v) (t : TypeId) (hr : Box w t g old) (hi : (P.info? ty).map (·.size) = some 5)
    (h : ∀ w', Box w' t g new → w.grownBy w' (some g) → wpList P ops Q rest (a.put o.dst undef) w') : wpList P ops Q (o :: rest) a w :=
  wpList_plain hgd fun _ hK => wp_store_box ty x y ho g old new hx hy t hr hi fun w' h1 h2 => hK _ _ (h w' h1 h2)
theorem step_store_box {P : Program} {ops : Array Oper} {o : Oper} {a : Act} {w : World} {K : Act → World → Prop} {Q : Exit → Act → World → Prop} {E : Prop} (hgd : o.guard = none) (ty : TypeId) (x y : Operand) (ho : o.op = .store ty x y)
    (g : Nat) (old new : TH) (hx : a.eval x = .pointer (some ⟨g, 0, none⟩)) (hy : a.eval y = new.v) (t : TypeId) (hr : Box w t g old) (hi : (P.info? ty).map (·.size) = some 5)
    (h : ∀ w', Box w' t g new → w.grownBy w' (some g) → K (a.put o.dst undef) w') : if Region.wanted o (yielded ops a.tmps) = true then Oper.wp P o a w K Q else E := by
  have hw : Region.wanted o (yielded ops a.tmps) = true := by simp [Region.wanted, hgd]
  rw [if_pos hw]
  exact wp_store_box ty x y ho g old new hx hy t hr hi h
theorem Box.grown {w w' : World} {ty : TypeId} {g : Nat} {h : TH} {row : Option Nat} (hx : Box w ty g h) (hg : w.grownBy w' row) (hne : some g ≠ row) : Box w' ty g h := (hg.block g hx.lt hne).trans hx
theorem Box.result {P : Program} {fn : Func} {p q : Tmp} {ty : TypeId} (hr : fn.results = #[.cell p ty, .tmp q]) (tmps : Array Value) {w : World} {g : Nat} {t : TypeId} {h : TH} {fs : Array Field} (hx : Box w t g h)
    (hp : tmps.getD p undef = .pointer (some ⟨g, 0, none⟩)) (hu : P.underlying ty = some (.struct fs)) (hi : (P.info? ty).map (·.size) = some 5) :
    (results fn tmps).run P w = .ok (.tuple #[h.v, tmps.getD q undef]) w := results_cell_tmp hr tmps w g t _ _ _ hp hx hu rfl hi

/-- Block g holds two trees' cells. -/
def Two5 (w : World) (ty : TypeId) (g : Nat) (h1 h2 : TH) : Prop := w.heap[g]? = some (.cells #[.int .i64 h1.k, .slice h1.ka h1.kn h1.kc, .slice h1.va h1.vn h1.vc, .slice h1.da h1.dn h1.dc, .slice h1.ta h1.tn h1.tc, .int .i64 h2.k, .slice h2.ka h2.kn h2.kc, .slice h2.va h2.vn h2.vc, .slice h2.da h2.dn h2.dc, .slice h2.ta h2.tn h2.tc] ty (0, 0))
theorem Two5.new (w : World) (ty : TypeId) (h1 h2 : TH) : Two5 (w.alloc (.cells #[.int .i64 h1.k, .slice h1.ka h1.kn h1.kc, .slice h1.va h1.vn h1.vc, .slice h1.da h1.dn h1.dc, .slice h1.ta h1.tn h1.tc, .int .i64 h2.k, .slice h2.ka h2.kn h2.kc, .slice h2.va h2.vn h2.vc, .slice h2.da h2.dn h2.dc, .slice h2.ta h2.tn h2.tc] ty)) ty w.heap.size h1 h2 := heap_alloc_new w _
theorem Two5.lt {w : World} {ty : TypeId} {g : Nat} {h1 h2 : TH} (hx : Two5 w ty g h1 h2) : g < w.heap.size := by
  rcases Nat.lt_or_ge g w.heap.size with hlt | hge
  · exact hlt
  · unfold Two5 at hx; rw [Array.getElem?_eq_none hge] at hx; cases hx
theorem Two5.below {w w' : World} {ty : TypeId} {g B : Nat} {h1 h2 : TH} (hx : Two5 w ty g h1 h2) (hb : Below B w w') (hg : g < B) : Two5 w' ty g h1 h2 := (hb.block g hg).trans hx
/-- A tree of two kids that lie side by side. -/
theorem inTree_pair {w : World} {ty : TypeId} {g : Nat} {h1 h2 : TH} {c1 c2 : Tr} (hx : Two5 w ty g h1 h2) (i1 : InTree w h1 c1) (i2 : InTree w h2 c2) {k : Int} (hk1 : -9223372036854775808 ≤ k) (hk2 : k ≤ 9223372036854775807)
    {ka va da : Option Addr} {kn kc vn vc dn dc : Nat} {key val dig : List Int} (hkey : InBytes w ka kn kc key) (hval : InBytes w va vn vc val) (hdig : InBytes w da dn dc dig) :
    InTree w ⟨k, ka, kn, kc, va, vn, vc, da, dn, dc, some ⟨g, 0, none⟩, 2, 2⟩ (.mk k key val dig [c1, c2]) := by
  refine .mk _ _ (fun i => if i = 0 then h1 else h2) rfl hk1 hk2 hkey hval hdig ⟨Nat.le_refl _, by simp [maxLen], (fun h => by cases h), fun _ => ⟨g, 0, rfl, hx.lt, fun i hi => ?_⟩⟩ rfl (fun i hi => ?_)
  · have hi' : i < 10 := hi
    rw [Nat.zero_add, cell_of_row w g i _ _ (0, 0) hx]
    rcases (by omega : i = 0 ∨ i = 1 ∨ i = 2 ∨ i = 3 ∨ i = 4 ∨ i = 5 ∨ i = 6 ∨ i = 7 ∨ i = 8 ∨ i = 9) with rfl | rfl | rfl | rfl | rfl | rfl | rfl | rfl | rfl | rfl <;> rfl
  · have hi' : i < 2 := hi
    rcases (by omega : i = 0 ∨ i = 1) with rfl | rfl
    · exact i1
    · exact i2
theorem InBytes.agree {w w' : World} {a : Option Addr} {n c : Nat} {zs : List Int} (h : InBytes w a n c zs) (hs : w.heap.size ≤ w'.heap.size) (ha : ∀ ad, a = some ad → w'.heap[ad.block]? = w.heap[ad.block]?) : InBytes w' a n c zs :=
  ⟨h.len, h.bytes, h.le, h.max, h.nil, fun h0 => by
    obtain ⟨g, off, e, hlt, hc⟩ := h.place h0
    exact ⟨g, off, e, Nat.lt_of_lt_of_le hlt hs, hc.keep fun o => World.cell?_of_block (a := ⟨g, o, none⟩) (ha ⟨g, off, none⟩ e)⟩⟩
/-- The tree c lies below the world wb, and in the blocks from lo on that lie below hi, as they are in w. -/
def From (wb : World) (lo hi : Nat) (w : World) (h : TH) (c : Tr) : Prop := ∀ W : World, Below wb.heap.size wb W → hi ≤ W.heap.size → (∀ j, lo ≤ j → j < hi → W.heap[j]? = w.heap[j]?) → InTree W h c
theorem From.self {wb w : World} {lo hi : Nat} {h : TH} {c : Tr} (f : From wb lo hi w h c) (hb : Below wb.heap.size wb w) (hs : hi ≤ w.heap.size) : InTree w h c := f w hb hs fun _ _ _ => rfl
theorem From.below {wb w w' : World} {lo hi : Nat} {h : TH} {c : Tr} (f : From wb lo hi w h c) (hb : Below w.heap.size w w') (hs : hi ≤ w.heap.size) : From wb lo hi w' h c := fun W h1 h2 h3 => f W h1 h2 fun j hl hh => (h3 j hl hh).trans (hb.block j (by omega))
theorem From.grown {wb w w' : World} {lo hi g : Nat} {h : TH} {c : Tr} (f : From wb lo hi w h c) (hg : w.grownBy w' (some g)) (hs : hi ≤ w.heap.size) (hn : g < lo ∨ hi ≤ g) : From wb lo hi w' h c := fun W h1 h2 h3 => f W h1 h2 fun j hl hh => (h3 j hl hh).trans (hg.block j (by omega) (fun q => by injection q; omega))
theorem From.wide {wb w : World} {lo hi lo' hi' : Nat} {h : TH} {c : Tr} (f : From wb lo hi w h c) (h1 : lo' ≤ lo) (h2 : hi ≤ hi') : From wb lo' hi' w h c := fun W q1 q2 q3 => f W q1 (Nat.le_trans h2 q2) fun j hl hh => q3 j (by omega) (by omega)
theorem From.of_in {wb w : World} {lo hi : Nat} {h : TH} {c : Tr} (hi' : InTree wb h c) : From wb lo hi w h c := fun W h1 _ _ => hi'.lower h1
/-- append(s, bs...) to a row of bytes of one's own, at a step. -/
theorem step_append_bytes {P : Program} (w : World) {ops : Array Oper} {o : Oper} {a : Act} {K : Act → World → Prop} {Q : Exit → Act → World → Prop} {E : Prop} (hgd : o.guard = none) (s x : Operand) (t : TypeId)
    (ho : o.op = .call { callee := .builtin .append, args := #[s, x], argTypes := #[t, t] })
    (base : Nat) (e : TypeId) (i : TypeInfo) (z : Value) (bytes : Nat) (ht : P.underlying t = some (.slice e)) (hi : P.info? e = some i) (hz : i.zero = some z)
    (hsize : i.size = 1) (hby : i.bytes = bytes) (hzs : z.cells.size = 1)
    (g0 n c0 : Nat) (xs : List Value) (hs : a.eval s = .slice (some ⟨g0, 0, none⟩) n c0) (hown : w.ownsRow base e 1 (.slice (some ⟨g0, 0, none⟩) n c0) n xs)
    (ad : Option Addr) (k cap : Nat) (r : List Int) (hx : a.eval x = .slice ad k cap) (hin : InBytes w ad k cap r)
    (h63 : n + k ≤ maxLen) (hbytes : (n + k) * bytes ≤ 140737488355328) (hbase : base ≤ w.heap.size)
    (h : ∀ g c w', w'.ownsRow base e 1 (.slice (some ⟨g, 0, none⟩) (n + k) c) (n + k) (xs ++ r.map (Value.int .u8)) → w.grownBy w' (some g0) → K (a.put o.dst (.slice (some ⟨g, 0, none⟩) (n + k) c)) w') :
    if Region.wanted o (yielded ops a.tmps) = true then Oper.wp P o a w K Q else E := by
  have hw : Region.wanted o (yielded ops a.tmps) = true := by simp [Region.wanted, hgd]
  rw [if_pos hw]
  have hlen := hin.len
  cases ad with
  | none =>
    have hc := hin.nil rfl
    have hk : k = 0 := by have := hin.le; omega
    subst hc
    subst hk
    have hr : r = [] := List.eq_nil_of_length_eq_zero hlen
    subst hr
    have hrun := run_append_owned_none (P := P) (w := w) base t o.type e i 1 ht hi _ n xs hown
    unfold Oper.wp execOp
    simp only [ho, resolve, invoke, builtin, Sem.run_bind, Sem.run_pure, Result.andThen_ok, List.map_toArray, List.map_cons, List.map_nil, hs, hx, hrun]
    exact h g0 c0 w (by simpa using hown) (only_refl w _)
  | some ad =>
    refine wp_append_own w s x t ho base e i z 1 bytes ht hi hz hsize hby hzs (by omega) _ n xs hs hown ad k cap (r.map (Value.int .u8)) hx (by simp [hlen]) hin.news (by simp [Value.oneCell']) h63 hbytes hbase ?_
    intro v' w' h1 h2 h3
    obtain ⟨g, c, rfl⟩ := own_form h1 (fun q => by have := (h3.1 q).1; cases this)
    exact h g c w' h1 h2
end Go.Proofs.YtkfjhegehhahcaaDoor

/- A full tree does not lie in a box: what is written there leaves it as it is. No program is named here. -/
namespace Go.Proofs.YtkfjhegehhahcaaDoor
open Go.RowKit
set_option linter.unusedVariables false

theorem box_bytes' {W : World} {ty : TypeId} {g off : Nat} {hh : TH} {zs : List Int} (hb : Box W ty g hh) (hs : Seg .u8 W g off zs) (h0 : 0 < zs.length) : False := by
  have h1 := hs 0 h0
  rw [cell_of_row W g (off + 0) _ _ (0, 0) hb] at h1
  rcases (by omega : off = 0 ∨ off = 1 ∨ off = 2 ∨ off = 3 ∨ off = 4 ∨ 5 ≤ off) with rfl | rfl | rfl | rfl | rfl | h5
  · simp at h1
  · simp at h1
  · simp at h1
  · simp at h1
  · simp at h1
  · rw [Array.getElem?_eq_none (by simp; omega)] at h1
    cases h1
theorem InBytes.outBox {W W' : World} {ty : TypeId} {g : Nat} {hh : TH} {a : Option Addr} {n c : Nat} {zs : List Int} (h : InBytes W a n c zs) (hb : Box W ty g hh) (hg : W.grownBy W' (some g)) : InBytes W' a n c zs :=
  ⟨h.len, h.bytes, h.le, h.max, h.nil, fun h0 => by
    obtain ⟨g', off, e, hlt, hc⟩ := h.place h0
    have hne : some g' ≠ some g := fun q => by
      injection q with q
      subst q
      exact box_bytes' hb hc (by rw [h.len]; exact h0)
    exact ⟨g', off, e, Nat.lt_of_lt_of_le hlt hg.size, hc.keep fun o => World.cell?_of_block (a := ⟨g', o, none⟩) (hg.block g' hlt hne)⟩⟩
theorem AT.outBox {W W' : World} {ty : TypeId} {g : Nat} {hh : TH} (hb : Box W ty g hh) (hg : W.grownBy W' (some g)) : ∀ (a : AT) (h : TH), InTree W h a.tr → InTree W' h a.tr := by
  intro a
  induction a with
  | nil =>
    intro h ht
    obtain ⟨H, hp⟩ := ht.parts
    have h0 : h.tn = 0 := hp.len.symm
    exact .mk h _ H hp.hk hp.hk1 hp.hk2 (hp.key.outBox hb hg) (hp.val.outBox hb hg) (hp.dig.outBox hb hg) ⟨hp.sl.le, hp.sl.max, hp.sl.nil, fun q => by omega⟩ hp.len (fun i hi => absurd hi (Nat.not_lt_zero i))
  | node l k v r ihl ihr =>
    intro h ht
    obtain ⟨H, hp⟩ := ht.parts
    have h2 : h.tn = 2 := hp.len.symm
    refine .mk h _ H hp.hk hp.hk1 hp.hk2 (hp.key.outBox hb hg) (hp.val.outBox hb hg) (hp.dig.outBox hb hg) ⟨hp.sl.le, hp.sl.max, hp.sl.nil, fun q => ?_⟩ hp.len (fun i hi => ?_)
    · obtain ⟨g', off, e, hlt, hc⟩ := hp.sl.place q
      have hne : some g' ≠ some g := fun q => by
        injection q with q
        subst q
        have h9 := hc 9 (by omega)
        rw [cell_of_row W g' (off + 9) _ _ (0, 0) hb, Array.getElem?_eq_none (by simp)] at h9
        cases h9
      exact ⟨g', off, e, Nat.lt_of_lt_of_le hlt hg.size, fun i hi => (World.cell?_of_block (a := ⟨g', off + i, none⟩) (hg.block g' hlt hne)).trans (hc i hi)⟩
    · have hi' : i < 2 := hi
      rcases (by omega : i = 0 ∨ i = 1) with rfl | rfl
      · exact ihl _ (hp.kids 0 hi)
      · exact ihr _ (hp.kids 1 hi)
/-- A node of two trees that lie side by side. -/
theorem AT.inNode {w : World} {ty : TypeId} {g : Nat} {h1 h2 : TH} {a b : AT} (hx : Two5 w ty g h1 h2) (i1 : InTree w h1 a.tr) (i2 : InTree w h2 b.tr) {ka va : Option Addr} {kn kc vn vc : Nat} {key val : List Int} (hkey : InBytes w ka kn kc key) (hval : InBytes w va vn vc val) :
    InTree w ⟨1, ka, kn, kc, va, vn, vc, none, 0, 0, some ⟨g, 0, none⟩, 2, 2⟩ (AT.node a key val b).tr :=
  inTree_pair hx i1 i2 (by omega) (by omega) hkey hval (none_in w)
end Go.Proofs.YtkfjhegehhahcaaDoor

/- A partial tree does not lie in a box; leaves. No program is named here. -/
namespace Go.Proofs.YtkfjhegehhahcaaDoor
open Go.RowKit
set_option linter.unusedVariables false

theorem InTree.outBox {W W' : World} {ty : TypeId} {g : Nat} {hh : TH} (hb : Box W ty g hh) (hg : W.grownBy W' (some g)) : ∀ (t : Tr) (h : TH), formedT t = true → InTree W h t → InTree W' h t := by
  intro t
  induction t using Tr.ind with
  | h t ih =>
  intro h hf ht
  obtain ⟨hp, hk⟩ := formed_kids hf
  obtain ⟨H, hp2⟩ := ht.parts
  have hl := hp2.len
  refine .mk h _ H hp2.hk hp2.hk1 hp2.hk2 (hp2.key.outBox hb hg) (hp2.val.outBox hb hg) (hp2.dig.outBox hb hg) ⟨hp2.sl.le, hp2.sl.max, hp2.sl.nil, fun q => ?_⟩ hp2.len (fun i hi => ih _ (List.getElem_mem hi) (H i) (hk i hi) (hp2.kids i hi))
  rcases part_kids hp with ⟨h0, _⟩ | ⟨h2, _⟩
  · omega
  · obtain ⟨g', off, e, hlt, hc⟩ := hp2.sl.place q
    have hne : some g' ≠ some g := fun q => by
      injection q with q
      subst q
      have h9 := hc 9 (by omega)
      rw [cell_of_row W g' (off + 9) _ _ (0, 0) hb, Array.getElem?_eq_none (by simp)] at h9
      cases h9
    exact ⟨g', off, e, Nat.lt_of_lt_of_le hlt hg.size, fun i hi => (World.cell?_of_block (a := ⟨g', off + i, none⟩) (hg.block g' hlt hne)).trans (hc i hi)⟩
/-- A part that its digest alone tells. -/
theorem inTree_leaf {w : World} {k : Int} (hk1 : -9223372036854775808 ≤ k) (hk2 : k ≤ 9223372036854775807) {da : Option Addr} {dn dc : Nat} {dig : List Int} (h : InBytes w da dn dc dig) : InTree w ⟨k, none, 0, 0, none, 0, 0, da, dn, dc, none, 0, 0⟩ (.mk k [] [] dig []) :=
  .mk _ _ (fun _ => hNil) rfl hk1 hk2 (none_in w) (none_in w) h ⟨Nat.le_refl _, by simp [maxLen], fun _ => rfl, fun h => absurd h (by simp)⟩ rfl (fun i hi => absurd hi (by simp [Tr.kids]))
end Go.Proofs.YtkfjhegehhahcaaDoor

/- Bytes, leaves and nodes that lie in new blocks alone. No program is named here. -/
namespace Go.Proofs.YtkfjhegehhahcaaDoor
open Go.RowKit
set_option linter.unusedVariables false

/-- Bytes in the blocks from lo up to hi, and nowhere else. -/
def FreshB (lo hi : Nat) (w : World) (a : Option Addr) (n c : Nat) (zs : List Int) : Prop := ∀ W : World, hi ≤ W.heap.size → (∀ j, lo ≤ j → j < hi → W.heap[j]? = w.heap[j]?) → InBytes W a n c zs
theorem FreshB.of {lo hi : Nat} {w : World} {a : Option Addr} {n c : Nat} {zs : List Int} (h : InBytes w a n c zs) (hp : ∀ y, a = some y → lo ≤ y.block ∧ y.block < hi) : FreshB lo hi w a n c zs := fun W h1 h2 =>
  ⟨h.len, h.bytes, h.le, h.max, h.nil, fun h0 => by
    obtain ⟨g, off, e, hlt, hc⟩ := h.place h0
    have q := hp _ e
    exact ⟨g, off, e, Nat.lt_of_lt_of_le q.2 h1, hc.keep fun o => World.cell?_of_block (a := ⟨g, o, none⟩) (h2 g q.1 q.2)⟩⟩
theorem FreshB.none (lo hi : Nat) (w : World) : FreshB lo hi w none 0 0 [] := fun W _ _ => none_in W
section
variable {lo hi lo' hi' : Nat} {w w' : World} {a : Option Addr} {n c : Nat} {zs : List Int}
theorem FreshB.below (f : FreshB lo hi w a n c zs) (hb : Below w.heap.size w w') (hs : hi ≤ w.heap.size) : FreshB lo hi w' a n c zs := fun W h1 h2 => f W h1 fun j hl hh => (h2 j hl hh).trans (hb.block j (by omega))
theorem FreshB.wide (f : FreshB lo hi w a n c zs) (h1 : lo' ≤ lo) (h2 : hi ≤ hi') : FreshB lo' hi' w a n c zs := fun W q1 q2 => f W (Nat.le_trans h2 q1) fun j hl hh => q2 j (by omega) (by omega)
theorem FreshB.agree (f : FreshB lo hi w a n c zs) (h1 : ∀ j, lo ≤ j → j < hi → w'.heap[j]? = w.heap[j]?) : FreshB lo hi w' a n c zs := fun W q1 q2 => f W q1 fun j hl hh => (q2 j hl hh).trans (h1 j hl hh)
/-- One block was written, that lies elsewhere. -/
theorem FreshB.grown {g : Nat} (f : FreshB lo hi w a n c zs) (hg : w.grownBy w' (some g)) (hs : hi ≤ w.heap.size) (hn : g < lo ∨ hi ≤ g) : FreshB lo hi w' a n c zs := f.agree fun j hl hh => hg.block j (by omega) (fun q => by injection q; omega)
theorem FreshT.grown {g : Nat} {h : TH} {t : Tr} (f : FreshT lo hi w h t) (hg : w.grownBy w' (some g)) (hs : hi ≤ w.heap.size) (hn : g < lo ∨ hi ≤ g) : FreshT lo hi w' h t := f.agree fun j hl hh => hg.block j (by omega) (fun q => by injection q; omega)
end
theorem FreshT.nil (lo hi : Nat) (w : World) : FreshT lo hi w hNil tNil := fun W _ _ => inTree_nil W
theorem FreshT.leaf {lo hi : Nat} {w : World} {k : Int} (hk1 : -9223372036854775808 ≤ k) (hk2 : k ≤ 9223372036854775807) {da : Option Addr} {dn dc : Nat} {dig : List Int} (d : FreshB lo hi w da dn dc dig) : FreshT lo hi w ⟨k, none, 0, 0, none, 0, 0, da, dn, dc, none, 0, 0⟩ (.mk k [] [] dig []) := fun W h1 h2 => inTree_leaf hk1 hk2 (d W h1 h2)
/-- A node over two such trees that lie side by side in block g. -/
theorem FreshT.node {lo hi g : Nat} {w : World} {ty : TypeId} {h1 h2 : TH} {c1 c2 : Tr} (hx : Two5 w ty g h1 h2) (hg1 : lo ≤ g) (hg2 : g < hi) (f1 : FreshT lo hi w h1 c1) (f2 : FreshT lo hi w h2 c2) {k : Int} (hk1 : -9223372036854775808 ≤ k) (hk2 : k ≤ 9223372036854775807)
    {ka va da : Option Addr} {kn kc vn vc dn dc : Nat} {key val dig : List Int} (bk : FreshB lo hi w ka kn kc key) (bv : FreshB lo hi w va vn vc val) (bd : FreshB lo hi w da dn dc dig) :
    FreshT lo hi w ⟨k, ka, kn, kc, va, vn, vc, da, dn, dc, some ⟨g, 0, none⟩, 2, 2⟩ (.mk k key val dig [c1, c2]) := fun W q1 q2 =>
  inTree_pair (ty := ty) ((q2 g hg1 hg2).trans hx) (f1 W q1 q2) (f2 W q1 q2) hk1 hk2 (bk W q1 q2) (bv W q1 q2) (bd W q1 q2)
end Go.Proofs.YtkfjhegehhahcaaDoor

/- Boxes of trees, results that are trees, strings of bytes: the types alone are named. -/
namespace Go.Proofs.YtkfjhegehhahcaaDoor
open Go.RowKit
set_option linter.unusedVariables false

theorem infoTree5 : (Tryd.prog.info? 25).map (·.size) = some 5 := by kernel_rfl
/-- It answers a full tree; what was there stays. -/
def Tells (w : World) (a : AT) (e : Ending) (w' : World) : Prop := ∃ h', e = .returned h'.v ∧ InTree w' h' a.tr ∧ Below w.heap.size w w'
theorem result_tree {P : Program} {fn : Func} {p : Tmp} {ty : TypeId} (h : fn.results = #[.cell p ty]) (tmps : Array Value) {w : World} {g : Nat} {t : TypeId} {hh : TH} {fs : Array Field} (hx : Box w t g hh)
    (hp : tmps.getD p undef = .pointer (some ⟨g, 0, none⟩)) (hu : P.underlying ty = some (.struct fs)) (hi : (P.info? ty).map (·.size) = some 5) : (results fn tmps).run P w = .ok hh.v w := by
  have hp' : tmps[p]?.getD undef = .pointer (some ⟨g, 0, none⟩) := by simpa using hp
  have hl := run_loadVar_row (P := P) w g t ty _ _ (.struct fs) hx hu rfl (by simpa using hi)
  simp [results, h, hp', asAddr, hl, TH.v]

/-- A tree's box, and the tree. -/
structure BW (w W : World) (h : TH) (t : Tr) : Prop where
  box : Box W 25 w.heap.size h
  ti : InTree W h t
  b : Below w.heap.size w W
theorem BW.below {w W W' : World} {h : TH} {t : Tr} (d : BW w W h t) (hb : Below W.heap.size W W') : BW w W' h t := ⟨d.box.below hb d.box.lt, d.ti.lower hb, d.b.trans (hb.mono d.b.size)⟩
theorem BW.drew {w W : World} {h : TH} {t : Tr} (d : BW w W h t) : BW w W.drew h t := d.below (Below.refl _ _).drew
theorem BW.new (w : World) {h : TH} {t : Tr} (ht : InTree w h t) : BW w (w.alloc (.cells #[.int .i64 h.k, .slice h.ka h.kn h.kc, .slice h.va h.vn h.vc, .slice h.da h.dn h.dc, .slice h.ta h.tn h.tc] 25)) h t := ⟨Box.new w _ h, ht.lower ((Below.refl _ _).alloc (Nat.le_refl _) _), (Below.refl _ _).alloc (Nat.le_refl _) _⟩
theorem Lim.node {l : AT} {k v : List Int} {r : AT} (h : Lim (AT.node l k v r).pairs) : Lim l.pairs ∧ k.length ≤ 80 ∧ v.length ≤ 1024 ∧ Lim r.pairs := by
  unfold Lim at *
  simp only [AT.pairs, List.mem_append, List.mem_cons] at h
  exact ⟨fun p hp => h p (.inl hp), (h _ (.inr (.inl rfl))).1, (h _ (.inr (.inl rfl))).2, fun p hp => h p (.inr (.inr hp))⟩

/-- What lies there while a tree is turned: its box, the result's box, the kid's box. -/
structure RX (w W : World) (h hk : TH) : Prop where
  box : Box W 25 w.heap.size h
  res : Box W 25 (w.heap.size + 1) hZ
  kb : Box W 25 (w.heap.size + 2) hk
  b : Below w.heap.size w W
theorem RX.below {w W W' : World} {h hk : TH} (d : RX w W h hk) (hb : Below W.heap.size W W') : RX w W' h hk := ⟨d.box.below hb d.box.lt, d.res.below hb d.res.lt, d.kb.below hb d.kb.lt, d.b.trans (hb.mono d.b.size)⟩
theorem RX.drew {w W : World} {h hk : TH} (d : RX w W h hk) : RX w W.drew h hk := d.below (Below.refl _ _).drew
theorem enter2 (w : World) (h : TH) : Box ((w.alloc (.cells #[.int .i64 h.k, .slice h.ka h.kn h.kc, .slice h.va h.vn h.vc, .slice h.da h.dn h.dc, .slice h.ta h.tn h.tc] 25)).alloc (.cells #[.int .i64 0, .slice none 0 0, .slice none 0 0, .slice none 0 0, .slice none 0 0] 25)) 25 w.heap.size h ∧ Box ((w.alloc (.cells #[.int .i64 h.k, .slice h.ka h.kn h.kc, .slice h.va h.vn h.vc, .slice h.da h.dn h.dc, .slice h.ta h.tn h.tc] 25)).alloc (.cells #[.int .i64 0, .slice none 0 0, .slice none 0 0, .slice none 0 0, .slice none 0 0] 25)) 25 (w.heap.size + 1) hZ ∧ Below w.heap.size w ((w.alloc (.cells #[.int .i64 h.k, .slice h.ka h.kn h.kc, .slice h.va h.vn h.vc, .slice h.da h.dn h.dc, .slice h.ta h.tn h.tc] 25)).alloc (.cells #[.int .i64 0, .slice none 0 0, .slice none 0 0, .slice none 0 0, .slice none 0 0] 25)) ∧ ((w.alloc (.cells #[.int .i64 h.k, .slice h.ka h.kn h.kc, .slice h.va h.vn h.vc, .slice h.da h.dn h.dc, .slice h.ta h.tn h.tc] 25)).alloc (.cells #[.int .i64 0, .slice none 0 0, .slice none 0 0, .slice none 0 0, .slice none 0 0] 25)).heap.size = w.heap.size + 2 := by
  have q1 : Below w.heap.size w (w.alloc (.cells #[.int .i64 h.k, .slice h.ka h.kn h.kc, .slice h.va h.vn h.vc, .slice h.da h.dn h.dc, .slice h.ta h.tn h.tc] 25)) := (Below.refl _ _).alloc (Nat.le_refl _) _
  have s1 : (w.alloc (.cells #[.int .i64 h.k, .slice h.ka h.kn h.kc, .slice h.va h.vn h.vc, .slice h.da h.dn h.dc, .slice h.ta h.tn h.tc] 25)).heap.size = w.heap.size + 1 := by simp
  have x1 := Box.new w 25 h
  have x2 : Box ((w.alloc (.cells #[.int .i64 h.k, .slice h.ka h.kn h.kc, .slice h.va h.vn h.vc, .slice h.da h.dn h.dc, .slice h.ta h.tn h.tc] 25)).alloc (.cells #[.int .i64 0, .slice none 0 0, .slice none 0 0, .slice none 0 0, .slice none 0 0] 25)) 25 (w.alloc (.cells #[.int .i64 h.k, .slice h.ka h.kn h.kc, .slice h.va h.vn h.vc, .slice h.da h.dn h.dc, .slice h.ta h.tn h.tc] 25)).heap.size hZ := Box.new _ 25 hZ
  rw [s1] at x2
  exact ⟨x1.below ((Below.refl _ _).alloc (Nat.le_refl _) _) x1.lt, x2, q1.alloc (by rw [s1]; omega) _, by simp⟩

/-- A tree's box, the result's box, and the tree. -/
structure LX (w W : World) (h : TH) (t : Tr) : Prop where
  box : Box W 25 w.heap.size h
  res : Box W 25 (w.heap.size + 1) hZ
  ti : InTree W h t
  b : Below w.heap.size w W
theorem LX.below {w W W' : World} {h : TH} {t : Tr} (d : LX w W h t) (hb : Below W.heap.size W W') : LX w W' h t := ⟨d.box.below hb d.box.lt, d.res.below hb d.res.lt, d.ti.lower hb, d.b.trans (hb.mono d.b.size)⟩
theorem LX.drew {w W : World} {h : TH} {t : Tr} (d : LX w W h t) : LX w W.drew h t := d.below (Below.refl _ _).drew

theorem conv_key {w : World} {a : Option Addr} {n cap : Nat} {bs : List Int} (h : InBytes w a n cap bs) :
    (convert 22 9 (.slice a n cap)).run Tryd.prog w = .ok (.string (strOfNums bs)) w :=
  conv_in (P := Tryd.prog) h 22 5 9 Tryd.underlying22 Tryd.underlying5 Tryd.underlying9
end Go.Proofs.YtkfjhegehhahcaaDoor

/- A region that draws its order and whose last operation waits for all others: what the reads lean on need not hold behind that last one. No program is named here. -/
namespace Go.Proofs.YtkfjhegehhahcaaDoor
open Go.RowKit
set_option linter.unusedVariables false

section
variable {P : Program} {md : Region.Mode} {ops : Array Oper} {Q : Exit → Act → World → Prop} {S : World → Prop} {f : Nat}
/-- Whatever order is picked: behind every operation but number f the world meets S. -/
def wpL (P : Program) (md : Region.Mode) (ops : Array Oper) (Q : Exit → Act → World → Prop) (S : World → Prop) (f : Nat) : Nat → Array Bool → Act → World → Prop
  | 0, l, a, w => Region.ready md ops l = [] ∧ Q .normal a w
  | n + 1, l, a, w => (Region.ready md ops l = [] → Q .normal a w) ∧ ∀ j ∈ Region.ready md ops l, wpOp P ops Q j (fun a' w' => (j ≠ f → S w') ∧ wpL P md ops Q S f n (l.setIfInBounds j true) a' w') a w
theorem wpL_any : ∀ (n : Nat) (l : Array Bool) (a : Act) (w : World), wpL P md ops Q S f n l a w → wpAny P md ops Q n l a w
  | 0, _, _, _, h => h
  | n + 1, _, _, _, h => ⟨h.1, fun j hj => wpOp_mono (fun a' w' q => wpL_any n _ a' w' q.2) (h.2 j hj)⟩
/-- Number f waits for number i. -/
def waits (md : Region.Mode) (ops : Array Oper) (f i : Nat) : Bool := match ops[f]? with
  | some o => o.after.any fun e => Region.binds md e && e.on == i
  | none => false
theorem waits_not {i : Nat} {l : Array Bool} (hw : waits md ops f i = true) (hi : i ∈ Region.ready md ops l) : f ∉ Region.ready md ops l := fun hf => by
  obtain ⟨_, o, ho, hall⟩ := mem_ready.1 hf
  have h0 := (mem_ready.1 hi).1
  unfold waits at hw
  rw [ho] at hw
  simp only [Array.any_eq_true'] at hw
  obtain ⟨e, he, hb⟩ := hw
  rw [Bool.and_eq_true, beq_iff_eq] at hb
  have h1 := hall e he hb.1
  rw [hb.2] at h1
  by_cases hlt : i < l.size
  · simp [hlt] at h0 h1
    rw [h0] at h1
    cases h1
  · simp [Array.getElem?_eq_none (Nat.le_of_not_lt hlt)] at h0
/-- What yields its value in every world that meets S, and for which number f waits, may be taken first. -/
theorem wpL_take_all {i : Nat} {oi : Oper} {v : Value} (hi : ops[i]? = some oi) (hsel : ∀ (j : Nat) (o : Oper) cs b, ops[j]? = some o → o.op ≠ .select cs b) (hQ : ∀ c a w, Q (.panic c) (a.put oi.dst v) w → Q (.panic c) a w) (hw : waits md ops f i = true) :
    ∀ (n : Nat) (l : Array Bool) (a : Act) (w : World), (∀ j oj, ops[j]? = some oj → j ≠ i → l.getD j true = false → (∀ e ∈ oj.after, Region.binds md e = true → e.on ≠ i) → oi.apart ops oj = true) →
      i ∈ Region.ready md ops l → YieldsIf P ops S oi v a → S w → wpL P md ops Q S f n (l.setIfInBounds i true) (a.put oi.dst v) w → wpL P md ops Q S f (n + 1) l a w := by
  intro n
  induction n with
  | zero =>
    intro l a w _ hr hy hS H
    refine ⟨fun e => absurd hr (by rw [e]; simp), fun j hj => ?_⟩
    by_cases hji : j = i
    · rw [hji]
      exact hy.wpOp hi hS ⟨fun _ => hS, H⟩
    · exact absurd (ready_mono hj hji) (by rw [H.1]; simp)
  | succ n ih =>
    intro l a w hfr hr hy hS H
    refine ⟨fun e => absurd hr (by rw [e]; simp), fun j hj => ?_⟩
    by_cases hji : j = i
    · rw [hji]
      exact hy.wpOp hi hS ⟨fun _ => hS, H⟩
    have hjf : j ≠ f := fun e => waits_not hw hr (e ▸ hj)
    obtain ⟨hun, oj, hoj, hall⟩ := mem_ready.1 hj
    have hno : ∀ e ∈ oj.after, Region.binds md e = true → e.on ≠ i := fun e he hb q => by
      have h1 := hall e he hb
      have h0 := (mem_ready.1 hr).1
      rw [q] at h1
      by_cases hlt : i < l.size
      · simp [hlt] at h0 h1
        rw [h0] at h1
        cases h1
      · simp [Array.getElem?_eq_none (Nat.le_of_not_lt hlt)] at h0
    have h2 := wpOp_putIf hoj (hfr j oj hoj hji hun hno) (fun cs b => hsel i oi cs b hi) (fun cs b => hsel j oj cs b hoj) hQ hy (H.2 j (ready_mono hj hji))
    refine wpOp_mono (fun a' w' q => ⟨q.2.1, ih _ a' w' (fun k ok hk hki hku hkn => hfr k ok hk hki ?_ hkn) (ready_mono hr (Ne.symm hji)) q.1 (q.2.1 hjf) ?_⟩) h2
    · by_cases hjk : j = k
      · rw [← hjk]
        exact hun
      · rw [getD_set_ne true hjk] at hku
        exact hku
    · rw [Array.setIfInBounds_comm _ _ hji]
      exact q.2.2
theorem take_l {i : Nat} {oi : Oper} {v : Value} {n : Nat} {l : Array Bool} {a : Act} {w : World} (hi : ops[i]? = some oi) (hs : Region.noSelect ops = true) (hf : Region.free md ops l i = true) (hr : (Region.ready md ops l).contains i = true) (hwt : waits md ops f i = true)
    (hQ : ∀ c a w, Q (.panic c) (a.put oi.dst v) w → Q (.panic c) a w) (hw : Region.wanted oi (yielded ops a.tmps) = true) (hy : ∀ w, S w → (execOp a.eval oi).run P w = .ok (.value v) w) (hS : S w)
    (h : wpL P md ops Q S f n (l.setIfInBounds i true) (a.put oi.dst v) w) : wpL P md ops Q S f (n + 1) l a w :=
  wpL_take_all hi (Region.noSelect_spec hs) hQ hwt n l a w (Region.free_spec hi hf) (by simpa using hr) (.inl ⟨hw, hy⟩) hS h
/-- The only one ready, not the last. -/
theorem one_l {i : Nat} {o : Oper} {n : Nat} {l : Array Bool} {a : Act} {w : World} (hr : Region.ready md ops l = [i]) (ho : ops[i]? = some o)
    (h : ∀ K' : Act → World → Prop, Shut (∀ a w, S w → (S w → wpL P md ops Q S f n (l.setIfInBounds i true) a w) → K' a w) → if Region.wanted o (yielded ops a.tmps) = true then Oper.wp P o a w K' Q else K' (a.put o.dst undef) w) : wpL P md ops Q S f (n + 1) l a w := by
  refine ⟨fun e => absurd (hr.symm.trans e) (by simp), fun j hj => ?_⟩
  rw [hr, List.mem_singleton] at hj
  subst hj
  exact wpOp_step ho fun K' hK => h K' fun a w h1 h2 => hK a w ⟨fun _ => h1, h2 h1⟩
/-- The last one. -/
theorem last_l {o : Oper} {n : Nat} {l : Array Bool} {a : Act} {w : World} (hr : Region.ready md ops l = [f]) (ho : ops[f]? = some o) (hd : Region.ready md ops (l.setIfInBounds f true) = [])
    (h : ∀ K' : Act → World → Prop, Shut (∀ a w, Q .normal a w → K' a w) → if Region.wanted o (yielded ops a.tmps) = true then Oper.wp P o a w K' Q else K' (a.put o.dst undef) w) : wpL P md ops Q S f (n + 1) l a w := by
  refine ⟨fun e => absurd (hr.symm.trans e) (by simp), fun j hj => ?_⟩
  rw [hr, List.mem_singleton] at hj
  subst hj
  refine wpOp_step ho fun K' hK => h K' fun a w h1 => hK a w ⟨fun q => absurd rfl q, ?_⟩
  cases n with
  | zero => exact ⟨hd, h1⟩
  | succ n => exact ⟨fun _ => h1, by rw [hd]; simp⟩
theorem region_l (f : Nat) {id : Nat} {a : Act} {w : World} (hm : P.follows .mixedOrders = true) (hS : S w.drew) (h : S w.drew → wpL P .any ops Q S f ops.size (Array.replicate ops.size false) a w.drew) : (Code.region id ops true).wp P Q a w :=
  wp_region_any hm (wpL_any _ _ _ _ (h hS))
end
end Go.Proofs.YtkfjhegehhahcaaDoor

/- The contracts of the parts of the program's proofs: a node that is shown, a dark one, a digest alone. -/
namespace Go.Proofs.YtkfjhegehhahcaaDoor
open Go.RowKit
set_option linter.unusedVariables false

/-- shown's boxes. -/
structure ZS (w W : World) (h : TH) : Prop where
  box : Box W 25 w.heap.size h
  res : Box W 25 (w.heap.size + 1) hZ
  b : Below w.heap.size w W
theorem ZS.below {w W W' : World} {h : TH} (d : ZS w W h) (hb : Below W.heap.size W W') : ZS w W' h := ⟨d.box.below hb d.box.lt, d.res.below hb d.res.lt, d.b.trans (hb.mono d.b.size)⟩
theorem ZS.drew {w W : World} {h : TH} (d : ZS w W h) : ZS w W.drew h := d.below (Below.refl _ _).drew
theorem ZS.sz {w W : World} {h : TH} (d : ZS w W h) : w.heap.size + 2 ≤ W.heap.size := d.res.lt
theorem ZS.enter (w : World) (h : TH) : ZS w ((w.alloc (.cells #[.int .i64 h.k, .slice h.ka h.kn h.kc, .slice h.va h.vn h.vc, .slice h.da h.dn h.dc, .slice h.ta h.tn h.tc] 25)).alloc (.cells #[.int .i64 0, .slice none 0 0, .slice none 0 0, .slice none 0 0, .slice none 0 0] 25)) h := ⟨(enter2 w h).1, (enter2 w h).2.1, (enter2 w h).2.2.1⟩
/-- A prover. -/
def prvV (k : Nat) (sp : DH) : Value := .agg #[.int .i64 k, .slice sp.ka sp.kn sp.kc, .slice sp.va sp.vn sp.vc, .bool sp.out]
/-- A method's boxes: the prover, the tree, the result. -/
structure ZD (w W : World) (k : Nat) (sp : DH) (h : TH) : Prop where
  pb : W.heap[w.heap.size]? = some (.cells #[.int .i64 k, .slice sp.ka sp.kn sp.kc, .slice sp.va sp.vn sp.vc, .bool sp.out] 58 (0, 0))
  box : Box W 25 (w.heap.size + 1) h
  res : Box W 25 (w.heap.size + 2) hZ
  b : Below w.heap.size w W
section
variable {w W W' : World} {k : Nat} {sp : DH} {h : TH}
theorem ZD.sz (d : ZD w W k sp h) : w.heap.size + 3 ≤ W.heap.size := d.res.lt
theorem ZD.below (d : ZD w W k sp h) (hb : Below W.heap.size W W') : ZD w W' k sp h := ⟨(hb.block _ (by have := d.sz; omega)).trans d.pb, d.box.below hb d.box.lt, d.res.below hb d.res.lt, d.b.trans (hb.mono d.b.size)⟩
theorem ZD.drew (d : ZD w W k sp h) : ZD w W.drew k sp h := d.below (Below.refl _ _).drew
theorem ZD.pcell (d : ZD w W k sp h) : W.cell? ⟨w.heap.size, 0, none⟩ = some (.int .i64 k) ∧ W.cell? ⟨w.heap.size, 1, none⟩ = some (.slice sp.ka sp.kn sp.kc) ∧ W.cell? ⟨w.heap.size, 2, none⟩ = some (.slice sp.va sp.vn sp.vc) ∧ W.cell? ⟨w.heap.size, 3, none⟩ = some (.bool sp.out) := by
  have h := d.pb
  refine ⟨?_, ?_, ?_, ?_⟩
  all_goals
    rw [cell_of_row W w.heap.size _ _ _ (0, 0) h]
    rfl
theorem ZD.enter (w : World) (k : Nat) (sp : DH) (h : TH) : ZD w (((w.alloc (.cells #[.int .i64 k, .slice sp.ka sp.kn sp.kc, .slice sp.va sp.vn sp.vc, .bool sp.out] 58)).alloc (.cells #[.int .i64 h.k, .slice h.ka h.kn h.kc, .slice h.va h.vn h.vc, .slice h.da h.dn h.dc, .slice h.ta h.tn h.tc] 25)).alloc (.cells #[.int .i64 0, .slice none 0 0, .slice none 0 0, .slice none 0 0, .slice none 0 0] 25)) k sp h := by
  have q1 : Below w.heap.size w (w.alloc (.cells #[.int .i64 k, .slice sp.ka sp.kn sp.kc, .slice sp.va sp.vn sp.vc, .bool sp.out] 58)) := (Below.refl _ _).alloc (Nat.le_refl _) _
  have x0 : (w.alloc (.cells #[.int .i64 k, .slice sp.ka sp.kn sp.kc, .slice sp.va sp.vn sp.vc, .bool sp.out] 58)).heap[w.heap.size]? = some (.cells #[.int .i64 k, .slice sp.ka sp.kn sp.kc, .slice sp.va sp.vn sp.vc, .bool sp.out] 58 (0, 0)) := heap_alloc_new w _
  have s1 : (w.alloc (.cells #[.int .i64 k, .slice sp.ka sp.kn sp.kc, .slice sp.va sp.vn sp.vc, .bool sp.out] 58)).heap.size = w.heap.size + 1 := by simp
  have x1 := Box.new (w.alloc (.cells #[.int .i64 k, .slice sp.ka sp.kn sp.kc, .slice sp.va sp.vn sp.vc, .bool sp.out] 58)) 25 h
  have s2 : ((w.alloc (.cells #[.int .i64 k, .slice sp.ka sp.kn sp.kc, .slice sp.va sp.vn sp.vc, .bool sp.out] 58)).alloc (.cells #[.int .i64 h.k, .slice h.ka h.kn h.kc, .slice h.va h.vn h.vc, .slice h.da h.dn h.dc, .slice h.ta h.tn h.tc] 25)).heap.size = w.heap.size + 2 := by simp
  have x2 := Box.new ((w.alloc (.cells #[.int .i64 k, .slice sp.ka sp.kn sp.kc, .slice sp.va sp.vn sp.vc, .bool sp.out] 58)).alloc (.cells #[.int .i64 h.k, .slice h.ka h.kn h.kc, .slice h.va h.vn h.vc, .slice h.da h.dn h.dc, .slice h.ta h.tn h.tc] 25)) 25 hZ
  have b1 : Below (w.alloc (.cells #[.int .i64 k, .slice sp.ka sp.kn sp.kc, .slice sp.va sp.vn sp.vc, .bool sp.out] 58)).heap.size (w.alloc (.cells #[.int .i64 k, .slice sp.ka sp.kn sp.kc, .slice sp.va sp.vn sp.vc, .bool sp.out] 58)) ((w.alloc (.cells #[.int .i64 k, .slice sp.ka sp.kn sp.kc, .slice sp.va sp.vn sp.vc, .bool sp.out] 58)).alloc (.cells #[.int .i64 h.k, .slice h.ka h.kn h.kc, .slice h.va h.vn h.vc, .slice h.da h.dn h.dc, .slice h.ta h.tn h.tc] 25)) := (Below.refl _ _).alloc (Nat.le_refl _) _
  have b2 : Below ((w.alloc (.cells #[.int .i64 k, .slice sp.ka sp.kn sp.kc, .slice sp.va sp.vn sp.vc, .bool sp.out] 58)).alloc (.cells #[.int .i64 h.k, .slice h.ka h.kn h.kc, .slice h.va h.vn h.vc, .slice h.da h.dn h.dc, .slice h.ta h.tn h.tc] 25)).heap.size ((w.alloc (.cells #[.int .i64 k, .slice sp.ka sp.kn sp.kc, .slice sp.va sp.vn sp.vc, .bool sp.out] 58)).alloc (.cells #[.int .i64 h.k, .slice h.ka h.kn h.kc, .slice h.va h.vn h.vc, .slice h.da h.dn h.dc, .slice h.ta h.tn h.tc] 25)) (((w.alloc (.cells #[.int .i64 k, .slice sp.ka sp.kn sp.kc, .slice sp.va sp.vn sp.vc, .bool sp.out] 58)).alloc (.cells #[.int .i64 h.k, .slice h.ka h.kn h.kc, .slice h.va h.vn h.vc, .slice h.da h.dn h.dc, .slice h.ta h.tn h.tc] 25)).alloc (.cells #[.int .i64 0, .slice none 0 0, .slice none 0 0, .slice none 0 0, .slice none 0 0] 25)) := (Below.refl _ _).alloc (Nat.le_refl _) _
  rw [s1] at x1
  rw [s2] at x2
  have l0 : w.heap.size < (w.alloc (.cells #[.int .i64 k, .slice sp.ka sp.kn sp.kc, .slice sp.va sp.vn sp.vc, .bool sp.out] 58)).heap.size := by rw [s1]; omega
  have l1 : w.heap.size < ((w.alloc (.cells #[.int .i64 k, .slice sp.ka sp.kn sp.kc, .slice sp.va sp.vn sp.vc, .bool sp.out] 58)).alloc (.cells #[.int .i64 h.k, .slice h.ka h.kn h.kc, .slice h.va h.vn h.vc, .slice h.da h.dn h.dc, .slice h.ta h.tn h.tc] 25)).heap.size := by rw [s2]; omega
  exact ⟨(b2.block _ l1).trans ((b1.block _ l0).trans x0), x1.below b2 x1.lt, x2, (q1.trans (b1.mono (by rw [s1]; omega))).trans (b2.mono (by rw [s2]; omega))⟩
/-- The result was written: the other boxes stay. -/
theorem ZD.wrote (d : ZD w W k sp h) (hg : W.grownBy W' (some (w.heap.size + 2))) : W'.heap[w.heap.size]? = some (.cells #[.int .i64 k, .slice sp.ka sp.kn sp.kc, .slice sp.va sp.vn sp.vc, .bool sp.out] 58 (0, 0)) ∧ Box W' 25 (w.heap.size + 1) h ∧ Below w.heap.size w W' :=
  ⟨(hg.block _ (by have := d.sz; omega) (fun q => by injection q with q; omega)).trans d.pb, d.box.grown hg (fun q => by injection q with q; omega), d.b.grown hg d.b.size (fun j hj => by injection hj; omega)⟩
end
/-- A node that is shown, without kids. -/
def ShownPost (w : World) (key val : List Int) (e : Ending) (w' : World) : Prop := ∃ a1 c1 a2 c2, e = .returned (TH.v ⟨1, a1, key.length, c1, a2, val.length, c2, none, 0, 0, none, 0, 0⟩) ∧ FreshB w.heap.size w'.heap.size w' a1 key.length c1 key ∧ FreshB w.heap.size w'.heap.size w' a2 val.length c2 val ∧ Below w.heap.size w w'
/-- A dark node, without kids. -/
def DarkPost (w : World) (k : Nat) (key dig : List Int) (e : Ending) (w' : World) : Prop := ∃ a1 c1 a2 c2, e = .returned (.tuple #[TH.v ⟨2, a1, key.length, c1, none, 0, 0, a2, k, c2, none, 0, 0⟩, .nilIface]) ∧ FreshB w.heap.size w'.heap.size w' a1 key.length c1 key ∧ FreshB w.heap.size w'.heap.size w' a2 k c2 dig ∧ Below w.heap.size w w'
theorem AT.checked {a : AT} (hl : Lim a.pairs) (hd : a.depth ≤ 64) : checkT a.tr = 0 := by
  unfold checkT
  rw [AT.tr_deep a 64 (by omega), (AT.tr_formed a).2 hl]
  have e : decide ((64 : Int) < (a.depth : Int)) = false := by simp; omega
  rw [e]
  rfl

set_option maxRecDepth 100000 in
set_option maxHeartbeats 4000000 in
theorem shown_any (t : Tr) (h : TH) (w : World) (ht : InTree w h t) (hkn : h.kn ≤ 3000) (hvn : h.vn ≤ 3000) : Calls Tryd.prog 48 #[h.v] w (ShownPost w t.key t.val) := by
  unfold TH.v
  obtain ⟨H, hp⟩ := ht.parts
  have HP := Lib.hid hp
  have HD := Lib.hid (ZS.enter w h)
  clear hp ht
  go_enter Tryd.func48, Tryd.ntmps48
  go_upto_region 1 with fail
  generalize ((w.alloc (.cells #[.int .i64 h.k, .slice h.ka h.kn h.kc, .slice h.va h.vn h.vc, .slice h.da h.dn h.dc, .slice h.ta h.tn h.tc] 25)).alloc (.cells #[.int .i64 0, .slice none 0 0, .slice none 0 0, .slice none 0 0, .slice none 0 0] 25)) = w0 at *
  have HD0 := Lib.hid HD.out.drew
  refine region_l (S := (fun W => W.cell? ⟨w.heap.size, 1, none⟩ = some (.slice h.ka h.kn h.kc) ∧ W.cell? ⟨w.heap.size, 2, none⟩ = some (.slice h.va h.vn h.vc))) 7 (by kernel_rfl) (by first | exact ⟨HD0.out.box.cells.2.1, HD0.out.box.cells.2.2.1⟩) (fun hHeld => ?_)
  refine take_l (i := 0) (oi := ?oZ1) (v := ?vZ1) ?hiZ1 (by kernel_rfl) (by kernel_rfl) (by kernel_rfl) (by kernel_rfl) ?hQZ1 ?hwZ1 ?hyZ1 (by assumption) ?restZ1
  case hiZ1 => (simp only [List.getElem?_toArray, List.getElem?_cons_zero] <;> rfl)
  case hQZ1 => exact (fun _ _ _ h => h)
  case hwZ1 => rfl
  case hyZ1 => (intro w hSw; (try dsimp only at hSw); go_simp; try with_reducible rfl)
  (try simp only [Act.put, List.setIfInBounds_toArray, List.set_cons_zero, List.set_cons_succ])
  refine take_l (i := 1) (oi := ?oZ2) (v := ?vZ2) ?hiZ2 (by kernel_rfl) (by kernel_rfl) (by kernel_rfl) (by kernel_rfl) ?hQZ2 ?hwZ2 ?hyZ2 (by assumption) ?restZ2
  case hiZ2 => (simp only [List.getElem?_toArray, List.getElem?_cons_succ, List.getElem?_cons_zero] <;> rfl)
  case hQZ2 => exact (fun _ _ _ h => h)
  case hwZ2 => rfl
  case hyZ2 => (intro w hSw; (try dsimp only at hSw); go_simp; try with_reducible rfl)
  (try simp only [Act.put, List.setIfInBounds_toArray, List.set_cons_zero, List.set_cons_succ])
  refine take_l (i := 3) (oi := ?oZ3) (v := ?vZ3) ?hiZ3 (by kernel_rfl) (by kernel_rfl) (by kernel_rfl) (by kernel_rfl) ?hQZ3 ?hwZ3 ?hyZ3 (by assumption) ?restZ3
  case hiZ3 => (simp only [List.getElem?_toArray, List.getElem?_cons_succ, List.getElem?_cons_zero] <;> rfl)
  case hQZ3 => exact (fun _ _ _ h => h)
  case hwZ3 => rfl
  case hyZ3 => (intro w hSw; (try dsimp only at hSw); go_simp; try with_reducible rfl)
  (try simp only [Act.put, List.setIfInBounds_toArray, List.set_cons_zero, List.set_cons_succ])
  refine take_l (i := 4) (oi := ?oZ4) (v := ?vZ4) ?hiZ4 (by kernel_rfl) (by kernel_rfl) (by kernel_rfl) (by kernel_rfl) ?hQZ4 ?hwZ4 ?hyZ4 (by assumption) ?restZ4
  case hiZ4 => (simp only [List.getElem?_toArray, List.getElem?_cons_succ, List.getElem?_cons_zero] <;> rfl)
  case hQZ4 => exact (fun _ _ _ h => h)
  case hwZ4 => rfl
  case hyZ4 => (intro w hSw; (try dsimp only at hSw); go_simp; try with_reducible rfl)
  (try simp only [Act.put, List.setIfInBounds_toArray, List.set_cons_zero, List.set_cons_succ])
  refine one_l (i := 2) (o := ?oZ5) (by kernel_rfl) ?hiZ5 (fun K hK => ?stZ5)
  case hiZ5 => (simp only [List.getElem?_toArray, List.getElem?_cons_succ, List.getElem?_cons_zero] <;> rfl)
  go_simp
  go_at_call 38
  (with_reducible refine (clone_any h.ka h.kn h.kc t.key _ ?_ (by omega)).mono ?_)
  · exact HP.out.key.below HD0.out.b
  rintro _ w1 ⟨a1, c1, rfl, hi1, hp1, hb1⟩
  have HD1 := Lib.hid (HD0.out.below hb1)
  have HK1 : Hid (FreshB (w.heap.size + 2) w1.heap.size w1 a1 t.key.length c1 t.key) := Lib.hid (FreshB.of hi1 (fun y e => ⟨Nat.le_trans HD0.out.sz (hp1 y e).1, (hp1 y e).2⟩))
  clear hi1 hp1 hb1
  go_simp
  refine hK.out _ _ ?_ (fun hHeld => ?_)
  · (first | exact ⟨HD2.out.box.cells.2.1, HD2.out.box.cells.2.2.1⟩ | exact ⟨HD1.out.box.cells.2.1, HD1.out.box.cells.2.2.1⟩ | exact ⟨HD0.out.box.cells.2.1, HD0.out.box.cells.2.2.1⟩)
  clear hK K
  (try simp only [Act.put, List.setIfInBounds_toArray, List.set_cons_zero, List.set_cons_succ])
  refine one_l (i := 5) (o := ?oZ6) (by kernel_rfl) ?hiZ6 (fun K hK => ?stZ6)
  case hiZ6 => (simp only [List.getElem?_toArray, List.getElem?_cons_succ, List.getElem?_cons_zero] <;> rfl)
  go_simp
  go_at_call 38
  (with_reducible refine (clone_any h.va h.vn h.vc t.val _ ?_ (by omega)).mono ?_)
  · exact HP.out.val.below HD1.out.b
  rintro _ w2 ⟨a2, c2, rfl, hi2, hp2, hb2⟩
  have HD2 := Lib.hid (HD1.out.below hb2)
  have HK2 : Hid (FreshB (w.heap.size + 2) w2.heap.size w2 a1 t.key.length c1 t.key) := Lib.hid ((HK1.out.below hb2 (Nat.le_refl _)).wide (Nat.le_refl _) hb2.size)
  have HV2 : Hid (FreshB (w.heap.size + 2) w2.heap.size w2 a2 t.val.length c2 t.val) := Lib.hid (FreshB.of hi2 (fun y e => ⟨Nat.le_trans HD1.out.sz (hp2 y e).1, (hp2 y e).2⟩))
  clear hi2 hp2 hb2
  go_simp
  refine hK.out _ _ ?_ (fun hHeld => ?_)
  · (first | exact ⟨HD2.out.box.cells.2.1, HD2.out.box.cells.2.2.1⟩ | exact ⟨HD1.out.box.cells.2.1, HD1.out.box.cells.2.2.1⟩ | exact ⟨HD0.out.box.cells.2.1, HD0.out.box.cells.2.2.1⟩)
  clear hK K
  (try simp only [Act.put, List.setIfInBounds_toArray, List.set_cons_zero, List.set_cons_succ])
  refine take_l (i := 6) (oi := ?oZ7) (v := ?vZ7) ?hiZ7 (by kernel_rfl) (by kernel_rfl) (by kernel_rfl) (by kernel_rfl) ?hQZ7 ?hwZ7 ?hyZ7 (by assumption) ?restZ7
  case hiZ7 => (simp only [List.getElem?_toArray, List.getElem?_cons_succ, List.getElem?_cons_zero] <;> rfl)
  case hQZ7 => exact (fun _ _ _ h => h)
  case hwZ7 => rfl
  case hyZ7 => (intro w hSw; (try dsimp only at hSw); go_simp; try with_reducible rfl)
  (try simp only [Act.put, List.setIfInBounds_toArray, List.set_cons_zero, List.set_cons_succ])
  refine last_l (o := ?oZ8) (by kernel_rfl) ?hiZ8 (by kernel_rfl) (fun K hK => ?stZ8)
  case hiZ8 => (simp only [List.getElem?_toArray, List.getElem?_cons_succ, List.getElem?_cons_zero] <;> rfl)
  refine step_store_box rfl 25 (.tmp 2) (.tmp 9) rfl (w.heap.size + 1) hZ ⟨1, a1, t.key.length, c1, a2, t.val.length, c2, none, 0, 0, none, 0, 0⟩ rfl rfl 25 HD2.out.res infoTree5 ?_
  intro w9 hbx9 hg9
  have HX9 := Lib.hid hbx9
  have HK9 : Hid (FreshB w.heap.size w9.heap.size w9 a1 t.key.length c1 t.key) := Lib.hid ((HK2.out.grown hg9 (Nat.le_refl _) (.inl (Nat.lt_succ_self _))).wide (Nat.le_add_right _ _) hg9.size)
  have HV9 : Hid (FreshB w.heap.size w9.heap.size w9 a2 t.val.length c2 t.val) := Lib.hid ((HV2.out.grown hg9 (Nat.le_refl _) (.inl (Nat.lt_succ_self _))).wide (Nat.le_add_right _ _) hg9.size)
  have HB9 : Hid (Below w.heap.size w w9) := Lib.hid (HD2.out.b.grown hg9 HD2.out.b.size (fun j hj => by injection hj; omega))
  clear hbx9 hg9
  refine hK.out _ _ ?_
  clear hK K
  (try simp only [Act.put])
  
  go_wp2_with fail
  exact bodyPost_ret (v := TH.v ⟨1, a1, t.key.length, c1, a2, t.val.length, c2, none, 0, 0, none, 0, 0⟩) (result_tree Tryd.results48 _ HX9.out rfl Tryd.underlying25 infoTree5) rfl ⟨a1, c1, a2, c2, rfl, HK9.out, HV9.out, HB9.out⟩

set_option maxRecDepth 100000 in
set_option maxHeartbeats 4000000 in
theorem dark_any (k : Nat) (hk1 : 1 ≤ k) (hk2 : k ≤ 32) (sp : DH) (t : Tr) (h : TH) (w : World) (ht : InTree w h t) (hT : TabLies w) (hkn : h.kn ≤ 3000) (hvn : h.vn ≤ 3000) : Calls Tryd.prog 49 #[prvV k sp, h.v] w (DarkPost w k t.key (dvL k t.val)) := by
  unfold TH.v prvV
  obtain ⟨H, hp⟩ := ht.parts
  have HP := Lib.hid hp
  have HVL := Lib.hid hp.val.len
  have HD := Lib.hid (ZD.enter w k sp h)
  have HTT := Lib.hid hT
  clear hp ht hT
  go_enter Tryd.func49, Tryd.ntmps49
  go_upto_region 1 with fail
  generalize (((w.alloc (.cells #[.int .i64 k, .slice sp.ka sp.kn sp.kc, .slice sp.va sp.vn sp.vc, .bool sp.out] 58)).alloc (.cells #[.int .i64 h.k, .slice h.ka h.kn h.kc, .slice h.va h.vn h.vc, .slice h.da h.dn h.dc, .slice h.ta h.tn h.tc] 25)).alloc (.cells #[.int .i64 0, .slice none 0 0, .slice none 0 0, .slice none 0 0, .slice none 0 0] 25)) = w0 at *
  have HD0 := Lib.hid HD.out.drew
  have HT0 : Hid (TabLies w0.drew) := Lib.hid (HTT.out.below HD0.out.b (Nat.le_refl _))
  refine wp_region_held_drew (S := (fun W => W.cell? ⟨w.heap.size, 0, none⟩ = some (.int .i64 k) ∧ W.cell? ⟨w.heap.size + 1, 2, none⟩ = some (.slice h.va h.vn h.vc))) (by kernel_rfl) (by first | exact ⟨HD0.out.pcell.1, HD0.out.box.cells.2.2.1⟩) (fun hHeld => ?_)
  refine take_w (i := 0) (oi := ?oZ9) (v := ?vZ9) ?hiZ9 (by kernel_rfl) (by kernel_rfl) (by kernel_rfl) ?hQZ9 ?hwZ9 ?hyZ9 (by assumption) ?restZ9
  case hiZ9 => (simp only [List.getElem?_toArray, List.getElem?_cons_zero] <;> rfl)
  case hQZ9 => exact (fun _ _ _ h => h)
  case hwZ9 => rfl
  case hyZ9 => (intro w hSw; (try dsimp only at hSw); go_simp; try with_reducible rfl)
  (try simp only [Act.put, List.setIfInBounds_toArray, List.set_cons_zero, List.set_cons_succ])
  refine take_w (i := 1) (oi := ?oZ10) (v := ?vZ10) ?hiZ10 (by kernel_rfl) (by kernel_rfl) (by kernel_rfl) ?hQZ10 ?hwZ10 ?hyZ10 (by assumption) ?restZ10
  case hiZ10 => (simp only [List.getElem?_toArray, List.getElem?_cons_succ, List.getElem?_cons_zero] <;> rfl)
  case hQZ10 => exact (fun _ _ _ h => h)
  case hwZ10 => rfl
  case hyZ10 => (intro w hSw; (try dsimp only at hSw); go_simp; try with_reducible rfl)
  (try simp only [Act.put, List.setIfInBounds_toArray, List.set_cons_zero, List.set_cons_succ])
  refine take_w (i := 2) (oi := ?oZ11) (v := ?vZ11) ?hiZ11 (by kernel_rfl) (by kernel_rfl) (by kernel_rfl) ?hQZ11 ?hwZ11 ?hyZ11 (by assumption) ?restZ11
  case hiZ11 => (simp only [List.getElem?_toArray, List.getElem?_cons_succ, List.getElem?_cons_zero] <;> rfl)
  case hQZ11 => exact (fun _ _ _ h => h)
  case hwZ11 => rfl
  case hyZ11 => (intro w hSw; (try dsimp only at hSw); go_simp; try with_reducible rfl)
  (try simp only [Act.put, List.setIfInBounds_toArray, List.set_cons_zero, List.set_cons_succ])
  refine take_w (i := 3) (oi := ?oZ12) (v := ?vZ12) ?hiZ12 (by kernel_rfl) (by kernel_rfl) (by kernel_rfl) ?hQZ12 ?hwZ12 ?hyZ12 (by assumption) ?restZ12
  case hiZ12 => (simp only [List.getElem?_toArray, List.getElem?_cons_succ, List.getElem?_cons_zero] <;> rfl)
  case hQZ12 => exact (fun _ _ _ h => h)
  case hwZ12 => rfl
  case hyZ12 => (intro w hSw; (try dsimp only at hSw); go_simp; try with_reducible rfl)
  (try simp only [Act.put, List.setIfInBounds_toArray, List.set_cons_zero, List.set_cons_succ])
  refine wpAnyH_ready (rs := [4]) (by kernel_rfl) (by simp) ?_
  refine AllReadyH.cons (o := ?oZ13) ?hiZ13 (fun K hK => ?stZ13) AllReadyH.nil
  case hiZ13 => (simp only [List.getElem?_toArray, List.getElem?_cons_succ, List.getElem?_cons_zero] <;> rfl)
  go_simp
  go_at_call 64
  (with_reducible refine (value_any h.va h.vn h.vc t.val _ ?_ (by omega)).mono ?_)
  · exact HP.out.val.below HD0.out.b
  rintro _ w1 ⟨g1, c1, rfl, ho1, hb1⟩
  have HD1 := Lib.hid (HD0.out.below hb1)
  have HT1 := Lib.hid (HT0.out.below hb1 (Nat.le_refl _))
  have HI1 := Lib.hid (InBytes.of_own ho1 (valL_bytes HP.out.val.bytes))
  clear ho1 hb1
  go_simp
  refine hK.out _ _ ?_ (fun hHeld => ?_)
  · (first | exact ⟨HD2.out.pcell.1, HD2.out.box.cells.2.2.1⟩ | exact ⟨HD1.out.pcell.1, HD1.out.box.cells.2.2.1⟩ | exact ⟨HD0.out.pcell.1, HD0.out.box.cells.2.2.1⟩)
  clear hK K
  (try simp only [Act.put, List.setIfInBounds_toArray, List.set_cons_zero, List.set_cons_succ])
  refine wpAnyH_ready (rs := [5]) (by kernel_rfl) (by simp) ?_
  refine AllReadyH.cons (o := ?oZ14) ?hiZ14 (fun K hK => ?stZ14) AllReadyH.nil
  case hiZ14 => (simp only [List.getElem?_toArray, List.getElem?_cons_succ, List.getElem?_cons_zero] <;> rfl)
  go_simp
  go_at_call 36
  (with_reducible refine (of_ok k (some ⟨g1, 0, none⟩) (valL t.val).length c1 (valL t.val) _ HI1.out ?_ HT1.out hk1 hk2).mono ?_)
  · rw [valL_len, HVL.out]; omega
  rintro _ w2 ⟨g2, hg2, rfl, hr2, hb2⟩
  have HD2 := Lib.hid (HD1.out.below hb2)
  have HI2 : Hid (FreshB (w.heap.size + 3) w2.heap.size w2 (some ⟨g2, 0, none⟩) k k (dvL k t.val)) := Lib.hid (by
    have q := of_in hr2 hk2
    refine FreshB.of q (fun y e => ?_)
    injection e with e
    subst e
    obtain ⟨g, off, e2, hlt, -⟩ := q.place (by omega)
    injection e2 with e2
    injection e2 with e2 e3
    subst e2
    exact ⟨Nat.le_trans HD1.out.sz hg2, hlt⟩)
  clear hg2 hr2 hb2
  go_simp
  refine hK.out _ _ ?_ (fun hHeld => ?_)
  · (first | exact ⟨HD2.out.pcell.1, HD2.out.box.cells.2.2.1⟩ | exact ⟨HD1.out.pcell.1, HD1.out.box.cells.2.2.1⟩ | exact ⟨HD0.out.pcell.1, HD0.out.box.cells.2.2.1⟩)
  clear hK K
  (try simp only [Act.put, List.setIfInBounds_toArray, List.set_cons_zero, List.set_cons_succ])
  refine take_w (i := 6) (oi := ?oZ15) (v := ?vZ15) ?hiZ15 (by kernel_rfl) (by kernel_rfl) (by kernel_rfl) ?hQZ15 ?hwZ15 ?hyZ15 (by assumption) ?restZ15
  case hiZ15 => (simp only [List.getElem?_toArray, List.getElem?_cons_succ, List.getElem?_cons_zero] <;> rfl)
  case hQZ15 => exact (fun _ _ _ h => h)
  case hwZ15 => rfl
  case hyZ15 => (intro w hSw; (try dsimp only at hSw); go_simp; try with_reducible rfl)
  (try simp only [Act.put, List.setIfInBounds_toArray, List.set_cons_zero, List.set_cons_succ])
  refine take_w (i := 7) (oi := ?oZ16) (v := ?vZ16) ?hiZ16 (by kernel_rfl) (by kernel_rfl) (by kernel_rfl) ?hQZ16 ?hwZ16 ?hyZ16 (by assumption) ?restZ16
  case hiZ16 => (simp only [List.getElem?_toArray, List.getElem?_cons_succ, List.getElem?_cons_zero] <;> rfl)
  case hQZ16 => exact (fun _ _ _ h => h)
  case hwZ16 => rfl
  case hyZ16 => (intro w hSw; (try dsimp only at hSw); go_simp; try with_reducible rfl)
  (try simp only [Act.put, List.setIfInBounds_toArray, List.set_cons_zero, List.set_cons_succ])
  refine take_w (i := 8) (oi := ?oZ17) (v := ?vZ17) ?hiZ17 (by kernel_rfl) (by kernel_rfl) (by kernel_rfl) ?hQZ17 ?hwZ17 ?hyZ17 (by assumption) ?restZ17
  case hiZ17 => (simp only [List.getElem?_toArray, List.getElem?_cons_succ, List.getElem?_cons_zero] <;> rfl)
  case hQZ17 => exact (fun _ _ _ h => h)
  case hwZ17 => rfl
  case hyZ17 => (intro w hSw; (try dsimp only at hSw); go_simp; try with_reducible rfl)
  (try simp only [Act.put, List.setIfInBounds_toArray, List.set_cons_zero, List.set_cons_succ])
  refine take_w (i := 9) (oi := ?oZ18) (v := ?vZ18) ?hiZ18 (by kernel_rfl) (by kernel_rfl) (by kernel_rfl) ?hQZ18 ?hwZ18 ?hyZ18 (by assumption) ?restZ18
  case hiZ18 => (simp only [List.getElem?_toArray, List.getElem?_cons_succ, List.getElem?_cons_zero] <;> rfl)
  case hQZ18 => exact (fun _ _ _ h => h)
  case hwZ18 => rfl
  case hyZ18 => (intro w hSw; (try dsimp only at hSw); go_simp; try with_reducible rfl)
  (try simp only [Act.put, List.setIfInBounds_toArray, List.set_cons_zero, List.set_cons_succ])
  refine take_w (i := 10) (oi := ?oZ19) (v := ?vZ19) ?hiZ19 (by kernel_rfl) (by kernel_rfl) (by kernel_rfl) ?hQZ19 ?hwZ19 ?hyZ19 (by assumption) ?restZ19
  case hiZ19 => (simp only [List.getElem?_toArray, List.getElem?_cons_succ, List.getElem?_cons_zero] <;> rfl)
  case hQZ19 => exact (fun _ _ _ h => h)
  case hwZ19 => rfl
  case hyZ19 => (intro w hSw; (try dsimp only at hSw); go_simp; try with_reducible rfl)
  (try simp only [Act.put, List.setIfInBounds_toArray, List.set_cons_zero, List.set_cons_succ])
  refine wpAnyH_done (by kernel_rfl) ?_ _
  clear hHeld
  obtain ⟨x0, x1, x2, x3, x4⟩ := HD2.out.box.cells
  go_wp2_with (first
    | (go_at_call 38
       (with_reducible refine (clone_any h.ka h.kn h.kc t.key _ ?_ (by omega)).mono ?_)
       · exact HP.out.key.below HD2.out.b
       rintro _ w3 ⟨a3, c3, rfl, hi3, hp3, hb3⟩
       have HD3 := Lib.hid (HD2.out.below hb3)
       have HK3 : Hid (FreshB (w.heap.size + 3) w3.heap.size w3 a3 t.key.length c3 t.key) := Lib.hid (FreshB.of hi3 (fun y e => ⟨Nat.le_trans HD2.out.sz (hp3 y e).1, (hp3 y e).2⟩))
       have HI3 : Hid (FreshB (w.heap.size + 3) w3.heap.size w3 (some ⟨g2, 0, none⟩) k k (dvL k t.val)) := Lib.hid ((HI2.out.below hb3 (Nat.le_refl _)).wide (Nat.le_refl _) hb3.size)
       clear hi3 hp3 hb3)
    | (refine wpList_store_box rfl 25 (.tmp 4) (.tmp 25) rfl (w.heap.size + 2) hZ ⟨2, a3, t.key.length, c3, none, 0, 0, some ⟨g2, 0, none⟩, k, k, none, 0, 0⟩ rfl rfl 25 HD3.out.res infoTree5 ?_
       intro w9 hbx9 hg9
       have HX9 := Lib.hid hbx9
       have HK9 : Hid (FreshB w.heap.size w9.heap.size w9 a3 t.key.length c3 t.key) := Lib.hid ((HK3.out.grown hg9 (Nat.le_refl _) (.inl (Nat.lt_succ_self _))).wide (Nat.le_add_right _ _) hg9.size)
       have HI9 : Hid (FreshB w.heap.size w9.heap.size w9 (some ⟨g2, 0, none⟩) k k (dvL k t.val)) := Lib.hid ((HI3.out.grown hg9 (Nat.le_refl _) (.inl (Nat.lt_succ_self _))).wide (Nat.le_add_right _ _) hg9.size)
       have HB9 := Lib.hid (HD3.out.wrote hg9).2.2
       clear hbx9 hg9))
  exact bodyPost_ret (Box.result Tryd.results49 _ HX9.out rfl Tryd.underlying25 infoTree5) rfl ⟨a3, c3, _, _, rfl, HK9.out, HI9.out, HB9.out⟩

set_option maxRecDepth 100000 in
set_option maxHeartbeats 4000000 in
theorem cut_any7 (k : Nat) (hk1 : 1 ≤ k) (hk2 : k ≤ 32) (sp : DH) (a : AT) (h : TH) (w : World) (ht : InTree w h a.tr) (hT : TabLies w) (hl : Lim a.pairs) (hd : a.depth ≤ 64) : Calls Tryd.prog 51 #[prvV k sp, h.v] w (ProveOk w (hideA k a)) := by
  unfold TH.v prvV
  have HD := Lib.hid (ZD.enter w k sp h)
  obtain ⟨H, hp⟩ := ht.parts
  have HKK := Lib.hid hp.hk
  have HT := Lib.hid ht
  have HTT := Lib.hid hT
  have HC := Lib.hid (AT.checked hl hd)
  clear hp ht hl hT hd
  go_enter Tryd.func51, Tryd.ntmps51
  go_upto_region 1 with fail
  generalize (((w.alloc (.cells #[.int .i64 k, .slice sp.ka sp.kn sp.kc, .slice sp.va sp.vn sp.vc, .bool sp.out] 58)).alloc (.cells #[.int .i64 h.k, .slice h.ka h.kn h.kc, .slice h.va h.vn h.vc, .slice h.da h.dn h.dc, .slice h.ta h.tn h.tc] 25)).alloc (.cells #[.int .i64 0, .slice none 0 0, .slice none 0 0, .slice none 0 0, .slice none 0 0] 25)) = w0 at *
  obtain ⟨x0, x1, x2, x3, x4⟩ := HD.out.box.cells
  obtain ⟨y0, y1, y2, y3⟩ := HD.out.pcell
  cases a with
  | nil =>
    have e0 : (h.k == 0) = true := by rw [HKK.out]; rfl
    go_wp2_with (first
      | (refine wpList_store_box rfl 25 (.tmp 4) (.tmp 11) rfl (w.heap.size + 2) hZ hZ rfl rfl 25 HD.out.res infoTree5 ?_
         intro w9 hbx9 hg9
         have HX9 := Lib.hid hbx9
         have HB9 := Lib.hid (HD.out.wrote hg9).2.2
         clear hbx9 hg9))
    exact bodyPost_ret (Box.result Tryd.results51 _ HX9.out rfl Tryd.underlying25 infoTree5) rfl ⟨hZ, rfl, FreshT.nil _ _ _, HB9.out⟩
  | node l key v r =>
    have e0 : (h.k == 0) = false := by rw [HKK.out]; rfl
    go_wp2_with (first
      | (go_at_call 14
         refine (digest_ok k hk1 hk2 (AT.node l key v r).tr h _ (HT.out.lower HD.out.b) (HTT.out.below HD.out.b (Nat.le_refl _)) HC.out (AT.digs hk2 _)).mono ?_
         rintro _ w4 ⟨a4, c4, rfl, hn4, hb4⟩
         have HD4 := Lib.hid (HD.out.below hb4)
         have HI4 : Hid (FreshB (w.heap.size + 3) w4.heap.size w4 a4 (digA k (AT.node l key v r)).length c4 (digA k (AT.node l key v r))) := Lib.hid (by
           refine FreshB.of hn4.inb (fun y e => ⟨Nat.le_trans HD.out.sz (hn4.new y e), ?_⟩)
           obtain ⟨g, off, e2, hlt, -⟩ := hn4.inb.place (by rw [digA_len hk2]; omega)
           rw [e] at e2
           injection e2 with e2
           rw [e2]
           exact hlt)
         clear hn4 hb4)
      | (refine wpList_store_box rfl 25 (.tmp 4) (.tmp 24) rfl (w.heap.size + 2) hZ ⟨3, none, 0, 0, none, 0, 0, a4, (digA k (AT.node l key v r)).length, c4, none, 0, 0⟩ rfl rfl 25 HD4.out.res infoTree5 ?_
         intro w9 hbx9 hg9
         have HX9 := Lib.hid hbx9
         have HI9 : Hid (FreshB w.heap.size w9.heap.size w9 a4 (digA k (AT.node l key v r)).length c4 (digA k (AT.node l key v r))) := Lib.hid ((HI4.out.grown hg9 (Nat.le_refl _) (.inl (Nat.lt_succ_self _))).wide (Nat.le_add_right _ _) hg9.size)
         have HB9 := Lib.hid (HD4.out.wrote hg9).2.2
         clear hbx9 hg9))
    exact bodyPost_ret (Box.result Tryd.results51 _ HX9.out rfl Tryd.underlying25 infoTree5) rfl ⟨_, rfl, FreshT.leaf (by omega) (by omega) HI9.out, HB9.out⟩
theorem shown_lit (l : AT) (key v : List Int) (r : AT) (h : TH) (w : World) (ht : InTree w h (AT.node l key v r).tr) (hkn : h.kn ≤ 3000) (hvn : h.vn ≤ 3000) : Calls Tryd.prog 48 #[.agg #[.int .i64 h.k, .slice h.ka h.kn h.kc, .slice h.va h.vn h.vc, .slice h.da h.dn h.dc, .slice h.ta h.tn h.tc]] w (ShownPost w key v) := shown_any (AT.node l key v r).tr h w ht hkn hvn
theorem dark_lit (k : Nat) (hk1 : 1 ≤ k) (hk2 : k ≤ 32) (sp : DH) (l : AT) (key v : List Int) (r : AT) (h : TH) (w : World) (ht : InTree w h (AT.node l key v r).tr) (hT : TabLies w) (hkn : h.kn ≤ 3000) (hvn : h.vn ≤ 3000) : Calls Tryd.prog 49 #[.agg #[.int .i64 k, .slice sp.ka sp.kn sp.kc, .slice sp.va sp.vn sp.vc, .bool sp.out], .agg #[.int .i64 h.k, .slice h.ka h.kn h.kc, .slice h.va h.vn h.vc, .slice h.da h.dn h.dc, .slice h.ta h.tn h.tc]] w (DarkPost w k key (dvL k v)) := dark_any k hk1 hk2 sp (AT.node l key v r).tr h w ht hT hkn hvn
theorem cut_lit7 (k : Nat) (hk1 : 1 ≤ k) (hk2 : k ≤ 32) (sp : DH) (a : AT) (h : TH) (w : World) (ht : InTree w h a.tr) (hT : TabLies w) (hl : Lim a.pairs) (hd : a.depth ≤ 64) : Calls Tryd.prog 51 #[.agg #[.int .i64 k, .slice sp.ka sp.kn sp.kc, .slice sp.va sp.vn sp.vc, .bool sp.out], .agg #[.int .i64 h.k, .slice h.ka h.kn h.kc, .slice h.va h.vn h.vc, .slice h.da h.dn h.dc, .slice h.ta h.tn h.tc]] w (ProveOk w (hideA k a)) := cut_any7 k hk1 hk2 sp a h w ht hT hl hd
end Go.Proofs.YtkfjhegehhahcaaDoor

/- The contracts of the program's withKids, by what it is handed. -/
namespace Go.Proofs.YtkfjhegehhahcaaDoor
open Go.RowKit
set_option linter.unusedVariables false

/-- withKids' boxes: the part, the node, the result. -/
structure ZK (w W : World) (hp h : TH) : Prop where
  pb : Box W 25 w.heap.size hp
  nb : Box W 25 (w.heap.size + 1) h
  res : Box W 25 (w.heap.size + 2) hZ
  b : Below w.heap.size w W
section
variable {w W W' : World} {hp h : TH}
theorem ZK.sz (d : ZK w W hp h) : w.heap.size + 3 ≤ W.heap.size := d.res.lt
theorem ZK.below (d : ZK w W hp h) (hb : Below W.heap.size W W') : ZK w W' hp h := ⟨d.pb.below hb d.pb.lt, d.nb.below hb d.nb.lt, d.res.below hb d.res.lt, d.b.trans (hb.mono d.b.size)⟩
theorem ZK.free (d : ZK w W hp h) : W.frozen? ⟨w.heap.size, 4, none⟩ = false := by
  have q := d.pb
  unfold Box at q
  simp [World.frozen?, q]
theorem ZK.set4 (d : ZK w W hp h) (a : Option Addr) (n c : Nat) : Box (W.setCell ⟨w.heap.size, 4, none⟩ (.slice a n c)) 25 w.heap.size ⟨hp.k, hp.ka, hp.kn, hp.kc, hp.va, hp.vn, hp.vc, hp.da, hp.dn, hp.dc, a, n, c⟩ := by
  have hb := d.pb
  unfold Box at hb ⊢
  simp [World.setCell, Array.getElem?_modify, hb]
theorem ZK.drew (d : ZK w W hp h) : ZK w W.drew hp h := d.below (Below.refl _ _).drew
theorem ZK.enter (w : World) (hp h : TH) : ZK w (((w.alloc (.cells #[.int .i64 hp.k, .slice hp.ka hp.kn hp.kc, .slice hp.va hp.vn hp.vc, .slice hp.da hp.dn hp.dc, .slice hp.ta hp.tn hp.tc] 25)).alloc (.cells #[.int .i64 h.k, .slice h.ka h.kn h.kc, .slice h.va h.vn h.vc, .slice h.da h.dn h.dc, .slice h.ta h.tn h.tc] 25)).alloc (.cells #[.int .i64 0, .slice none 0 0, .slice none 0 0, .slice none 0 0, .slice none 0 0] 25)) hp h := by
  have q1 : Below w.heap.size w (w.alloc (.cells #[.int .i64 hp.k, .slice hp.ka hp.kn hp.kc, .slice hp.va hp.vn hp.vc, .slice hp.da hp.dn hp.dc, .slice hp.ta hp.tn hp.tc] 25)) := (Below.refl _ _).alloc (Nat.le_refl _) _
  have x0 := Box.new w 25 hp
  have s1 : (w.alloc (.cells #[.int .i64 hp.k, .slice hp.ka hp.kn hp.kc, .slice hp.va hp.vn hp.vc, .slice hp.da hp.dn hp.dc, .slice hp.ta hp.tn hp.tc] 25)).heap.size = w.heap.size + 1 := by simp
  have x1 := Box.new (w.alloc (.cells #[.int .i64 hp.k, .slice hp.ka hp.kn hp.kc, .slice hp.va hp.vn hp.vc, .slice hp.da hp.dn hp.dc, .slice hp.ta hp.tn hp.tc] 25)) 25 h
  have s2 : ((w.alloc (.cells #[.int .i64 hp.k, .slice hp.ka hp.kn hp.kc, .slice hp.va hp.vn hp.vc, .slice hp.da hp.dn hp.dc, .slice hp.ta hp.tn hp.tc] 25)).alloc (.cells #[.int .i64 h.k, .slice h.ka h.kn h.kc, .slice h.va h.vn h.vc, .slice h.da h.dn h.dc, .slice h.ta h.tn h.tc] 25)).heap.size = w.heap.size + 2 := by simp
  have x2 := Box.new ((w.alloc (.cells #[.int .i64 hp.k, .slice hp.ka hp.kn hp.kc, .slice hp.va hp.vn hp.vc, .slice hp.da hp.dn hp.dc, .slice hp.ta hp.tn hp.tc] 25)).alloc (.cells #[.int .i64 h.k, .slice h.ka h.kn h.kc, .slice h.va h.vn h.vc, .slice h.da h.dn h.dc, .slice h.ta h.tn h.tc] 25)) 25 hZ
  have b1 : Below (w.alloc (.cells #[.int .i64 hp.k, .slice hp.ka hp.kn hp.kc, .slice hp.va hp.vn hp.vc, .slice hp.da hp.dn hp.dc, .slice hp.ta hp.tn hp.tc] 25)).heap.size (w.alloc (.cells #[.int .i64 hp.k, .slice hp.ka hp.kn hp.kc, .slice hp.va hp.vn hp.vc, .slice hp.da hp.dn hp.dc, .slice hp.ta hp.tn hp.tc] 25)) ((w.alloc (.cells #[.int .i64 hp.k, .slice hp.ka hp.kn hp.kc, .slice hp.va hp.vn hp.vc, .slice hp.da hp.dn hp.dc, .slice hp.ta hp.tn hp.tc] 25)).alloc (.cells #[.int .i64 h.k, .slice h.ka h.kn h.kc, .slice h.va h.vn h.vc, .slice h.da h.dn h.dc, .slice h.ta h.tn h.tc] 25)) := (Below.refl _ _).alloc (Nat.le_refl _) _
  have b2 : Below ((w.alloc (.cells #[.int .i64 hp.k, .slice hp.ka hp.kn hp.kc, .slice hp.va hp.vn hp.vc, .slice hp.da hp.dn hp.dc, .slice hp.ta hp.tn hp.tc] 25)).alloc (.cells #[.int .i64 h.k, .slice h.ka h.kn h.kc, .slice h.va h.vn h.vc, .slice h.da h.dn h.dc, .slice h.ta h.tn h.tc] 25)).heap.size ((w.alloc (.cells #[.int .i64 hp.k, .slice hp.ka hp.kn hp.kc, .slice hp.va hp.vn hp.vc, .slice hp.da hp.dn hp.dc, .slice hp.ta hp.tn hp.tc] 25)).alloc (.cells #[.int .i64 h.k, .slice h.ka h.kn h.kc, .slice h.va h.vn h.vc, .slice h.da h.dn h.dc, .slice h.ta h.tn h.tc] 25)) (((w.alloc (.cells #[.int .i64 hp.k, .slice hp.ka hp.kn hp.kc, .slice hp.va hp.vn hp.vc, .slice hp.da hp.dn hp.dc, .slice hp.ta hp.tn hp.tc] 25)).alloc (.cells #[.int .i64 h.k, .slice h.ka h.kn h.kc, .slice h.va h.vn h.vc, .slice h.da h.dn h.dc, .slice h.ta h.tn h.tc] 25)).alloc (.cells #[.int .i64 0, .slice none 0 0, .slice none 0 0, .slice none 0 0, .slice none 0 0] 25)) := (Below.refl _ _).alloc (Nat.le_refl _) _
  have x0' := (x0.below b1 x0.lt)
  rw [s1] at x1
  rw [s2] at x2
  exact ⟨x0'.below b2 x0'.lt, x1.below b2 x1.lt, x2, (q1.trans (b1.mono (by rw [s1]; omega))).trans (b2.mono (by rw [s2]; omega))⟩
end
/-- A node of new blocks. -/
def KidsPost (w : World) (lo : Nat) (c : Tr) (e : Ending) (w' : World) : Prop := ∃ h', e = .returned (.tuple #[h'.v, .nilIface]) ∧ FreshT lo w'.heap.size w' h' c ∧ Below w.heap.size w w'

set_option maxRecDepth 100000 in
set_option maxHeartbeats 4000000 in
theorem withKids_pp (k : Nat) (sp : DH) (kd : Int) (hk1 : -9223372036854775808 ≤ kd) (hk2 : kd ≤ 9223372036854775807) (ka va da : Option Addr) (kn kc vn vc dn dc : Nat) (key val dig : List Int) (c1 c2 : Tr) (h : TH) (t : Tr) (H : Nat → TH) (w : World) (lo : Nat) (hlo : lo ≤ w.heap.size)
    (fk : FreshB lo w.heap.size w ka kn kc key) (fv : FreshB lo w.heap.size w va vn vc val) (fd : FreshB lo w.heap.size w da dn dc dig) (ht : TreeAt w h t H) (h2 : h.tn = 2)
    (hl : ∀ W, Below w.heap.size w W → Calls Tryd.prog 21 #[.agg #[.int .i64 k, .slice sp.ka sp.kn sp.kc, .slice sp.va sp.vn sp.vc, .bool sp.out], .agg #[.int .i64 (H 0).k, .slice (H 0).ka (H 0).kn (H 0).kc, .slice (H 0).va (H 0).vn (H 0).vc, .slice (H 0).da (H 0).dn (H 0).dc, .slice (H 0).ta (H 0).tn (H 0).tc]] W (ProveOk W c1)) (hr : ∀ W, Below w.heap.size w W → Calls Tryd.prog 21 #[.agg #[.int .i64 k, .slice sp.ka sp.kn sp.kc, .slice sp.va sp.vn sp.vc, .bool sp.out], .agg #[.int .i64 (H 1).k, .slice (H 1).ka (H 1).kn (H 1).kc, .slice (H 1).va (H 1).vn (H 1).vc, .slice (H 1).da (H 1).dn (H 1).dc, .slice (H 1).ta (H 1).tn (H 1).tc]] W (ProveOk W c2)) :
    Calls Tryd.prog 47 #[.agg #[.int .i64 kd, .slice ka kn kc, .slice va vn vc, .slice da dn dc, .slice none 0 0], .agg #[.int .i64 h.k, .slice h.ka h.kn h.kc, .slice h.va h.vn h.vc, .slice h.da h.dn h.dc, .slice h.ta h.tn h.tc], .func (.func 21) #[.agg #[.int .i64 k, .slice sp.ka sp.kn sp.kc, .slice sp.va sp.vn sp.vc, .bool sp.out]] #[], .func (.func 21) #[.agg #[.int .i64 k, .slice sp.ka sp.kn sp.kc, .slice sp.va sp.vn sp.vc, .bool sp.out]] #[]] w (KidsPost w lo (.mk kd key val dig [c1, c2])) := by
  have HD := Lib.hid (ZK.enter w ⟨kd, ka, kn, kc, va, vn, vc, da, dn, dc, none, 0, 0⟩ h)
  have HP := Lib.hid ht
  have HL := Lib.hid hl
  have HR := Lib.hid hr
  have HFK := Lib.hid fk
  have HFV := Lib.hid fv
  have HFD := Lib.hid fd
  have ht0 : 0 < h.tn := by omega
  have ht1 : (1 : Int) < (h.tn : Int) := by omega
  obtain ⟨g, off, hta, -, -⟩ := ht.place ht0
  have HTA := Lib.hid hta
  clear ht hl hr fk fv fd h2 hta
  go_enter Tryd.func47, Tryd.ntmps47
  go_upto_region 1 with fail
  generalize (((w.alloc (.cells #[.int .i64 kd, .slice ka kn kc, .slice va vn vc, .slice da dn dc, .slice none 0 0] 25)).alloc (.cells #[.int .i64 h.k, .slice h.ka h.kn h.kc, .slice h.va h.vn h.vc, .slice h.da h.dn h.dc, .slice h.ta h.tn h.tc] 25)).alloc (.cells #[.int .i64 0, .slice none 0 0, .slice none 0 0, .slice none 0 0, .slice none 0 0] 25)) = w0 at *
  obtain ⟨x0, x1, x2, x3, x4⟩ := HD.out.nb.cells
  rw [HTA.out] at x4
  obtain ⟨y0, y1, y2, y3, y4⟩ := (HP.out.below HD.out.b).kid0 HTA.out (by omega)
  go_upto_region 4 with (first
    | (go_at_call 21
       refine (HL.out _ HD.out.b).mono ?_
       rintro _ w1 ⟨h1, rfl, f1, hb1⟩
       unfold TH.v
       have HD1 := Lib.hid (HD.out.below hb1)
       have HF1 : Hid (FreshT (w.heap.size + 3) w1.heap.size w1 h1 c1) := Lib.hid (f1.wide HD.out.sz (Nat.le_refl _))
       clear f1 hb1 x0 x1 x2 x3 x4 y0 y1 y2 y3 y4))
  have q2 : Below w1.heap.size w1 (w1.alloc (.cells #[.int .i64 h1.k, .slice h1.ka h1.kn h1.kc, .slice h1.va h1.vn h1.vc, .slice h1.da h1.dn h1.dc, .slice h1.ta h1.tn h1.tc] 25)) := (Below.refl _ _).alloc (Nat.le_refl _) _
  have HD2 := Lib.hid (HD1.out.below q2)
  have HF2 : Hid (FreshT (w.heap.size + 3) w1.heap.size (w1.alloc (.cells #[.int .i64 h1.k, .slice h1.ka h1.kn h1.kc, .slice h1.va h1.vn h1.vc, .slice h1.da h1.dn h1.dc, .slice h1.ta h1.tn h1.tc] 25)) h1 c1) := Lib.hid (HF1.out.below q2 (Nat.le_refl _))
  have HM2 := Lib.hid (Box.new w1 25 h1)
  have HZ2 : Hid (w.heap.size + 3 ≤ w1.heap.size) := Lib.hid HD1.out.sz
  have HS2 : Hid ((w1.alloc (.cells #[.int .i64 h1.k, .slice h1.ka h1.kn h1.kc, .slice h1.va h1.vn h1.vc, .slice h1.da h1.dn h1.dc, .slice h1.ta h1.tn h1.tc] 25)).heap.size = w1.heap.size + 1) := Lib.hid (by simp)
  clear q2
  generalize w1.alloc (.cells #[.int .i64 h1.k, .slice h1.ka h1.kn h1.kc, .slice h1.va h1.vn h1.vc, .slice h1.da h1.dn h1.dc, .slice h1.ta h1.tn h1.tc] 25) = w2 at *
  obtain ⟨x0, x1, x2, x3, x4⟩ := HD2.out.nb.cells
  rw [HTA.out] at x4
  obtain ⟨y0, y1, y2, y3, y4⟩ := (HP.out.below HD2.out.b).kid1 HTA.out (by omega)
  go_upto_region 7 with (first
    | (go_at_call 21
       refine (HR.out _ HD2.out.b).mono ?_
       rintro _ w3 ⟨h2, rfl, f2, hb3⟩
       unfold TH.v
       have HD3 := Lib.hid (HD2.out.below hb3)
       have HF3 : Hid (FreshT (w.heap.size + 3) w3.heap.size w3 h1 c1) := Lib.hid ((HF2.out.below hb3 (by rw [HS2.out]; omega)).wide (Nat.le_refl _) (by have := hb3.size; rw [HS2.out] at this; omega))
       have HG3 : Hid (FreshT (w.heap.size + 3) w3.heap.size w3 h2 c2) := Lib.hid (f2.wide HD2.out.sz (Nat.le_refl _))
       have HM3 := Lib.hid (HM2.out.below hb3 HM2.out.lt)
       clear f2 hb3 x0 x1 x2 x3 x4 y0 y1 y2 y3 y4))
  have q4 : Below w3.heap.size w3 (w3.alloc (.cells #[.int .i64 h2.k, .slice h2.ka h2.kn h2.kc, .slice h2.va h2.vn h2.vc, .slice h2.da h2.dn h2.dc, .slice h2.ta h2.tn h2.tc] 25)) := (Below.refl _ _).alloc (Nat.le_refl _) _
  have HD4 := Lib.hid (HD3.out.below q4)
  have HF4 : Hid (FreshT (w.heap.size + 3) w3.heap.size (w3.alloc (.cells #[.int .i64 h2.k, .slice h2.ka h2.kn h2.kc, .slice h2.va h2.vn h2.vc, .slice h2.da h2.dn h2.dc, .slice h2.ta h2.tn h2.tc] 25)) h1 c1) := Lib.hid (HF3.out.below q4 (Nat.le_refl _))
  have HG4 : Hid (FreshT (w.heap.size + 3) w3.heap.size (w3.alloc (.cells #[.int .i64 h2.k, .slice h2.ka h2.kn h2.kc, .slice h2.va h2.vn h2.vc, .slice h2.da h2.dn h2.dc, .slice h2.ta h2.tn h2.tc] 25)) h2 c2) := Lib.hid (HG3.out.below q4 (Nat.le_refl _))
  have HM4 := Lib.hid (HM3.out.below q4 HM3.out.lt)
  have HN4 := Lib.hid (Box.new w3 25 h2)
  have HZ4 : Hid (w.heap.size + 3 ≤ w3.heap.size) := Lib.hid HD3.out.sz
  have HS4 : Hid ((w3.alloc (.cells #[.int .i64 h2.k, .slice h2.ka h2.kn h2.kc, .slice h2.va h2.vn h2.vc, .slice h2.da h2.dn h2.dc, .slice h2.ta h2.tn h2.tc] 25)).heap.size = w3.heap.size + 1) := Lib.hid (by simp)
  clear q4
  generalize w3.alloc (.cells #[.int .i64 h2.k, .slice h2.ka h2.kn h2.kc, .slice h2.va h2.vn h2.vc, .slice h2.da h2.dn h2.dc, .slice h2.ta h2.tn h2.tc] 25) = w4 at *
  obtain ⟨x0, x1, x2, x3, x4⟩ := HM4.out.cells
  obtain ⟨y0, y1, y2, y3, y4⟩ := HN4.out.cells
  have q5 : Below w4.heap.size w4 (w4.alloc (.cells #[.int .i64 h1.k, .slice h1.ka h1.kn h1.kc, .slice h1.va h1.vn h1.vc, .slice h1.da h1.dn h1.dc, .slice h1.ta h1.tn h1.tc, .int .i64 h2.k, .slice h2.ka h2.kn h2.kc, .slice h2.va h2.vn h2.vc, .slice h2.da h2.dn h2.dc, .slice h2.ta h2.tn h2.tc] 25)) := (Below.refl _ _).alloc (Nat.le_refl _) _
  have fr := ZK.free (HD4.out.below q5)
  have fc := (HD4.out.below q5).pb.cells.2.2.2.2
  have HD5 := Lib.hid (HD4.out.below q5)
  have HF5 : Hid (FreshT (w.heap.size + 3) w3.heap.size (w4.alloc (.cells #[.int .i64 h1.k, .slice h1.ka h1.kn h1.kc, .slice h1.va h1.vn h1.vc, .slice h1.da h1.dn h1.dc, .slice h1.ta h1.tn h1.tc, .int .i64 h2.k, .slice h2.ka h2.kn h2.kc, .slice h2.va h2.vn h2.vc, .slice h2.da h2.dn h2.dc, .slice h2.ta h2.tn h2.tc] 25)) h1 c1) := Lib.hid (HF4.out.below q5 (by rw [HS4.out]; omega))
  have HG5 : Hid (FreshT (w.heap.size + 3) w3.heap.size (w4.alloc (.cells #[.int .i64 h1.k, .slice h1.ka h1.kn h1.kc, .slice h1.va h1.vn h1.vc, .slice h1.da h1.dn h1.dc, .slice h1.ta h1.tn h1.tc, .int .i64 h2.k, .slice h2.ka h2.kn h2.kc, .slice h2.va h2.vn h2.vc, .slice h2.da h2.dn h2.dc, .slice h2.ta h2.tn h2.tc] 25)) h2 c2) := Lib.hid (HG4.out.below q5 (by rw [HS4.out]; omega))
  have HT5 := Lib.hid (Two5.new w4 25 h1 h2)
  have HS5 : Hid ((w4.alloc (.cells #[.int .i64 h1.k, .slice h1.ka h1.kn h1.kc, .slice h1.va h1.vn h1.vc, .slice h1.da h1.dn h1.dc, .slice h1.ta h1.tn h1.tc, .int .i64 h2.k, .slice h2.ka h2.kn h2.kc, .slice h2.va h2.vn h2.vc, .slice h2.da h2.dn h2.dc, .slice h2.ta h2.tn h2.tc] 25)).heap.size = w4.heap.size + 1) := Lib.hid (by simp)
  clear q5
  go_upto_region 8 with fail
  clear fr fc x0 x1 x2 x3 x4 y0 y1 y2 y3 y4
  have g6 : (w4.alloc (.cells #[.int .i64 h1.k, .slice h1.ka h1.kn h1.kc, .slice h1.va h1.vn h1.vc, .slice h1.da h1.dn h1.dc, .slice h1.ta h1.tn h1.tc, .int .i64 h2.k, .slice h2.ka h2.kn h2.kc, .slice h2.va h2.vn h2.vc, .slice h2.da h2.dn h2.dc, .slice h2.ta h2.tn h2.tc] 25)).grownBy ((w4.alloc (.cells #[.int .i64 h1.k, .slice h1.ka h1.kn h1.kc, .slice h1.va h1.vn h1.vc, .slice h1.da h1.dn h1.dc, .slice h1.ta h1.tn h1.tc, .int .i64 h2.k, .slice h2.ka h2.kn h2.kc, .slice h2.va h2.vn h2.vc, .slice h2.da h2.dn h2.dc, .slice h2.ta h2.tn h2.tc] 25)).setCell ⟨w.heap.size, 4, none⟩ (.slice (some ⟨w4.heap.size, 0, none⟩) 2 2)) (some w.heap.size) := only_set (only_refl _ _) 4 _
  have HP6 := Lib.hid (ZK.set4 HD5.out (some ⟨w4.heap.size, 0, none⟩) 2 2)
  have HR6 := Lib.hid (HD5.out.res.grown g6 (fun q => by injection q with q; omega))
  have HB6 : Hid (Below w.heap.size w ((w4.alloc (.cells #[.int .i64 h1.k, .slice h1.ka h1.kn h1.kc, .slice h1.va h1.vn h1.vc, .slice h1.da h1.dn h1.dc, .slice h1.ta h1.tn h1.tc, .int .i64 h2.k, .slice h2.ka h2.kn h2.kc, .slice h2.va h2.vn h2.vc, .slice h2.da h2.dn h2.dc, .slice h2.ta h2.tn h2.tc] 25)).setCell ⟨w.heap.size, 4, none⟩ (.slice (some ⟨w4.heap.size, 0, none⟩) 2 2))) := Lib.hid (HD5.out.b.grown g6 HD5.out.b.size (fun j hj => by injection hj; omega))
  have HF6 := Lib.hid (HF5.out.grown g6 (by rw [HS5.out, HS4.out]; omega) (.inl (by omega)))
  have HG6 := Lib.hid (HG5.out.grown g6 (by rw [HS5.out, HS4.out]; omega) (.inl (by omega)))
  have HT6 : Hid (Two5 ((w4.alloc (.cells #[.int .i64 h1.k, .slice h1.ka h1.kn h1.kc, .slice h1.va h1.vn h1.vc, .slice h1.da h1.dn h1.dc, .slice h1.ta h1.tn h1.tc, .int .i64 h2.k, .slice h2.ka h2.kn h2.kc, .slice h2.va h2.vn h2.vc, .slice h2.da h2.dn h2.dc, .slice h2.ta h2.tn h2.tc] 25)).setCell ⟨w.heap.size, 4, none⟩ (.slice (some ⟨w4.heap.size, 0, none⟩) 2 2)) 25 w4.heap.size h1 h2) := Lib.hid ((g6.block _ HT5.out.lt (fun q => by injection q with q; have := HZ4.out; have := HS4.out; omega)).trans HT5.out)
  have HS6 : Hid (w4.heap.size < ((w4.alloc (.cells #[.int .i64 h1.k, .slice h1.ka h1.kn h1.kc, .slice h1.va h1.vn h1.vc, .slice h1.da h1.dn h1.dc, .slice h1.ta h1.tn h1.tc, .int .i64 h2.k, .slice h2.ka h2.kn h2.kc, .slice h2.va h2.vn h2.vc, .slice h2.da h2.dn h2.dc, .slice h2.ta h2.tn h2.tc] 25)).setCell ⟨w.heap.size, 4, none⟩ (.slice (some ⟨w4.heap.size, 0, none⟩) 2 2)).heap.size) := Lib.hid HT6.out.lt
  clear g6
  generalize (w4.alloc (.cells #[.int .i64 h1.k, .slice h1.ka h1.kn h1.kc, .slice h1.va h1.vn h1.vc, .slice h1.da h1.dn h1.dc, .slice h1.ta h1.tn h1.tc, .int .i64 h2.k, .slice h2.ka h2.kn h2.kc, .slice h2.va h2.vn h2.vc, .slice h2.da h2.dn h2.dc, .slice h2.ta h2.tn h2.tc] 25)).setCell ⟨w.heap.size, 4, none⟩ (.slice (some ⟨w4.heap.size, 0, none⟩) 2 2) = w6 at *
  obtain ⟨x0, x1, x2, x3, x4⟩ := HP6.out.cells
  go_wp2_with (first
    | (refine wpList_store_box rfl 25 (.tmp 8) (.tmp 43) rfl (w.heap.size + 2) hZ ⟨kd, ka, kn, kc, va, vn, vc, da, dn, dc, some ⟨w4.heap.size, 0, none⟩, 2, 2⟩ rfl rfl 25 HR6.out infoTree5 ?_
       intro w9 hbx9 hg9
       have HX9 := Lib.hid hbx9
       have HN9 : Hid (FreshT lo w9.heap.size w9 ⟨kd, ka, kn, kc, va, vn, vc, da, dn, dc, some ⟨w4.heap.size, 0, none⟩, 2, 2⟩ (.mk kd key val dig [c1, c2])) := Lib.hid (by
         have z4 := HZ4.out
         have s4 := HS4.out
         have s6 := HS6.out
         have s9 := hg9.size
         have t9 : Two5 w9 25 w4.heap.size h1 h2 := (hg9.block _ HT6.out.lt (fun q => by injection q with q; omega)).trans HT6.out
         have bk : FreshB lo w.heap.size w9 ka kn kc key := (HFK.out.below HB6.out (Nat.le_refl _)).grown hg9 HB6.out.size (.inr (Nat.le_add_right _ _))
         have bv : FreshB lo w.heap.size w9 va vn vc val := (HFV.out.below HB6.out (Nat.le_refl _)).grown hg9 HB6.out.size (.inr (Nat.le_add_right _ _))
         have bd : FreshB lo w.heap.size w9 da dn dc dig := (HFD.out.below HB6.out (Nat.le_refl _)).grown hg9 HB6.out.size (.inr (Nat.le_add_right _ _))
         have u1 := HF6.out.grown hg9 (by omega) (.inl (by omega))
         have u2 := HG6.out.grown hg9 (by omega) (.inl (by omega))
         have l9 : w.heap.size ≤ w9.heap.size := Nat.le_trans HB6.out.size s9
         exact FreshT.node t9 (by omega) (by omega) (u1.wide (by omega) (by omega)) (u2.wide (by omega) (by omega)) hk1 hk2 (bk.wide (Nat.le_refl _) l9) (bv.wide (Nat.le_refl _) l9) (bd.wide (Nat.le_refl _) l9))
       have HB9 : Hid (Below w.heap.size w w9) := Lib.hid (HB6.out.grown hg9 HB6.out.size (fun j hj => by injection hj; omega))
       clear hbx9 hg9))
  exact bodyPost_ret (Box.result Tryd.results47 _ HX9.out rfl Tryd.underlying25 infoTree5) rfl ⟨_, rfl, HN9.out, HB9.out⟩

set_option maxRecDepth 100000 in
set_option maxHeartbeats 4000000 in
theorem withKids_cp (k : Nat) (sp : DH) (kd : Int) (hk1 : -9223372036854775808 ≤ kd) (hk2 : kd ≤ 9223372036854775807) (ka va da : Option Addr) (kn kc vn vc dn dc : Nat) (key val dig : List Int) (c1 c2 : Tr) (h : TH) (t : Tr) (H : Nat → TH) (w : World) (lo : Nat) (hlo : lo ≤ w.heap.size)
    (fk : FreshB lo w.heap.size w ka kn kc key) (fv : FreshB lo w.heap.size w va vn vc val) (fd : FreshB lo w.heap.size w da dn dc dig) (ht : TreeAt w h t H) (h2 : h.tn = 2)
    (hl : ∀ W, Below w.heap.size w W → Calls Tryd.prog 51 #[.agg #[.int .i64 k, .slice sp.ka sp.kn sp.kc, .slice sp.va sp.vn sp.vc, .bool sp.out], .agg #[.int .i64 (H 0).k, .slice (H 0).ka (H 0).kn (H 0).kc, .slice (H 0).va (H 0).vn (H 0).vc, .slice (H 0).da (H 0).dn (H 0).dc, .slice (H 0).ta (H 0).tn (H 0).tc]] W (ProveOk W c1)) (hr : ∀ W, Below w.heap.size w W → Calls Tryd.prog 21 #[.agg #[.int .i64 k, .slice sp.ka sp.kn sp.kc, .slice sp.va sp.vn sp.vc, .bool sp.out], .agg #[.int .i64 (H 1).k, .slice (H 1).ka (H 1).kn (H 1).kc, .slice (H 1).va (H 1).vn (H 1).vc, .slice (H 1).da (H 1).dn (H 1).dc, .slice (H 1).ta (H 1).tn (H 1).tc]] W (ProveOk W c2)) :
    Calls Tryd.prog 47 #[.agg #[.int .i64 kd, .slice ka kn kc, .slice va vn vc, .slice da dn dc, .slice none 0 0], .agg #[.int .i64 h.k, .slice h.ka h.kn h.kc, .slice h.va h.vn h.vc, .slice h.da h.dn h.dc, .slice h.ta h.tn h.tc], .func (.func 51) #[.agg #[.int .i64 k, .slice sp.ka sp.kn sp.kc, .slice sp.va sp.vn sp.vc, .bool sp.out]] #[], .func (.func 21) #[.agg #[.int .i64 k, .slice sp.ka sp.kn sp.kc, .slice sp.va sp.vn sp.vc, .bool sp.out]] #[]] w (KidsPost w lo (.mk kd key val dig [c1, c2])) := by
  have HD := Lib.hid (ZK.enter w ⟨kd, ka, kn, kc, va, vn, vc, da, dn, dc, none, 0, 0⟩ h)
  have HP := Lib.hid ht
  have HL := Lib.hid hl
  have HR := Lib.hid hr
  have HFK := Lib.hid fk
  have HFV := Lib.hid fv
  have HFD := Lib.hid fd
  have ht0 : 0 < h.tn := by omega
  have ht1 : (1 : Int) < (h.tn : Int) := by omega
  obtain ⟨g, off, hta, -, -⟩ := ht.place ht0
  have HTA := Lib.hid hta
  clear ht hl hr fk fv fd h2 hta
  go_enter Tryd.func47, Tryd.ntmps47
  go_upto_region 1 with fail
  generalize (((w.alloc (.cells #[.int .i64 kd, .slice ka kn kc, .slice va vn vc, .slice da dn dc, .slice none 0 0] 25)).alloc (.cells #[.int .i64 h.k, .slice h.ka h.kn h.kc, .slice h.va h.vn h.vc, .slice h.da h.dn h.dc, .slice h.ta h.tn h.tc] 25)).alloc (.cells #[.int .i64 0, .slice none 0 0, .slice none 0 0, .slice none 0 0, .slice none 0 0] 25)) = w0 at *
  obtain ⟨x0, x1, x2, x3, x4⟩ := HD.out.nb.cells
  rw [HTA.out] at x4
  obtain ⟨y0, y1, y2, y3, y4⟩ := (HP.out.below HD.out.b).kid0 HTA.out (by omega)
  go_upto_region 4 with (first
    | (go_at_call 51
       refine (HL.out _ HD.out.b).mono ?_
       rintro _ w1 ⟨h1, rfl, f1, hb1⟩
       unfold TH.v
       have HD1 := Lib.hid (HD.out.below hb1)
       have HF1 : Hid (FreshT (w.heap.size + 3) w1.heap.size w1 h1 c1) := Lib.hid (f1.wide HD.out.sz (Nat.le_refl _))
       clear f1 hb1 x0 x1 x2 x3 x4 y0 y1 y2 y3 y4))
  have q2 : Below w1.heap.size w1 (w1.alloc (.cells #[.int .i64 h1.k, .slice h1.ka h1.kn h1.kc, .slice h1.va h1.vn h1.vc, .slice h1.da h1.dn h1.dc, .slice h1.ta h1.tn h1.tc] 25)) := (Below.refl _ _).alloc (Nat.le_refl _) _
  have HD2 := Lib.hid (HD1.out.below q2)
  have HF2 : Hid (FreshT (w.heap.size + 3) w1.heap.size (w1.alloc (.cells #[.int .i64 h1.k, .slice h1.ka h1.kn h1.kc, .slice h1.va h1.vn h1.vc, .slice h1.da h1.dn h1.dc, .slice h1.ta h1.tn h1.tc] 25)) h1 c1) := Lib.hid (HF1.out.below q2 (Nat.le_refl _))
  have HM2 := Lib.hid (Box.new w1 25 h1)
  have HZ2 : Hid (w.heap.size + 3 ≤ w1.heap.size) := Lib.hid HD1.out.sz
  have HS2 : Hid ((w1.alloc (.cells #[.int .i64 h1.k, .slice h1.ka h1.kn h1.kc, .slice h1.va h1.vn h1.vc, .slice h1.da h1.dn h1.dc, .slice h1.ta h1.tn h1.tc] 25)).heap.size = w1.heap.size + 1) := Lib.hid (by simp)
  clear q2
  generalize w1.alloc (.cells #[.int .i64 h1.k, .slice h1.ka h1.kn h1.kc, .slice h1.va h1.vn h1.vc, .slice h1.da h1.dn h1.dc, .slice h1.ta h1.tn h1.tc] 25) = w2 at *
  obtain ⟨x0, x1, x2, x3, x4⟩ := HD2.out.nb.cells
  rw [HTA.out] at x4
  obtain ⟨y0, y1, y2, y3, y4⟩ := (HP.out.below HD2.out.b).kid1 HTA.out (by omega)
  go_upto_region 7 with (first
    | (go_at_call 21
       refine (HR.out _ HD2.out.b).mono ?_
       rintro _ w3 ⟨h2, rfl, f2, hb3⟩
       unfold TH.v
       have HD3 := Lib.hid (HD2.out.below hb3)
       have HF3 : Hid (FreshT (w.heap.size + 3) w3.heap.size w3 h1 c1) := Lib.hid ((HF2.out.below hb3 (by rw [HS2.out]; omega)).wide (Nat.le_refl _) (by have := hb3.size; rw [HS2.out] at this; omega))
       have HG3 : Hid (FreshT (w.heap.size + 3) w3.heap.size w3 h2 c2) := Lib.hid (f2.wide HD2.out.sz (Nat.le_refl _))
       have HM3 := Lib.hid (HM2.out.below hb3 HM2.out.lt)
       clear f2 hb3 x0 x1 x2 x3 x4 y0 y1 y2 y3 y4))
  have q4 : Below w3.heap.size w3 (w3.alloc (.cells #[.int .i64 h2.k, .slice h2.ka h2.kn h2.kc, .slice h2.va h2.vn h2.vc, .slice h2.da h2.dn h2.dc, .slice h2.ta h2.tn h2.tc] 25)) := (Below.refl _ _).alloc (Nat.le_refl _) _
  have HD4 := Lib.hid (HD3.out.below q4)
  have HF4 : Hid (FreshT (w.heap.size + 3) w3.heap.size (w3.alloc (.cells #[.int .i64 h2.k, .slice h2.ka h2.kn h2.kc, .slice h2.va h2.vn h2.vc, .slice h2.da h2.dn h2.dc, .slice h2.ta h2.tn h2.tc] 25)) h1 c1) := Lib.hid (HF3.out.below q4 (Nat.le_refl _))
  have HG4 : Hid (FreshT (w.heap.size + 3) w3.heap.size (w3.alloc (.cells #[.int .i64 h2.k, .slice h2.ka h2.kn h2.kc, .slice h2.va h2.vn h2.vc, .slice h2.da h2.dn h2.dc, .slice h2.ta h2.tn h2.tc] 25)) h2 c2) := Lib.hid (HG3.out.below q4 (Nat.le_refl _))
  have HM4 := Lib.hid (HM3.out.below q4 HM3.out.lt)
  have HN4 := Lib.hid (Box.new w3 25 h2)
  have HZ4 : Hid (w.heap.size + 3 ≤ w3.heap.size) := Lib.hid HD3.out.sz
  have HS4 : Hid ((w3.alloc (.cells #[.int .i64 h2.k, .slice h2.ka h2.kn h2.kc, .slice h2.va h2.vn h2.vc, .slice h2.da h2.dn h2.dc, .slice h2.ta h2.tn h2.tc] 25)).heap.size = w3.heap.size + 1) := Lib.hid (by simp)
  clear q4
  generalize w3.alloc (.cells #[.int .i64 h2.k, .slice h2.ka h2.kn h2.kc, .slice h2.va h2.vn h2.vc, .slice h2.da h2.dn h2.dc, .slice h2.ta h2.tn h2.tc] 25) = w4 at *
  obtain ⟨x0, x1, x2, x3, x4⟩ := HM4.out.cells
  obtain ⟨y0, y1, y2, y3, y4⟩ := HN4.out.cells
  have q5 : Below w4.heap.size w4 (w4.alloc (.cells #[.int .i64 h1.k, .slice h1.ka h1.kn h1.kc, .slice h1.va h1.vn h1.vc, .slice h1.da h1.dn h1.dc, .slice h1.ta h1.tn h1.tc, .int .i64 h2.k, .slice h2.ka h2.kn h2.kc, .slice h2.va h2.vn h2.vc, .slice h2.da h2.dn h2.dc, .slice h2.ta h2.tn h2.tc] 25)) := (Below.refl _ _).alloc (Nat.le_refl _) _
  have fr := ZK.free (HD4.out.below q5)
  have fc := (HD4.out.below q5).pb.cells.2.2.2.2
  have HD5 := Lib.hid (HD4.out.below q5)
  have HF5 : Hid (FreshT (w.heap.size + 3) w3.heap.size (w4.alloc (.cells #[.int .i64 h1.k, .slice h1.ka h1.kn h1.kc, .slice h1.va h1.vn h1.vc, .slice h1.da h1.dn h1.dc, .slice h1.ta h1.tn h1.tc, .int .i64 h2.k, .slice h2.ka h2.kn h2.kc, .slice h2.va h2.vn h2.vc, .slice h2.da h2.dn h2.dc, .slice h2.ta h2.tn h2.tc] 25)) h1 c1) := Lib.hid (HF4.out.below q5 (by rw [HS4.out]; omega))
  have HG5 : Hid (FreshT (w.heap.size + 3) w3.heap.size (w4.alloc (.cells #[.int .i64 h1.k, .slice h1.ka h1.kn h1.kc, .slice h1.va h1.vn h1.vc, .slice h1.da h1.dn h1.dc, .slice h1.ta h1.tn h1.tc, .int .i64 h2.k, .slice h2.ka h2.kn h2.kc, .slice h2.va h2.vn h2.vc, .slice h2.da h2.dn h2.dc, .slice h2.ta h2.tn h2.tc] 25)) h2 c2) := Lib.hid (HG4.out.below q5 (by rw [HS4.out]; omega))
  have HT5 := Lib.hid (Two5.new w4 25 h1 h2)
  have HS5 : Hid ((w4.alloc (.cells #[.int .i64 h1.k, .slice h1.ka h1.kn h1.kc, .slice h1.va h1.vn h1.vc, .slice h1.da h1.dn h1.dc, .slice h1.ta h1.tn h1.tc, .int .i64 h2.k, .slice h2.ka h2.kn h2.kc, .slice h2.va h2.vn h2.vc, .slice h2.da h2.dn h2.dc, .slice h2.ta h2.tn h2.tc] 25)).heap.size = w4.heap.size + 1) := Lib.hid (by simp)
  clear q5
  go_upto_region 8 with fail
  clear fr fc x0 x1 x2 x3 x4 y0 y1 y2 y3 y4
  have g6 : (w4.alloc (.cells #[.int .i64 h1.k, .slice h1.ka h1.kn h1.kc, .slice h1.va h1.vn h1.vc, .slice h1.da h1.dn h1.dc, .slice h1.ta h1.tn h1.tc, .int .i64 h2.k, .slice h2.ka h2.kn h2.kc, .slice h2.va h2.vn h2.vc, .slice h2.da h2.dn h2.dc, .slice h2.ta h2.tn h2.tc] 25)).grownBy ((w4.alloc (.cells #[.int .i64 h1.k, .slice h1.ka h1.kn h1.kc, .slice h1.va h1.vn h1.vc, .slice h1.da h1.dn h1.dc, .slice h1.ta h1.tn h1.tc, .int .i64 h2.k, .slice h2.ka h2.kn h2.kc, .slice h2.va h2.vn h2.vc, .slice h2.da h2.dn h2.dc, .slice h2.ta h2.tn h2.tc] 25)).setCell ⟨w.heap.size, 4, none⟩ (.slice (some ⟨w4.heap.size, 0, none⟩) 2 2)) (some w.heap.size) := only_set (only_refl _ _) 4 _
  have HP6 := Lib.hid (ZK.set4 HD5.out (some ⟨w4.heap.size, 0, none⟩) 2 2)
  have HR6 := Lib.hid (HD5.out.res.grown g6 (fun q => by injection q with q; omega))
  have HB6 : Hid (Below w.heap.size w ((w4.alloc (.cells #[.int .i64 h1.k, .slice h1.ka h1.kn h1.kc, .slice h1.va h1.vn h1.vc, .slice h1.da h1.dn h1.dc, .slice h1.ta h1.tn h1.tc, .int .i64 h2.k, .slice h2.ka h2.kn h2.kc, .slice h2.va h2.vn h2.vc, .slice h2.da h2.dn h2.dc, .slice h2.ta h2.tn h2.tc] 25)).setCell ⟨w.heap.size, 4, none⟩ (.slice (some ⟨w4.heap.size, 0, none⟩) 2 2))) := Lib.hid (HD5.out.b.grown g6 HD5.out.b.size (fun j hj => by injection hj; omega))
  have HF6 := Lib.hid (HF5.out.grown g6 (by rw [HS5.out, HS4.out]; omega) (.inl (by omega)))
  have HG6 := Lib.hid (HG5.out.grown g6 (by rw [HS5.out, HS4.out]; omega) (.inl (by omega)))
  have HT6 : Hid (Two5 ((w4.alloc (.cells #[.int .i64 h1.k, .slice h1.ka h1.kn h1.kc, .slice h1.va h1.vn h1.vc, .slice h1.da h1.dn h1.dc, .slice h1.ta h1.tn h1.tc, .int .i64 h2.k, .slice h2.ka h2.kn h2.kc, .slice h2.va h2.vn h2.vc, .slice h2.da h2.dn h2.dc, .slice h2.ta h2.tn h2.tc] 25)).setCell ⟨w.heap.size, 4, none⟩ (.slice (some ⟨w4.heap.size, 0, none⟩) 2 2)) 25 w4.heap.size h1 h2) := Lib.hid ((g6.block _ HT5.out.lt (fun q => by injection q with q; have := HZ4.out; have := HS4.out; omega)).trans HT5.out)
  have HS6 : Hid (w4.heap.size < ((w4.alloc (.cells #[.int .i64 h1.k, .slice h1.ka h1.kn h1.kc, .slice h1.va h1.vn h1.vc, .slice h1.da h1.dn h1.dc, .slice h1.ta h1.tn h1.tc, .int .i64 h2.k, .slice h2.ka h2.kn h2.kc, .slice h2.va h2.vn h2.vc, .slice h2.da h2.dn h2.dc, .slice h2.ta h2.tn h2.tc] 25)).setCell ⟨w.heap.size, 4, none⟩ (.slice (some ⟨w4.heap.size, 0, none⟩) 2 2)).heap.size) := Lib.hid HT6.out.lt
  clear g6
  generalize (w4.alloc (.cells #[.int .i64 h1.k, .slice h1.ka h1.kn h1.kc, .slice h1.va h1.vn h1.vc, .slice h1.da h1.dn h1.dc, .slice h1.ta h1.tn h1.tc, .int .i64 h2.k, .slice h2.ka h2.kn h2.kc, .slice h2.va h2.vn h2.vc, .slice h2.da h2.dn h2.dc, .slice h2.ta h2.tn h2.tc] 25)).setCell ⟨w.heap.size, 4, none⟩ (.slice (some ⟨w4.heap.size, 0, none⟩) 2 2) = w6 at *
  obtain ⟨x0, x1, x2, x3, x4⟩ := HP6.out.cells
  go_wp2_with (first
    | (refine wpList_store_box rfl 25 (.tmp 8) (.tmp 43) rfl (w.heap.size + 2) hZ ⟨kd, ka, kn, kc, va, vn, vc, da, dn, dc, some ⟨w4.heap.size, 0, none⟩, 2, 2⟩ rfl rfl 25 HR6.out infoTree5 ?_
       intro w9 hbx9 hg9
       have HX9 := Lib.hid hbx9
       have HN9 : Hid (FreshT lo w9.heap.size w9 ⟨kd, ka, kn, kc, va, vn, vc, da, dn, dc, some ⟨w4.heap.size, 0, none⟩, 2, 2⟩ (.mk kd key val dig [c1, c2])) := Lib.hid (by
         have z4 := HZ4.out
         have s4 := HS4.out
         have s6 := HS6.out
         have s9 := hg9.size
         have t9 : Two5 w9 25 w4.heap.size h1 h2 := (hg9.block _ HT6.out.lt (fun q => by injection q with q; omega)).trans HT6.out
         have bk : FreshB lo w.heap.size w9 ka kn kc key := (HFK.out.below HB6.out (Nat.le_refl _)).grown hg9 HB6.out.size (.inr (Nat.le_add_right _ _))
         have bv : FreshB lo w.heap.size w9 va vn vc val := (HFV.out.below HB6.out (Nat.le_refl _)).grown hg9 HB6.out.size (.inr (Nat.le_add_right _ _))
         have bd : FreshB lo w.heap.size w9 da dn dc dig := (HFD.out.below HB6.out (Nat.le_refl _)).grown hg9 HB6.out.size (.inr (Nat.le_add_right _ _))
         have u1 := HF6.out.grown hg9 (by omega) (.inl (by omega))
         have u2 := HG6.out.grown hg9 (by omega) (.inl (by omega))
         have l9 : w.heap.size ≤ w9.heap.size := Nat.le_trans HB6.out.size s9
         exact FreshT.node t9 (by omega) (by omega) (u1.wide (by omega) (by omega)) (u2.wide (by omega) (by omega)) hk1 hk2 (bk.wide (Nat.le_refl _) l9) (bv.wide (Nat.le_refl _) l9) (bd.wide (Nat.le_refl _) l9))
       have HB9 : Hid (Below w.heap.size w w9) := Lib.hid (HB6.out.grown hg9 HB6.out.size (fun j hj => by injection hj; omega))
       clear hbx9 hg9))
  exact bodyPost_ret (Box.result Tryd.results47 _ HX9.out rfl Tryd.underlying25 infoTree5) rfl ⟨_, rfl, HN9.out, HB9.out⟩

set_option maxRecDepth 100000 in
set_option maxHeartbeats 4000000 in
theorem withKids_pc (k : Nat) (sp : DH) (kd : Int) (hk1 : -9223372036854775808 ≤ kd) (hk2 : kd ≤ 9223372036854775807) (ka va da : Option Addr) (kn kc vn vc dn dc : Nat) (key val dig : List Int) (c1 c2 : Tr) (h : TH) (t : Tr) (H : Nat → TH) (w : World) (lo : Nat) (hlo : lo ≤ w.heap.size)
    (fk : FreshB lo w.heap.size w ka kn kc key) (fv : FreshB lo w.heap.size w va vn vc val) (fd : FreshB lo w.heap.size w da dn dc dig) (ht : TreeAt w h t H) (h2 : h.tn = 2)
    (hl : ∀ W, Below w.heap.size w W → Calls Tryd.prog 21 #[.agg #[.int .i64 k, .slice sp.ka sp.kn sp.kc, .slice sp.va sp.vn sp.vc, .bool sp.out], .agg #[.int .i64 (H 0).k, .slice (H 0).ka (H 0).kn (H 0).kc, .slice (H 0).va (H 0).vn (H 0).vc, .slice (H 0).da (H 0).dn (H 0).dc, .slice (H 0).ta (H 0).tn (H 0).tc]] W (ProveOk W c1)) (hr : ∀ W, Below w.heap.size w W → Calls Tryd.prog 51 #[.agg #[.int .i64 k, .slice sp.ka sp.kn sp.kc, .slice sp.va sp.vn sp.vc, .bool sp.out], .agg #[.int .i64 (H 1).k, .slice (H 1).ka (H 1).kn (H 1).kc, .slice (H 1).va (H 1).vn (H 1).vc, .slice (H 1).da (H 1).dn (H 1).dc, .slice (H 1).ta (H 1).tn (H 1).tc]] W (ProveOk W c2)) :
    Calls Tryd.prog 47 #[.agg #[.int .i64 kd, .slice ka kn kc, .slice va vn vc, .slice da dn dc, .slice none 0 0], .agg #[.int .i64 h.k, .slice h.ka h.kn h.kc, .slice h.va h.vn h.vc, .slice h.da h.dn h.dc, .slice h.ta h.tn h.tc], .func (.func 21) #[.agg #[.int .i64 k, .slice sp.ka sp.kn sp.kc, .slice sp.va sp.vn sp.vc, .bool sp.out]] #[], .func (.func 51) #[.agg #[.int .i64 k, .slice sp.ka sp.kn sp.kc, .slice sp.va sp.vn sp.vc, .bool sp.out]] #[]] w (KidsPost w lo (.mk kd key val dig [c1, c2])) := by
  have HD := Lib.hid (ZK.enter w ⟨kd, ka, kn, kc, va, vn, vc, da, dn, dc, none, 0, 0⟩ h)
  have HP := Lib.hid ht
  have HL := Lib.hid hl
  have HR := Lib.hid hr
  have HFK := Lib.hid fk
  have HFV := Lib.hid fv
  have HFD := Lib.hid fd
  have ht0 : 0 < h.tn := by omega
  have ht1 : (1 : Int) < (h.tn : Int) := by omega
  obtain ⟨g, off, hta, -, -⟩ := ht.place ht0
  have HTA := Lib.hid hta
  clear ht hl hr fk fv fd h2 hta
  go_enter Tryd.func47, Tryd.ntmps47
  go_upto_region 1 with fail
  generalize (((w.alloc (.cells #[.int .i64 kd, .slice ka kn kc, .slice va vn vc, .slice da dn dc, .slice none 0 0] 25)).alloc (.cells #[.int .i64 h.k, .slice h.ka h.kn h.kc, .slice h.va h.vn h.vc, .slice h.da h.dn h.dc, .slice h.ta h.tn h.tc] 25)).alloc (.cells #[.int .i64 0, .slice none 0 0, .slice none 0 0, .slice none 0 0, .slice none 0 0] 25)) = w0 at *
  obtain ⟨x0, x1, x2, x3, x4⟩ := HD.out.nb.cells
  rw [HTA.out] at x4
  obtain ⟨y0, y1, y2, y3, y4⟩ := (HP.out.below HD.out.b).kid0 HTA.out (by omega)
  go_upto_region 4 with (first
    | (go_at_call 21
       refine (HL.out _ HD.out.b).mono ?_
       rintro _ w1 ⟨h1, rfl, f1, hb1⟩
       unfold TH.v
       have HD1 := Lib.hid (HD.out.below hb1)
       have HF1 : Hid (FreshT (w.heap.size + 3) w1.heap.size w1 h1 c1) := Lib.hid (f1.wide HD.out.sz (Nat.le_refl _))
       clear f1 hb1 x0 x1 x2 x3 x4 y0 y1 y2 y3 y4))
  have q2 : Below w1.heap.size w1 (w1.alloc (.cells #[.int .i64 h1.k, .slice h1.ka h1.kn h1.kc, .slice h1.va h1.vn h1.vc, .slice h1.da h1.dn h1.dc, .slice h1.ta h1.tn h1.tc] 25)) := (Below.refl _ _).alloc (Nat.le_refl _) _
  have HD2 := Lib.hid (HD1.out.below q2)
  have HF2 : Hid (FreshT (w.heap.size + 3) w1.heap.size (w1.alloc (.cells #[.int .i64 h1.k, .slice h1.ka h1.kn h1.kc, .slice h1.va h1.vn h1.vc, .slice h1.da h1.dn h1.dc, .slice h1.ta h1.tn h1.tc] 25)) h1 c1) := Lib.hid (HF1.out.below q2 (Nat.le_refl _))
  have HM2 := Lib.hid (Box.new w1 25 h1)
  have HZ2 : Hid (w.heap.size + 3 ≤ w1.heap.size) := Lib.hid HD1.out.sz
  have HS2 : Hid ((w1.alloc (.cells #[.int .i64 h1.k, .slice h1.ka h1.kn h1.kc, .slice h1.va h1.vn h1.vc, .slice h1.da h1.dn h1.dc, .slice h1.ta h1.tn h1.tc] 25)).heap.size = w1.heap.size + 1) := Lib.hid (by simp)
  clear q2
  generalize w1.alloc (.cells #[.int .i64 h1.k, .slice h1.ka h1.kn h1.kc, .slice h1.va h1.vn h1.vc, .slice h1.da h1.dn h1.dc, .slice h1.ta h1.tn h1.tc] 25) = w2 at *
  obtain ⟨x0, x1, x2, x3, x4⟩ := HD2.out.nb.cells
  rw [HTA.out] at x4
  obtain ⟨y0, y1, y2, y3, y4⟩ := (HP.out.below HD2.out.b).kid1 HTA.out (by omega)
  go_upto_region 7 with (first
    | (go_at_call 51
       refine (HR.out _ HD2.out.b).mono ?_
       rintro _ w3 ⟨h2, rfl, f2, hb3⟩
       unfold TH.v
       have HD3 := Lib.hid (HD2.out.below hb3)
       have HF3 : Hid (FreshT (w.heap.size + 3) w3.heap.size w3 h1 c1) := Lib.hid ((HF2.out.below hb3 (by rw [HS2.out]; omega)).wide (Nat.le_refl _) (by have := hb3.size; rw [HS2.out] at this; omega))
       have HG3 : Hid (FreshT (w.heap.size + 3) w3.heap.size w3 h2 c2) := Lib.hid (f2.wide HD2.out.sz (Nat.le_refl _))
       have HM3 := Lib.hid (HM2.out.below hb3 HM2.out.lt)
       clear f2 hb3 x0 x1 x2 x3 x4 y0 y1 y2 y3 y4))
  have q4 : Below w3.heap.size w3 (w3.alloc (.cells #[.int .i64 h2.k, .slice h2.ka h2.kn h2.kc, .slice h2.va h2.vn h2.vc, .slice h2.da h2.dn h2.dc, .slice h2.ta h2.tn h2.tc] 25)) := (Below.refl _ _).alloc (Nat.le_refl _) _
  have HD4 := Lib.hid (HD3.out.below q4)
  have HF4 : Hid (FreshT (w.heap.size + 3) w3.heap.size (w3.alloc (.cells #[.int .i64 h2.k, .slice h2.ka h2.kn h2.kc, .slice h2.va h2.vn h2.vc, .slice h2.da h2.dn h2.dc, .slice h2.ta h2.tn h2.tc] 25)) h1 c1) := Lib.hid (HF3.out.below q4 (Nat.le_refl _))
  have HG4 : Hid (FreshT (w.heap.size + 3) w3.heap.size (w3.alloc (.cells #[.int .i64 h2.k, .slice h2.ka h2.kn h2.kc, .slice h2.va h2.vn h2.vc, .slice h2.da h2.dn h2.dc, .slice h2.ta h2.tn h2.tc] 25)) h2 c2) := Lib.hid (HG3.out.below q4 (Nat.le_refl _))
  have HM4 := Lib.hid (HM3.out.below q4 HM3.out.lt)
  have HN4 := Lib.hid (Box.new w3 25 h2)
  have HZ4 : Hid (w.heap.size + 3 ≤ w3.heap.size) := Lib.hid HD3.out.sz
  have HS4 : Hid ((w3.alloc (.cells #[.int .i64 h2.k, .slice h2.ka h2.kn h2.kc, .slice h2.va h2.vn h2.vc, .slice h2.da h2.dn h2.dc, .slice h2.ta h2.tn h2.tc] 25)).heap.size = w3.heap.size + 1) := Lib.hid (by simp)
  clear q4
  generalize w3.alloc (.cells #[.int .i64 h2.k, .slice h2.ka h2.kn h2.kc, .slice h2.va h2.vn h2.vc, .slice h2.da h2.dn h2.dc, .slice h2.ta h2.tn h2.tc] 25) = w4 at *
  obtain ⟨x0, x1, x2, x3, x4⟩ := HM4.out.cells
  obtain ⟨y0, y1, y2, y3, y4⟩ := HN4.out.cells
  have q5 : Below w4.heap.size w4 (w4.alloc (.cells #[.int .i64 h1.k, .slice h1.ka h1.kn h1.kc, .slice h1.va h1.vn h1.vc, .slice h1.da h1.dn h1.dc, .slice h1.ta h1.tn h1.tc, .int .i64 h2.k, .slice h2.ka h2.kn h2.kc, .slice h2.va h2.vn h2.vc, .slice h2.da h2.dn h2.dc, .slice h2.ta h2.tn h2.tc] 25)) := (Below.refl _ _).alloc (Nat.le_refl _) _
  have fr := ZK.free (HD4.out.below q5)
  have fc := (HD4.out.below q5).pb.cells.2.2.2.2
  have HD5 := Lib.hid (HD4.out.below q5)
  have HF5 : Hid (FreshT (w.heap.size + 3) w3.heap.size (w4.alloc (.cells #[.int .i64 h1.k, .slice h1.ka h1.kn h1.kc, .slice h1.va h1.vn h1.vc, .slice h1.da h1.dn h1.dc, .slice h1.ta h1.tn h1.tc, .int .i64 h2.k, .slice h2.ka h2.kn h2.kc, .slice h2.va h2.vn h2.vc, .slice h2.da h2.dn h2.dc, .slice h2.ta h2.tn h2.tc] 25)) h1 c1) := Lib.hid (HF4.out.below q5 (by rw [HS4.out]; omega))
  have HG5 : Hid (FreshT (w.heap.size + 3) w3.heap.size (w4.alloc (.cells #[.int .i64 h1.k, .slice h1.ka h1.kn h1.kc, .slice h1.va h1.vn h1.vc, .slice h1.da h1.dn h1.dc, .slice h1.ta h1.tn h1.tc, .int .i64 h2.k, .slice h2.ka h2.kn h2.kc, .slice h2.va h2.vn h2.vc, .slice h2.da h2.dn h2.dc, .slice h2.ta h2.tn h2.tc] 25)) h2 c2) := Lib.hid (HG4.out.below q5 (by rw [HS4.out]; omega))
  have HT5 := Lib.hid (Two5.new w4 25 h1 h2)
  have HS5 : Hid ((w4.alloc (.cells #[.int .i64 h1.k, .slice h1.ka h1.kn h1.kc, .slice h1.va h1.vn h1.vc, .slice h1.da h1.dn h1.dc, .slice h1.ta h1.tn h1.tc, .int .i64 h2.k, .slice h2.ka h2.kn h2.kc, .slice h2.va h2.vn h2.vc, .slice h2.da h2.dn h2.dc, .slice h2.ta h2.tn h2.tc] 25)).heap.size = w4.heap.size + 1) := Lib.hid (by simp)
  clear q5
  go_upto_region 8 with fail
  clear fr fc x0 x1 x2 x3 x4 y0 y1 y2 y3 y4
  have g6 : (w4.alloc (.cells #[.int .i64 h1.k, .slice h1.ka h1.kn h1.kc, .slice h1.va h1.vn h1.vc, .slice h1.da h1.dn h1.dc, .slice h1.ta h1.tn h1.tc, .int .i64 h2.k, .slice h2.ka h2.kn h2.kc, .slice h2.va h2.vn h2.vc, .slice h2.da h2.dn h2.dc, .slice h2.ta h2.tn h2.tc] 25)).grownBy ((w4.alloc (.cells #[.int .i64 h1.k, .slice h1.ka h1.kn h1.kc, .slice h1.va h1.vn h1.vc, .slice h1.da h1.dn h1.dc, .slice h1.ta h1.tn h1.tc, .int .i64 h2.k, .slice h2.ka h2.kn h2.kc, .slice h2.va h2.vn h2.vc, .slice h2.da h2.dn h2.dc, .slice h2.ta h2.tn h2.tc] 25)).setCell ⟨w.heap.size, 4, none⟩ (.slice (some ⟨w4.heap.size, 0, none⟩) 2 2)) (some w.heap.size) := only_set (only_refl _ _) 4 _
  have HP6 := Lib.hid (ZK.set4 HD5.out (some ⟨w4.heap.size, 0, none⟩) 2 2)
  have HR6 := Lib.hid (HD5.out.res.grown g6 (fun q => by injection q with q; omega))
  have HB6 : Hid (Below w.heap.size w ((w4.alloc (.cells #[.int .i64 h1.k, .slice h1.ka h1.kn h1.kc, .slice h1.va h1.vn h1.vc, .slice h1.da h1.dn h1.dc, .slice h1.ta h1.tn h1.tc, .int .i64 h2.k, .slice h2.ka h2.kn h2.kc, .slice h2.va h2.vn h2.vc, .slice h2.da h2.dn h2.dc, .slice h2.ta h2.tn h2.tc] 25)).setCell ⟨w.heap.size, 4, none⟩ (.slice (some ⟨w4.heap.size, 0, none⟩) 2 2))) := Lib.hid (HD5.out.b.grown g6 HD5.out.b.size (fun j hj => by injection hj; omega))
  have HF6 := Lib.hid (HF5.out.grown g6 (by rw [HS5.out, HS4.out]; omega) (.inl (by omega)))
  have HG6 := Lib.hid (HG5.out.grown g6 (by rw [HS5.out, HS4.out]; omega) (.inl (by omega)))
  have HT6 : Hid (Two5 ((w4.alloc (.cells #[.int .i64 h1.k, .slice h1.ka h1.kn h1.kc, .slice h1.va h1.vn h1.vc, .slice h1.da h1.dn h1.dc, .slice h1.ta h1.tn h1.tc, .int .i64 h2.k, .slice h2.ka h2.kn h2.kc, .slice h2.va h2.vn h2.vc, .slice h2.da h2.dn h2.dc, .slice h2.ta h2.tn h2.tc] 25)).setCell ⟨w.heap.size, 4, none⟩ (.slice (some ⟨w4.heap.size, 0, none⟩) 2 2)) 25 w4.heap.size h1 h2) := Lib.hid ((g6.block _ HT5.out.lt (fun q => by injection q with q; have := HZ4.out; have := HS4.out; omega)).trans HT5.out)
  have HS6 : Hid (w4.heap.size < ((w4.alloc (.cells #[.int .i64 h1.k, .slice h1.ka h1.kn h1.kc, .slice h1.va h1.vn h1.vc, .slice h1.da h1.dn h1.dc, .slice h1.ta h1.tn h1.tc, .int .i64 h2.k, .slice h2.ka h2.kn h2.kc, .slice h2.va h2.vn h2.vc, .slice h2.da h2.dn h2.dc, .slice h2.ta h2.tn h2.tc] 25)).setCell ⟨w.heap.size, 4, none⟩ (.slice (some ⟨w4.heap.size, 0, none⟩) 2 2)).heap.size) := Lib.hid HT6.out.lt
  clear g6
  generalize (w4.alloc (.cells #[.int .i64 h1.k, .slice h1.ka h1.kn h1.kc, .slice h1.va h1.vn h1.vc, .slice h1.da h1.dn h1.dc, .slice h1.ta h1.tn h1.tc, .int .i64 h2.k, .slice h2.ka h2.kn h2.kc, .slice h2.va h2.vn h2.vc, .slice h2.da h2.dn h2.dc, .slice h2.ta h2.tn h2.tc] 25)).setCell ⟨w.heap.size, 4, none⟩ (.slice (some ⟨w4.heap.size, 0, none⟩) 2 2) = w6 at *
  obtain ⟨x0, x1, x2, x3, x4⟩ := HP6.out.cells
  go_wp2_with (first
    | (refine wpList_store_box rfl 25 (.tmp 8) (.tmp 43) rfl (w.heap.size + 2) hZ ⟨kd, ka, kn, kc, va, vn, vc, da, dn, dc, some ⟨w4.heap.size, 0, none⟩, 2, 2⟩ rfl rfl 25 HR6.out infoTree5 ?_
       intro w9 hbx9 hg9
       have HX9 := Lib.hid hbx9
       have HN9 : Hid (FreshT lo w9.heap.size w9 ⟨kd, ka, kn, kc, va, vn, vc, da, dn, dc, some ⟨w4.heap.size, 0, none⟩, 2, 2⟩ (.mk kd key val dig [c1, c2])) := Lib.hid (by
         have z4 := HZ4.out
         have s4 := HS4.out
         have s6 := HS6.out
         have s9 := hg9.size
         have t9 : Two5 w9 25 w4.heap.size h1 h2 := (hg9.block _ HT6.out.lt (fun q => by injection q with q; omega)).trans HT6.out
         have bk : FreshB lo w.heap.size w9 ka kn kc key := (HFK.out.below HB6.out (Nat.le_refl _)).grown hg9 HB6.out.size (.inr (Nat.le_add_right _ _))
         have bv : FreshB lo w.heap.size w9 va vn vc val := (HFV.out.below HB6.out (Nat.le_refl _)).grown hg9 HB6.out.size (.inr (Nat.le_add_right _ _))
         have bd : FreshB lo w.heap.size w9 da dn dc dig := (HFD.out.below HB6.out (Nat.le_refl _)).grown hg9 HB6.out.size (.inr (Nat.le_add_right _ _))
         have u1 := HF6.out.grown hg9 (by omega) (.inl (by omega))
         have u2 := HG6.out.grown hg9 (by omega) (.inl (by omega))
         have l9 : w.heap.size ≤ w9.heap.size := Nat.le_trans HB6.out.size s9
         exact FreshT.node t9 (by omega) (by omega) (u1.wide (by omega) (by omega)) (u2.wide (by omega) (by omega)) hk1 hk2 (bk.wide (Nat.le_refl _) l9) (bv.wide (Nat.le_refl _) l9) (bd.wide (Nat.le_refl _) l9))
       have HB9 : Hid (Below w.heap.size w w9) := Lib.hid (HB6.out.grown hg9 HB6.out.size (fun j hj => by injection hj; omega))
       clear hbx9 hg9))
  exact bodyPost_ret (Box.result Tryd.results47 _ HX9.out rfl Tryd.underlying25 infoTree5) rfl ⟨_, rfl, HN9.out, HB9.out⟩

end Go.Proofs.YtkfjhegehhahcaaDoor

/- Rows of pairs of a key and a value. No program is named here. -/
namespace Go.Proofs.YtkfjhegehhahcaaDoor
open Go.RowKit
set_option linter.unusedVariables false

/-- The head of a pair: its two cells. -/
structure PH where
  ka : Option Addr
  kn : Nat
  kc : Nat
  va : Option Addr
  vn : Nat
  vc : Nat
def recP : Rec PH where
  cells := fun p => [.slice p.ka p.kn p.kc, .slice p.va p.vn p.vc]
  sz := 2
  pos := by omega
  len := fun _ => rfl
  one := fun r u hu => by
    simp at hu
    rcases hu with rfl | rfl <;> rfl
/-- A slice's cell. -/
def isSl (u : Value) : Prop := ∃ a n c, u = .slice a n c
theorem recP_sl (p : PH) : ∀ u ∈ recP.cells p, isSl u := fun u hu => by
  simp [recP] at hu
  rcases hu with rfl | rfl
  · exact ⟨_, _, _, rfl⟩
  · exact ⟨_, _, _, rfl⟩
/-- Heads and pairs, side by side. -/
def PairsIn (w : World) (ps : List PH) (kvs : List KV) : Prop := ps.length = kvs.length ∧ ∀ i (h1 : i < ps.length) (h2 : i < kvs.length), InBytes w (ps[i]).ka (ps[i]).kn (ps[i]).kc (kvs[i]).1 ∧ InBytes w (ps[i]).va (ps[i]).vn (ps[i]).vc (kvs[i]).2
theorem PairsIn.nil (w : World) : PairsIn w [] [] := ⟨rfl, fun i h1 => by simp at h1⟩
theorem PairsIn.snoc {w : World} {ps : List PH} {kvs : List KV} (h : PairsIn w ps kvs) {p : PH} {q : KV} (hk : InBytes w p.ka p.kn p.kc q.1) (hv : InBytes w p.va p.vn p.vc q.2) : PairsIn w (ps ++ [p]) (kvs ++ [q]) := by
  refine ⟨by simp [h.1], fun i h1 h2 => ?_⟩
  by_cases hi : i < ps.length
  · rw [List.getElem_append_left hi, List.getElem_append_left (by rw [← h.1]; exact hi)]
    exact h.2 i hi _
  · have e : i = ps.length := by rw [List.length_append] at h1; simp at h1; omega
    have e2 : i = kvs.length := by rw [e, h.1]
    have g1 : (ps ++ [p])[i] = p := by simp [e]
    have g2 : (kvs ++ [q])[i] = q := by simp [e2]
    rw [g1, g2]
    exact ⟨hk, hv⟩
theorem PairsIn.below {w w' : World} {ps : List PH} {kvs : List KV} (h : PairsIn w ps kvs) (hb : Below w.heap.size w w') : PairsIn w' ps kvs := ⟨h.1, fun i h1 h2 => ⟨(h.2 i h1 h2).1.below hb, (h.2 i h1 h2).2.below hb⟩⟩
/-- Bytes do not lie where slices lie. -/
theorem InBytes.outRow {W W' : World} {g : Nat} {a : Option Addr} {n c : Nat} {zs : List Int} (h : InBytes W a n c zs) (hs : ∀ j u, W.cell? ⟨g, j, none⟩ = some u → isSl u) (hg : W.grownBy W' (some g)) : InBytes W' a n c zs :=
  ⟨h.len, h.bytes, h.le, h.max, h.nil, fun h0 => by
    obtain ⟨g', off, e, hlt, hc⟩ := h.place h0
    have hne : some g' ≠ some g := fun q => by
      injection q with q
      subst q
      obtain ⟨_, _, _, q⟩ := hs _ _ (hc 0 (by rw [h.len]; exact h0))
      cases q
    exact ⟨g', off, e, Nat.lt_of_lt_of_le hlt hg.size, hc.keep fun o => World.cell?_of_block (a := ⟨g', o, none⟩) (hg.block g' hlt hne)⟩⟩
theorem AT.outRow {W W' : World} {g : Nat} (hs : ∀ j u, W.cell? ⟨g, j, none⟩ = some u → isSl u) (hg : W.grownBy W' (some g)) : ∀ (a : AT) (h : TH), InTree W h a.tr → InTree W' h a.tr := by
  intro a
  induction a with
  | nil =>
    intro h ht
    obtain ⟨H, hp⟩ := ht.parts
    have h0 : h.tn = 0 := hp.len.symm
    exact .mk h _ H hp.hk hp.hk1 hp.hk2 (hp.key.outRow hs hg) (hp.val.outRow hs hg) (hp.dig.outRow hs hg) ⟨hp.sl.le, hp.sl.max, hp.sl.nil, fun q => by omega⟩ hp.len (fun i hi => absurd hi (Nat.not_lt_zero i))
  | node l k v r ihl ihr =>
    intro h ht
    obtain ⟨H, hp⟩ := ht.parts
    have h2 : h.tn = 2 := hp.len.symm
    refine .mk h _ H hp.hk hp.hk1 hp.hk2 (hp.key.outRow hs hg) (hp.val.outRow hs hg) (hp.dig.outRow hs hg) ⟨hp.sl.le, hp.sl.max, hp.sl.nil, fun q => ?_⟩ hp.len (fun i hi => ?_)
    · obtain ⟨g', off, e, hlt, hc⟩ := hp.sl.place q
      have hne : some g' ≠ some g := fun q => by
        injection q with q
        subst q
        obtain ⟨_, _, _, q⟩ := hs _ _ (hc 0 (by omega))
        cases q
      exact ⟨g', off, e, Nat.lt_of_lt_of_le hlt hg.size, fun i hi => (World.cell?_of_block (a := ⟨g', off + i, none⟩) (hg.block g' hlt hne)).trans (hc i hi)⟩
    · have hi' : i < 2 := hi
      rcases (by omega : i = 0 ∨ i = 1) with rfl | rfl
      · exact ihl _ (hp.kids 0 hi)
      · exact ihr _ (hp.kids 1 hi)
end Go.Proofs.YtkfjhegehhahcaaDoor

/- What the program's scan tells, as its contracts say it: the types alone are named. -/
namespace Go.Proofs.YtkfjhegehhahcaaDoor
open Go.RowKit
set_option linter.unusedVariables false

/-- The point of a key. -/
def Points (w : World) (key : List Int) (e : Ending) (w' : World) : Prop := ∃ h' : DH, e = .returned h'.v ∧ SpanIn w' h' key (key ++ [0]) ∧ h'.out = false ∧ Below w.heap.size w w'
/-- Values that may be written: bytes, from the block base on. -/
def ValsOK (W : World) (base : Nat) (ps : List PH) : Prop := ∀ i (h : i < ps.length), 0 < (ps[i]).vn → ∃ g off, (ps[i]).va = some ⟨g, off, none⟩ ∧ base ≤ g ∧ g < W.heap.size ∧ ∀ k, k < (ps[i]).vn → W.frozen? ⟨g, off + k, none⟩ = false ∧ ∃ z, W.cell? ⟨g, off + k, none⟩ = some (.int .u8 z) ∧ 0 ≤ z ∧ z ≤ 255
/-- Range's error. -/
def RangeBad (w : World) (e : Ending) (w' : World) : Prop := ∃ a c, e = .returned (.tuple #[.slice a 0 c, codeV 3]) ∧ Below w.heap.size w w'
/-- Range's pairs. -/
def RangeOk (w : World) (kvs : List KV) (e : Ending) (w' : World) : Prop := ∃ ra r rc rs, e = .returned (.tuple #[.slice ra r rc, .nilIface]) ∧ OwnR recP w' w.heap.size 51 (.slice ra r rc) rs ∧ rs.length = r ∧ PairsIn w' rs kvs ∧ ValsOK w' w.heap.size rs ∧ Below w.heap.size w w'
/-- A law's own box of its span; the span's bytes lie in w. -/
structure SX (w W : World) (sp : DH) (f t : List Int) : Prop where
  box : RBox recD W 27 w.heap.size sp
  s : SpanIn w sp f t
  b : Below w.heap.size w W
theorem SX.below {w W W' : World} {sp : DH} {f t : List Int} (x : SX w W sp f t) (hb : Below W.heap.size W W') : SX w W' sp f t := ⟨x.box.below hb x.box.lt, x.s, x.b.trans (hb.mono x.b.size)⟩
theorem SX.drew {w W : World} {sp : DH} {f t : List Int} (x : SX w W sp f t) : SX w W.drew sp f t := x.below (Below.refl _ _).drew
theorem SX.sp {w W : World} {sp : DH} {f t : List Int} (x : SX w W sp f t) : SpanIn W sp f t := x.s.below x.b
theorem SX.new (w : World) {sp : DH} {f t : List Int} (h : SpanIn w sp f t) : SX w (w.alloc (.cells #[.slice sp.ka sp.kn sp.kc, .slice sp.va sp.vn sp.vc, .bool sp.out] 27)) sp f t := ⟨DH.box w _ sp, h, (Below.refl _ _).alloc (Nat.le_refl _) _⟩
theorem infoSpan : (Tryd.prog.info? 27).map (·.size) = some 3 := by kernel_rfl
/-- In a point its key is alone. -/
theorem point_in {key other : List Int} (h : Bytes8 other) : inS key (key ++ [0]) false other = (other == key) := by
  unfold inS
  rw [Bool.false_or, lt_zero key other h]
  rcases ltL_three other key with c | c | c
  · rw [c, beq_eq_false_iff_ne.2 (ltL_ne c)]
    rfl
  · subst c
    rw [ltL_irr]
    simp
  · rw [c, beq_eq_false_iff_ne.2 (fun q => ltL_ne c q.symm)]
    simp
/-- What is between is not in a span in which no key is left. -/
theorem empty_none {f t low high key : List Int} {o hl hh : Bool} (hk : Bytes8 key) (he : emptyS f t o low high hl hh = true) (hb : ((!hl || ltL low key) && (!hh || ltL key high)) = true) : inS f t o key = false := by
  rw [Bool.and_eq_true, Bool.or_eq_true, Bool.or_eq_true, Bool.not_eq_true', Bool.not_eq_true'] at hb
  -- the least key is not above this one, if it is in the span's beginning
  cases hin : inS f t o key with
  | false => rfl
  | true =>
    exfalso
    unfold inS at hin
    rw [Bool.and_eq_true, Bool.or_eq_true, Bool.not_eq_true'] at hin
    have hle : ltL key (leastS f low hl) = false := by
      unfold leastS
      split
      · rename_i hc
        rw [Bool.and_eq_true] at hc
        rw [lt_zero low key hk]
        rcases hb.1 with q | q
        · rw [hc.1] at q; cases q
        · rw [q]; rfl
      · exact hin.1
    have trans : ∀ {x : List Int}, ltL key x = true → ltL (leastS f low hl) x = true := fun {x} hx => by
      rcases ltL_three (leastS f low hl) key with c | c | c
      · exact ltL_trans c hx
      · rw [c]; exact hx
      · rw [hle] at c; cases c
    unfold emptyS at he
    rw [Bool.or_eq_true, Bool.and_eq_true, Bool.and_eq_true, Bool.not_eq_true', Bool.not_eq_true', Bool.not_eq_true'] at he
    rcases he with ⟨h1, h2⟩ | ⟨h1, h2⟩
    · rcases hb.2 with q | q
      · rw [h1] at q; cases q
      · rw [trans q] at h2; cases h2
    · rcases hin.2 with q | q
      · rw [h1] at q; cases q
      · rw [trans q] at h2; cases h2
end Go.Proofs.YtkfjhegehhahcaaDoor

/- The contract of bytes.Compare: the order of byte strings. -/
namespace Go.Proofs.YtkfjhegehhahcaaDoor
open Go.RowKit
set_option linter.unusedVariables false

/-- -1, 0 or 1, by the order of two byte strings. -/
def ordL (xs ys : List Int) : Int := if ltL xs ys then -1 else if ltL ys xs then 1 else 0
theorem ordL_lt {xs ys : List Int} (h : ltL xs ys = true) : ordL xs ys = -1 := by unfold ordL; rw [if_pos h]
theorem ordL_gt {xs ys : List Int} (h : ltL ys xs = true) : ordL xs ys = 1 := by unfold ordL; rw [if_neg (by rw [ltL_asymm h]; simp), if_pos h]
theorem ordL_eq (xs : List Int) : ordL xs xs = 0 := by unfold ordL; rw [if_neg (by rw [ltL_irr]; simp), if_neg (by rw [ltL_irr]; simp)]
theorem cmp_ord : ∀ {xs ys : List Int}, Bytes8 xs → Bytes8 ys → Lib.compareBytes (xs.map fun n => UInt8.ofNat n.toNat) (ys.map fun n => UInt8.ofNat n.toNat) = ordL xs ys
  | [], [], _, _ => rfl
  | _ :: _, [], _, _ => rfl
  | [], _ :: _, _, _ => rfl
  | x :: xs, y :: ys, hx, hy => by
    have h1 := hx x (by simp)
    have h2 := hy y (by simp)
    have ih := cmp_ord (xs := xs) (ys := ys) (fun z hz => hx z (by simp [hz])) (fun z hz => hy z (by simp [hz]))
    rw [List.map_cons, List.map_cons, Lib.compareBytes, ih]
    have e1 : ∀ {a b : Int}, 0 ≤ a ∧ a ≤ 255 → 0 ≤ b ∧ b ≤ 255 → ((UInt8.ofNat a.toNat < UInt8.ofNat b.toNat) ↔ a < b) := fun ha hb => by
      rw [UInt8.lt_iff_toNat_lt]
      simp only [UInt8.toNat_ofNat']
      omega
    by_cases c1 : x < y
    · rw [if_pos ((e1 h1 h2).2 c1), ordL_lt (by simp [ltL, c1])]
    · rw [if_neg (fun q => c1 ((e1 h1 h2).1 q))]
      by_cases c2 : y < x
      · rw [if_pos ((e1 h2 h1).2 c2), ordL_gt (by simp [ltL, c2])]
      · rw [if_neg (fun q => c2 ((e1 h2 h1).1 q))]
        obtain rfl : x = y := by omega
        have e2 : ∀ p q : List Int, ltL (x :: p) (x :: q) = ltL p q := fun p q => by simp [ltL]
        unfold ordL
        rw [e2, e2]
theorem bytesOf_in {P : Program} {w : World} {a : Option Addr} {n cap : Nat} {bs : List Int} (h : InBytes w a n cap bs) : (Extern.Bytes.bytesOf (.slice a n cap)).run P w = .ok (strOfNums bs) w := by
  by_cases h0 : 0 < n
  · obtain ⟨g, off, rfl, _, hseg⟩ := h.place h0
    have hl := Lib.run_loadBytesX (P := P) w bs ⟨g, off, none⟩ .empty (fun j x hj => by
      have hjl : j < bs.length := (List.getElem?_eq_some_iff.1 hj).1
      have e : (⟨g, off, none⟩ : Addr).add j = ⟨g, off + j, none⟩ := by unfold Addr.add; split <;> simp_all
      rw [e, hseg j hjl]
      rw [List.getElem?_eq_getElem hjl] at hj
      injection hj with hj
      rw [hj])
    rw [h.len] at hl
    have e : (⟨ByteArray.empty.data ++ (Lib.bytesOf bs).toArray⟩ : ByteArray) = strOfNums bs := by
      apply ByteArray.ext
      show (#[] : Array UInt8) ++ (Lib.bytesOf bs).toArray = _
      simp [strOfNums, Lib.bytesOf]
    rw [e] at hl
    exact hl
  · have hn : n = 0 := by omega
    subst hn
    have hb : bs = [] := List.eq_nil_of_length_eq_zero h.len
    subst hb
    cases a with
    | none => rfl
    | some x => rfl
theorem run_compare {P : Program} {w : World} {a b : Option Addr} {n m c d : Nat} {xs ys : List Int} (hx : InBytes w a n c xs) (hy : InBytes w b m d ys) :
    (Extern.BytealgCompare.compare #[.slice a n c, .slice b m d]).run P w = .ok (.int .i64 (ordL xs ys)) w := by
  change Sem.run P (do pure (goInt (Extern.BytealgCompare.cmp (← Extern.Bytes.bytesOf (.slice a n c)) (← Extern.Bytes.bytesOf (.slice b m d))))) w = _
  simp only [Sem.run_bind, Sem.run_pure, bytesOf_in hx, bytesOf_in hy, Result.andThen]
  rw [Lib.cmp_eq, strOfNums_data, strOfNums_data, cmp_ord hx.bytes hy.bytes]
  rfl
theorem compare_fact {w : World} {a b : Option Addr} {n m c d : Nat} {xs ys : List Int} (hx : InBytes w a n c xs) (hy : InBytes w b m d ys) :
    (callFunc 67 #[.slice a n c, .slice b m d]).run Tryd.prog w = .ok (.value (.int .i64 (ordL xs ys))) w := by
  rw [run_callFunc_extern Tryd.func67 (by kernel_rfl) (by kernel_rfl) (by kernel_rfl) (e := Extern.BytealgCompare.compare) (by kernel_rfl), run_compare hx hy]
  rfl
set_option maxRecDepth 100000 in
/-- bytes.Compare: the world is as it was. -/
theorem compare_any (xs ys : List Int) (a b : Option Addr) (n m c d : Nat) (w : World) (hx : InBytes w a n c xs) (hy : InBytes w b m d ys) :
    Calls Tryd.prog 50 #[.slice a n c, .slice b m d] w fun e w' => e = .returned (.int .i64 (ordL xs ys)) ∧ w' = w := by
  have hc := compare_fact hx hy
  go_enter Tryd.func50, Tryd.ntmps50
  go_wp2
  go_ret
  exact ⟨rfl, rfl⟩
end Go.Proofs.YtkfjhegehhahcaaDoor

/- The contract of the program's In of spans. -/
namespace Go.Proofs.YtkfjhegehhahcaaDoor
open Go.RowKit
set_option linter.unusedVariables false

/-- Which of three numbers tells of an order. -/
theorem ord_is (xs ys : List Int) : (ltL xs ys = true ∧ ordL xs ys = -1) ∨ (ltL xs ys = false ∧ ordL xs ys = 0) ∨ (ltL xs ys = false ∧ ordL xs ys = 1) := by
  rcases ltL_three xs ys with c | c | c
  · exact .inl ⟨c, ordL_lt c⟩
  · subst c
    exact .inr (.inl ⟨ltL_irr _, ordL_eq _⟩)
  · exact .inr (.inr ⟨ltL_asymm c, ordL_gt c⟩)

set_option maxRecDepth 100000 in
set_option maxHeartbeats 4000000 in
theorem scanIn_any (h : DH) (f t key : List Int) (ka : Option Addr) (kn kc : Nat) (w : World) (hs : SpanIn w h f t) (hk : InBytes w ka kn kc key) : Calls Tryd.prog 46 #[h.v, .slice ka kn kc] w (Says w (.bool (inS f t h.out key))) := by
  unfold DH.v
  have q0 : Below w.heap.size w (w.alloc (.cells #[.slice h.ka h.kn h.kc, .slice h.va h.vn h.vc, .bool h.out] 27)) := (Below.refl _ _).alloc (Nat.le_refl _) _
  obtain ⟨x0, x1, x2⟩ := (DH.box w 27 h).three
  have HS := Lib.hid (hs.below q0)
  have HK := Lib.hid (hk.below q0)
  have HB := Lib.hid q0
  clear q0 hs hk
  have HE : Hid (inS f t h.out key = (!ltL key f && (h.out || ltL key t))) := Lib.hid rfl
  go_enter Tryd.func46, Tryd.ntmps46
  go_upto_region 1 with fail
  generalize (w.alloc (.cells #[.slice h.ka h.kn h.kc, .slice h.va h.vn h.vc, .bool h.out] 27)) = w0 at *
  generalize hio : inS f t h.out key = io at *
  clear hio
  generalize h.out = oo at *
  rcases ord_is key f with ⟨c0, o0⟩ | ⟨c0, o0⟩ | ⟨c0, o0⟩
  · have HO := Lib.hid o0
    have HC := Lib.hid c0
    clear o0 c0
    go_wp2_with (first
      | (go_at_call 50
         refine (compare_any key f _ _ _ _ _ _ _ HK.out HS.out.f).mono ?_
         rintro _ w1 ⟨rfl, hw1⟩
         rw [hw1]
         clear hw1
         rw [HO.out]))
    go_ret
    exact ⟨by rw [HE.out, HC.out]; rfl, HB.out⟩
  all_goals
    have HO := Lib.hid o0
    have HC := Lib.hid c0
    clear o0 c0
    cases oo with
    | true =>
      go_wp2_with (first
        | (go_at_call 50
           refine (compare_any key f _ _ _ _ _ _ _ HK.out HS.out.f).mono ?_
           rintro _ w1 ⟨rfl, hw1⟩
           rw [hw1]
           clear hw1
           rw [HO.out]))
      go_ret
      exact ⟨by rw [HE.out, HC.out]; rfl, HB.out⟩
    | false =>
      rcases ord_is key t with ⟨c1, o1⟩ | ⟨c1, o1⟩ | ⟨c1, o1⟩
      all_goals
        have HO1 := Lib.hid o1
        have HC1 := Lib.hid c1
        clear o1 c1
        go_wp2_with (first
          | (go_at_call 50
             refine (compare_any key f _ _ _ _ _ _ _ HK.out HS.out.f).mono ?_
             rintro _ w1 ⟨rfl, hw1⟩
             rw [hw1]
             clear hw1
             rw [HO.out])
          | (go_at_call 50
             refine (compare_any key t _ _ _ _ _ _ _ HK.out HS.out.t).mono ?_
             rintro _ w1 ⟨rfl, hw1⟩
             rw [hw1]
             clear hw1
             rw [HO1.out]))
        go_ret
        exact ⟨by rw [HE.out, HC.out, HC1.out]; rfl, HB.out⟩
end Go.Proofs.YtkfjhegehhahcaaDoor
