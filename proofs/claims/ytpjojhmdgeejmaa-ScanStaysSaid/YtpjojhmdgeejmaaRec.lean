/- Rows of records in one's own memory, and as arguments. No program is named here. -/
import Derived.Test.YtpjojhmdgeejmaaArg
import Derived.Test.YtpjojhmdgeejmaaTreeRow
namespace Go.Proofs.Ytpjojhmdgeejmaa
open Go.ChangeShapes Go.WideShapes Go.RowKit Go.Deep
set_option linter.unusedVariables false

/-- A kind of record: its cells. -/
structure Rec (R : Type) where
  cells : R → List Value
  sz : Nat
  pos : 0 < sz
  len : ∀ r, (cells r).length = sz
  one : ∀ r u, u ∈ cells r → u.oneCell' = true
section
variable {R : Type}
/-- The cells of records, one behind the other. -/
def Rec.row (c : Rec R) (rs : List R) : List Value := rs.flatMap c.cells
theorem Rec.row_len (c : Rec R) (rs : List R) : (c.row rs).length = rs.length * c.sz := by
  unfold Rec.row
  induction rs with
  | nil => simp
  | cons h r ih =>
    rw [List.flatMap_cons, List.length_append, ih, c.len, List.length_cons, Nat.succ_mul]
    omega
theorem Rec.row_app (c : Rec R) (a b : List R) : c.row (a ++ b) = c.row a ++ c.row b := by simp [Rec.row]
theorem Rec.row_single (c : Rec R) (a : R) : c.row [a] = c.cells a := by simp [Rec.row]
theorem Rec.row_one (c : Rec R) {rs : List R} {u : Value} (h : u ∈ c.row rs) : u.oneCell' = true := by
  unfold Rec.row at h
  rw [List.mem_flatMap] at h
  obtain ⟨x, _, hx⟩ := h
  exact c.one x u hx
theorem Rec.row_get (c : Rec R) (rs : List R) (i j : Nat) (hi : i < rs.length) (hj : j < c.sz) : (c.row rs)[i * c.sz + j]? = (c.cells rs[i])[j]? := by
  induction rs generalizing i with
  | nil => simp at hi
  | cons h r ih =>
    have e : c.row (h :: r) = c.cells h ++ c.row r := by simp [Rec.row]
    rw [e]
    rcases i with _ | i
    · rw [List.getElem?_append_left (by rw [c.len]; omega), Nat.zero_mul, Nat.zero_add]
      rfl
    · rw [List.getElem?_append_right (by rw [c.len, Nat.succ_mul]; omega)]
      have e2 : (i + 1) * c.sz + j - (c.cells h).length = i * c.sz + j := by rw [c.len, Nat.succ_mul]; omega
      rw [e2, ih i (by simpa using hi)]
      simp

/-- A row of records in new memory, from the block base on. -/
def OwnR (c : Rec R) (W : World) (base : Nat) (ty : TypeId) (v : Value) (rs : List R) : Prop := W.ownsRow base ty c.sz v rs.length (c.row rs)
variable {c : Rec R} {W W' : World} {base base' : Nat} {ty : TypeId} {v : Value} {rs : List R}
theorem OwnR.grown (h : OwnR c W base ty v rs) {row : Option Nat} (hg : W.grownBy W' row) (hne : v.ownBlock = none ∨ v.ownBlock ≠ row) : OwnR c W' base ty v rs := World.ownsRow.kept h hg hne
theorem OwnR.keep (h : OwnR c W base ty v rs) (hb : Below W.heap.size W W') : OwnR c W' base ty v rs :=
  h.grown (only_below hb none) (by by_cases h : v.ownBlock = none; exact .inl h; exact .inr h)
theorem OwnR.weak (h : OwnR c W base ty v rs) (hb : base' ≤ base) : OwnR c W base' ty v rs := by
  refine ⟨h.1, ?_⟩
  rcases h.2 with h1 | ⟨g, cap, cur, h1, h2, h3⟩
  · exact .inl h1
  · exact .inr ⟨g, cap, cur, h1, Nat.le_trans hb h2, h3⟩
theorem OwnR.nil (c : Rec R) (W : World) (base : Nat) (ty : TypeId) : OwnR c W base ty (.slice none 0 0) [] := ⟨by simp [Rec.row], .inl ⟨rfl, rfl⟩⟩
/-- Its block, and its cells. -/
theorem OwnR.form (h : OwnR c W base ty v rs) : (v = .slice none 0 0 ∧ rs = []) ∨ ∃ g k, v = .slice (some ⟨g, 0, none⟩) rs.length k ∧ base ≤ g ∧ g < W.heap.size ∧ rs.length ≤ k ∧ k ≤ maxLen ∧ ∀ j u, (c.row rs)[j]? = some u → W.cell? ⟨g, j, none⟩ = some u := by
  rcases h.2 with ⟨h1, h2⟩ | ⟨g, cap, cur, h1, h2, h3, h4, h5, h6, h7⟩
  · exact .inl ⟨h1, List.eq_nil_of_length_eq_zero h2⟩
  · right
    have hlt : g < W.heap.size := by
      rcases Nat.lt_or_ge g W.heap.size with hlt | hge
      · exact hlt
      · rw [Array.getElem?_eq_none hge] at h3; cases h3
    refine ⟨g, cap, h1, h2, hlt, h4, h5, fun j u hu => ?_⟩
    rw [cell_of_row W g j _ _ (0, 0) h3]
    rw [← h7, List.getElem?_take] at hu
    split at hu
    · simpa using hu
    · cases hu
theorem OwnR.sl (h : OwnR c W base ty v rs) : ∃ a k, v = .slice a rs.length k := by
  rcases h.form with ⟨h1, h2⟩ | ⟨g, k, h1, _⟩
  · exact ⟨none, 0, by rw [h1, h2]; rfl⟩
  · exact ⟨_, k, h1⟩
theorem OwnR.base_le (h : OwnR c W base ty v rs) {g : Nat} (hg : v.ownBlock = some g) : base ≤ g ∧ g < W.heap.size := by
  rcases h.form with ⟨h1, _⟩ | ⟨g', k, h1, h2, h3, _⟩
  · rw [h1] at hg; cases hg
  · rw [h1] at hg
    have e : g' = g := Option.some.inj hg
    subst e
    exact ⟨h2, h3⟩
/-- The cells of the i-th record. -/
theorem OwnR.at {a : Option Addr} {n k : Nat} (h : OwnR c W base ty (.slice a n k) rs) (i : Nat) (hi : i < rs.length) : ∃ g, a = some ⟨g, 0, none⟩ ∧ ∀ j u, (c.cells rs[i])[j]? = some u → W.cell? ⟨g, i * c.sz + j, none⟩ = some u := by
  rcases h.form with ⟨_, h2⟩ | ⟨g, k', h1, _, _, _, _, hc⟩
  · rw [h2] at hi
    simp at hi
  · injection h1 with h1
    refine ⟨g, h1, fun j u hu => ?_⟩
    have hj : j < c.sz := by rw [← c.len rs[i]]; exact (List.getElem?_eq_some_iff.1 hu).1
    exact hc _ _ (by rw [c.row_get rs i j hi hj]; exact hu)

/-- All cells of a row's block, the spare ones too. -/
def AllP (q : Value → Prop) (W : World) (v : Value) : Prop := ∀ g, v.ownBlock = some g → ∀ j u, W.cell? ⟨g, j, none⟩ = some u → q u
theorem AllP.nil (q : Value → Prop) (W : World) : AllP q W (.slice none 0 0) := fun g hg => by cases hg
theorem AllP.keep {q : Value → Prop} (h : AllP q W v) (ho : OwnR c W base ty v rs) (hb : Below W.heap.size W W') : AllP q W' v := fun g hg j u hu =>
  h g hg j u (((hb.cell (p := ⟨g, j, none⟩) (ho.base_le hg).2).symm).trans hu)
theorem AllP.grown {q : Value → Prop} (h : AllP q W v) (ho : OwnR c W base ty v rs) {row : Option Nat} (hb : W.grownBy W' row) (hne : v.ownBlock ≠ row) : AllP q W' v := fun g hg j u hu =>
  h g hg j u ((World.cell?_of_block (a := ⟨g, j, none⟩) (hb.block g (ho.base_le hg).2 (by rw [← hg]; exact hne))).symm.trans hu)
theorem zero_mem {z : Array Value} {n : Nat} {u : Value} (h : u ∈ Builtin.zeroCells z n) : u ∈ z := by
  unfold Builtin.zeroCells at h
  rw [Array.mem_map] at h
  obtain ⟨i, hi, rfl⟩ := h
  have hi' : i < n * z.size := by simpa using hi
  have hz : 0 < z.size := by
    rcases Nat.eq_zero_or_pos z.size with h0 | h0
    · rw [h0] at hi'; omega
    · exact h0
  have hm : i % z.size < z.size := Nat.mod_lt _ hz
  rw [getElem!_pos z (i % z.size) hm]
  exact Array.getElem_mem hm
theorem cell_mem {g : Nat} {cs : Array Value} {fr : Nat × Nat} {j : Nat} {u : Value} (h : W.heap[g]? = some (.cells cs ty fr)) (hu : W.cell? ⟨g, j, none⟩ = some u) : u ∈ cs := by
  rw [cell_of_row W g j _ _ fr h] at hu
  exact Array.mem_of_getElem? hu
/-- Where an append to a row of one's own puts it, and what is in its block. -/
theorem run_append_all {P : Program} (w : World) (base : Nat) (t ty e : TypeId) (i : TypeInfo) (z : Value) (size bytes : Nat) (ht : P.underlying t = some (.slice e)) (hi : P.info? e = some i) (hz : i.zero = some z)
    (hsize : i.size = size) (hby : i.bytes = bytes) (v : Value) (n : Nat) (xs : List Value) (hown : w.ownsRow base e size v n xs)
    (a : Addr) (m c : Nat) (news : List Value) (hl : news.length = m * size) (hnews : ∀ j u, news[j]? = some u → w.cell? (a.add j) = some u) (h1 : ∀ u ∈ news, u.oneCell' = true)
    (hm : 0 < m) (h63 : n + m ≤ maxLen) (hbytes : (n + m) * bytes ≤ 140737488355328) :
    ∃ v' w', (Builtin.append_ #[t, t] ty #[v, .slice (some a) m c]).run P w = .ok v' w' ∧ (v'.ownBlock = v.ownBlock ∨ v'.ownBlock = some w.heap.size) ∧
      ∀ q : Value → Prop, AllP q w v → (∀ u ∈ news, q u) → (∀ u ∈ z.cells, q u) → AllP q w' v' := by
  subst hsize
  subst hby
  simp only [maxLen] at h63
  rcases hown.2 with ⟨rfl, rfl⟩ | ⟨g, cap, cur, rfl, _, hg, _, _, hcs, htk⟩
  · refine ⟨_, _, run_append_nil (P := P) w t ty e i z ht hi hz a m c news hl hnews hm (by omega) (by simp only [Nat.zero_add] at hbytes; omega), .inr rfl, fun q _ hn hzq g' hg' j u hu => ?_⟩
    have e1 : w.heap.size = g' := Option.some.inj hg'
    subst e1
    have := cell_mem (heap_alloc_new w.drew _) hu
    rcases Array.mem_append.1 this with q1 | q1
    · exact hn u (by simpa using q1)
    · exact hzq u (zero_mem q1)
  · by_cases hroom : n + m ≤ cap
    · refine ⟨_, _, run_append_room (P := P) w t ty e i ht hi g n cap cur hg a m c news hl hnews h1 hroom (by rw [hl, hcs, ← Nat.add_mul]; exact Nat.mul_le_mul_right _ hroom), .inl rfl, fun q ha hn _ g' hg' j u hu => ?_⟩
      have e1 : g = g' := Option.some.inj hg'
      subst e1
      have hq : ∀ x ∈ cur, q x := fun x hx => by
        obtain ⟨k, hk, e⟩ := Array.getElem_of_mem hx
        exact ha g rfl k x (by rw [cell_of_row w g k _ _ (0, 0) hg, Array.getElem?_eq_getElem hk, e])
      have := cell_mem (setRow_heap w g cur _ e _ hg) hu
      simp only [List.mem_toArray, List.mem_append] at this
      rcases this with (q1 | q1) | q1
      · exact hq u (by simpa using List.mem_of_mem_take q1)
      · exact hn u q1
      · exact hq u (by simpa using List.mem_of_mem_drop q1)
    · refine ⟨_, _, run_append_grow (P := P) w t ty e i z ht hi hz ⟨g, 0, none⟩ n cap xs hown.1 (hown.cells (g := g) rfl) a m c news hl hnews (by omega) (by omega) (growslice_fits (by omega) hbytes), .inr rfl, fun q ha hn hzq g' hg' j u hu => ?_⟩
      have e1 : w.heap.size = g' := Option.some.inj hg'
      subst e1
      have hq : ∀ x ∈ cur, q x := fun x hx => by
        obtain ⟨k, hk, e⟩ := Array.getElem_of_mem hx
        exact ha g rfl k x (by rw [cell_of_row w g k _ _ (0, 0) hg, Array.getElem?_eq_getElem hk, e])
      have := cell_mem (heap_alloc_new w.drew _) hu
      rcases Array.mem_append.1 this with q1 | q1
      · rcases Array.mem_append.1 q1 with q2 | q2
        · refine hq u ?_
          have q3 : u ∈ xs := by simpa using q2
          rw [← htk] at q3
          simpa using List.mem_of_mem_take q3
        · exact hn u (by simpa using q2)
      · exact hzq u (zero_mem q1)
/-- append(a, r), of one record r that lies in a block g, to a row of one's own, at a step. -/
theorem wp_append_rec {P : Program} (w : World) {o : Oper} {a : Act} {K : Act → World → Prop} {Q : Exit → Act → World → Prop} (s x : Operand) (t : TypeId)
    (ho : o.op = .call { callee := .builtin .append, args := #[s, x], argTypes := #[t, t] }) (c : Rec R)
    (base : Nat) (e : TypeId) (i : TypeInfo) (z : Value) (bytes : Nat) (ht : P.underlying t = some (.slice e)) (hi : P.info? e = some i) (hz : i.zero = some z)
    (hsize : i.size = c.sz) (hby : i.bytes = bytes) (hzs : z.cells.size = c.sz)
    (v : Value) (rs : List R) (hs : a.eval s = v) (hown : OwnR c w base e v rs) (g k : Nat) (r : R) (hx : a.eval x = .slice (some ⟨g, 0, none⟩) 1 k) (hcells : ∀ j u, (c.cells r)[j]? = some u → w.cell? ⟨g, j, none⟩ = some u)
    (hbytes : (rs.length + 1) * bytes ≤ 140737488355328) (hb0 : 0 < bytes) (hbase : base ≤ w.heap.size)
    (h : ∀ v' w', OwnR c w' base e v' (rs ++ [r]) → w.grownBy w' v.ownBlock → (v'.ownBlock = v.ownBlock ∨ v'.ownBlock = some w.heap.size) → (∀ q : Value → Prop, AllP q w v → (∀ u ∈ c.cells r, q u) → (∀ u ∈ z.cells, q u) → AllP q w' v') → K (a.put o.dst v') w') : o.wp P a w K Q := by
  have hmax : rs.length + 1 ≤ maxLen := by
    have : rs.length + 1 ≤ (rs.length + 1) * bytes := Nat.le_mul_of_pos_right _ hb0
    simp only [maxLen]
    omega
  have hnews : ∀ j u, (c.cells r)[j]? = some u → w.cell? ((⟨g, 0, none⟩ : Addr).add j) = some u := fun j u hu => by
    have hp : (⟨g, 0, none⟩ : Addr).add j = ⟨g, j, none⟩ := by unfold Addr.add; split <;> simp_all
    rw [hp]
    exact hcells j u hu
  obtain ⟨v', w', hr, h2, h3, h4⟩ := run_append_own (P := P) w base t o.type e i z c.sz bytes ht hi hz hsize hby hzs c.pos v rs.length (c.row rs) hown ⟨g, 0, none⟩ 1 k (c.cells r) (by rw [c.len, Nat.one_mul]) hnews (fun u hu => c.one r u hu) hmax hbytes hbase
  obtain ⟨v2, w2, hr2, h5, h6⟩ := run_append_all (P := P) w base t o.type e i z c.sz bytes ht hi hz hsize hby v rs.length (c.row rs) hown ⟨g, 0, none⟩ 1 k (c.cells r) (by rw [c.len, Nat.one_mul]) hnews (fun u hu => c.one r u hu) (by omega) hmax hbytes
  rw [hr] at hr2
  injection hr2 with e1 e2
  subst e1 e2
  unfold Oper.wp execOp
  simp only [ho, resolve, invoke, builtin, Sem.run_bind, Sem.run_pure, Result.andThen_ok, List.map_toArray, List.map_cons, List.map_nil, hs, hx, hr]
  refine h v' w' ?_ h3 h5 h6
  unfold OwnR
  rw [c.row_app, c.row_single, List.length_append]
  exact h2
/-- append(a, r), of one record r that lies in a block g, to a row of one's own. -/
theorem wpList_append_rec {P : Program} (w : World) {ops : Array Oper} {rest : List Oper} {o : Oper} {a : Act} {Q : Exit → Act → World → Prop} (hgd : o.guard = none) (s x : Operand) (t : TypeId)
    (ho : o.op = .call { callee := .builtin .append, args := #[s, x], argTypes := #[t, t] }) (c : Rec R)
    (base : Nat) (e : TypeId) (i : TypeInfo) (z : Value) (bytes : Nat) (ht : P.underlying t = some (.slice e)) (hi : P.info? e = some i) (hz : i.zero = some z)
    (hsize : i.size = c.sz) (hby : i.bytes = bytes) (hzs : z.cells.size = c.sz)
    (v : Value) (rs : List R) (hs : a.eval s = v) (hown : OwnR c w base e v rs) (g k : Nat) (r : R) (hx : a.eval x = .slice (some ⟨g, 0, none⟩) 1 k) (hcells : ∀ j u, (c.cells r)[j]? = some u → w.cell? ⟨g, j, none⟩ = some u)
    (hbytes : (rs.length + 1) * bytes ≤ 140737488355328) (hb0 : 0 < bytes) (hbase : base ≤ w.heap.size)
    (h : ∀ v' w', OwnR c w' base e v' (rs ++ [r]) → w.grownBy w' v.ownBlock → (v'.ownBlock = v.ownBlock ∨ v'.ownBlock = some w.heap.size) → (∀ q : Value → Prop, AllP q w v → (∀ u ∈ c.cells r, q u) → (∀ u ∈ z.cells, q u) → AllP q w' v') → wpList P ops Q rest (a.put o.dst v') w') : wpList P ops Q (o :: rest) a w :=
  wpList_plain hgd fun K hK => wp_append_rec w s x t ho c base e i z bytes ht hi hz hsize hby hzs v rs hs hown g k r hx hcells hbytes hb0 hbase fun v' w' h1 h2 h3 h4 => hK _ _ (h v' w' h1 h2 h3 h4)
theorem step_append_rec {P : Program} (w : World) {ops : Array Oper} {o : Oper} {a : Act} {K : Act → World → Prop} {Q : Exit → Act → World → Prop} {E : Prop} (hgd : o.guard = none) (s x : Operand) (t : TypeId)
    (ho : o.op = .call { callee := .builtin .append, args := #[s, x], argTypes := #[t, t] }) (c : Rec R)
    (base : Nat) (e : TypeId) (i : TypeInfo) (z : Value) (bytes : Nat) (ht : P.underlying t = some (.slice e)) (hi : P.info? e = some i) (hz : i.zero = some z)
    (hsize : i.size = c.sz) (hby : i.bytes = bytes) (hzs : z.cells.size = c.sz)
    (v : Value) (rs : List R) (hs : a.eval s = v) (hown : OwnR c w base e v rs) (g k : Nat) (r : R) (hx : a.eval x = .slice (some ⟨g, 0, none⟩) 1 k) (hcells : ∀ j u, (c.cells r)[j]? = some u → w.cell? ⟨g, j, none⟩ = some u)
    (hbytes : (rs.length + 1) * bytes ≤ 140737488355328) (hb0 : 0 < bytes) (hbase : base ≤ w.heap.size)
    (h : ∀ v' w', OwnR c w' base e v' (rs ++ [r]) → w.grownBy w' v.ownBlock → (v'.ownBlock = v.ownBlock ∨ v'.ownBlock = some w.heap.size) → (∀ q : Value → Prop, AllP q w v → (∀ u ∈ c.cells r, q u) → (∀ u ∈ z.cells, q u) → AllP q w' v') → K (a.put o.dst v') w') : if Region.wanted o (yielded ops a.tmps) = true then Oper.wp P o a w K Q else E := by
  have hw : Region.wanted o (yielded ops a.tmps) = true := by simp [Region.wanted, hgd]
  rw [if_pos hw]
  exact wp_append_rec w s x t ho c base e i z bytes ht hi hz hsize hby hzs v rs hs hown g k r hx hcells hbytes hb0 hbase h

/-- append(a, b...), both rows of records of one's own. -/
theorem wpList_append_recs {P : Program} (w : World) {ops : Array Oper} {rest : List Oper} {o : Oper} {a : Act} {Q : Exit → Act → World → Prop} (hgd : o.guard = none) (s x : Operand) (t : TypeId)
    (ho : o.op = .call { callee := .builtin .append, args := #[s, x], argTypes := #[t, t] }) (c : Rec R)
    (base : Nat) (e : TypeId) (i : TypeInfo) (z : Value) (bytes : Nat) (ht : P.underlying t = some (.slice e)) (hi : P.info? e = some i) (hz : i.zero = some z)
    (hsize : i.size = c.sz) (hby : i.bytes = bytes) (hzs : z.cells.size = c.sz)
    (v : Value) (rs : List R) (hs : a.eval s = v) (hown : OwnR c w base e v rs) (base2 : Nat) (v2 : Value) (rs2 : List R) (hx : a.eval x = v2) (hown2 : OwnR c w base2 e v2 rs2)
    (hbytes : (rs.length + rs2.length) * bytes ≤ 140737488355328) (hb0 : 0 < bytes) (hbase : base ≤ w.heap.size)
    (h : ∀ v' w', OwnR c w' base e v' (rs ++ rs2) → w.grownBy w' v.ownBlock → wpList P ops Q rest (a.put o.dst v') w') : wpList P ops Q (o :: rest) a w := by
  rcases hown2.form with ⟨rfl, rfl⟩ | ⟨g, k, rfl, _, _, _, _, hcells⟩
  · refine wpList_append_own_none hgd s x t ho base e i c.sz ht hi v rs.length (c.row rs) hs hown hx ?_
    exact h v w (by simpa using hown) (only_refl w _)
  · have hmax : rs.length + rs2.length ≤ maxLen := by
      have : rs.length + rs2.length ≤ (rs.length + rs2.length) * bytes := Nat.le_mul_of_pos_right _ hb0
      simp only [maxLen]
      omega
    have hnews : ∀ j u, (c.row rs2)[j]? = some u → w.cell? ((⟨g, 0, none⟩ : Addr).add j) = some u := fun j u hu => by
      have hp : (⟨g, 0, none⟩ : Addr).add j = ⟨g, j, none⟩ := by unfold Addr.add; split <;> simp_all
      rw [hp]
      exact hcells j u hu
    obtain ⟨v', w', hr, h2, h3, h4⟩ := run_append_own (P := P) w base t o.type e i z c.sz bytes ht hi hz hsize hby hzs c.pos v rs.length (c.row rs) hown ⟨g, 0, none⟩ rs2.length k (c.row rs2) (c.row_len rs2) hnews (fun u hu => c.row_one hu) hmax hbytes hbase
    refine wpList_plain hgd fun K hK => ?_
    unfold Oper.wp execOp
    simp only [ho, resolve, invoke, builtin, Sem.run_bind, Sem.run_pure, Result.andThen_ok, List.map_toArray, List.map_cons, List.map_nil, hs, hx, hr]
    refine hK _ _ (h v' w' ?_ h3)
    unfold OwnR
    rw [c.row_app, List.length_append]
    exact h2
/-- An empty row, in a block of its own. -/
theorem OwnR.empty (c : Rec R) (W : World) (ty : TypeId) (base : Nat) (hb : base ≤ W.heap.size) : OwnR c (W.alloc (.cells #[] ty)) base ty (.slice (some ⟨W.heap.size, 0, none⟩) 0 0) [] :=
  ⟨by simp [Rec.row], .inr ⟨W.heap.size, 0, _, rfl, hb, heap_alloc_new W _, Nat.le_refl _, Nat.zero_le _, by simp, by simp [Rec.row]⟩⟩

/-- Block g holds a record's cells. -/
def RBox (c : Rec R) (W : World) (ty : TypeId) (g : Nat) (r : R) : Prop := W.heap[g]? = some (.cells (c.cells r).toArray ty (0, 0))
variable {g : Nat} {r : R}
theorem RBox.lt (h : RBox c W ty g r) : g < W.heap.size := by
  rcases Nat.lt_or_ge g W.heap.size with hlt | hge
  · exact hlt
  · unfold RBox at h; rw [Array.getElem?_eq_none hge] at h; cases h
theorem RBox.below {B : Nat} (h : RBox c W ty g r) (hb : Below B W W') (hg : g < B) : RBox c W' ty g r := (hb.block g hg).trans h
theorem RBox.grown {row : Option Nat} (h : RBox c W ty g r) (hg : W.grownBy W' row) (hne : some g ≠ row) : RBox c W' ty g r := (hg.block g h.lt hne).trans h
theorem RBox.cell (h : RBox c W ty g r) (j : Nat) (u : Value) (hu : (c.cells r)[j]? = some u) : W.cell? ⟨g, j, none⟩ = some u := by
  rw [cell_of_row W g j _ _ (0, 0) h]
  simpa using hu
/-- A record is stored into its box. -/
theorem wpList_store_rec {P : Program} {ops : Array Oper} {rest : List Oper} {o : Oper} {a : Act} {w : World} {Q : Exit → Act → World → Prop} (hgd : o.guard = none) (ty : TypeId) (x y : Operand) (ho : o.op = .store ty x y) (c : Rec R)
    (g : Nat) (old new : R) (hx : a.eval x = .pointer (some ⟨g, 0, none⟩)) (hy : a.eval y = .agg (c.cells new).toArray) (t : TypeId) (hr : RBox c w t g old) (hi : (P.info? ty).map (·.size) = some c.sz)
    (h : ∀ w', RBox c w' t g new → w.grownBy w' (some g) → wpList P ops Q rest (a.put o.dst undef) w') : wpList P ops Q (o :: rest) a w := by
  refine wpList_store_row hgd ty x y ho g _ hx hy t _ hr (by rw [List.size_toArray, c.len]; exact hi) (by simp [c.len]) (by simp only [List.all_toArray, List.all_eq_true]; exact fun u hu => c.one new u hu) ?_
  exact h _ (setRow_heap w g _ _ t _ hr) ⟨rfl, rfl, rfl, by simp, fun j hj hne => setRow_other w g j _ (fun e => hne (by rw [e]))⟩

/-- Records that came in. -/
def InRec (c : Rec R) (w : World) (a : Option Addr) (n cap : Nat) (D : Nat → R) : Prop := InSl w a n cap c.sz (fun i => (c.cells (D (i / c.sz))).getD (i % c.sz) .nilIface)
theorem InRec.below {w w' : World} {a : Option Addr} {n cap : Nat} {D : Nat → R} (h : InRec c w a n cap D) (hb : Below w.heap.size w w') : InRec c w' a n cap D := InSl.below h hb
/-- The cells of the i-th record that came in. -/
theorem InRec.at {w : World} {a : Option Addr} {n cap : Nat} {D : Nat → R} (h : InRec c w a n cap D) (h0 : 0 < n) : ∃ g off, a = some ⟨g, off, none⟩ ∧ g < w.heap.size ∧ ∀ i, i < n → ∀ j u, (c.cells (D i))[j]? = some u → w.cell? ⟨g, off + i * c.sz + j, none⟩ = some u := by
  obtain ⟨g, off, e, hg, hc⟩ := InSl.place h h0
  refine ⟨g, off, e, hg, fun i hi j u hu => ?_⟩
  have hj : j < c.sz := by rw [← c.len (D i)]; exact (List.getElem?_eq_some_iff.1 hu).1
  have h1 := hc (i * c.sz + j) (by
    have : (i + 1) * c.sz ≤ n * c.sz := Nat.mul_le_mul_right _ hi
    rw [Nat.succ_mul] at this
    omega)
  have e1 : (i * c.sz + j) / c.sz = i := by rw [Nat.mul_comm, Nat.mul_add_div c.pos, Nat.div_eq_of_lt hj, Nat.add_zero]
  have e2 : (i * c.sz + j) % c.sz = j := by rw [Nat.mul_comm, Nat.mul_add_mod, Nat.mod_eq_of_lt hj]
  try dsimp only at h1
  rw [e1, e2, ← Nat.add_assoc] at h1
  rw [h1, List.getD, hu]
  rfl
/-- A row of one's own, as one that came in. -/
theorem OwnR.inRec {a : Option Addr} {n k : Nat} (h : OwnR c W base ty (.slice a n k) rs) (r0 : R) : rs.length = n ∧ InRec c W a n k (fun i => rs.getD i r0) := by
  rcases h.form with ⟨h1, h2⟩ | ⟨g, k', h1, _, hg, hl, hm, hc⟩
  · injection h1 with h1 h1n h1k
    subst h1 h1n h1k h2
    exact ⟨rfl, Nat.le_refl _, by simp [maxLen], fun _ => rfl, fun q => by omega⟩
  · injection h1 with h1 h1n h1k
    subst h1 h1n h1k
    refine ⟨rfl, hl, hm, (fun q => by cases q), fun _ => ⟨g, 0, rfl, hg, fun i hi => ?_⟩⟩
    have hd : i / c.sz < rs.length := Nat.div_lt_of_lt_mul (by rw [Nat.mul_comm]; exact hi)
    have hmo : i % c.sz < c.sz := Nat.mod_lt _ c.pos
    rw [Nat.zero_add]
    have e1 : rs.getD (i / c.sz) r0 = rs[i / c.sz] := by simp [List.getD, hd]
    dsimp only
    rw [e1]
    have hq := c.row_get rs (i / c.sz) (i % c.sz) hd hmo
    rw [show i / c.sz * c.sz + i % c.sz = i by rw [Nat.mul_comm]; exact Nat.div_add_mod i c.sz] at hq
    refine hc i _ ?_
    rw [hq, List.getD, List.getElem?_eq_getElem (by rw [c.len]; exact hmo)]
    rfl
end
section
variable {H : Type} {enc : TypeId × Value → H} {P : Program} {w : World} {base : Nat} {spare : Nat → Bool} {held : Bool} {R : Type}
/-- A slice of records that came in, one opened like the other. -/
theorem open_rec (c : Rec R) (Q : R → Prop) (r0 : R) {t e : TypeId} {a : Option Addr} {n cap : Nat} {d : DataW H} {p : List MemPlace}
    (hu : P.underlying t = some (.slice e)) (hc : P.cellsOf e = c.sz)
    (hel : ∀ (fuel : Nat) (cs : List Value) (x : DataW H × List MemPlace), DataW.trod enc P w base spare held fuel e cs = some x → ∃ r, cs = c.cells r ∧ Q r)
    (h : DataW.Trod enc P w base spare held t (.slice a n cap) d p) : ∃ D : Nat → R, InRec c w a n cap D ∧ ∀ i, i < n → Q (D i) := by
  obtain ⟨V, hin, hV⟩ := open_sl hu hc c.pos h
  have hq : ∀ i, i < n → ∃ r, ((List.range c.sz).map fun j => V (i * c.sz + j)) = c.cells r ∧ Q r := fun i hi => by
    obtain ⟨fuel, x, hx⟩ := hV i hi
    exact hel fuel _ x hx
  obtain ⟨D, hD⟩ : ∃ D : Nat → R, ∀ i, i < n → ((List.range c.sz).map fun j => V (i * c.sz + j)) = c.cells (D i) ∧ Q (D i) := by
    refine ⟨fun i => if hi : i < n then (hq i hi).choose else r0, fun i hi => ?_⟩
    simp only [hi, dif_pos]
    exact (hq i hi).choose_spec
  refine ⟨D, ⟨hin.le, hin.max, hin.nil, fun h0 => ?_⟩, fun i hi => (hD i hi).2⟩
  obtain ⟨g, off, e1, hg, hcc⟩ := hin.place h0
  refine ⟨g, off, e1, hg, fun i hi => ?_⟩
  rw [hcc i hi]
  have hd : i / c.sz < n := Nat.div_lt_of_lt_mul (by rw [Nat.mul_comm]; exact hi)
  have hm : i % c.sz < c.sz := Nat.mod_lt _ c.pos
  have h5 := (hD (i / c.sz) hd).1
  have h8 : ((List.range c.sz).map fun j => V (i / c.sz * c.sz + j)).getD (i % c.sz) .nilIface = V (i / c.sz * c.sz + i % c.sz) := by
    simp [List.getD, hm]
  rw [h5, show i / c.sz * c.sz + i % c.sz = i by rw [Nat.mul_comm]; exact Nat.div_add_mod i c.sz] at h8
  rw [h8]
end
end Go.Proofs.Ytpjojhmdgeejmaa
