/- Boxes of trees that are written; a tree of two that were made; appends of bytes at a step. No program is named here. -/
import Derived.Test.YtpjojhmdgeejmaaTreeRow
import Derived.Test.YtpjojhmdgeejmaaVar
namespace Go.Proofs.Ytpjojhmdgeejmaa
open Go.RowKit
set_option linter.unusedVariables false

/-- A tree is stored into a box, at a step. -/
theorem wp_store_box {P : Program} {o : Oper} {a : Act} {w : World} {K : Act → World → Prop} {Q : Exit → Act → World → Prop} (ty : TypeId) (x y : Operand) (ho : o.op = .store ty x y)
    (g : Nat) (old new : TH) (hx : a.eval x = .pointer (some ⟨g, 0, none⟩)) (hy : a.eval y = new.v) (t : TypeId) (hr : Box w t g old) (hi : (P.info? ty).map (·.size) = some 5)
    (h : ∀ w', Box w' t g new → w.grownBy w' (some g) → K (a.put o.dst undef) w') : o.wp P a w K Q := by
  refine wp_store_row ty x y ho g _ hx hy t _ hr hi rfl (by simp [Value.oneCell']) ?_
  exact h _ (setRow_heap w g _ _ t _ hr) ⟨rfl, rfl, rfl, by simp, fun j hj hne => setRow_other w g j _ (fun e => hne (by rw [e]))⟩
theorem wpList_store_box {P : Program} {ops : Array Oper} {rest : List Oper} {o : Oper} {a : Act} {w : World} {Q : Exit → Act → World → Prop} (hgd : o.guard = none) (ty : TypeId) (x y : Operand) (ho : o.op = .store ty x y)
    (g : Nat) (old new : TH) (hx : a.eval x = .pointer (some ⟨g, 0, none⟩)) (hy : a.eval y = new.v) (t : TypeId) (hr : Box w t g old) (hi : (P.info? ty).map (·.size) = some 5)
    (h : ∀ w', Box w' t g new → w.grownBy w' (some g) → wpList P ops Q rest (a.put o.dst undef) w') : wpList P ops Q (o :: rest) a w :=
  wpList_plain hgd fun _ hK => wp_store_box ty x y ho g old new hx hy t hr hi fun w' h1 h2 => hK _ _ (h w' h1 h2)
theorem step_store_box {P : Program} {ops : Array Oper} {o : Oper} {a : Act} {w : World} {K : Act → World → Prop} {Q : Exit → Act → World → Prop} {E : Prop} (hgd : o.guard = none) (ty : TypeId) (x y : Operand) (ho : o.op = .store ty x y)
    (g : Nat) (old new : TH) (hx : a.eval x = .pointer (some ⟨g, 0, none⟩)) (hy : a.eval y = new.v) (t : TypeId) (hr : Box w t g old) (hi : (P.info? ty).map (·.size) = some 5)
    (h : ∀ w', Box w' t g new → w.grownBy w' (some g) → K (a.put o.dst undef) w') : if Region.wanted o (yielded ops a.tmps) = true then Oper.wp P o a w K Q else E := by
  have hw : Region.wanted o (yielded ops a.tmps) = true := by simp [Region.wanted, hgd]
  rw [if_pos hw]
  exact wp_store_box ty x y ho g old new hx hy t hr hi h
theorem Box.grown {w w' : World} {ty : TypeId} {g : Nat} {h : TH} {row : Option Nat} (hx : Box w ty g h) (hg : w.grownBy w' row) (hne : some g ≠ row) : Box w' ty g h := (hg.block g hx.lt hne).trans hx
theorem Box.result {P : Program} {fn : Func} {p q : Tmp} {ty : TypeId} (hr : fn.results = #[.cell p ty, .tmp q]) (tmps : Array Value) {w : World} {g : Nat} {t : TypeId} {h : TH} {fs : Array Field} (hx : Box w t g h)
    (hp : tmps.getD p undef = .pointer (some ⟨g, 0, none⟩)) (hu : P.underlying ty = some (.struct fs)) (hi : (P.info? ty).map (·.size) = some 5) :
    (results fn tmps).run P w = .ok (.tuple #[h.v, tmps.getD q undef]) w := results_cell_tmp hr tmps w g t _ _ _ hp hx hu rfl hi

/-- Block g holds two trees' cells. -/
def Two5 (w : World) (ty : TypeId) (g : Nat) (h1 h2 : TH) : Prop := w.heap[g]? = some (.cells #[.int .i64 h1.k, .slice h1.ka h1.kn h1.kc, .slice h1.va h1.vn h1.vc, .slice h1.da h1.dn h1.dc, .slice h1.ta h1.tn h1.tc, .int .i64 h2.k, .slice h2.ka h2.kn h2.kc, .slice h2.va h2.vn h2.vc, .slice h2.da h2.dn h2.dc, .slice h2.ta h2.tn h2.tc] ty (0, 0))
theorem Two5.new (w : World) (ty : TypeId) (h1 h2 : TH) : Two5 (w.alloc (.cells #[.int .i64 h1.k, .slice h1.ka h1.kn h1.kc, .slice h1.va h1.vn h1.vc, .slice h1.da h1.dn h1.dc, .slice h1.ta h1.tn h1.tc, .int .i64 h2.k, .slice h2.ka h2.kn h2.kc, .slice h2.va h2.vn h2.vc, .slice h2.da h2.dn h2.dc, .slice h2.ta h2.tn h2.tc] ty)) ty w.heap.size h1 h2 := heap_alloc_new w _
theorem Two5.lt {w : World} {ty : TypeId} {g : Nat} {h1 h2 : TH} (hx : Two5 w ty g h1 h2) : g < w.heap.size := by
  rcases Nat.lt_or_ge g w.heap.size with hlt | hge
  · exact hlt
  · unfold Two5 at hx; rw [Array.getElem?_eq_none hge] at hx; cases hx
theorem Two5.below {w w' : World} {ty : TypeId} {g B : Nat} {h1 h2 : TH} (hx : Two5 w ty g h1 h2) (hb : Below B w w') (hg : g < B) : Two5 w' ty g h1 h2 := (hb.block g hg).trans hx
/-- A tree of two kids that lie side by side. -/
theorem inTree_pair {w : World} {ty : TypeId} {g : Nat} {h1 h2 : TH} {c1 c2 : Tr} (hx : Two5 w ty g h1 h2) (i1 : InTree w h1 c1) (i2 : InTree w h2 c2) {k : Int} (hk1 : -9223372036854775808 ≤ k) (hk2 : k ≤ 9223372036854775807)
    {ka va da : Option Addr} {kn kc vn vc dn dc : Nat} {key val dig : List Int} (hkey : InBytes w ka kn kc key) (hval : InBytes w va vn vc val) (hdig : InBytes w da dn dc dig) :
    InTree w ⟨k, ka, kn, kc, va, vn, vc, da, dn, dc, some ⟨g, 0, none⟩, 2, 2⟩ (.mk k key val dig [c1, c2]) := by
  refine .mk _ _ (fun i => if i = 0 then h1 else h2) rfl hk1 hk2 hkey hval hdig ⟨Nat.le_refl _, by simp [maxLen], (fun h => by cases h), fun _ => ⟨g, 0, rfl, hx.lt, fun i hi => ?_⟩⟩ rfl (fun i hi => ?_)
  · have hi' : i < 10 := hi
    rw [Nat.zero_add, cell_of_row w g i _ _ (0, 0) hx]
    rcases (by omega : i = 0 ∨ i = 1 ∨ i = 2 ∨ i = 3 ∨ i = 4 ∨ i = 5 ∨ i = 6 ∨ i = 7 ∨ i = 8 ∨ i = 9) with rfl | rfl | rfl | rfl | rfl | rfl | rfl | rfl | rfl | rfl <;> rfl
  · have hi' : i < 2 := hi
    rcases (by omega : i = 0 ∨ i = 1) with rfl | rfl
    · exact i1
    · exact i2
theorem InBytes.agree {w w' : World} {a : Option Addr} {n c : Nat} {zs : List Int} (h : InBytes w a n c zs) (hs : w.heap.size ≤ w'.heap.size) (ha : ∀ ad, a = some ad → w'.heap[ad.block]? = w.heap[ad.block]?) : InBytes w' a n c zs :=
  ⟨h.len, h.bytes, h.le, h.max, h.nil, fun h0 => by
    obtain ⟨g, off, e, hlt, hc⟩ := h.place h0
    exact ⟨g, off, e, Nat.lt_of_lt_of_le hlt hs, hc.keep fun o => World.cell?_of_block (a := ⟨g, o, none⟩) (ha ⟨g, off, none⟩ e)⟩⟩
/-- The tree c lies below the world wb, and in the blocks from lo on that lie below hi, as they are in w. -/
def From (wb : World) (lo hi : Nat) (w : World) (h : TH) (c : Tr) : Prop := ∀ W : World, Below wb.heap.size wb W → hi ≤ W.heap.size → (∀ j, lo ≤ j → j < hi → W.heap[j]? = w.heap[j]?) → InTree W h c
theorem From.self {wb w : World} {lo hi : Nat} {h : TH} {c : Tr} (f : From wb lo hi w h c) (hb : Below wb.heap.size wb w) (hs : hi ≤ w.heap.size) : InTree w h c := f w hb hs fun _ _ _ => rfl
theorem From.below {wb w w' : World} {lo hi : Nat} {h : TH} {c : Tr} (f : From wb lo hi w h c) (hb : Below w.heap.size w w') (hs : hi ≤ w.heap.size) : From wb lo hi w' h c := fun W h1 h2 h3 => f W h1 h2 fun j hl hh => (h3 j hl hh).trans (hb.block j (by omega))
theorem From.grown {wb w w' : World} {lo hi g : Nat} {h : TH} {c : Tr} (f : From wb lo hi w h c) (hg : w.grownBy w' (some g)) (hs : hi ≤ w.heap.size) (hn : g < lo ∨ hi ≤ g) : From wb lo hi w' h c := fun W h1 h2 h3 => f W h1 h2 fun j hl hh => (h3 j hl hh).trans (hg.block j (by omega) (fun q => by injection q; omega))
theorem From.wide {wb w : World} {lo hi lo' hi' : Nat} {h : TH} {c : Tr} (f : From wb lo hi w h c) (h1 : lo' ≤ lo) (h2 : hi ≤ hi') : From wb lo' hi' w h c := fun W q1 q2 q3 => f W q1 (Nat.le_trans h2 q2) fun j hl hh => q3 j (by omega) (by omega)
theorem From.of_in {wb w : World} {lo hi : Nat} {h : TH} {c : Tr} (hi' : InTree wb h c) : From wb lo hi w h c := fun W h1 _ _ => hi'.lower h1
/-- append(s, bs...) to a row of bytes of one's own, at a step. -/
theorem step_append_bytes {P : Program} (w : World) {ops : Array Oper} {o : Oper} {a : Act} {K : Act → World → Prop} {Q : Exit → Act → World → Prop} {E : Prop} (hgd : o.guard = none) (s x : Operand) (t : TypeId)
    (ho : o.op = .call { callee := .builtin .append, args := #[s, x], argTypes := #[t, t] })
    (base : Nat) (e : TypeId) (i : TypeInfo) (z : Value) (bytes : Nat) (ht : P.underlying t = some (.slice e)) (hi : P.info? e = some i) (hz : i.zero = some z)
    (hsize : i.size = 1) (hby : i.bytes = bytes) (hzs : z.cells.size = 1)
    (g0 n c0 : Nat) (xs : List Value) (hs : a.eval s = .slice (some ⟨g0, 0, none⟩) n c0) (hown : w.ownsRow base e 1 (.slice (some ⟨g0, 0, none⟩) n c0) n xs)
    (ad : Option Addr) (k cap : Nat) (r : List Int) (hx : a.eval x = .slice ad k cap) (hin : InBytes w ad k cap r)
    (h63 : n + k ≤ maxLen) (hbytes : (n + k) * bytes ≤ 140737488355328) (hbase : base ≤ w.heap.size)
    (h : ∀ g c w', w'.ownsRow base e 1 (.slice (some ⟨g, 0, none⟩) (n + k) c) (n + k) (xs ++ r.map (Value.int .u8)) → w.grownBy w' (some g0) → K (a.put o.dst (.slice (some ⟨g, 0, none⟩) (n + k) c)) w') :
    if Region.wanted o (yielded ops a.tmps) = true then Oper.wp P o a w K Q else E := by
  have hw : Region.wanted o (yielded ops a.tmps) = true := by simp [Region.wanted, hgd]
  rw [if_pos hw]
  have hlen := hin.len
  cases ad with
  | none =>
    have hc := hin.nil rfl
    have hk : k = 0 := by have := hin.le; omega
    subst hc
    subst hk
    have hr : r = [] := List.eq_nil_of_length_eq_zero hlen
    subst hr
    have hrun := run_append_owned_none (P := P) (w := w) base t o.type e i 1 ht hi _ n xs hown
    unfold Oper.wp execOp
    simp only [ho, resolve, invoke, builtin, Sem.run_bind, Sem.run_pure, Result.andThen_ok, List.map_toArray, List.map_cons, List.map_nil, hs, hx, hrun]
    exact h g0 c0 w (by simpa using hown) (only_refl w _)
  | some ad =>
    refine wp_append_own w s x t ho base e i z 1 bytes ht hi hz hsize hby hzs (by omega) _ n xs hs hown ad k cap (r.map (Value.int .u8)) hx (by simp [hlen]) hin.news (by simp [Value.oneCell']) h63 hbytes hbase ?_
    intro v' w' h1 h2 h3
    obtain ⟨g, c, rfl⟩ := own_form h1 (fun q => by have := (h3.1 q).1; cases this)
    exact h g c w' h1 h2
end Go.Proofs.Ytpjojhmdgeejmaa
