/- A region that draws its order, by an invariant; bytes appended to an empty row. No program is named here. Trees whose keys and values are rows of one's own. While a tree's own keys and values are written: what lies below, and what lies above, stays. No function is named here. The contract of the document's Copy. The contract of the document's Copy: the copy's keys and values are rows of one's own, and nothing else lies there. The contract of the document's list of nodes, of a tree whose keys and values are rows of one's own. The contract of the document's comparison of trees: of one and the same tree. A region that draws its order and whose last operation waits for all others: what the reads lean on need not hold behind that last one. No program is named here. The walk of the law ClashStays. A tree that is an argument of the program. -/
import Derived.Test.YtioifkbkllnkgaaDoorMAB
import Derived.Deep.RegionHeld3
import Derived.Test.YtioifkbkllnkgaaDoorMAA
import Derived.Test.YtioifkbkllnkgaaDoorMAC
import Derived.Test.YtioifkbkllnkgaaDoorMBE
import Derived.Test.YtioifkbkllnkgaaDoorProg
/- A region that draws its order, by an invariant; bytes appended to an empty row. No program is named here. -/
namespace Go.Proofs.YtioifkbkllnkgaaDoor
open Go.RowKit
set_option linter.unusedVariables false

/-- Whatever the order: what holds of the frame and the world (J), by what has come up, is kept by each operation that may come up. -/
theorem wpAnyH_inv {P : Program} {md : Region.Mode} {ops : Array Oper} {Q : Exit → Act → World → Prop} {S : World → Prop} (J : Array Bool → Act → World → Prop) (m : Array Bool → Nat)
    (hstep : ∀ listed a w, J listed a w → ∀ i ∈ Region.ready md ops listed, m (listed.setIfInBounds i true) < m listed ∧ wpOp P ops Q i (fun a' w' => S w' ∧ J (listed.setIfInBounds i true) a' w') a w)
    (hdone : ∀ listed a w, J listed a w → Region.ready md ops listed = [] → Q .normal a w) :
    ∀ (fuel : Nat) (listed : Array Bool) (a : Act) (w : World), J listed a w → m listed ≤ fuel → wpAnyH P md ops Q S fuel listed a w
  | 0, listed, a, w, hJ, hm => by
    have h0 : Region.ready md ops listed = [] := by
      cases hr : Region.ready md ops listed with
      | nil => rfl
      | cons i r =>
        have := (hstep listed a w hJ i (by rw [hr]; exact List.mem_cons_self)).1
        omega
    exact ⟨h0, hdone listed a w hJ h0⟩
  | fuel + 1, listed, a, w, hJ, hm =>
    ⟨hdone listed a w hJ, fun i hi => by
      obtain ⟨h1, h2⟩ := hstep listed a w hJ i hi
      exact wpOp_mono (fun a' w' h' => ⟨h'.1, wpAnyH_inv J m hstep hdone fuel _ a' w' h'.2 (by omega)⟩) h2⟩
/-- append([]byte{}, bs...): bytes in new memory; nothing that was there is written. -/
theorem run_append_empty {P : Program} (w : World) (t ty e : TypeId) (i : TypeInfo) (z : Value) (ht : P.underlying t = some (.slice e)) (hi : P.info? e = some i) (hz : i.zero = some z) (hsize : i.size = 1) (hby : i.bytes = 1) (hzs : z.cells.size = 1)
    (g0 : Nat) (hg : w.heap[g0]? = some (.cells #[] e (0, 0))) (ad : Option Addr) (n cap : Nat) (r : List Int) (hin : InBytes w ad n cap r) (hn : n ≤ 100000) :
    ∃ a c w', (Builtin.append_ #[t, t] ty #[.slice (some ⟨g0, 0, none⟩) 0 0, .slice ad n cap]).run P w = .ok (.slice a n c) w' ∧ InBytes w' a n c r ∧ (∀ x, a = some x → (x.block = g0 ∨ w.heap.size ≤ x.block) ∧ x.block < w'.heap.size) ∧ Below w.heap.size w w' := by
  have hown : w.ownsRow 0 e 1 (.slice (some ⟨g0, 0, none⟩) 0 0) 0 [] := ⟨rfl, .inr ⟨g0, 0, #[], rfl, Nat.zero_le _, hg, Nat.le_refl _, Nat.zero_le _, rfl, rfl⟩⟩
  have hlen := hin.len
  have hempty : n = 0 → r = [] := fun h => List.eq_nil_of_length_eq_zero (by omega)
  have hres : n = 0 → InBytes w (some ⟨g0, 0, none⟩) n 0 r := fun h => by
    subst h
    rw [hempty rfl]
    exact ⟨rfl, (fun z hz => by cases hz), Nat.le_refl _, Nat.zero_le _, (fun q => by cases q), fun q => by omega⟩
  by_cases h0 : n = 0
  · have hr := hempty h0
    have hR := hres h0
    subst h0
    subst hr
    refine ⟨some ⟨g0, 0, none⟩, 0, w, ?_, hR, fun x q => by injection q with q; rw [← q]; exact ⟨.inl rfl, (Array.getElem?_eq_some_iff.1 hg).1⟩, Below.refl _ _⟩
    cases ad with
    | none =>
      obtain rfl : cap = 0 := hin.nil rfl
      exact run_append_owned_none (P := P) (w := w) 0 t ty e i 1 ht hi _ 0 [] hown
    | some ad =>
      have hh := run_append_room (P := P) w t ty e i ht hi g0 0 0 #[] hg ad 0 cap [] (by simp) (fun j u hu => by simp at hu) (fun u hu => by cases hu) (Nat.le_refl _) (by simp)
      rw [hh]
      simp only [List.take_nil, List.drop_nil, List.nil_append]
      have e1 : w.setRow g0 #[] = w := setRow_self w g0 #[] e (0, 0) hg
      rw [e1]
  · obtain ⟨g, off, rfl, _, hseg⟩ := hin.place (by omega)
    have hnews : ∀ (j : Nat) (u : Value), (r.map (Value.int .u8))[j]? = some u → w.cell? ((⟨g, off, none⟩ : Addr).add j) = some u := hseg.news
    obtain ⟨v', w', hr, h2, _, _⟩ := run_append_own (P := P) w 0 t ty e i z 1 1 ht hi hz hsize hby hzs (by omega) _ 0 [] hown ⟨g, off, none⟩ n cap (r.map (Value.int .u8)) (by simp [hlen]) hnews (by simp [Value.oneCell']) (by simp only [maxLen]; omega) (by omega) (Nat.zero_le _)
    have hr2 := run_append_grow (P := P) w t ty e i z ht hi hz ⟨g0, 0, none⟩ 0 0 [] (by simp) (fun j u hu => by simp at hu) ⟨g, off, none⟩ n cap (r.map (Value.int .u8)) (by simp [hlen, hsize]) hnews (by omega) (by omega) (growslice_fits (by omega) (by rw [hby]; omega))
    rw [hr] at hr2
    injection hr2 with e1 e2
    rw [e1, e2] at h2 hr
    simp only [Nat.zero_add, List.nil_append] at h2 hr
    exact ⟨_, _, _, hr, InBytes.of_own (zs := r) h2 hin.bytes, fun x q => by injection q with q; rw [← q]; exact ⟨.inr (Nat.le_refl _), by simp⟩, ((Below.refl w.heap.size w).drew).alloc (Nat.le_refl _) _⟩
end Go.Proofs.YtioifkbkllnkgaaDoor

/- Trees whose keys and values are rows of one's own. -/
namespace Go.Proofs.YtioifkbkllnkgaaDoor
open Go.RowKit
set_option linter.unusedVariables false

/-- Bytes that are a row of one's own, in the blocks from lo up to hi. -/
def OwnB (W : World) (lo hi : Nat) (a : Option Addr) (n c : Nat) (zs : List Int) : Prop := W.ownsRow 0 5 1 (.slice a n c) n (zs.map (Value.int .u8)) ∧ ∀ g, (Value.slice a n c).ownBlock = some g → lo ≤ g ∧ g < hi
theorem OwnB.wide {W : World} {lo hi lo' hi' : Nat} {a : Option Addr} {n c : Nat} {zs : List Int} (x : OwnB W lo hi a n c zs) (h1 : lo' ≤ lo) (h2 : hi ≤ hi') : OwnB W lo' hi' a n c zs := ⟨x.1, fun g e => ⟨Nat.le_trans h1 (x.2 g e).1, Nat.lt_of_lt_of_le (x.2 g e).2 h2⟩⟩
theorem own_agree {w w' : World} {base size n : Nat} {e : TypeId} {v : Value} {xs : List Value} (h : w.ownsRow base e size v n xs) (ha : ∀ g, v.ownBlock = some g → w'.heap[g]? = w.heap[g]?) : w'.ownsRow base e size v n xs := by
  rcases h.2 with q | ⟨g, c, cur, rfl, q2, q3, q4⟩
  · exact ⟨h.1, .inl q⟩
  · exact ⟨h.1, .inr ⟨g, c, cur, rfl, q2, (ha g rfl).trans q3, q4⟩⟩
inductive OTree (W : World) (lo hi : Nat) : TH → Tr → Prop
  | mk (h : TH) (t : Tr) (H : Nat → TH) (hp : TreeAt W h t H) (k : OwnB W lo hi h.ka h.kn h.kc t.key) (v : OwnB W lo hi h.va h.vn h.vc t.val) (kids : ∀ i (hi' : i < t.kids.length), OTree W lo hi (H i) t.kids[i]) : OTree W lo hi h t
theorem OTree.inTree {W : World} {lo hi : Nat} {h : TH} {t : Tr} (x : OTree W lo hi h t) : InTree W h t := by
  cases x with
  | mk h t H hp k v kids => exact hp.inTree
theorem OTree.wide {W : World} {lo hi lo' hi' : Nat} (h1 : lo' ≤ lo) (h2 : hi ≤ hi') {h : TH} {t : Tr} (x : OTree W lo hi h t) : OTree W lo' hi' h t := by
  induction x with
  | mk h t H hp k v kids ih => exact .mk h t H hp (k.wide h1 h2) (v.wide h1 h2) ih
theorem OTree.parts {W : World} {lo hi : Nat} {h : TH} {t : Tr} (x : OTree W lo hi h t) : ∃ H, TreeAt W h t H ∧ OwnB W lo hi h.ka h.kn h.kc t.key ∧ OwnB W lo hi h.va h.vn h.vc t.val ∧ ∀ i (hi' : i < t.kids.length), OTree W lo hi (H i) t.kids[i] := by
  cases x with
  | mk h t H hp k v kids => exact ⟨H, hp, k, v, kids⟩
/-- Such a tree, in the blocks from lo up to hi alone. -/
def FreshO (lo hi : Nat) (w : World) (h : TH) (c : Tr) : Prop := ∀ W : World, hi ≤ W.heap.size → (∀ j, lo ≤ j → j < hi → W.heap[j]? = w.heap[j]?) → OTree W lo hi h c
section
variable {lo hi : Nat} {w w' : World} {h : TH} {c : Tr}
theorem FreshO.self (f : FreshO lo hi w h c) (hs : hi ≤ w.heap.size) : OTree w lo hi h c := f w hs fun _ _ _ => rfl
theorem FreshO.below (f : FreshO lo hi w h c) (hb : Below w.heap.size w w') (hs : hi ≤ w.heap.size) : FreshO lo hi w' h c := fun W h1 h2 => f W h1 fun j hl hh => (h2 j hl hh).trans (hb.block j (by omega))
end
/-- As run_append_empty; the bytes are a row of one's own. -/
theorem run_append_emptyO {P : Program} (w : World) (t ty e : TypeId) (i : TypeInfo) (z : Value) (ht : P.underlying t = some (.slice e)) (hi : P.info? e = some i) (hz : i.zero = some z) (hsize : i.size = 1) (hby : i.bytes = 1) (hzs : z.cells.size = 1)
    (g0 : Nat) (hg : w.heap[g0]? = some (.cells #[] e (0, 0))) (ad : Option Addr) (n cap : Nat) (r : List Int) (hin : InBytes w ad n cap r) (hn : n ≤ 100000) :
    ∃ a c w', (Builtin.append_ #[t, t] ty #[.slice (some ⟨g0, 0, none⟩) 0 0, .slice ad n cap]).run P w = .ok (.slice a n c) w' ∧ InBytes w' a n c r ∧ w'.ownsRow 0 e 1 (.slice a n c) n (r.map (Value.int .u8)) ∧ (∀ x, a = some x → (x.block = g0 ∨ w.heap.size ≤ x.block) ∧ x.block < w'.heap.size) ∧ Below w.heap.size w w' := by
  obtain ⟨a, c, w', h1, h2, h3, h4⟩ := run_append_empty (P := P) w t ty e i z ht hi hz hsize hby hzs g0 hg ad n cap r hin hn
  refine ⟨a, c, w', h1, h2, ?_, h3, h4⟩
  have hown : w.ownsRow 0 e 1 (.slice (some ⟨g0, 0, none⟩) 0 0) 0 [] := ⟨rfl, .inr ⟨g0, 0, #[], rfl, Nat.zero_le _, hg, Nat.le_refl _, Nat.zero_le _, rfl, rfl⟩⟩
  have hlen := hin.len
  by_cases h0 : n = 0
  · have hr : r = [] := List.eq_nil_of_length_eq_zero (by omega)
    subst h0
    subst hr
    have hres : (Builtin.append_ #[t, t] ty #[.slice (some ⟨g0, 0, none⟩) 0 0, .slice ad 0 cap]).run P w = .ok (.slice (some ⟨g0, 0, none⟩) 0 0) w := by
      cases ad with
      | none =>
        obtain rfl : cap = 0 := hin.nil rfl
        exact run_append_owned_none (P := P) (w := w) 0 t ty e i 1 ht hi _ 0 [] hown
      | some ad =>
        have hh := run_append_room (P := P) w t ty e i ht hi g0 0 0 #[] hg ad 0 cap [] (by simp) (fun j u hu => by simp at hu) (fun u hu => by cases hu) (Nat.le_refl _) (by simp)
        rw [hh]
        simp only [List.take_nil, List.drop_nil, List.nil_append]
        have e1 : w.setRow g0 #[] = w := setRow_self w g0 #[] e (0, 0) hg
        rw [e1]
    rw [hres] at h1
    injection h1 with e1 e2
    injection e1 with e3 e4 e5
    subst e2 e3 e5
    exact hown
  · obtain ⟨g, off, rfl, _, hseg⟩ := hin.place (by omega)
    have hnews : ∀ (j : Nat) (u : Value), (r.map (Value.int .u8))[j]? = some u → w.cell? ((⟨g, off, none⟩ : Addr).add j) = some u := hseg.news
    obtain ⟨v2, w2, hr, q2, _, _⟩ := run_append_own (P := P) w 0 t ty e i z 1 1 ht hi hz hsize hby hzs (by omega) _ 0 [] hown ⟨g, off, none⟩ n cap (r.map (Value.int .u8)) (by simp [hlen]) hnews (by simp [Value.oneCell']) (by simp only [maxLen]; omega) (by omega) (Nat.zero_le _)
    rw [h1] at hr
    injection hr with e1 e2
    rw [← e1, ← e2] at q2
    simpa only [Nat.zero_add, List.nil_append] using q2
theorem step_append_emptyO {P : Program} (w : World) {ops : Array Oper} {o : Oper} {a : Act} {K : Act → World → Prop} {Q : Exit → Act → World → Prop} {E : Prop} (hgd : o.guard = none) (s x : Operand) (t : TypeId)
    (ho : o.op = .call { callee := .builtin .append, args := #[s, x], argTypes := #[t, t] }) (e : TypeId) (i : TypeInfo) (z : Value) (ht : P.underlying t = some (.slice e)) (hi : P.info? e = some i) (hz : i.zero = some z) (hsize : i.size = 1) (hby : i.bytes = 1) (hzs : z.cells.size = 1)
    (g0 : Nat) (hs : a.eval s = .slice (some ⟨g0, 0, none⟩) 0 0) (hg : w.heap[g0]? = some (.cells #[] e (0, 0))) (ad : Option Addr) (n cap : Nat) (r : List Int) (hx : a.eval x = .slice ad n cap) (hin : InBytes w ad n cap r) (hn : n ≤ 100000)
    (h : ∀ b c w', InBytes w' b n c r → w'.ownsRow 0 e 1 (.slice b n c) n (r.map (Value.int .u8)) → (∀ y, b = some y → (y.block = g0 ∨ w.heap.size ≤ y.block) ∧ y.block < w'.heap.size) → Below w.heap.size w w' → K (a.put o.dst (.slice b n c)) w') : if Region.wanted o (yielded ops a.tmps) = true then Oper.wp P o a w K Q else E := by
  have hw : Region.wanted o (yielded ops a.tmps) = true := by simp [Region.wanted, hgd]
  rw [if_pos hw]
  obtain ⟨b, c, w', hr, h1, h0, h2, h3⟩ := run_append_emptyO (P := P) w t o.type e i z ht hi hz hsize hby hzs g0 hg ad n cap r hin hn
  unfold Oper.wp execOp
  simp only [ho, resolve, invoke, builtin, Sem.run_bind, Sem.run_pure, Result.andThen_ok, List.map_toArray, List.map_cons, List.map_nil, hs, hx, hr]
  exact h b c w' h1 h0 h2 h3
end Go.Proofs.YtioifkbkllnkgaaDoor

/- While a tree's own keys and values are written: what lies below, and what lies above, stays. No function is named here. -/
namespace Go.Proofs.YtioifkbkllnkgaaDoor
open Go.RowKit
set_option linter.unusedVariables false

theorem own_setB {W : World} {base n g k : Nat} {v : Value} {bs : List Int} (h : W.ownsRow base 5 1 v n (bs.map (Value.int .u8))) (hb : Bytes8 bs) (z : Int) (h0 : 0 ≤ z) (h1 : z ≤ 255) : ∃ bs', Bytes8 bs' ∧ (W.setCell ⟨g, k, none⟩ (.int .u8 z)).ownsRow base 5 1 v n (bs'.map (Value.int .u8)) := by
  rcases h.2 with ⟨rfl, e⟩ | ⟨g', c, cur, rfl, q1, q2, q3⟩
  · exact ⟨bs, hb, h.1, .inl ⟨rfl, e⟩⟩
  · by_cases e : g' = g
    · subst e
      refine ⟨bs.set k z, fun y hy => ?_, own_bump h z⟩
      rcases List.mem_or_eq_of_mem_set hy with q | q
      · exact hb y q
      · subst q
        exact ⟨h0, h1⟩
    · exact ⟨bs, hb, h.1, .inr ⟨g', c, cur, rfl, q1, (Below.heap_setCell W ⟨g, k, none⟩ _ g' e).trans q2, q3⟩⟩
/-- Bytes of one's own, whatever they are. -/
def AnyB (W : World) (lo hi : Nat) (a : Option Addr) (n c : Nat) : Prop := ∃ bs, Bytes8 bs ∧ OwnB W lo hi a n c bs
theorem AnyB.cell {W : World} {lo hi : Nat} {a : Option Addr} {n c : Nat} (x : AnyB W lo hi a n c) (k : Nat) (hk : k < n) : ∃ g z, a = some ⟨g, 0, none⟩ ∧ lo ≤ g ∧ g < hi ∧ W.frozen? ⟨g, k, none⟩ = false ∧ W.cell? ⟨g, k, none⟩ = some (.int .u8 z) ∧ 0 ≤ z ∧ z ≤ 255 ∧ W.ownsRow 0 5 1 (.slice (some ⟨g, 0, none⟩) n c) n ((x.choose).map (Value.int .u8)) := by
  have hb := x.choose_spec.1
  have ho := x.choose_spec.2
  generalize x.choose = bs at *
  have hin := own_in ho.1 hb
  rcases ho.1.2 with ⟨q, _⟩ | ⟨g, c', cur, q, hbase, hh, _⟩
  · injection q with _ q
    omega
  · injection q with q1 q2 q3
    subst q1
    obtain ⟨g', off', e, _, hseg⟩ := hin.place (by omega)
    injection e with e
    injection e with e4 e5
    subst e4 e5
    have hk2 : k < bs.length := by rw [hin.len]; exact hk
    have hz := hb _ (List.getElem_mem hk2)
    have hc := hseg k hk2
    rw [Nat.zero_add] at hc
    have hl := ho.2 g rfl
    exact ⟨g, bs[k], rfl, hl.1, hl.2, by simp [World.frozen?, hh], hc, hz.1, hz.2, ho.1⟩
theorem AnyB.set {W : World} {lo hi : Nat} {a : Option Addr} {n c : Nat} (x : AnyB W lo hi a n c) (g k : Nat) (z : Int) (h0 : 0 ≤ z) (h1 : z ≤ 255) : AnyB (W.setCell ⟨g, k, none⟩ (.int .u8 z)) lo hi a n c := by
  obtain ⟨bs, hb, ho⟩ := x
  obtain ⟨bs', hb', ho'⟩ := own_setB (g := g) (k := k) ho.1 hb z h0 h1
  exact ⟨bs', hb', ho', ho.2⟩
theorem AnyB.keep {W W' : World} {lo hi : Nat} {a : Option Addr} {n c : Nat} (x : AnyB W lo hi a n c) (hb : Below W.heap.size W W') : AnyB W' lo hi a n c := by
  obtain ⟨bs, q1, q2⟩ := x
  exact ⟨bs, q1, own_keep q2.1 hb, q2.2⟩
theorem AnyB.len {W : World} {lo hi : Nat} {a : Option Addr} {n c : Nat} (x : AnyB W lo hi a n c) : n ≤ 9223372036854775807 := by
  obtain ⟨bs, q1, q2⟩ := x
  have h1 := (own_in q2.1 q1).le
  have h2 := (own_in q2.1 q1).max
  simp only [maxLen] at h2
  omega
/-- While a tree's own keys and values are written, in the blocks from lo up to hi: what lies below, and what lies above, stays. -/
structure WS (wb wl W : World) (lo hi : Nat) (a : Option Addr) (n c : Nat) (hs : List TH) : Prop where
  b : Below wb.heap.size wb W
  l : lo = wb.heap.size
  sz : wl.heap.size ≤ W.heap.size
  up : ∀ j, hi ≤ j → j < wl.heap.size → W.heap[j]? = wl.heap[j]?
  row : OwnT W 0 25 (.slice a n c) hs
  ks : ∀ i (h : i < hs.length), AnyB W lo hi (hs[i]).ka (hs[i]).kn (hs[i]).kc
  vs : ∀ i (h : i < hs.length), AnyB W lo hi (hs[i]).va (hs[i]).vn (hs[i]).vc
section
variable {wb wl W W' : World} {lo hi : Nat} {a : Option Addr} {n c : Nat} {hs : List TH}
theorem WS.drew (x : WS wb wl W lo hi a n c hs) : WS wb wl W.drew lo hi a n c hs := ⟨x.b.drew, x.l, x.sz, x.up, x.row, fun i h => (x.ks i h).keep (Below.refl _ _).drew, fun i h => (x.vs i h).keep (Below.refl _ _).drew⟩
theorem WS.set (x : WS wb wl W lo hi a n c hs) {g k m cc : Nat} {xs : List Int} (h0 : lo ≤ g) (h1 : g < hi) (ho : W.ownsRow 0 5 1 (.slice (some ⟨g, 0, none⟩) m cc) m (xs.map (Value.int .u8))) (y : Int) (y0 : 0 ≤ y) (y1 : y ≤ 255) : WS wb wl (W.setCell ⟨g, k, none⟩ (.int .u8 y)) lo hi a n c hs :=
  ⟨x.b.setCell (by have := x.l; show wb.heap.size ≤ g; omega) _, x.l, Nat.le_trans x.sz (by simp [World.setCell]), fun j hj hl => (Below.heap_setCell W ⟨g, k, none⟩ _ j (by show j ≠ g; omega)).trans (x.up j hj hl),
    World.ownsRow.kept x.row (only_set (only_refl W (some g)) k _) (by
      have q := own_apart x.row ho (by decide)
      exact q), fun i h => (x.ks i h).set g k y y0 y1, fun i h => (x.vs i h).set g k y y0 y1⟩
theorem WS.bumpV (x : WS wb wl W lo hi a n c hs) (i : Nat) (hi' : i < hs.length) (k : Nat) (hk : k < (hs[i]).vn) : ∃ g z, (hs[i]).va = some ⟨g, 0, none⟩ ∧ W.frozen? ⟨g, k, none⟩ = false ∧ W.cell? ⟨g, k, none⟩ = some (.int .u8 z) ∧ 0 ≤ z ∧ z ≤ 255 ∧ ∀ y, 0 ≤ y → y ≤ 255 → WS wb wl (W.setCell ⟨g, k, none⟩ (.int .u8 y)) lo hi a n c hs := by
  obtain ⟨g, z, q1, q2, q3, q4, q5, q6, q7, q8⟩ := (x.vs i hi').cell k hk
  exact ⟨g, z, q1, q4, q5, q6, q7, fun y y0 y1 => x.set q2 q3 q8 y y0 y1⟩
theorem WS.lenV (x : WS wb wl W lo hi a n c hs) (i : Nat) (h : i < hs.length) : (hs[i]).vn ≤ 9223372036854775807 := (x.vs i h).len
theorem WS.cells {g : Nat} (x : WS wb wl W lo hi (some ⟨g, 0, none⟩) n c hs) (hl : hs.length = n) (i : Nat) (h : i < hs.length) : W.cell? ⟨g, i * 5 + 1, none⟩ = some (.slice (hs[i]).ka (hs[i]).kn (hs[i]).kc) ∧ W.cell? ⟨g, i * 5 + 2, none⟩ = some (.slice (hs[i]).va (hs[i]).vn (hs[i]).vc) := by
  obtain ⟨g', e, hc⟩ := x.row.at hl i h
  injection e with e
  injection e with e
  subst e
  exact ⟨hc.2.1, hc.2.2.1⟩
theorem WS.place (x : WS wb wl W lo hi a n c hs) (hl : hs.length = n) (i : Nat) (h : i < hs.length) : ∃ g, a = some ⟨g, 0, none⟩ := by
  obtain ⟨g', e, hc⟩ := x.row.at hl i h
  exact ⟨g', e⟩
end
end Go.Proofs.YtioifkbkllnkgaaDoor

/- The contract of the document's Copy. -/
namespace Go.Proofs.YtioifkbkllnkgaaDoor
open Go.RowKit
set_option linter.unusedVariables false

theorem box_bytes {W : World} {ty : TypeId} {g off : Nat} {hh : TH} {zs : List Int} (hb : Box W ty g hh) (hs : Seg .u8 W g off zs) (h0 : 0 < zs.length) : False := by
  have h1 := hs 0 h0
  rw [cell_of_row W g (off + 0) _ _ (0, 0) hb] at h1
  rcases (by omega : off = 0 ∨ off = 1 ∨ off = 2 ∨ off = 3 ∨ off = 4 ∨ 5 ≤ off) with rfl | rfl | rfl | rfl | rfl | h5
  · simp at h1
  · simp at h1
  · simp at h1
  · simp at h1
  · simp at h1
  · rw [Array.getElem?_eq_none (by simp; omega)] at h1
    cases h1
/-- Bytes are not in a tree's box. -/
theorem InBytes.offBox {W W' : World} {ty : TypeId} {g : Nat} {hh : TH} {a : Option Addr} {n c : Nat} {zs : List Int} (h : InBytes W a n c zs) (hb : Box W ty g hh) (hg : W.grownBy W' (some g)) : InBytes W' a n c zs :=
  ⟨h.len, h.bytes, h.le, h.max, h.nil, fun h0 => by
    obtain ⟨g', off, e, hlt, hc⟩ := h.place h0
    have hne : some g' ≠ some g := fun q => by
      injection q with q
      subst q
      exact box_bytes hb hc (by rw [h.len]; exact h0)
    exact ⟨g', off, e, Nat.lt_of_lt_of_le hlt hg.size, hc.keep fun o => World.cell?_of_block (a := ⟨g', o, none⟩) (hg.block g' hlt hne)⟩⟩
/-- Bytes in blocks from lo on. -/
def NewIn (lo : Nat) (W : World) (a : Option Addr) (n c : Nat) (zs : List Int) : Prop := InBytes W a n c zs ∧ ∀ y, a = some y → lo ≤ y.block ∧ y.block < W.heap.size
/-- What lies there while a tree's own bytes are copied, in whatever order. -/
structure CJ (w w0 W : World) (h : TH) (t : Tr) (b1 A1 b2 A2 b3 A3 bd al st : Bool) (s7 s10 s11 s14 s15 s18 s19 s3 : Value) : Prop where
  d : Below w0.heap.size w0 W
  e1 : b1 = true → ∃ g, s7 = .slice (some ⟨g, 0, none⟩) 0 0 ∧ w0.heap.size ≤ g ∧ W.heap[g]? = some (.cells #[] 5 (0, 0))
  e2 : b2 = true → ∃ g, s11 = .slice (some ⟨g, 0, none⟩) 0 0 ∧ w0.heap.size ≤ g ∧ W.heap[g]? = some (.cells #[] 5 (0, 0))
  e3 : b3 = true → ∃ g, s15 = .slice (some ⟨g, 0, none⟩) 0 0 ∧ w0.heap.size ≤ g ∧ W.heap[g]? = some (.cells #[] 5 (0, 0))
  p1 : A1 = true → ∃ a c, s10 = .slice a h.kn c ∧ NewIn w0.heap.size W a h.kn c t.key
  p2 : A2 = true → ∃ a c, s14 = .slice a h.vn c ∧ NewIn w0.heap.size W a h.vn c t.val
  p3 : A3 = true → ∃ a c, s18 = .slice a h.dn c ∧ NewIn w0.heap.size W a h.dn c t.dig
  q : bd = true → (A1 = true ∧ A2 = true ∧ A3 = true) ∧ s19 = .agg #[.int .i64 h.k, s10, s14, s18, .slice none 0 0]
  l : al = true → st = false → ∃ g, s3 = .pointer (some ⟨g, 0, none⟩) ∧ w0.heap.size ≤ g ∧ Box W 25 g hZ
  o : st = true → al = true
  z : st = true → ∃ g a1 c1 a2 c2 a3 c3, s3 = .pointer (some ⟨g, 0, none⟩) ∧ w0.heap.size ≤ g ∧ Box W 25 g ⟨h.k, a1, h.kn, c1, a2, h.vn, c2, a3, h.dn, c3, none, 0, 0⟩ ∧ NewIn w0.heap.size W a1 h.kn c1 t.key ∧ NewIn w0.heap.size W a2 h.vn c2 t.val ∧ NewIn w0.heap.size W a3 h.dn c3 t.dig
section
variable {w w0 W W' : World} {h : TH} {t : Tr} {b1 A1 b2 A2 b3 A3 bd al st : Bool} {s7 s10 s11 s14 s15 s18 s19 s3 : Value}
theorem heap_lt' {W : World} {g : Nat} {o : Obj} (h : W.heap[g]? = some o) : g < W.heap.size := (Array.getElem?_eq_some_iff.1 h).1
end
theorem row_box0 {W : World} {t t' : TypeId} {g : Nat} {x : TH} (hne : t ≠ t') (a : W.heap[g]? = some (.cells #[] t (0, 0))) (b : Box W t' g x) : False := by
  unfold Box at b
  rw [a] at b
  injection b with b
  injection b with _ b _
  exact hne b
theorem all_mem {l : List Nat} {p : Nat → Bool} (h : l.all p = true) {i : Nat} (hi : i ∈ l) : p i = true := List.all_eq_true.1 h i hi
/-- How many operations are still to come. -/
def leftB (l : Array Bool) : Nat := (l.toList.map fun x => if x then 0 else 1).sum
/-- The world inside Copy: the tree's box, the result's box. -/
structure PW (w W : World) (h : TH) : Prop where
  box : Box W 25 w.heap.size h
  res : Box W 25 (w.heap.size + 1) hZ
  b : Below w.heap.size w W
theorem PW.new (w : World) (h : TH) : PW w ((w.alloc (.cells #[.int .i64 h.k, .slice h.ka h.kn h.kc, .slice h.va h.vn h.vc, .slice h.da h.dn h.dc, .slice h.ta h.tn h.tc] 25)).alloc (.cells #[.int .i64 0, .slice none 0 0, .slice none 0 0, .slice none 0 0, .slice none 0 0] 25)) h := by
  have h1 : Below w.heap.size w (w.alloc (.cells #[.int .i64 h.k, .slice h.ka h.kn h.kc, .slice h.va h.vn h.vc, .slice h.da h.dn h.dc, .slice h.ta h.tn h.tc] 25)) := (Below.refl _ _).alloc (Nat.le_refl _) _
  have h2 : Below (w.alloc (.cells #[.int .i64 h.k, .slice h.ka h.kn h.kc, .slice h.va h.vn h.vc, .slice h.da h.dn h.dc, .slice h.ta h.tn h.tc] 25)).heap.size (w.alloc (.cells #[.int .i64 h.k, .slice h.ka h.kn h.kc, .slice h.va h.vn h.vc, .slice h.da h.dn h.dc, .slice h.ta h.tn h.tc] 25)) ((w.alloc (.cells #[.int .i64 h.k, .slice h.ka h.kn h.kc, .slice h.va h.vn h.vc, .slice h.da h.dn h.dc, .slice h.ta h.tn h.tc] 25)).alloc (.cells #[.int .i64 0, .slice none 0 0, .slice none 0 0, .slice none 0 0, .slice none 0 0] 25)) := (Below.refl _ _).alloc (Nat.le_refl _) _
  have hx := Box.new w 25 h
  have hr := Box.new (w.alloc (.cells #[.int .i64 h.k, .slice h.ka h.kn h.kc, .slice h.va h.vn h.vc, .slice h.da h.dn h.dc, .slice h.ta h.tn h.tc] 25)) 25 hZ
  have hs : (w.alloc (.cells #[.int .i64 h.k, .slice h.ka h.kn h.kc, .slice h.va h.vn h.vc, .slice h.da h.dn h.dc, .slice h.ta h.tn h.tc] 25)).heap.size = w.heap.size + 1 := by simp
  rw [hs] at hr
  exact ⟨hx.below h2 hx.lt, hr, h1.trans (h2.mono h1.size)⟩
theorem Box.set4 {W : World} {ty : TypeId} {g : Nat} {hh : TH} (hb : Box W ty g hh) (a : Option Addr) (n c : Nat) : Box (W.setCell ⟨g, 4, none⟩ (.slice a n c)) ty g ⟨hh.k, hh.ka, hh.kn, hh.kc, hh.va, hh.vn, hh.vc, hh.da, hh.dn, hh.dc, a, n, c⟩ := by
  unfold Box at hb ⊢
  simp [World.setCell, Array.getElem?_modify, hb]
theorem Box.free {W : World} {ty : TypeId} {g : Nat} {hh : TH} (hb : Box W ty g hh) (i : Nat) : W.frozen? ⟨g, i, none⟩ = false := by
  unfold Box at hb
  simp [World.frozen?, hb]
theorem results_cell1 {P : Program} {fn : Func} {p : Tmp} {ty : TypeId} (h : fn.results = #[.cell p ty]) (tmps : Array Value) {w : World} {g : Nat} {t : TypeId} {hh : TH} {fs : Array Field} (hx : Box w t g hh)
    (hp : tmps.getD p undef = .pointer (some ⟨g, 0, none⟩)) (hu : P.underlying ty = some (.struct fs)) (hi : (P.info? ty).map (·.size) = some 5) : (results fn tmps).run P w = .ok hh.v w := by
  have hp' : tmps[p]?.getD undef = .pointer (some ⟨g, 0, none⟩) := by simpa using hp
  have hl := run_loadVar_row (P := P) w g t ty _ _ (.struct fs) hx hu rfl (by simpa using hi)
  simp [results, h, hp', asAddr, hl, TH.v]
/-- What lies there while a tree's kids are copied: i of them are; L0: where their memory begins; g: the copy's box. -/
structure CL (wb w X : World) (h : TH) (t : Tr) (L0 g : Nat) (a1 : Option Addr) (c1 : Nat) (a2 : Option Addr) (c2 : Nat) (a3 : Option Addr) (c3 : Nat) (av : Option Addr) (i cv : Nat) (hs : List TH) : Prop where
  box : Box X 25 w.heap.size h
  res : Box X 25 (w.heap.size + 1) hZ
  b : Below w.heap.size w X
  out : Box X 25 g ⟨h.k, a1, h.kn, c1, a2, h.vn, c2, a3, h.dn, c3, av, i, cv⟩
  n1 : InBytes X a1 h.kn c1 t.key
  n2 : InBytes X a2 h.vn c2 t.val
  n3 : InBytes X a3 h.dn c3 t.dig
  m1 : ∀ y, a1 = some y → w.heap.size ≤ y.block ∧ y.block < L0
  m2 : ∀ y, a2 = some y → w.heap.size ≤ y.block ∧ y.block < L0
  m3 : ∀ y, a3 = some y → w.heap.size ≤ y.block ∧ y.block < L0
  og : w.heap.size + 1 < g ∧ g < L0
  L : L0 ≤ X.heap.size
  own : OwnT X L0 25 (.slice av i cv) hs
  len : hs.length = i
  fr : ∀ j (hj : j < hs.length) (hk : j < t.kids.length), ∃ lo hi, L0 ≤ lo ∧ hi ≤ X.heap.size ∧ (∀ b, (Value.slice av i cv).ownBlock = some b → b < lo ∨ hi ≤ b) ∧ From wb lo hi X hs[j] t.kids[j]
section
variable {wb w X X' : World} {h : TH} {t : Tr} {L0 g : Nat} {a1 : Option Addr} {c1 : Nat} {a2 : Option Addr} {c2 : Nat} {a3 : Option Addr} {c3 : Nat} {av : Option Addr} {i cv : Nat} {hs : List TH}
end
def CopyPost (wb w : World) (t : Tr) (e : Ending) (w' : World) : Prop := ∃ h', e = .returned h'.v ∧ From wb w.heap.size w'.heap.size w' h' t ∧ Below w.heap.size w w'

end Go.Proofs.YtioifkbkllnkgaaDoor

/- The contract of the document's Copy: the copy's keys and values are rows of one's own, and nothing else lies there. -/
namespace Go.Proofs.YtioifkbkllnkgaaDoor
open Go.RowKit
set_option linter.unusedVariables false

/-- Bytes in blocks from lo on. -/
def NewO (lo : Nat) (W : World) (a : Option Addr) (n c : Nat) (zs : List Int) : Prop := InBytes W a n c zs ∧ (∀ y, a = some y → lo ≤ y.block ∧ y.block < W.heap.size) ∧ W.ownsRow 0 5 1 (.slice a n c) n (zs.map (Value.int .u8))
theorem NewO.below {lo : Nat} {W W' : World} {a : Option Addr} {n c : Nat} {zs : List Int} (h : NewO lo W a n c zs) (hb : Below W.heap.size W W') : NewO lo W' a n c zs := ⟨h.1.below hb, fun y e => ⟨(h.2.1 y e).1, Nat.lt_of_lt_of_le (h.2.1 y e).2 hb.size⟩, own_keep h.2.2 hb⟩
/-- What lies there while a tree's own bytes are copied, in whatever order. -/
structure CJO (w w0 W : World) (h : TH) (t : Tr) (b1 A1 b2 A2 b3 A3 bd al st : Bool) (s7 s10 s11 s14 s15 s18 s19 s3 : Value) : Prop where
  d : Below w0.heap.size w0 W
  e1 : b1 = true → ∃ g, s7 = .slice (some ⟨g, 0, none⟩) 0 0 ∧ w0.heap.size ≤ g ∧ W.heap[g]? = some (.cells #[] 5 (0, 0))
  e2 : b2 = true → ∃ g, s11 = .slice (some ⟨g, 0, none⟩) 0 0 ∧ w0.heap.size ≤ g ∧ W.heap[g]? = some (.cells #[] 5 (0, 0))
  e3 : b3 = true → ∃ g, s15 = .slice (some ⟨g, 0, none⟩) 0 0 ∧ w0.heap.size ≤ g ∧ W.heap[g]? = some (.cells #[] 5 (0, 0))
  p1 : A1 = true → ∃ a c, s10 = .slice a h.kn c ∧ NewO w0.heap.size W a h.kn c t.key
  p2 : A2 = true → ∃ a c, s14 = .slice a h.vn c ∧ NewO w0.heap.size W a h.vn c t.val
  p3 : A3 = true → ∃ a c, s18 = .slice a h.dn c ∧ NewO w0.heap.size W a h.dn c t.dig
  q : bd = true → (A1 = true ∧ A2 = true ∧ A3 = true) ∧ s19 = .agg #[.int .i64 h.k, s10, s14, s18, .slice none 0 0]
  l : al = true → st = false → ∃ g, s3 = .pointer (some ⟨g, 0, none⟩) ∧ w0.heap.size ≤ g ∧ Box W 25 g hZ
  o : st = true → al = true
  z : st = true → ∃ g a1 c1 a2 c2 a3 c3, s3 = .pointer (some ⟨g, 0, none⟩) ∧ w0.heap.size ≤ g ∧ Box W 25 g ⟨h.k, a1, h.kn, c1, a2, h.vn, c2, a3, h.dn, c3, none, 0, 0⟩ ∧ NewO w0.heap.size W a1 h.kn c1 t.key ∧ NewO w0.heap.size W a2 h.vn c2 t.val ∧ NewO w0.heap.size W a3 h.dn c3 t.dig
section
variable {w w0 W W' : World} {h : TH} {t : Tr} {b1 A1 b2 A2 b3 A3 bd al st : Bool} {s7 s10 s11 s14 s15 s18 s19 s3 : Value}
theorem CJO.below (x : CJO w w0 W h t b1 A1 b2 A2 b3 A3 bd al st s7 s10 s11 s14 s15 s18 s19 s3) (hb : Below W.heap.size W W') : CJO w w0 W' h t b1 A1 b2 A2 b3 A3 bd al st s7 s10 s11 s14 s15 s18 s19 s3 :=
  ⟨x.d.trans (hb.mono x.d.size), fun q => by obtain ⟨g, h1, h2, h3⟩ := x.e1 q; exact ⟨g, h1, h2, (hb.block g (heap_lt' h3)).trans h3⟩, fun q => by obtain ⟨g, h1, h2, h3⟩ := x.e2 q; exact ⟨g, h1, h2, (hb.block g (heap_lt' h3)).trans h3⟩, fun q => by obtain ⟨g, h1, h2, h3⟩ := x.e3 q; exact ⟨g, h1, h2, (hb.block g (heap_lt' h3)).trans h3⟩,
    fun q => by obtain ⟨a, c, h1, h2⟩ := x.p1 q; exact ⟨a, c, h1, h2.below hb⟩, fun q => by obtain ⟨a, c, h1, h2⟩ := x.p2 q; exact ⟨a, c, h1, h2.below hb⟩, fun q => by obtain ⟨a, c, h1, h2⟩ := x.p3 q; exact ⟨a, c, h1, h2.below hb⟩,
    x.q, fun q r => by obtain ⟨g, h1, h2, h3⟩ := x.l q r; exact ⟨g, h1, h2, h3.below hb h3.lt⟩, x.o,
    fun q => by obtain ⟨g, a1, c1, a2, c2, a3, c3, h1, h2, h3, h4, h5, h6⟩ := x.z q; exact ⟨g, a1, c1, a2, c2, a3, c3, h1, h2, h3.below hb h3.lt, h4.below hb, h5.below hb, h6.below hb⟩⟩
end
theorem NewO.offBox {lo : Nat} {W W' : World} {ty : TypeId} {g : Nat} {hh : TH} {a : Option Addr} {n c : Nat} {zs : List Int} (h : NewO lo W a n c zs) (hne : ty ≠ 5) (hb : Box W ty g hh) (hg : W.grownBy W' (some g)) : NewO lo W' a n c zs := ⟨h.1.offBox hb hg, fun y e => ⟨(h.2.1 y e).1, Nat.lt_of_lt_of_le (h.2.1 y e).2 hg.size⟩, own_agree h.2.2 (fun j ej => hg.block j (h.2.2.lt j ej).2 (fun q => by injection q with q; subst q; exact hne (own_type h.2.2 ej hb)))⟩
theorem CJO.fin {w w0 W W' : World} {h : TH} {t : Tr} {b1 b2 b3 : Bool} {s7 s11 s15 s19 : Value} {g : Nat} {a1 a2 a3 : Option Addr} {c1 c2 c3 : Nat} (x : CJO w w0 W h t b1 true b2 true b3 true true true false s7 (.slice a1 h.kn c1) s11 (.slice a2 h.vn c2) s15 (.slice a3 h.dn c3) s19 (.pointer (some ⟨g, 0, none⟩)))
    (n1 : NewO w0.heap.size W a1 h.kn c1 t.key) (n2 : NewO w0.heap.size W a2 h.vn c2 t.val) (n3 : NewO w0.heap.size W a3 h.dn c3 t.dig) (hge : w0.heap.size ≤ g) (hbx : Box W 25 g hZ) (hbx' : Box W' 25 g ⟨h.k, a1, h.kn, c1, a2, h.vn, c2, a3, h.dn, c3, none, 0, 0⟩) (hg : W.grownBy W' (some g)) :
    CJO w w0 W' h t b1 true b2 true b3 true true true true s7 (.slice a1 h.kn c1) s11 (.slice a2 h.vn c2) s15 (.slice a3 h.dn c3) s19 (.pointer (some ⟨g, 0, none⟩)) := by
  have ne : ∀ g' : Nat, W.heap[g']? = some (Obj.cells #[] 5 (0, 0)) → W'.heap[g']? = some (Obj.cells #[] 5 (0, 0)) := fun g' h' => (hg.block g' (heap_lt' h') (fun q => by
    injection q with q
    subst q
    exact row_box0 (by decide) h' hbx)).trans h'
  exact ⟨x.d.grown hg x.d.size (fun j hj => by injection hj; omega), fun q => by obtain ⟨g, h1, h2, h3⟩ := x.e1 q; exact ⟨g, h1, h2, ne g h3⟩, fun q => by obtain ⟨g, h1, h2, h3⟩ := x.e2 q; exact ⟨g, h1, h2, ne g h3⟩, fun q => by obtain ⟨g, h1, h2, h3⟩ := x.e3 q; exact ⟨g, h1, h2, ne g h3⟩,
    fun _ => ⟨a1, c1, rfl, n1.offBox (by decide) hbx hg⟩, fun _ => ⟨a2, c2, rfl, n2.offBox (by decide) hbx hg⟩, fun _ => ⟨a3, c3, rfl, n3.offBox (by decide) hbx hg⟩, x.q, (fun _ q => by cases q), fun _ => rfl,
    fun _ => ⟨g, a1, c1, a2, c2, a3, c3, rfl, hge, hbx', n1.offBox (by decide) hbx hg, n2.offBox (by decide) hbx hg, n3.offBox (by decide) hbx hg⟩⟩
theorem CJO.start {w w0 W : World} {h : TH} {t : Tr} (hb : Below w0.heap.size w0 W) : CJO w w0 W h t false false false false false false false false false undef undef undef undef undef undef undef undef :=
  ⟨hb, (fun q => by cases q), (fun q => by cases q), (fun q => by cases q), (fun q => by cases q), (fun q => by cases q), (fun q => by cases q), (fun q => by cases q), (fun q => by cases q), (fun q => by cases q), (fun q => by cases q)⟩
/-- What lies there while a tree's kids are copied: i of them are; L0: where their memory begins; g: the copy's box. -/
structure CLO (wb w X : World) (h : TH) (t : Tr) (L0 g : Nat) (a1 : Option Addr) (c1 : Nat) (a2 : Option Addr) (c2 : Nat) (a3 : Option Addr) (c3 : Nat) (av : Option Addr) (i cv : Nat) (hs : List TH) : Prop where
  box : Box X 25 w.heap.size h
  res : Box X 25 (w.heap.size + 1) hZ
  b : Below w.heap.size w X
  out : Box X 25 g ⟨h.k, a1, h.kn, c1, a2, h.vn, c2, a3, h.dn, c3, av, i, cv⟩
  n1 : InBytes X a1 h.kn c1 t.key
  n2 : InBytes X a2 h.vn c2 t.val
  n3 : InBytes X a3 h.dn c3 t.dig
  o1 : X.ownsRow 0 5 1 (.slice a1 h.kn c1) h.kn (t.key.map (Value.int .u8))
  o2 : X.ownsRow 0 5 1 (.slice a2 h.vn c2) h.vn (t.val.map (Value.int .u8))
  m1 : ∀ y, a1 = some y → w.heap.size ≤ y.block ∧ y.block < L0
  m2 : ∀ y, a2 = some y → w.heap.size ≤ y.block ∧ y.block < L0
  m3 : ∀ y, a3 = some y → w.heap.size ≤ y.block ∧ y.block < L0
  og : w.heap.size + 1 < g ∧ g < L0
  L : L0 ≤ X.heap.size
  own : OwnT X L0 25 (.slice av i cv) hs
  len : hs.length = i
  fr : ∀ j (hj : j < hs.length) (hk : j < t.kids.length), ∃ lo hi, L0 ≤ lo ∧ hi ≤ X.heap.size ∧ (∀ b, (Value.slice av i cv).ownBlock = some b → b < lo ∨ hi ≤ b) ∧ FreshO lo hi X hs[j] t.kids[j]
section
variable {wb w X X' : World} {h : TH} {t : Tr} {L0 g : Nat} {a1 : Option Addr} {c1 : Nat} {a2 : Option Addr} {c2 : Nat} {a3 : Option Addr} {c3 : Nat} {av : Option Addr} {i cv : Nat} {hs : List TH}
theorem CLO.below (x : CLO wb w X h t L0 g a1 c1 a2 c2 a3 c3 av i cv hs) (hb : Below X.heap.size X X') : CLO wb w X' h t L0 g a1 c1 a2 c2 a3 c3 av i cv hs :=
  ⟨x.box.below hb x.box.lt, x.res.below hb x.res.lt, x.b.trans (hb.mono x.b.size), x.out.below hb x.out.lt, x.n1.below hb, x.n2.below hb, x.n3.below hb, own_keep x.o1 hb, own_keep x.o2 hb, x.m1, x.m2, x.m3, x.og, Nat.le_trans x.L hb.size, x.own.keep hb, x.len,
    fun j hj hk => by
      obtain ⟨lo, hi, q1, q2, q3, q4⟩ := x.fr j hj hk
      exact ⟨lo, hi, q1, Nat.le_trans q2 hb.size, q3, q4.below hb q2⟩⟩
theorem CLO.drew (x : CLO wb w X h t L0 g a1 c1 a2 c2 a3 c3 av i cv hs) : CLO wb w X.drew h t L0 g a1 c1 a2 c2 a3 c3 av i cv hs := x.below (Below.refl _ _).drew
/-- One more kid. -/
theorem CLO.next (x : CLO wb w X h t L0 g a1 c1 a2 c2 a3 c3 av i cv hs) {W : World} {h' : TH} {lo hi : Nat} {a' : Option Addr} {c' : Nat} (hik : i < t.kids.length) (f : FreshO lo hi X h' t.kids[i]) (hlo : L0 ≤ lo) (hhi : hi ≤ X.heap.size) (hvb : ∀ b, (Value.slice av i cv).ownBlock = some b → b < lo)
    (ho : OwnT W L0 25 (.slice a' (i + 1) c') (hs ++ [h'])) (hg : X.grownBy W (Value.slice av i cv).ownBlock) (hob : (Value.slice a' (i + 1) c').ownBlock = (Value.slice av i cv).ownBlock ∨ (Value.slice a' (i + 1) c').ownBlock = some X.heap.size) :
    CLO wb w (W.setCell ⟨g, 4, none⟩ (.slice a' (i + 1) c')) h t L0 g a1 c1 a2 c2 a3 c3 a' (i + 1) c' (hs ++ [h']) := by
  have hob' := fun k (e : (Value.slice av i cv).ownBlock = some k) => x.own.lt k e
  have old : ∀ j, j < L0 → W.heap[j]? = X.heap[j]? := fun j hj => hg.block j (by have := x.L; omega) (fun q => by have := (hob' j q.symm).1; omega)
  have hout := x.out
  have boutW : Box W 25 g ⟨h.k, a1, h.kn, c1, a2, h.vn, c2, a3, h.dn, c3, av, i, cv⟩ := (old g x.og.2).trans x.out
  have hg2 : W.grownBy (W.setCell ⟨g, 4, none⟩ (.slice a' (i + 1) c')) (some g) := only_set (only_refl W _) 4 _
  have hsz : X.heap.size ≤ (W.setCell ⟨g, 4, none⟩ (.slice a' (i + 1) c')).heap.size := Nat.le_trans hg.size hg2.size
  have far : ∀ j, j ≠ g → (W.setCell ⟨g, 4, none⟩ (.slice a' (i + 1) c')).heap[j]? = W.heap[j]? := fun j hj => Below.heap_setCell W ⟨g, 4, none⟩ _ j hj
  have q1 := x.og.1
  have q2 := x.og.2
  have bytes : ∀ {a : Option Addr} {n c : Nat} {zs : List Int}, InBytes X a n c zs → (∀ y, a = some y → w.heap.size ≤ y.block ∧ y.block < L0) → InBytes (W.setCell ⟨g, 4, none⟩ (.slice a' (i + 1) c')) a n c zs := fun hi hm =>
    (hi.agree hg.size (fun ad e => old _ (hm ad e).2)).offBox boutW hg2
  have rows : ∀ {a : Option Addr} {n c : Nat} {xs : List Value}, X.ownsRow 0 5 1 (.slice a n c) n xs → (∀ y, a = some y → w.heap.size ≤ y.block ∧ y.block < L0) → (W.setCell ⟨g, 4, none⟩ (.slice a' (i + 1) c')).ownsRow 0 5 1 (.slice a n c) n xs := fun {a n c xs} ho hm => own_agree ho (fun j ej => by
    have hj : j < L0 := by
      cases a with
      | none => cases ej
      | some x =>
        have e2 := Option.some.inj ej
        rw [← e2]
        exact (hm x rfl).2
    have hjg : j ≠ g := fun q => by
      subst q
      exact absurd (own_type ho ej hout) (by decide)
    rw [far j hjg]
    exact old j hj)
  have hown : OwnT (W.setCell ⟨g, 4, none⟩ (.slice a' (i + 1) c')) L0 25 (.slice a' (i + 1) c') (hs ++ [h']) := ho.far (p := ⟨g, 4, none⟩) (fun q => by have := (ho.lt g q.symm).1; omega) _
  have range : ∀ {lo hi : Nat} {hh : TH} {c : Tr}, FreshO lo hi X hh c → L0 ≤ lo → hi ≤ X.heap.size → (∀ b, (Value.slice av i cv).ownBlock = some b → b < lo ∨ hi ≤ b) → FreshO lo hi (W.setCell ⟨g, 4, none⟩ (.slice a' (i + 1) c')) hh c := fun {lo hi hh c} ff e1 e2 e3 Y y2 y3 => ff Y y2 fun j hj1 hj2 => by
    rw [y3 j hj1 hj2, far j (by omega)]
    exact hg.block j (by omega) (fun q => by have := e3 j q.symm; omega)
  have newb : ∀ {lo hi : Nat}, hi ≤ X.heap.size → (∀ b, (Value.slice av i cv).ownBlock = some b → b < lo ∨ hi ≤ b) → ∀ b, (Value.slice a' (i + 1) c').ownBlock = some b → b < lo ∨ hi ≤ b := fun {lo hi} e2 e3 b e => by
    rcases hob with q | q
    · exact e3 b (q.symm.trans e)
    · rw [q] at e
      injection e with e
      omega
  refine ⟨(far _ (by omega)).trans ((old _ (by omega)).trans x.box), (far _ (by omega)).trans ((old _ (by omega)).trans x.res), ?_, boutW.set4 a' (i + 1) c', bytes x.n1 x.m1, bytes x.n2 x.m2, bytes x.n3 x.m3, rows x.o1 x.m1, rows x.o2 x.m2, x.m1, x.m2, x.m3, x.og, Nat.le_trans x.L hsz, hown, by rw [List.length_append, x.len]; rfl, ?_⟩
  · exact (x.b.grown hg x.b.size (fun k e => by have := (hob' k e).1; omega)).setCell (show w.heap.size ≤ g by omega) _
  · intro j hj hk
    by_cases hlt : j < hs.length
    · obtain ⟨lo', hi', e1, e2, e3, e4⟩ := x.fr j hlt hk
      rw [List.getElem_append_left hlt]
      exact ⟨lo', hi', e1, Nat.le_trans e2 hsz, newb e2 e3, range e4 e1 e2 e3⟩
    · have hji : j = i := by
        have := x.len
        rw [List.length_append] at hj
        simp at hj
        omega
      subst hji
      have e0 : (hs ++ [h'])[j] = h' := by
        rw [List.getElem_append_right (by omega)]
        simp
      rw [e0]
      have hv : ∀ b, (Value.slice av j cv).ownBlock = some b → b < lo ∨ hi ≤ b := fun b e => .inl (hvb b e)
      exact ⟨lo, hi, hlo, Nat.le_trans hhi hsz, newb hhi hv, range f hlo hhi hv⟩
/-- All kids are copied, and the result is written. -/
theorem CLO.fin (x : CLO wb w X h t L0 g a1 c1 a2 c2 a3 c3 av i cv hs) (hi : i = h.tn) {H : Nat → TH} (hp : TreeAt wb h t H) (hg : X.grownBy X' (some (w.heap.size + 1))) :
    FreshO w.heap.size X'.heap.size X' ⟨h.k, a1, h.kn, c1, a2, h.vn, c2, a3, h.dn, c3, av, i, cv⟩ t := by
  intro Y hs' ha
  have q1 := x.og.1
  have q2 := x.og.2
  have hsz := hg.size
  have L := x.L
  have same : ∀ j, w.heap.size + 1 < j → j < X.heap.size → Y.heap[j]? = X.heap[j]? := fun j e1 e2 => by
    rw [ha j (by omega) (by omega)]
    exact hg.block j e2 (fun q => by injection q; omega)
  have bytes : ∀ {a : Option Addr} {n c : Nat} {zs : List Int}, InBytes X a n c zs → (∀ y, a = some y → w.heap.size ≤ y.block ∧ y.block < L0) → InBytes Y a n c zs := fun hi hm =>
    (hi.offBox x.res hg).agree hs' (fun ad e => ha _ (hm ad e).1 (by have := (hm ad e).2; omega))
  have rows : ∀ {a : Option Addr} {n c : Nat} {zs : List Int}, X.ownsRow 0 5 1 (.slice a n c) n (zs.map (Value.int .u8)) → (∀ y, a = some y → w.heap.size ≤ y.block ∧ y.block < L0) → OwnB Y w.heap.size X'.heap.size a n c zs := fun {a n c zs} ho hm => by
    have hj : ∀ j, (Value.slice a n c).ownBlock = some j → w.heap.size ≤ j ∧ j < L0 := fun j ej => by
      cases a with
      | none => cases ej
      | some x =>
        have e2 := Option.some.inj ej
        rw [← e2]
        exact hm x rfl
    refine ⟨own_agree ho (fun j ej => ?_), fun j ej => ⟨(hj j ej).1, by have := (hj j ej).2; omega⟩⟩
    rw [ha j (hj j ej).1 (by have := (hj j ej).2; omega)]
    exact hg.block j (by have := (hj j ej).2; omega) (fun q => by injection q with q; subst q; exact absurd (own_type ho ej x.res) (by decide))
  have hkids : ∀ j (hj : j < t.kids.length), OTree Y w.heap.size X'.heap.size (hs.getD j hZ) t.kids[j] := fun j hj => by
    have hj2 : j < hs.length := by
      rw [x.len, hi, ← hp.len]
      exact hj
    obtain ⟨lo, hi', e1, e2, _, e4⟩ := x.fr j hj2 hj
    have e : hs.getD j hZ = hs[j] := by simp [List.getD, hj2]
    rw [e]
    exact (e4 Y (by omega) fun k k1 k2 => same k (by omega) (by omega)).wide (by omega) (by omega)
  refine .mk _ _ (fun j => hs.getD j hZ) ⟨hp.hk, hp.hk1, hp.hk2, bytes x.n1 x.m1, bytes x.n2 x.m2, bytes x.n3 x.m3, ?_, hp.len.trans hi.symm, fun j hj => (hkids j hj).inTree⟩ (rows x.o1 x.m1) (rows x.o2 x.m2) hkids
  · rcases x.own.form with ⟨h1, h2⟩ | ⟨g', c', h1, h2, h3, h4, h5, h6⟩
    · injection h1 with e1 e2 e3
      subst e1 e2 e3
      exact ⟨Nat.le_refl _, by simp [maxLen], fun _ => rfl, fun q => absurd q (by simp)⟩
    · injection h1 with e1 e2 e3
      subst e1 e3
      rw [x.len] at h4
      refine ⟨h4, h5, (fun q => by cases q), fun _ => ⟨g', 0, rfl, by show g' < Y.heap.size; omega, fun k hk => ?_⟩⟩
      have hk5 : k / 5 < hs.length := by
        rw [x.len]
        have : k < i * 5 := hk
        omega
      have e := h6 _ _ (cellsT_get hs (k / 5) (k % 5) hk5 (by omega))
      rw [show k / 5 * 5 + k % 5 = k by omega] at e
      rw [Nat.zero_add, World.cell?_of_block (a := ⟨g', k, none⟩) (same g' (by omega) h3), e]
      simp [List.getD, hk5]
end
def CopyOPost (wb w : World) (t : Tr) (e : Ending) (w' : World) : Prop := ∃ h', e = .returned h'.v ∧ FreshO w.heap.size w'.heap.size w' h' t ∧ Below w.heap.size w w'

set_option maxRecDepth 100000 in
set_option maxHeartbeats 8000000 in
theorem copyO_any (wb : World) : ∀ (t : Tr) (h : TH) (w : World), InTree wb h t → Below wb.heap.size wb w → LightOK t →
    Calls Tryd.prog 20 #[h.v] w (CopyOPost wb w t) := by
  intro t
  induction t using Tr.ind with
  | h t ih =>
  intro h w ht hbw hlo
  unfold TH.v
  obtain ⟨H, hp⟩ := ht.parts
  have htl := hp.len
  have htm := Nat.le_trans hp.sl.le hp.sl.max
  have htc := hp.sl.le
  have hkl := hp.key.len
  have hvl := hp.val.len
  have hdl := hp.dig.len
  simp only [maxLen] at htm
  obtain ⟨_, lk, lv, ld, ln, lkids⟩ := hlo
  have hkn : h.kn ≤ 3000 := by omega
  have hvn : h.vn ≤ 3000 := by omega
  have hdn : h.dn ≤ 3000 := by omega
  have htn : h.tn ≤ 500 := by omega
  have HP := Lib.hid hp
  have IH := Lib.hid ih
  have HLK := Lib.hid lkids
  have HBW := Lib.hid hbw
  have hd0 := PW.new w h
  clear hp ih ht lkids hbw hkl hvl hdl lk lv ld ln
  obtain ⟨i0, hi0, hz0, hz1, hz2⟩ := info_parts infoU8
  obtain ⟨ti, hti, htz⟩ := Option.map_eq_some_iff.1 infoTree2
  simp only [Prod.mk.injEq] at htz
  obtain ⟨hy0, hy1, hy2⟩ := htz
  go_enter Tryd.func20, Tryd.ntmps20
  go_upto_region 1 with fail
  generalize ((w.alloc (.cells #[.int .i64 h.k, .slice h.ka h.kn h.kc, .slice h.va h.vn h.vc, .slice h.da h.dn h.dc, .slice h.ta h.tn h.tc] 25)).alloc (.cells #[.int .i64 0, .slice none 0 0, .slice none 0 0, .slice none 0 0, .slice none 0 0] 25)) = w0 at *
  have HD0 := Lib.hid hd0
  clear hd0
  have HB0 := Lib.hid (HBW.out.trans (HD0.out.b.mono HBW.out.size))
  go_cut [3] (fun s3 wx => ∃ g a1 c1 a2 c2 a3 c3, s3 = .pointer (some ⟨g, 0, none⟩) ∧ w0.heap.size ≤ g ∧ Box wx 25 g ⟨h.k, a1, h.kn, c1, a2, h.vn, c2, a3, h.dn, c3, none, 0, 0⟩ ∧ NewO w0.heap.size wx a1 h.kn c1 t.key ∧ NewO w0.heap.size wx a2 h.vn c2 t.val ∧ NewO w0.heap.size wx a3 h.dn c3 t.dig ∧ Below w0.heap.size w0 wx)
  case first =>
    have keepS : ∀ {W : World}, Below w0.heap.size w0 W → (fun W => W.cell? ⟨w.heap.size, 0, none⟩ = some (.int .i64 h.k) ∧ W.cell? ⟨w.heap.size, 1, none⟩ = some (.slice h.ka h.kn h.kc) ∧ W.cell? ⟨w.heap.size, 2, none⟩ = some (.slice h.va h.vn h.vc) ∧ W.cell? ⟨w.heap.size, 3, none⟩ = some (.slice h.da h.dn h.dc) ∧ W.cell? ⟨w.heap.size, 4, none⟩ = some (.slice h.ta h.tn h.tc)) W := fun {W} hb => (HD0.out.box.below hb HD0.out.box.lt).cells
    have hb0 : Below w0.heap.size w0 w0.drew := (Below.refl _ _).drew
    refine wp_region_held_drew (S := (fun W => W.cell? ⟨w.heap.size, 0, none⟩ = some (.int .i64 h.k) ∧ W.cell? ⟨w.heap.size, 1, none⟩ = some (.slice h.ka h.kn h.kc) ∧ W.cell? ⟨w.heap.size, 2, none⟩ = some (.slice h.va h.vn h.vc) ∧ W.cell? ⟨w.heap.size, 3, none⟩ = some (.slice h.da h.dn h.dc) ∧ W.cell? ⟨w.heap.size, 4, none⟩ = some (.slice h.ta h.tn h.tc))) (by kernel_rfl) (keepS hb0) (fun hHeld => ?_)
    refine take_w (i := 0) (oi := ?oZ1) (v := ?vZ1) ?hiZ1 (by kernel_rfl) (by kernel_rfl) (by kernel_rfl) ?hQZ1 ?hwZ1 ?hyZ1 (by assumption) ?restZ1
    case hiZ1 => (simp only [List.getElem?_toArray, List.getElem?_cons_zero] <;> rfl)
    case hQZ1 => exact (fun _ _ _ h => h)
    case hwZ1 => rfl
    case hyZ1 => (intro w hSw; (try dsimp only at hSw); go_simp; try with_reducible rfl)
    (try simp only [Act.put, List.setIfInBounds_toArray, List.set_cons_zero, List.set_cons_succ])
    refine take_w (i := 1) (oi := ?oZ2) (v := ?vZ2) ?hiZ2 (by kernel_rfl) (by kernel_rfl) (by kernel_rfl) ?hQZ2 ?hwZ2 ?hyZ2 (by assumption) ?restZ2
    case hiZ2 => (simp only [List.getElem?_toArray, List.getElem?_cons_succ, List.getElem?_cons_zero] <;> rfl)
    case hQZ2 => exact (fun _ _ _ h => h)
    case hwZ2 => rfl
    case hyZ2 => (intro w hSw; (try dsimp only at hSw); go_simp; try with_reducible rfl)
    (try simp only [Act.put, List.setIfInBounds_toArray, List.set_cons_zero, List.set_cons_succ])
    refine take_w (i := 3) (oi := ?oZ3) (v := ?vZ3) ?hiZ3 (by kernel_rfl) (by kernel_rfl) (by kernel_rfl) ?hQZ3 ?hwZ3 ?hyZ3 (by assumption) ?restZ3
    case hiZ3 => (simp only [List.getElem?_toArray, List.getElem?_cons_succ, List.getElem?_cons_zero] <;> rfl)
    case hQZ3 => exact (fun _ _ _ h => h)
    case hwZ3 => rfl
    case hyZ3 => (intro w hSw; (try dsimp only at hSw); go_simp; try with_reducible rfl)
    (try simp only [Act.put, List.setIfInBounds_toArray, List.set_cons_zero, List.set_cons_succ])
    refine take_w (i := 4) (oi := ?oZ4) (v := ?vZ4) ?hiZ4 (by kernel_rfl) (by kernel_rfl) (by kernel_rfl) ?hQZ4 ?hwZ4 ?hyZ4 (by assumption) ?restZ4
    case hiZ4 => (simp only [List.getElem?_toArray, List.getElem?_cons_succ, List.getElem?_cons_zero] <;> rfl)
    case hQZ4 => exact (fun _ _ _ h => h)
    case hwZ4 => rfl
    case hyZ4 => (intro w hSw; (try dsimp only at hSw); go_simp; try with_reducible rfl)
    (try simp only [Act.put, List.setIfInBounds_toArray, List.set_cons_zero, List.set_cons_succ])
    refine take_w (i := 7) (oi := ?oZ5) (v := ?vZ5) ?hiZ5 (by kernel_rfl) (by kernel_rfl) (by kernel_rfl) ?hQZ5 ?hwZ5 ?hyZ5 (by assumption) ?restZ5
    case hiZ5 => (simp only [List.getElem?_toArray, List.getElem?_cons_succ, List.getElem?_cons_zero] <;> rfl)
    case hQZ5 => exact (fun _ _ _ h => h)
    case hwZ5 => rfl
    case hyZ5 => (intro w hSw; (try dsimp only at hSw); go_simp; try with_reducible rfl)
    (try simp only [Act.put, List.setIfInBounds_toArray, List.set_cons_zero, List.set_cons_succ])
    refine take_w (i := 8) (oi := ?oZ6) (v := ?vZ6) ?hiZ6 (by kernel_rfl) (by kernel_rfl) (by kernel_rfl) ?hQZ6 ?hwZ6 ?hyZ6 (by assumption) ?restZ6
    case hiZ6 => (simp only [List.getElem?_toArray, List.getElem?_cons_succ, List.getElem?_cons_zero] <;> rfl)
    case hQZ6 => exact (fun _ _ _ h => h)
    case hwZ6 => rfl
    case hyZ6 => (intro w hSw; (try dsimp only at hSw); go_simp; try with_reducible rfl)
    (try simp only [Act.put, List.setIfInBounds_toArray, List.set_cons_zero, List.set_cons_succ])
    refine take_w (i := 11) (oi := ?oZ7) (v := ?vZ7) ?hiZ7 (by kernel_rfl) (by kernel_rfl) (by kernel_rfl) ?hQZ7 ?hwZ7 ?hyZ7 (by assumption) ?restZ7
    case hiZ7 => (simp only [List.getElem?_toArray, List.getElem?_cons_succ, List.getElem?_cons_zero] <;> rfl)
    case hQZ7 => exact (fun _ _ _ h => h)
    case hwZ7 => rfl
    case hyZ7 => (intro w hSw; (try dsimp only at hSw); go_simp; try with_reducible rfl)
    (try simp only [Act.put, List.setIfInBounds_toArray, List.set_cons_zero, List.set_cons_succ])
    refine take_w (i := 12) (oi := ?oZ8) (v := ?vZ8) ?hiZ8 (by kernel_rfl) (by kernel_rfl) (by kernel_rfl) ?hQZ8 ?hwZ8 ?hyZ8 (by assumption) ?restZ8
    case hiZ8 => (simp only [List.getElem?_toArray, List.getElem?_cons_succ, List.getElem?_cons_zero] <;> rfl)
    case hQZ8 => exact (fun _ _ _ h => h)
    case hwZ8 => rfl
    case hyZ8 => (intro w hSw; (try dsimp only at hSw); go_simp; try with_reducible rfl)
    (try simp only [Act.put, List.setIfInBounds_toArray, List.set_cons_zero, List.set_cons_succ])

    refine wpAnyH_inv (fun listed a W => ∃ (b1 A1 b2 A2 b3 A3 bd al st : Bool) (s7 s10 s11 s14 s15 s18 s19 s3 : Value), listed = #[true, true, b1, true, true, A1, b2, true, true, A2, b3, true, true, A3, bd, al, st] ∧ a = ⟨#[.agg #[.int .i64 h.k, .slice h.ka h.kn h.kc, .slice h.va h.vn h.vc, .slice h.da h.dn h.dc, .slice h.ta h.tn h.tc], .pointer (some ⟨w.heap.size, 0, none⟩), .pointer (some ⟨w.heap.size + 1, 0, none⟩), s3, undef, .pointer (some ⟨w.heap.size, 0, none⟩), .int .i64 h.k, s7, .pointer (some ⟨w.heap.size, 1, none⟩), .slice h.ka h.kn h.kc, s10, s11, .pointer (some ⟨w.heap.size, 2, none⟩), .slice h.va h.vn h.vc, s14, s15, .pointer (some ⟨w.heap.size, 3, none⟩), .slice h.da h.dn h.dc, s18, s19, undef, undef, undef, undef, undef, undef, undef, undef, undef, undef, undef, undef, undef, undef, undef, undef, undef, undef, undef], []⟩ ∧ CJO w w0 W h t b1 A1 b2 A2 b3 A3 bd al st s7 s10 s11 s14 s15 s18 s19 s3) leftB ?hstep ?hdone _ _ _ _ ⟨false, false, false, false, false, false, false, false, false, undef, undef, undef, undef, undef, undef, undef, undef, rfl, rfl, CJO.start hb0⟩ (by decide)
    case hstep =>
      rintro listed a W ⟨b1, A1, b2, A2, b3, A3, bd, al, st, s7, s10, s11, s14, s15, s18, s19, s3, rfl, rfl, hc⟩ i hi
      have hcond : (fun i : Nat => ((i == 2 && !b1) || (i == 5 && b1 && !A1) || (i == 6 && !b2) || (i == 9 && b2 && !A2) || (i == 10 && !b3) || (i == 13 && b3 && !A3) || (i == 14 && A1 && A2 && A3 && !bd) || (i == 15 && !al) || (i == 16 && al && bd && !st))) i = true := by
        refine all_mem (p := fun i : Nat => ((i == 2 && !b1) || (i == 5 && b1 && !A1) || (i == 6 && !b2) || (i == 9 && b2 && !A2) || (i == 10 && !b3) || (i == 13 && b3 && !A3) || (i == 14 && A1 && A2 && A3 && !bd) || (i == 15 && !al) || (i == 16 && al && bd && !st))) ?_ hi
        clear hi hc
        revert b1 A1 b2 A2 b3 A3 bd al st
        decide +kernel
      simp only [Bool.or_eq_true, Bool.and_eq_true, beq_iff_eq, Bool.not_eq_true'] at hcond
      clear hi
      rcases hcond with (((((((⟨rfl, rfl⟩ | ⟨⟨rfl, rfl⟩, rfl⟩) | ⟨rfl, rfl⟩) | ⟨⟨rfl, rfl⟩, rfl⟩) | ⟨rfl, rfl⟩) | ⟨⟨rfl, rfl⟩, rfl⟩) | ⟨⟨⟨⟨rfl, rfl⟩, rfl⟩, rfl⟩, rfl⟩) | ⟨rfl, rfl⟩) | ⟨⟨⟨rfl, rfl⟩, rfl⟩, rfl⟩
      · refine ⟨by simp [leftB]; try omega, wpOp_step (o := ?oS2) ?hiS2 (fun K' hK => ?_)⟩
        case hiS2 => (simp only [List.getElem?_toArray, List.getElem?_cons_succ, List.getElem?_cons_zero] <;> rfl)
        go_simp
        have hb : Below W.heap.size W (W.alloc (.cells #[] 5)) := (Below.refl _ _).alloc (Nat.le_refl _) _
        have hc' := hc.below hb
        exact hK _ _ ⟨keepS hc'.d, true, A1, b2, A2, b3, A3, bd, al, st, .slice (some ⟨W.heap.size, 0, none⟩) 0 0, s10, s11, s14, s15, s18, s19, s3, rfl, rfl, { hc' with e1 := fun _ => ⟨W.heap.size, rfl, hc.d.size, heap_alloc_new W _⟩ }⟩
      · refine ⟨by simp [leftB]; try omega, wpOp_step (o := ?oS5) ?hiS5 (fun K' hK => ?_)⟩
        case hiS5 => (simp only [List.getElem?_toArray, List.getElem?_cons_succ, List.getElem?_cons_zero] <;> rfl)
        obtain ⟨g, rfl, hge, hge2⟩ := hc.e1 rfl
        refine step_append_emptyO _ rfl (.tmp 7) (.tmp 9) 22 rfl 5 i0 _ Tryd.underlying22 hi0 hz0 hz1 hz2 rfl g rfl hge2 h.ka h.kn h.kc t.key rfl (HP.out.key.below (HB0.out.trans (hc.d.mono HB0.out.size))) (by omega) ?_
        intro ra rc W' hin hown hnw hb
        have hc' := hc.below hb
        exact hK _ _ ⟨keepS hc'.d, true, true, b2, A2, b3, A3, bd, al, st, .slice (some ⟨g, 0, none⟩) 0 0, .slice ra h.kn rc, s11, s14, s15, s18, s19, s3, rfl, rfl, { hc' with p1 := fun _ => ⟨ra, rc, rfl, hin, fun y e => ⟨(hnw y e).1.elim (fun q => by rw [q]; exact hge) (fun q => Nat.le_trans hc.d.size q), (hnw y e).2⟩, hown⟩, q := fun hq => absurd (hc.q hq).1.1 (by decide) }⟩
      · refine ⟨by simp [leftB]; try omega, wpOp_step (o := ?oS6) ?hiS6 (fun K' hK => ?_)⟩
        case hiS6 => (simp only [List.getElem?_toArray, List.getElem?_cons_succ, List.getElem?_cons_zero] <;> rfl)
        go_simp
        have hb : Below W.heap.size W (W.alloc (.cells #[] 5)) := (Below.refl _ _).alloc (Nat.le_refl _) _
        have hc' := hc.below hb
        exact hK _ _ ⟨keepS hc'.d, b1, A1, true, A2, b3, A3, bd, al, st, s7, s10, .slice (some ⟨W.heap.size, 0, none⟩) 0 0, s14, s15, s18, s19, s3, rfl, rfl, { hc' with e2 := fun _ => ⟨W.heap.size, rfl, hc.d.size, heap_alloc_new W _⟩ }⟩
      · refine ⟨by simp [leftB]; try omega, wpOp_step (o := ?oS9) ?hiS9 (fun K' hK => ?_)⟩
        case hiS9 => (simp only [List.getElem?_toArray, List.getElem?_cons_succ, List.getElem?_cons_zero] <;> rfl)
        obtain ⟨g, rfl, hge, hge2⟩ := hc.e2 rfl
        refine step_append_emptyO _ rfl (.tmp 11) (.tmp 13) 22 rfl 5 i0 _ Tryd.underlying22 hi0 hz0 hz1 hz2 rfl g rfl hge2 h.va h.vn h.vc t.val rfl (HP.out.val.below (HB0.out.trans (hc.d.mono HB0.out.size))) (by omega) ?_
        intro ra rc W' hin hown hnw hb
        have hc' := hc.below hb
        exact hK _ _ ⟨keepS hc'.d, b1, A1, true, true, b3, A3, bd, al, st, s7, s10, .slice (some ⟨g, 0, none⟩) 0 0, .slice ra h.vn rc, s15, s18, s19, s3, rfl, rfl, { hc' with p2 := fun _ => ⟨ra, rc, rfl, hin, fun y e => ⟨(hnw y e).1.elim (fun q => by rw [q]; exact hge) (fun q => Nat.le_trans hc.d.size q), (hnw y e).2⟩, hown⟩, q := fun hq => absurd (hc.q hq).1.2.1 (by decide) }⟩
      · refine ⟨by simp [leftB]; try omega, wpOp_step (o := ?oS10) ?hiS10 (fun K' hK => ?_)⟩
        case hiS10 => (simp only [List.getElem?_toArray, List.getElem?_cons_succ, List.getElem?_cons_zero] <;> rfl)
        go_simp
        have hb : Below W.heap.size W (W.alloc (.cells #[] 5)) := (Below.refl _ _).alloc (Nat.le_refl _) _
        have hc' := hc.below hb
        exact hK _ _ ⟨keepS hc'.d, b1, A1, b2, A2, true, A3, bd, al, st, s7, s10, s11, s14, .slice (some ⟨W.heap.size, 0, none⟩) 0 0, s18, s19, s3, rfl, rfl, { hc' with e3 := fun _ => ⟨W.heap.size, rfl, hc.d.size, heap_alloc_new W _⟩ }⟩
      · refine ⟨by simp [leftB]; try omega, wpOp_step (o := ?oS13) ?hiS13 (fun K' hK => ?_)⟩
        case hiS13 => (simp only [List.getElem?_toArray, List.getElem?_cons_succ, List.getElem?_cons_zero] <;> rfl)
        obtain ⟨g, rfl, hge, hge2⟩ := hc.e3 rfl
        refine step_append_emptyO _ rfl (.tmp 15) (.tmp 17) 22 rfl 5 i0 _ Tryd.underlying22 hi0 hz0 hz1 hz2 rfl g rfl hge2 h.da h.dn h.dc t.dig rfl (HP.out.dig.below (HB0.out.trans (hc.d.mono HB0.out.size))) (by omega) ?_
        intro ra rc W' hin hown hnw hb
        have hc' := hc.below hb
        exact hK _ _ ⟨keepS hc'.d, b1, A1, b2, A2, true, true, bd, al, st, s7, s10, s11, s14, .slice (some ⟨g, 0, none⟩) 0 0, .slice ra h.dn rc, s19, s3, rfl, rfl, { hc' with p3 := fun _ => ⟨ra, rc, rfl, hin, fun y e => ⟨(hnw y e).1.elim (fun q => by rw [q]; exact hge) (fun q => Nat.le_trans hc.d.size q), (hnw y e).2⟩, hown⟩, q := fun hq => absurd (hc.q hq).1.2.2 (by decide) }⟩
      · refine ⟨by simp [leftB]; try omega, wpOp_step (o := ?oS14) ?hiS14 (fun K' hK => ?_)⟩
        case hiS14 => (simp only [List.getElem?_toArray, List.getElem?_cons_succ, List.getElem?_cons_zero] <;> rfl)
        obtain ⟨a1, c1, rfl, n1⟩ := hc.p1 rfl
        obtain ⟨a2, c2, rfl, n2⟩ := hc.p2 rfl
        obtain ⟨a3, c3, rfl, n3⟩ := hc.p3 rfl
        go_simp
        exact hK _ _ ⟨keepS hc.d, b1, true, b2, true, b3, true, true, al, st, s7, .slice a1 h.kn c1, s11, .slice a2 h.vn c2, s15, .slice a3 h.dn c3, .agg #[.int .i64 h.k, .slice a1 h.kn c1, .slice a2 h.vn c2, .slice a3 h.dn c3, .slice none 0 0], s3, rfl, rfl, { hc with q := fun _ => ⟨⟨rfl, rfl, rfl⟩, rfl⟩ }⟩
      · refine ⟨by simp [leftB]; try omega, wpOp_step (o := ?oS15) ?hiS15 (fun K' hK => ?_)⟩
        case hiS15 => (simp only [List.getElem?_toArray, List.getElem?_cons_succ, List.getElem?_cons_zero] <;> rfl)
        go_simp
        have hb : Below W.heap.size W (W.alloc (.cells #[.int .i64 0, .slice none 0 0, .slice none 0 0, .slice none 0 0, .slice none 0 0] 25)) := (Below.refl _ _).alloc (Nat.le_refl _) _
        have hc' := hc.below hb
        exact hK _ _ ⟨keepS hc'.d, b1, A1, b2, A2, b3, A3, bd, true, st, s7, s10, s11, s14, s15, s18, s19, .pointer (some ⟨W.heap.size, 0, none⟩), rfl, rfl, { hc' with l := fun _ _ => ⟨W.heap.size, rfl, hc.d.size, Box.new W 25 hZ⟩, o := fun _ => rfl, z := fun q => absurd (hc.o q) (by decide) }⟩
      · refine ⟨by simp [leftB]; try omega, wpOp_step (o := ?oS16) ?hiS16 (fun K' hK => ?_)⟩
        case hiS16 => (simp only [List.getElem?_toArray, List.getElem?_cons_succ, List.getElem?_cons_zero] <;> rfl)
        obtain ⟨⟨rfl, rfl, rfl⟩, rfl⟩ := hc.q rfl
        obtain ⟨a1, c1, rfl, n1⟩ := hc.p1 rfl
        obtain ⟨a2, c2, rfl, n2⟩ := hc.p2 rfl
        obtain ⟨a3, c3, rfl, n3⟩ := hc.p3 rfl
        obtain ⟨g, rfl, hge, hbx⟩ := hc.l rfl rfl
        refine step_store_box rfl 25 (.tmp 3) (.tmp 19) rfl g hZ ⟨h.k, a1, h.kn, c1, a2, h.vn, c2, a3, h.dn, c3, none, 0, 0⟩ rfl rfl 25 hbx infoTree5 ?_
        intro W' hbx' hg
        have hc' := hc.fin n1 n2 n3 hge hbx hbx' hg
        exact hK _ _ ⟨keepS hc'.d, b1, true, b2, true, b3, true, true, true, true, s7, _, s11, _, s15, _, _, _, rfl, rfl, hc'⟩
    case hdone =>
      rintro listed a W ⟨b1, A1, b2, A2, b3, A3, bd, al, st, s7, s10, s11, s14, s15, s18, s19, s3, rfl, rfl, hc⟩ hr
      have hst : st = true := by
        revert hr
        clear hc
        revert b1 A1 b2 A2 b3 A3 bd al st
        decide +kernel
      obtain ⟨g, a1, c1, a2, c2, a3, c3, rfl, q1, q2, q3, q4, q5⟩ := hc.z hst
      go_wp2_with fail
      go_meet
      exact ⟨g, a1, c1, a2, c2, a3, c3, rfl, q1, q2, q3, q4, q5, hc.d⟩
  case rest =>
    obtain ⟨g, a1, c1, a2, c2, a3, c3, rfl, q1, q2, q3, q4, q5, q6⟩ := hcut
    have hl0 : CLO wb w wc h t wc.heap.size g a1 c1 a2 c2 a3 c3 none 0 0 [] :=
      ⟨HD0.out.box.below q6 HD0.out.box.lt, HD0.out.res.below q6 HD0.out.res.lt, HD0.out.b.trans (q6.mono HD0.out.b.size), q2, q3.1, q4.1, q5.1, q3.2.2, q4.2.2, fun y e => ⟨Nat.le_trans HD0.out.b.size (q3.2.1 y e).1, (q3.2.1 y e).2⟩, fun y e => ⟨Nat.le_trans HD0.out.b.size (q4.2.1 y e).1, (q4.2.1 y e).2⟩, fun y e => ⟨Nat.le_trans HD0.out.b.size (q5.2.1 y e).1, (q5.2.1 y e).2⟩,
        ⟨Nat.lt_of_lt_of_le HD0.out.res.lt q1, q2.lt⟩, Nat.le_refl _, OwnT.nil _ _ _, rfl, fun j hj _ => absurd hj (Nat.not_lt_zero j)⟩
    generalize hL0 : wc.heap.size = L0 at hl0
    have HL0 := Lib.hid hl0
    clear q1 q2 q3 q4 q5 q6 hl0 hL0
    go_wp2_with fail
    go_loopw [4] (fun s4 wx => ∃ (i : Nat) (av : Option Addr) (cv : Nat) (hs : List TH), i ≤ h.tn ∧ s4 = .int .i64 i ∧ CLO wb w wx h t L0 g a1 c1 a2 c2 a3 c3 av i cv hs) (fun s4 _ => h.tn - (intOf s4).toNat)
    case atStart => exact ⟨0, none, 0, [], by omega, rfl, HL0.out⟩
    case round =>
      clear HL0
      obtain ⟨i, av, cv, hs, hi, rfl, hx⟩ := hrel
      have HX := Lib.hid hx
      have x4 := hx.box.cells.2.2.2.2
      clear hx
      by_cases hlt : i < h.tn
      · have q1 : (i : Int) < (h.tn : Int) := by omega
        have him : i < t.kids.length := by omega
        obtain ⟨gt, off, hta, hgt, hcs⟩ := (HP.out.below (HBW.out.trans (HX.out.b.mono HBW.out.size))).place (by omega)
        have HTA := Lib.hid hta
        have keepS : ∀ {W : World}, Box W 25 w.heap.size h → Below w.heap.size w W → (fun W => W.cell? ⟨w.heap.size, 4, none⟩ = some (.slice (some ⟨gt, off, none⟩) h.tn h.tc) ∧ W.cell? ⟨gt, off + i * 5, none⟩ = some (.int .i64 (H i).k) ∧ W.cell? ⟨gt, off + i * 5 + 1, none⟩ = some (.slice (H i).ka (H i).kn (H i).kc) ∧ W.cell? ⟨gt, off + i * 5 + 2, none⟩ = some (.slice (H i).va (H i).vn (H i).vc) ∧ W.cell? ⟨gt, off + i * 5 + 3, none⟩ = some (.slice (H i).da (H i).dn (H i).dc) ∧ W.cell? ⟨gt, off + i * 5 + 4, none⟩ = some (.slice (H i).ta (H i).tn (H i).tc)) W := fun {W} hb hbb => by
          obtain ⟨k0, k1, k2, k3, k4⟩ := (HP.out.below (HBW.out.trans (hbb.mono HBW.out.size))).cellsAt HTA.out i hlt
          exact ⟨(hb.cells.2.2.2.2).trans (by rw [HTA.out]), k0, k1, k2, k3, k4⟩
        clear hcs hgt
        go_upto_region 5 with fail
        clear x4
        have co1 := HX.out.out.cells.2.2.2.2
        refine wp_region_held_drew (S := (fun W => W.cell? ⟨w.heap.size, 4, none⟩ = some (.slice (some ⟨gt, off, none⟩) h.tn h.tc) ∧ W.cell? ⟨gt, off + i * 5, none⟩ = some (.int .i64 (H i).k) ∧ W.cell? ⟨gt, off + i * 5 + 1, none⟩ = some (.slice (H i).ka (H i).kn (H i).kc) ∧ W.cell? ⟨gt, off + i * 5 + 2, none⟩ = some (.slice (H i).va (H i).vn (H i).vc) ∧ W.cell? ⟨gt, off + i * 5 + 3, none⟩ = some (.slice (H i).da (H i).dn (H i).dc) ∧ W.cell? ⟨gt, off + i * 5 + 4, none⟩ = some (.slice (H i).ta (H i).tn (H i).tc))) (by kernel_rfl) (keepS HX.out.drew.box HX.out.drew.b) (fun hHeld => ?_)
        refine take_w (i := 0) (oi := ?oZ9) (v := ?vZ9) ?hiZ9 (by kernel_rfl) (by kernel_rfl) (by kernel_rfl) ?hQZ9 ?hwZ9 ?hyZ9 (by assumption) ?restZ9
        case hiZ9 => (simp only [List.getElem?_toArray, List.getElem?_cons_zero] <;> rfl)
        case hQZ9 => exact (fun _ _ _ h => h)
        case hwZ9 => rfl
        case hyZ9 => (intro w hSw; (try dsimp only at hSw); go_simp; try with_reducible rfl)
        (try simp only [Act.put, List.setIfInBounds_toArray, List.set_cons_zero, List.set_cons_succ])
        refine take_w (i := 2) (oi := ?oZ10) (v := ?vZ10) ?hiZ10 (by kernel_rfl) (by kernel_rfl) (by kernel_rfl) ?hQZ10 ?hwZ10 ?hyZ10 (by assumption) ?restZ10
        case hiZ10 => (simp only [List.getElem?_toArray, List.getElem?_cons_succ, List.getElem?_cons_zero] <;> rfl)
        case hQZ10 => exact (fun _ _ _ h => h)
        case hwZ10 => rfl
        case hyZ10 => (intro w hSw; (try dsimp only at hSw); go_simp; try with_reducible rfl)
        (try simp only [Act.put, List.setIfInBounds_toArray, List.set_cons_zero, List.set_cons_succ])
        refine take_w (i := 3) (oi := ?oZ11) (v := ?vZ11) ?hiZ11 (by kernel_rfl) (by kernel_rfl) (by kernel_rfl) ?hQZ11 ?hwZ11 ?hyZ11 (by assumption) ?restZ11
        case hiZ11 => (simp only [List.getElem?_toArray, List.getElem?_cons_succ, List.getElem?_cons_zero] <;> rfl)
        case hQZ11 => exact (fun _ _ _ h => h)
        case hwZ11 => rfl
        case hyZ11 => (intro w hSw; (try dsimp only at hSw); go_simp; try with_reducible rfl)
        (try simp only [Act.put, List.setIfInBounds_toArray, List.set_cons_zero, List.set_cons_succ])
        refine take_w (i := 4) (oi := ?oZ12) (v := ?vZ12) ?hiZ12 (by kernel_rfl) (by kernel_rfl) (by kernel_rfl) ?hQZ12 ?hwZ12 ?hyZ12 (by assumption) ?restZ12
        case hiZ12 => (simp only [List.getElem?_toArray, List.getElem?_cons_succ, List.getElem?_cons_zero] <;> rfl)
        case hQZ12 => exact (fun _ _ _ h => h)
        case hwZ12 => rfl
        case hyZ12 => (intro w hSw; (try dsimp only at hSw); go_simp; try with_reducible rfl)
        (try simp only [Act.put, List.setIfInBounds_toArray, List.set_cons_zero, List.set_cons_succ])
        refine take_w (i := 5) (oi := ?oZ13) (v := ?vZ13) ?hiZ13 (by kernel_rfl) (by kernel_rfl) (by kernel_rfl) ?hQZ13 ?hwZ13 ?hyZ13 (by assumption) ?restZ13
        case hiZ13 => (simp only [List.getElem?_toArray, List.getElem?_cons_succ, List.getElem?_cons_zero] <;> rfl)
        case hQZ13 => exact (fun _ _ _ h => h)
        case hwZ13 => rfl
        case hyZ13 => (intro w hSw; (try dsimp only at hSw); go_simp; try with_reducible rfl)
        (try simp only [Act.put, List.setIfInBounds_toArray, List.set_cons_zero, List.set_cons_succ])
        refine take_w (i := 6) (oi := ?oZ14) (v := ?vZ14) ?hiZ14 (by kernel_rfl) (by kernel_rfl) (by kernel_rfl) ?hQZ14 ?hwZ14 ?hyZ14 (by assumption) ?restZ14
        case hiZ14 => (simp only [List.getElem?_toArray, List.getElem?_cons_succ, List.getElem?_cons_zero] <;> rfl)
        case hQZ14 => exact (fun _ _ _ h => h)
        case hwZ14 => rfl
        case hyZ14 => (intro w hSw; (try dsimp only at hSw); go_simp; try with_reducible rfl)
        (try simp only [Act.put, List.setIfInBounds_toArray, List.set_cons_zero, List.set_cons_succ])
        refine wpAnyH_ready (rs := [1, 7]) (by kernel_rfl) (by simp) ?_
        refine AllReadyH.cons (o := ?oZ15) ?hiZ15 (fun K hK => ?stZ15) (AllReadyH.cons (o := ?oZ16) ?hiZ16 (fun K hK => ?stZ16) AllReadyH.nil)
        case hiZ15 => (simp only [List.getElem?_toArray, List.getElem?_cons_succ, List.getElem?_cons_zero] <;> rfl)
        case hiZ16 => (simp only [List.getElem?_toArray, List.getElem?_cons_succ, List.getElem?_cons_zero] <;> rfl)
        case stZ15 =>
          go_simp
          refine hK.out _ _ ?_ (fun hHeld => ?_)
          · (first | exact keepS HX5.out.box HX5.out.b | exact keepS ((HKS.out _ (by have := HX3.out.og; omega)).trans HX3.out.box) (HX3.out.b.grown (HG4.out) HX3.out.b.size (fun k e => by have := (HX3.out.own.lt k e).1; have := HX3.out.og; omega)) | exact keepS HX3.out.box HX3.out.b | exact keepS HX2.out.box HX2.out.b | exact keepS HX.out.drew.box HX.out.drew.b)
          clear hK K
          (try simp only [Act.put, List.setIfInBounds_toArray, List.set_cons_zero, List.set_cons_succ])
          refine wpAnyH_ready (rs := [7]) (by kernel_rfl) (by simp) ?_
          refine AllReadyH.cons (o := ?oZ17) ?hiZ17 (fun K hK => ?stZ17) AllReadyH.nil
          case hiZ17 => (simp only [List.getElem?_toArray, List.getElem?_cons_succ, List.getElem?_cons_zero] <;> rfl)
          go_simp
          go_at_call 20
          refine (IH.out _ (List.getElem_mem him) (H i) _ (HP.out.kids i him) (HBW.out.trans (HX.out.drew.b.mono HBW.out.size)) (HLK.out i him)).mono ?_
          rintro _ w2 ⟨h2, rfl, hf2, hb2⟩
          unfold TH.v
          have HX2 := Lib.hid (HX.out.drew.below hb2)
          have hb3 : Below w2.heap.size w2 (w2.alloc (.cells #[.int .i64 h2.k, .slice h2.ka h2.kn h2.kc, .slice h2.va h2.vn h2.vc, .slice h2.da h2.dn h2.dc, .slice h2.ta h2.tn h2.tc] 25)) := (Below.refl _ _).alloc (Nat.le_refl _) _
          have HX3 := Lib.hid (HX2.out.below hb3)
          have HF3 := Lib.hid (hf2.below hb3 (Nat.le_refl _))
          have HS3 := Lib.hid (And.intro hb2.size hb3.size)
          have HB3 := Lib.hid (Box.new w2 25 h2)
          have co2 := HX2.out.out.cells.2.2.2.2
          have co3 := HX3.out.out.cells.2.2.2.2
          clear hf2 hb2 hb3
          go_simp
          refine hK.out _ _ ?_ (fun hHeld => ?_)
          · (first | exact keepS HX5.out.box HX5.out.b | exact keepS ((HKS.out _ (by have := HX3.out.og; omega)).trans HX3.out.box) (HX3.out.b.grown (HG4.out) HX3.out.b.size (fun k e => by have := (HX3.out.own.lt k e).1; have := HX3.out.og; omega)) | exact keepS HX3.out.box HX3.out.b | exact keepS HX2.out.box HX2.out.b | exact keepS HX.out.drew.box HX.out.drew.b)
          clear hK K
          (try simp only [Act.put, List.setIfInBounds_toArray, List.set_cons_zero, List.set_cons_succ])
          refine wpAnyH_ready (rs := [8]) (by kernel_rfl) (by simp) ?_
          refine AllReadyH.cons (o := ?oZ18) ?hiZ18 (fun K hK => ?stZ18) AllReadyH.nil
          case hiZ18 => (simp only [List.getElem?_toArray, List.getElem?_cons_succ, List.getElem?_cons_zero] <;> rfl)
          go_simp
          refine hK.out _ _ ?_ (fun hHeld => ?_)
          · (first | exact keepS HX5.out.box HX5.out.b | exact keepS ((HKS.out _ (by have := HX3.out.og; omega)).trans HX3.out.box) (HX3.out.b.grown (HG4.out) HX3.out.b.size (fun k e => by have := (HX3.out.own.lt k e).1; have := HX3.out.og; omega)) | exact keepS HX3.out.box HX3.out.b | exact keepS HX2.out.box HX2.out.b | exact keepS HX.out.drew.box HX.out.drew.b)
          clear hK K
          (try simp only [Act.put, List.setIfInBounds_toArray, List.set_cons_zero, List.set_cons_succ])
          refine wpAnyH_ready (rs := [9]) (by kernel_rfl) (by simp) ?_
          refine AllReadyH.cons (o := ?oZ19) ?hiZ19 (fun K hK => ?stZ19) AllReadyH.nil
          case hiZ19 => (simp only [List.getElem?_toArray, List.getElem?_cons_succ, List.getElem?_cons_zero] <;> rfl)
          refine step_append_trees _ rfl (.tmp 28) (.tmp 35) 23 rfl L0 25 ti _ 104 Tryd.underlying23 hti hy0 hy1 hy2 rfl (.slice av i cv) hs rfl HX3.out.own w2.heap.size 1 [h2] rfl HB3.out.row (by rw [HX3.out.len]; simp only [List.length_cons, List.length_nil]; omega) (by omega) HX3.out.L ?_
          intro v4 w4 ho4 hg4 hob4
          obtain ⟨a4, c4, hv4⟩ := ho4.sl
          have hl4 : (hs ++ [h2]).length = i + 1 := by rw [List.length_append, HX3.out.len]; rfl
          rw [hl4] at hv4
          subst hv4
          have bo4 : Box w4 25 g ⟨h.k, a1, h.kn, c1, a2, h.vn, c2, a3, h.dn, c3, av, i, cv⟩ := HX3.out.out.grown hg4 (fun q => by have := (HX3.out.own.lt g q.symm).1; have := HX3.out.og.2; omega)
          have cn4 := bo4.cells.2.2.2.2
          have cf4 := bo4.free 4
          have HX5 := Lib.hid (HX3.out.next him HF3.out (Nat.le_trans HX.out.L (Nat.le_refl _)) HS3.out.2 (fun b e => (HX.out.own.lt b e).2) ho4 hg4 hob4)
          have HKS := Lib.hid (fun j (hj : j < L0) => hg4.block j (Nat.lt_of_lt_of_le hj HX3.out.L) (fun q => by have := (HX3.out.own.lt j q.symm).1; omega))
          have HBX4 := Lib.hid bo4
          have HG4 := Lib.hid hg4
          clear ho4 hg4 hob4 hl4 bo4
          refine hK.out _ _ ?_ (fun hHeld => ?_)
          · (first | exact keepS HX5.out.box HX5.out.b | exact keepS ((HKS.out _ (by have := HX3.out.og; omega)).trans HX3.out.box) (HX3.out.b.grown (HG4.out) HX3.out.b.size (fun k e => by have := (HX3.out.own.lt k e).1; have := HX3.out.og; omega)) | exact keepS HX3.out.box HX3.out.b | exact keepS HX2.out.box HX2.out.b | exact keepS HX.out.drew.box HX.out.drew.b)
          clear hK K
          (try simp only [Act.put, List.setIfInBounds_toArray, List.set_cons_zero, List.set_cons_succ])
          refine take_w (i := 10) (oi := ?oZ20) (v := ?vZ20) ?hiZ20 (by kernel_rfl) (by kernel_rfl) (by kernel_rfl) ?hQZ20 ?hwZ20 ?hyZ20 (by assumption) ?restZ20
          case hiZ20 => (simp only [List.getElem?_toArray, List.getElem?_cons_succ, List.getElem?_cons_zero] <;> rfl)
          case hQZ20 => exact (fun _ _ _ h => h)
          case hwZ20 => rfl
          case hyZ20 => (intro w hSw; (try dsimp only at hSw); go_simp; try with_reducible rfl)
          (try simp only [Act.put, List.setIfInBounds_toArray, List.set_cons_zero, List.set_cons_succ])
          refine wpAnyH_ready (rs := [11]) (by kernel_rfl) (by simp) ?_
          refine AllReadyH.cons (o := ?oZ21) ?hiZ21 (fun K hK => ?stZ21) AllReadyH.nil
          case hiZ21 => (simp only [List.getElem?_toArray, List.getElem?_cons_succ, List.getElem?_cons_zero] <;> rfl)
          go_simp
          refine hK.out _ _ ?_ (fun hHeld => ?_)
          · (first | exact keepS HX5.out.box HX5.out.b | exact keepS ((HKS.out _ (by have := HX3.out.og; omega)).trans HX3.out.box) (HX3.out.b.grown (HG4.out) HX3.out.b.size (fun k e => by have := (HX3.out.own.lt k e).1; have := HX3.out.og; omega)) | exact keepS HX3.out.box HX3.out.b | exact keepS HX2.out.box HX2.out.b | exact keepS HX.out.drew.box HX.out.drew.b)
          clear hK K
          (try simp only [Act.put])
          refine wpAnyH_done (by kernel_rfl) ?_ _
          go_wp2_with fail
          exact ⟨⟨i + 1, by omega, by go_num, a4, c4, hs ++ [h2], HX5.out⟩, by simp [intOf]; omega⟩
        case stZ16 =>
          go_simp
          go_at_call 20
          refine (IH.out _ (List.getElem_mem him) (H i) _ (HP.out.kids i him) (HBW.out.trans (HX.out.drew.b.mono HBW.out.size)) (HLK.out i him)).mono ?_
          rintro _ w2 ⟨h2, rfl, hf2, hb2⟩
          unfold TH.v
          have HX2 := Lib.hid (HX.out.drew.below hb2)
          have hb3 : Below w2.heap.size w2 (w2.alloc (.cells #[.int .i64 h2.k, .slice h2.ka h2.kn h2.kc, .slice h2.va h2.vn h2.vc, .slice h2.da h2.dn h2.dc, .slice h2.ta h2.tn h2.tc] 25)) := (Below.refl _ _).alloc (Nat.le_refl _) _
          have HX3 := Lib.hid (HX2.out.below hb3)
          have HF3 := Lib.hid (hf2.below hb3 (Nat.le_refl _))
          have HS3 := Lib.hid (And.intro hb2.size hb3.size)
          have HB3 := Lib.hid (Box.new w2 25 h2)
          have co2 := HX2.out.out.cells.2.2.2.2
          have co3 := HX3.out.out.cells.2.2.2.2
          clear hf2 hb2 hb3
          go_simp
          refine hK.out _ _ ?_ (fun hHeld => ?_)
          · (first | exact keepS HX5.out.box HX5.out.b | exact keepS ((HKS.out _ (by have := HX3.out.og; omega)).trans HX3.out.box) (HX3.out.b.grown (HG4.out) HX3.out.b.size (fun k e => by have := (HX3.out.own.lt k e).1; have := HX3.out.og; omega)) | exact keepS HX3.out.box HX3.out.b | exact keepS HX2.out.box HX2.out.b | exact keepS HX.out.drew.box HX.out.drew.b)
          clear hK K
          (try simp only [Act.put, List.setIfInBounds_toArray, List.set_cons_zero, List.set_cons_succ])
          refine wpAnyH_ready (rs := [1, 8]) (by kernel_rfl) (by simp) ?_
          refine AllReadyH.cons (o := ?oZ22) ?hiZ22 (fun K hK => ?stZ22) (AllReadyH.cons (o := ?oZ23) ?hiZ23 (fun K hK => ?stZ23) AllReadyH.nil)
          case hiZ22 => (simp only [List.getElem?_toArray, List.getElem?_cons_succ, List.getElem?_cons_zero] <;> rfl)
          case hiZ23 => (simp only [List.getElem?_toArray, List.getElem?_cons_succ, List.getElem?_cons_zero] <;> rfl)
          case stZ22 =>
            go_simp
            refine hK.out _ _ ?_ (fun hHeld => ?_)
            · (first | exact keepS HX5.out.box HX5.out.b | exact keepS ((HKS.out _ (by have := HX3.out.og; omega)).trans HX3.out.box) (HX3.out.b.grown (HG4.out) HX3.out.b.size (fun k e => by have := (HX3.out.own.lt k e).1; have := HX3.out.og; omega)) | exact keepS HX3.out.box HX3.out.b | exact keepS HX2.out.box HX2.out.b | exact keepS HX.out.drew.box HX.out.drew.b)
            clear hK K
            (try simp only [Act.put, List.setIfInBounds_toArray, List.set_cons_zero, List.set_cons_succ])
            refine wpAnyH_ready (rs := [8]) (by kernel_rfl) (by simp) ?_
            refine AllReadyH.cons (o := ?oZ24) ?hiZ24 (fun K hK => ?stZ24) AllReadyH.nil
            case hiZ24 => (simp only [List.getElem?_toArray, List.getElem?_cons_succ, List.getElem?_cons_zero] <;> rfl)
            go_simp
            refine hK.out _ _ ?_ (fun hHeld => ?_)
            · (first | exact keepS HX5.out.box HX5.out.b | exact keepS ((HKS.out _ (by have := HX3.out.og; omega)).trans HX3.out.box) (HX3.out.b.grown (HG4.out) HX3.out.b.size (fun k e => by have := (HX3.out.own.lt k e).1; have := HX3.out.og; omega)) | exact keepS HX3.out.box HX3.out.b | exact keepS HX2.out.box HX2.out.b | exact keepS HX.out.drew.box HX.out.drew.b)
            clear hK K
            (try simp only [Act.put, List.setIfInBounds_toArray, List.set_cons_zero, List.set_cons_succ])
            refine wpAnyH_ready (rs := [9]) (by kernel_rfl) (by simp) ?_
            refine AllReadyH.cons (o := ?oZ25) ?hiZ25 (fun K hK => ?stZ25) AllReadyH.nil
            case hiZ25 => (simp only [List.getElem?_toArray, List.getElem?_cons_succ, List.getElem?_cons_zero] <;> rfl)
            refine step_append_trees _ rfl (.tmp 28) (.tmp 35) 23 rfl L0 25 ti _ 104 Tryd.underlying23 hti hy0 hy1 hy2 rfl (.slice av i cv) hs rfl HX3.out.own w2.heap.size 1 [h2] rfl HB3.out.row (by rw [HX3.out.len]; simp only [List.length_cons, List.length_nil]; omega) (by omega) HX3.out.L ?_
            intro v4 w4 ho4 hg4 hob4
            obtain ⟨a4, c4, hv4⟩ := ho4.sl
            have hl4 : (hs ++ [h2]).length = i + 1 := by rw [List.length_append, HX3.out.len]; rfl
            rw [hl4] at hv4
            subst hv4
            have bo4 : Box w4 25 g ⟨h.k, a1, h.kn, c1, a2, h.vn, c2, a3, h.dn, c3, av, i, cv⟩ := HX3.out.out.grown hg4 (fun q => by have := (HX3.out.own.lt g q.symm).1; have := HX3.out.og.2; omega)
            have cn4 := bo4.cells.2.2.2.2
            have cf4 := bo4.free 4
            have HX5 := Lib.hid (HX3.out.next him HF3.out (Nat.le_trans HX.out.L (Nat.le_refl _)) HS3.out.2 (fun b e => (HX.out.own.lt b e).2) ho4 hg4 hob4)
            have HKS := Lib.hid (fun j (hj : j < L0) => hg4.block j (Nat.lt_of_lt_of_le hj HX3.out.L) (fun q => by have := (HX3.out.own.lt j q.symm).1; omega))
            have HBX4 := Lib.hid bo4
            have HG4 := Lib.hid hg4
            clear ho4 hg4 hob4 hl4 bo4
            refine hK.out _ _ ?_ (fun hHeld => ?_)
            · (first | exact keepS HX5.out.box HX5.out.b | exact keepS ((HKS.out _ (by have := HX3.out.og; omega)).trans HX3.out.box) (HX3.out.b.grown (HG4.out) HX3.out.b.size (fun k e => by have := (HX3.out.own.lt k e).1; have := HX3.out.og; omega)) | exact keepS HX3.out.box HX3.out.b | exact keepS HX2.out.box HX2.out.b | exact keepS HX.out.drew.box HX.out.drew.b)
            clear hK K
            (try simp only [Act.put, List.setIfInBounds_toArray, List.set_cons_zero, List.set_cons_succ])
            refine take_w (i := 10) (oi := ?oZ26) (v := ?vZ26) ?hiZ26 (by kernel_rfl) (by kernel_rfl) (by kernel_rfl) ?hQZ26 ?hwZ26 ?hyZ26 (by assumption) ?restZ26
            case hiZ26 => (simp only [List.getElem?_toArray, List.getElem?_cons_succ, List.getElem?_cons_zero] <;> rfl)
            case hQZ26 => exact (fun _ _ _ h => h)
            case hwZ26 => rfl
            case hyZ26 => (intro w hSw; (try dsimp only at hSw); go_simp; try with_reducible rfl)
            (try simp only [Act.put, List.setIfInBounds_toArray, List.set_cons_zero, List.set_cons_succ])
            refine wpAnyH_ready (rs := [11]) (by kernel_rfl) (by simp) ?_
            refine AllReadyH.cons (o := ?oZ27) ?hiZ27 (fun K hK => ?stZ27) AllReadyH.nil
            case hiZ27 => (simp only [List.getElem?_toArray, List.getElem?_cons_succ, List.getElem?_cons_zero] <;> rfl)
            go_simp
            refine hK.out _ _ ?_ (fun hHeld => ?_)
            · (first | exact keepS HX5.out.box HX5.out.b | exact keepS ((HKS.out _ (by have := HX3.out.og; omega)).trans HX3.out.box) (HX3.out.b.grown (HG4.out) HX3.out.b.size (fun k e => by have := (HX3.out.own.lt k e).1; have := HX3.out.og; omega)) | exact keepS HX3.out.box HX3.out.b | exact keepS HX2.out.box HX2.out.b | exact keepS HX.out.drew.box HX.out.drew.b)
            clear hK K
            (try simp only [Act.put])
            refine wpAnyH_done (by kernel_rfl) ?_ _
            go_wp2_with fail
            exact ⟨⟨i + 1, by omega, by go_num, a4, c4, hs ++ [h2], HX5.out⟩, by simp [intOf]; omega⟩
          case stZ23 =>
            go_simp
            refine hK.out _ _ ?_ (fun hHeld => ?_)
            · (first | exact keepS HX5.out.box HX5.out.b | exact keepS ((HKS.out _ (by have := HX3.out.og; omega)).trans HX3.out.box) (HX3.out.b.grown (HG4.out) HX3.out.b.size (fun k e => by have := (HX3.out.own.lt k e).1; have := HX3.out.og; omega)) | exact keepS HX3.out.box HX3.out.b | exact keepS HX2.out.box HX2.out.b | exact keepS HX.out.drew.box HX.out.drew.b)
            clear hK K
            (try simp only [Act.put, List.setIfInBounds_toArray, List.set_cons_zero, List.set_cons_succ])
            refine wpAnyH_ready (rs := [1]) (by kernel_rfl) (by simp) ?_
            refine AllReadyH.cons (o := ?oZ28) ?hiZ28 (fun K hK => ?stZ28) AllReadyH.nil
            case hiZ28 => (simp only [List.getElem?_toArray, List.getElem?_cons_succ, List.getElem?_cons_zero] <;> rfl)
            go_simp
            refine hK.out _ _ ?_ (fun hHeld => ?_)
            · (first | exact keepS HX5.out.box HX5.out.b | exact keepS ((HKS.out _ (by have := HX3.out.og; omega)).trans HX3.out.box) (HX3.out.b.grown (HG4.out) HX3.out.b.size (fun k e => by have := (HX3.out.own.lt k e).1; have := HX3.out.og; omega)) | exact keepS HX3.out.box HX3.out.b | exact keepS HX2.out.box HX2.out.b | exact keepS HX.out.drew.box HX.out.drew.b)
            clear hK K
            (try simp only [Act.put, List.setIfInBounds_toArray, List.set_cons_zero, List.set_cons_succ])
            refine wpAnyH_ready (rs := [9]) (by kernel_rfl) (by simp) ?_
            refine AllReadyH.cons (o := ?oZ29) ?hiZ29 (fun K hK => ?stZ29) AllReadyH.nil
            case hiZ29 => (simp only [List.getElem?_toArray, List.getElem?_cons_succ, List.getElem?_cons_zero] <;> rfl)
            refine step_append_trees _ rfl (.tmp 28) (.tmp 35) 23 rfl L0 25 ti _ 104 Tryd.underlying23 hti hy0 hy1 hy2 rfl (.slice av i cv) hs rfl HX3.out.own w2.heap.size 1 [h2] rfl HB3.out.row (by rw [HX3.out.len]; simp only [List.length_cons, List.length_nil]; omega) (by omega) HX3.out.L ?_
            intro v4 w4 ho4 hg4 hob4
            obtain ⟨a4, c4, hv4⟩ := ho4.sl
            have hl4 : (hs ++ [h2]).length = i + 1 := by rw [List.length_append, HX3.out.len]; rfl
            rw [hl4] at hv4
            subst hv4
            have bo4 : Box w4 25 g ⟨h.k, a1, h.kn, c1, a2, h.vn, c2, a3, h.dn, c3, av, i, cv⟩ := HX3.out.out.grown hg4 (fun q => by have := (HX3.out.own.lt g q.symm).1; have := HX3.out.og.2; omega)
            have cn4 := bo4.cells.2.2.2.2
            have cf4 := bo4.free 4
            have HX5 := Lib.hid (HX3.out.next him HF3.out (Nat.le_trans HX.out.L (Nat.le_refl _)) HS3.out.2 (fun b e => (HX.out.own.lt b e).2) ho4 hg4 hob4)
            have HKS := Lib.hid (fun j (hj : j < L0) => hg4.block j (Nat.lt_of_lt_of_le hj HX3.out.L) (fun q => by have := (HX3.out.own.lt j q.symm).1; omega))
            have HBX4 := Lib.hid bo4
            have HG4 := Lib.hid hg4
            clear ho4 hg4 hob4 hl4 bo4
            refine hK.out _ _ ?_ (fun hHeld => ?_)
            · (first | exact keepS HX5.out.box HX5.out.b | exact keepS ((HKS.out _ (by have := HX3.out.og; omega)).trans HX3.out.box) (HX3.out.b.grown (HG4.out) HX3.out.b.size (fun k e => by have := (HX3.out.own.lt k e).1; have := HX3.out.og; omega)) | exact keepS HX3.out.box HX3.out.b | exact keepS HX2.out.box HX2.out.b | exact keepS HX.out.drew.box HX.out.drew.b)
            clear hK K
            (try simp only [Act.put, List.setIfInBounds_toArray, List.set_cons_zero, List.set_cons_succ])
            refine take_w (i := 10) (oi := ?oZ30) (v := ?vZ30) ?hiZ30 (by kernel_rfl) (by kernel_rfl) (by kernel_rfl) ?hQZ30 ?hwZ30 ?hyZ30 (by assumption) ?restZ30
            case hiZ30 => (simp only [List.getElem?_toArray, List.getElem?_cons_succ, List.getElem?_cons_zero] <;> rfl)
            case hQZ30 => exact (fun _ _ _ h => h)
            case hwZ30 => rfl
            case hyZ30 => (intro w hSw; (try dsimp only at hSw); go_simp; try with_reducible rfl)
            (try simp only [Act.put, List.setIfInBounds_toArray, List.set_cons_zero, List.set_cons_succ])
            refine wpAnyH_ready (rs := [11]) (by kernel_rfl) (by simp) ?_
            refine AllReadyH.cons (o := ?oZ31) ?hiZ31 (fun K hK => ?stZ31) AllReadyH.nil
            case hiZ31 => (simp only [List.getElem?_toArray, List.getElem?_cons_succ, List.getElem?_cons_zero] <;> rfl)
            go_simp
            refine hK.out _ _ ?_ (fun hHeld => ?_)
            · (first | exact keepS HX5.out.box HX5.out.b | exact keepS ((HKS.out _ (by have := HX3.out.og; omega)).trans HX3.out.box) (HX3.out.b.grown (HG4.out) HX3.out.b.size (fun k e => by have := (HX3.out.own.lt k e).1; have := HX3.out.og; omega)) | exact keepS HX3.out.box HX3.out.b | exact keepS HX2.out.box HX2.out.b | exact keepS HX.out.drew.box HX.out.drew.b)
            clear hK K
            (try simp only [Act.put])
            refine wpAnyH_done (by kernel_rfl) ?_ _
            go_wp2_with fail
            exact ⟨⟨i + 1, by omega, by go_num, a4, c4, hs ++ [h2], HX5.out⟩, by simp [intOf]; omega⟩
      · obtain rfl : i = h.tn := by omega
        have q1 : ¬ (h.tn : Int) < (h.tn : Int) := by omega
        obtain ⟨v0, v1, v2, v3, v4⟩ := HX.out.out.cells
        go_wp2_with (first
          | (refine wpList_store_box rfl 25 (.tmp 2) (.tmp 38) rfl (w.heap.size + 1) hZ ⟨h.k, a1, h.kn, c1, a2, h.vn, c2, a3, h.dn, c3, av, h.tn, cv⟩ rfl rfl 25 HX.out.res infoTree5 ?_
             intro w9 hbx9 hg9
             have HX9 := Lib.hid hbx9
             have HF9 := Lib.hid (HX.out.fin rfl HP.out hg9)
             have HB9 : Hid (Below w.heap.size w w9) := Lib.hid (HX.out.b.grown hg9 HX.out.b.size (fun j hj => by injection hj; omega))
             clear hbx9 hg9))
        refine bodyPost_ret (v := TH.v ⟨h.k, a1, h.kn, c1, a2, h.vn, c2, a3, h.dn, c3, av, h.tn, cv⟩) (results_cell1 Tryd.results20 _ HX9.out rfl Tryd.underlying25 infoTree5) rfl ⟨_, rfl, HF9.out, HB9.out⟩
end Go.Proofs.YtioifkbkllnkgaaDoor

/- The contract of the document's list of nodes, of a tree whose keys and values are rows of one's own. -/
namespace Go.Proofs.YtioifkbkllnkgaaDoor
open Go.RowKit
set_option linter.unusedVariables false

def HeadsO (W : World) (lo hi : Nat) (hs : List TH) (ts : List Tr) : Prop := Heads W hs ts ∧ ∀ i (h : i < hs.length), ∃ t, OTree W lo hi hs[i] t
theorem HeadsO.nil (W : World) (lo hi : Nat) : HeadsO W lo hi [] [] := ⟨Heads.nil W, fun i h => by simp at h⟩
theorem HeadsO.one {W : World} {lo hi : Nat} {h : TH} {t : Tr} (x : OTree W lo hi h t) : HeadsO W lo hi [h] [t] := ⟨Heads.one x.inTree, fun i hi' => by
  have e : i = 0 := by simp at hi'; omega
  subst e
  exact ⟨t, x⟩⟩
theorem HeadsO.app {W : World} {lo hi : Nat} {a b : List TH} {s t : List Tr} (x : HeadsO W lo hi a s) (y : HeadsO W lo hi b t) : HeadsO W lo hi (a ++ b) (s ++ t) := ⟨x.1.app y.1, fun i h => by
  by_cases c : i < a.length
  · rw [List.getElem_append_left c]
    exact x.2 i c
  · rw [List.getElem_append_right (by omega)]
    exact y.2 _ _⟩

set_option maxRecDepth 100000 in
set_option maxHeartbeats 4000000 in
theorem refListO_any (lo hi : Nat) : ∀ (t : Tr) (h : TH) (wb w : World), OTree wb lo hi h t → Below wb.heap.size wb w → formedT t = true → countT t ≤ 500 →
    Calls Tryd.prog 23 #[h.v] w (fun e w' => ∃ v hs, e = .returned v ∧ OwnT w' w.heap.size 25 v hs ∧ HeadsO wb lo hi hs (listT t) ∧ Below w.heap.size w w') := by
  intro t
  induction t using Tr.ind with
  | h t ih =>
  intro h wb w ht hbw hf hcn
  obtain ⟨hpb, hfk⟩ := formed_kids hf
  unfold TH.v
  obtain ⟨H, hp, -, -, hok⟩ := ht.parts
  have HOK := Lib.hid hok
  clear hok
  have htl := hp.len
  have htm := Nat.le_trans hp.sl.le hp.sl.max
  have htc := hp.sl.le
  simp only [maxLen] at htm
  have HP := Lib.hid hp
  have HTT := Lib.hid ht
  have IH := Lib.hid ih
  have HBW := Lib.hid hbw
  have hbox := Box.new w 25 h
  have HX := Lib.hid hbox
  obtain ⟨x0, x1, x2, x3, x4⟩ := hbox.cells
  have hw1 : Below w.heap.size w (w.alloc (.cells #[.int .i64 h.k, .slice h.ka h.kn h.kc, .slice h.va h.vn h.vc, .slice h.da h.dn h.dc, .slice h.ta h.tn h.tc] 25)) := (Below.refl _ _).alloc (Nat.le_refl _) _
  have HB := Lib.hid hw1
  clear hbox hw1 hp ht ih hbw
  obtain ⟨ti, hti, htz⟩ := Option.map_eq_some_iff.1 infoTree2
  simp only [Prod.mk.injEq] at htz
  obtain ⟨hz0, hz1, hz2⟩ := htz
  go_enter Tryd.func23, Tryd.ntmps23
  rcases part_kids hpb with ⟨h0, _⟩ | ⟨h2, _⟩
  · have htn : ((h.tn : Int) == 0) = true := by simp; omega
    go_wp2_with fail
    go_ret
    exact ⟨_, [], rfl, OwnT.nil _ _ _, by rw [listT_0 h0]; exact HeadsO.nil wb lo hi, HB.out⟩
  · have htn : ((h.tn : Int) == 0) = false := by simp; omega
    have l0 : 0 < t.kids.length := by omega
    have l1 : 1 < t.kids.length := by omega
    have hct := count_two h2
    have ll0 := list_len _ (hfk 0 l0)
    have ll1 := list_len _ (hfk 1 l1)
    have HL := Lib.hid (listT_2 h2)
    have HF := Lib.hid hfk
    have c0 : countT t.kids[0] ≤ 500 := by omega
    have c1 : countT t.kids[1] ≤ 500 := by omega
    have cc : countT t.kids[0] + countT t.kids[1] ≤ 500 := by omega
    clear hfk hf hct
    go_upto_region 3 with fail
    generalize hw0 : w.alloc (.cells #[.int .i64 h.k, .slice h.ka h.kn h.kc, .slice h.va h.vn h.vc, .slice h.da h.dn h.dc, .slice h.ta h.tn h.tc] 25) = w0 at *
    have hs0 : w0.heap.size = w.heap.size + 1 := by rw [← hw0]; simp
    have HS := Lib.hid hs0
    have HBB : Hid (Below wb.heap.size wb w0) := Lib.hid (HBW.out.trans (HB.out.mono HBW.out.size))
    obtain ⟨g, off, hta, hg, -⟩ := (HP.out.below HBB.out).place (by omega)
    have HTA := Lib.hid hta
    rw [hta]
    clear x0 x1 x2 x3 x4 hw0 hs0 hta hg
    have ht1 : (1 : Int) < (h.tn : Int) := by omega
    have ht0 : 0 < h.tn := by omega
    have hb1 : Below w0.heap.size w0 (w0.alloc (.cells #[] 25)) := (Below.refl _ _).alloc (Nat.le_refl _) _
    have x4 := ((HX.out.below hb1 HX.out.lt).cells.2.2.2.2).trans (by rw [HTA.out])
    obtain ⟨k0, k1, k2, k3, k4⟩ := (HP.out.below (HBB.out.trans (hb1.mono HBB.out.size))).kid0 HTA.out ht0
    have HE := Lib.hid (OwnT.empty w0 25 w0.heap.size (Nat.le_refl _))
    have HB1 := Lib.hid hb1
    clear hb1
    go_upto_region 4 with (first
    | (go_at_call 23
       refine (IH.out _ (List.getElem_mem l0) (H 0) wb _ (HOK.out 0 l0) (HBB.out.trans (HB1.out.mono HBB.out.size)) (HF.out 0 l0) c0).mono ?_
       rintro _ w2 ⟨v2, hs2, rfl, ho2, hh2, hb2⟩
       have HB2 : Hid (Below w0.heap.size w0 w2) := Lib.hid (HB1.out.trans (hb2.mono HB1.out.size))
       have HE2 := Lib.hid (HE.out.keep hb2)
       have HO2 := Lib.hid ho2
       have hl2 := hh2.1.1
       have HH2 := Lib.hid hh2
       clear ho2 hh2 hb2)
    | (at_builtin
       refine wpList_append_trees _ rfl (.tmp 8) (.tmp 13) 23 rfl w0.heap.size 25 ti _ 104 Tryd.underlying23 hti hz0 hz1 hz2 rfl (.slice (some ⟨w0.heap.size, 0, none⟩) 0 0) [] rfl HE2.out _ v2 hs2 rfl HO2.out (by simp only [List.length_nil]; omega) (by omega) HB2.out.size ?_
       intro v3 w3 ho3 hg3 _
       have HB3 : Hid (Below w0.heap.size w0 w3) := Lib.hid (HB2.out.grown hg3 HB2.out.size (fun j hj => by have hj' : some w0.heap.size = some j := hj; injection hj' with hj'; omega))
       have HO3 := Lib.hid ho3
       clear ho3 hg3))
    clear x4 k0 k1 k2 k3 k4 HE HE2 HO2
    have hx3 := HX.out.below HB3.out HX.out.lt
    obtain ⟨x0, x1, x2, x3, x4⟩ := hx3.cells
    have hb4 : Below w3.heap.size w3 (w3.alloc (.cells #[.int .i64 h.k, .slice h.ka h.kn h.kc, .slice h.va h.vn h.vc, .slice h.da h.dn h.dc, .slice h.ta h.tn h.tc] 25)) := (Below.refl _ _).alloc (Nat.le_refl _) _
    have HO4 := Lib.hid (HO3.out.keep hb4)
    have HN4 := Lib.hid (OwnT.one (Box.new w3 25 h) (Nat.le_refl _))
    have HB4 : Hid (Below w0.heap.size w0 (w3.alloc (.cells #[.int .i64 h.k, .slice h.ka h.kn h.kc, .slice h.va h.vn h.vc, .slice h.da h.dn h.dc, .slice h.ta h.tn h.tc] 25))) := Lib.hid (HB3.out.trans (hb4.mono HB3.out.size))
    clear hx3 hb4
    rw [HTA.out] at x4 HO4 HN4 HB4
    go_upto_region 5 with (first
    | (at_builtin
       refine wpList_append_trees _ rfl (.tmp 15) (.tmp 17) 23 rfl w0.heap.size 25 ti _ 104 Tryd.underlying23 hti hz0 hz1 hz2 rfl v3 ([] ++ hs2) rfl HO4.out _ (.slice (some ⟨w3.heap.size, 0, none⟩) 1 1) [h] rfl HN4.out (by simp only [List.nil_append, List.length_cons, List.length_nil]; omega) (by omega) HB4.out.size ?_
       intro v5 w5 ho5 hg5 _
       have HB5 : Hid (Below w0.heap.size w0 w5) := Lib.hid (HB4.out.grown hg5 HB4.out.size (fun j hj => (HO4.out.lt j hj).1))
       have HO5 := Lib.hid ho5
       clear ho5 hg5))
    clear x0 x1 x2 x3 x4 HO3 HO4 HN4
    have x4 := ((HX.out.below HB5.out HX.out.lt).cells.2.2.2.2).trans (by rw [HTA.out])
    obtain ⟨k0, k1, k2, k3, k4⟩ := (HP.out.below (HBB.out.trans (HB5.out.mono HBB.out.size))).kid1 HTA.out (by omega)
    go_wp2_with (first
    | (go_at_call 23
       refine (IH.out _ (List.getElem_mem l1) (H 1) wb _ (HOK.out 1 l1) (HBB.out.trans (HB5.out.mono HBB.out.size)) (HF.out 1 l1) c1).mono ?_
       rintro _ w6 ⟨v6, hs6, rfl, ho6, hh6, hb6⟩
       have HB6 : Hid (Below w0.heap.size w0 w6) := Lib.hid (HB5.out.trans (hb6.mono HB5.out.size))
       have HE6 := Lib.hid (HO5.out.keep hb6)
       have HO6 := Lib.hid ho6
       have hl6 := hh6.1.1
       have HH6 := Lib.hid hh6
       clear ho6 hh6 hb6)
    | (at_builtin
       refine wpList_append_trees _ rfl (.tmp 19) (.tmp 24) 23 rfl w0.heap.size 25 ti _ 104 Tryd.underlying23 hti hz0 hz1 hz2 rfl v5 ([] ++ hs2 ++ [h]) rfl HE6.out _ v6 hs6 rfl HO6.out (by simp only [List.nil_append, List.length_append, List.length_cons, List.length_nil]; omega) (by omega) HB6.out.size ?_
       intro v7 w7 ho7 hg7 _
       have HB7 : Hid (Below w0.heap.size w0 w7) := Lib.hid (HB6.out.grown hg7 HB6.out.size (fun j hj => (HE6.out.lt j hj).1))
       have HO7 := Lib.hid ho7
       clear ho7 hg7))
    go_ret
    refine ⟨v7, [] ++ hs2 ++ [h] ++ hs6, rfl, HO7.out.weak (by rw [HS.out]; omega), ?_, HB.out.trans (HB7.out.mono (by rw [HS.out]; omega))⟩
    rw [HL.out, List.nil_append, List.append_assoc]
    exact HH2.out.app ((HeadsO.one HTT.out).app HH6.out)
end Go.Proofs.YtioifkbkllnkgaaDoor

/- The contract of the document's comparison of trees: of one and the same tree. -/
namespace Go.Proofs.YtioifkbkllnkgaaDoor
open Go.RowKit
set_option linter.unusedVariables false

theorem conv_of' {w : World} {a : Option Addr} {n cap : Nat} {bs : List Int} (h : InBytes w a n cap bs) :
    (convert 22 9 (.slice a n cap)).run Tryd.prog w = .ok (.string (strOfNums bs)) w :=
  conv_in (P := Tryd.prog) h 22 5 9 Tryd.underlying22 Tryd.underlying5 Tryd.underlying9
/-- Two boxes, side by side. -/
structure Two (w W : World) (h h' : TH) : Prop where
  bx : Box W 25 w.heap.size h
  by' : Box W 25 (w.heap.size + 1) h'
  b : Below w.heap.size w W
theorem Two.below {w W W' : World} {h h' : TH} (d : Two w W h h') (hb : Below W.heap.size W W') : Two w W' h h' := ⟨d.bx.below hb d.bx.lt, d.by'.below hb d.by'.lt, d.b.trans (hb.mono d.b.size)⟩
theorem Two.drew {w W : World} {h h' : TH} (d : Two w W h h') : Two w W.drew h h' := d.below (Below.refl _ _).drew
theorem Two.new (w : World) (h h' : TH) : Two w ((w.alloc (.cells #[.int .i64 h.k, .slice h.ka h.kn h.kc, .slice h.va h.vn h.vc, .slice h.da h.dn h.dc, .slice h.ta h.tn h.tc] 25)).alloc (.cells #[.int .i64 h'.k, .slice h'.ka h'.kn h'.kc, .slice h'.va h'.vn h'.vc, .slice h'.da h'.dn h'.dc, .slice h'.ta h'.tn h'.tc] 25)) h h' :=
  ⟨(Box.new w _ h).below ((Below.refl _ _).alloc (Nat.le_refl _) _) (by simp), by have := Box.new (w.alloc (.cells #[.int .i64 h.k, .slice h.ka h.kn h.kc, .slice h.va h.vn h.vc, .slice h.da h.dn h.dc, .slice h.ta h.tn h.tc] 25)) 25 h'; simpa using this, ((Below.refl w.heap.size w).alloc (Nat.le_refl _) _).alloc (by simp) _⟩

set_option maxRecDepth 100000 in
set_option maxHeartbeats 4000000 in
theorem refSame_any : ∀ (t : Tr) (h h' : TH) (w : World), InTree w h t → InTree w h' t →
    Calls Tryd.prog 21 #[h.v, h'.v] w (Says w (.bool true)) := by
  intro t
  induction t using Tr.ind with
  | h t ih =>
  intro h h' w ht ht'
  unfold TH.v
  obtain ⟨H, hp⟩ := ht.parts
  obtain ⟨H', hp'⟩ := ht'.parts
  have HP := Lib.hid (And.intro hp hp')
  have htl := hp.len
  have htl' := hp'.len
  have htm := Nat.le_trans hp.sl.le hp.sl.max
  simp only [maxLen] at htm
  have k1 : (h.k != h'.k) = false := by rw [hp.hk, hp'.hk]; simp
  have k2 : ((h.tn : Int) != (h'.tn : Int)) = false := by rw [← htl, ← htl']; simp
  have IH := Lib.hid ih
  clear hp hp' ht ht' ih
  have HD := Lib.hid (Two.new w h h')
  go_enter Tryd.func21, Tryd.ntmps21
  go_upto_region 1 with fail
  generalize (w.alloc (.cells #[.int .i64 h.k, .slice h.ka h.kn h.kc, .slice h.va h.vn h.vc, .slice h.da h.dn h.dc, .slice h.ta h.tn h.tc] 25)).alloc (.cells #[.int .i64 h'.k, .slice h'.ka h'.kn h'.kc, .slice h'.va h'.vn h'.vc, .slice h'.da h'.dn h'.dc, .slice h'.ta h'.tn h'.tc] 25) = w0 at *
  obtain ⟨x0, x1, x2, x3, x4⟩ := HD.out.bx.cells
  obtain ⟨y0, y1, y2, y3, y4⟩ := HD.out.by'.cells
  have c1 := conv_of' (HP.out.1.below HD.out.b).key
  have c2 := conv_of' (HP.out.1.below HD.out.b).val
  have c3 := conv_of' (HP.out.1.below HD.out.b).dig
  have d1 := conv_of' (HP.out.2.below HD.out.b).key
  have d2 := conv_of' (HP.out.2.below HD.out.b).val
  have d3 := conv_of' (HP.out.2.below HD.out.b).dig
  have htl2 : h'.tn = h.tn := by omega
  have HL := Lib.hid htl2
  clear htl2 htl'
  go_wp2_with fail
  clear x0 x1 x2 x3 x4 y0 y1 y2 y3 y4 c1 c2 c3 d1 d2 d3
  go_loopw [5] (fun s5 wx => ∃ i : Nat, i ≤ h.tn ∧ s5 = .int .i64 i ∧ Two w wx h h') (fun s5 _ => h.tn - (intOf s5).toNat)
  case atStart => exact ⟨0, by omega, rfl, HD.out⟩
  case round =>
    clear HD
    obtain ⟨i, hi, rfl, hd⟩ := hrel
    have HD := Lib.hid hd
    have x4 := hd.bx.cells.2.2.2.2
    clear hd
    by_cases hlt : i < h.tn
    · have q1 : (i : Int) < (h.tn : Int) := by omega
      have hlt' : i < h'.tn := by rw [HL.out]; exact hlt
      have q2 : (i : Int) < (h'.tn : Int) := by omega
      have him : i < t.kids.length := by omega
      obtain ⟨g, off, hta, _, _⟩ := (HP.out.1.below HD.out.b).place (by omega)
      obtain ⟨g', off', hta', _, _⟩ := (HP.out.2.below HD.out.b).place (by omega)
      have HTA := Lib.hid (And.intro hta hta')
      clear hta hta'
      go_upto_region 6 with fail
      clear x4
      refine wp_region_held_drew (S := (fun W => W.cell? ⟨w.heap.size, 4, none⟩ = some (.slice (some ⟨g, off, none⟩) h.tn h.tc) ∧ W.cell? ⟨(w.heap.size + 1), 4, none⟩ = some (.slice (some ⟨g', off', none⟩) h'.tn h'.tc) ∧ (W.cell? ⟨g, off + i * 5, none⟩ = some (.int .i64 (H i).k) ∧ W.cell? ⟨g, off + i * 5 + 1, none⟩ = some (.slice (H i).ka (H i).kn (H i).kc) ∧ W.cell? ⟨g, off + i * 5 + 2, none⟩ = some (.slice (H i).va (H i).vn (H i).vc) ∧ W.cell? ⟨g, off + i * 5 + 3, none⟩ = some (.slice (H i).da (H i).dn (H i).dc) ∧ W.cell? ⟨g, off + i * 5 + 4, none⟩ = some (.slice (H i).ta (H i).tn (H i).tc)) ∧ W.cell? ⟨g', off' + i * 5, none⟩ = some (.int .i64 (H' i).k) ∧ W.cell? ⟨g', off' + i * 5 + 1, none⟩ = some (.slice (H' i).ka (H' i).kn (H' i).kc) ∧ W.cell? ⟨g', off' + i * 5 + 2, none⟩ = some (.slice (H' i).va (H' i).vn (H' i).vc) ∧ W.cell? ⟨g', off' + i * 5 + 3, none⟩ = some (.slice (H' i).da (H' i).dn (H' i).dc) ∧ W.cell? ⟨g', off' + i * 5 + 4, none⟩ = some (.slice (H' i).ta (H' i).tn (H' i).tc))) (by kernel_rfl) ⟨(HD.out.drew.bx.cells.2.2.2.2).trans (by rw [HTA.out.1]), (HD.out.drew.by'.cells.2.2.2.2).trans (by rw [HTA.out.2]), (HP.out.1.below HD.out.drew.b).cellsAt HTA.out.1 i hlt, (HP.out.2.below HD.out.drew.b).cellsAt HTA.out.2 i hlt'⟩ (fun hHeld => ?_)
      refine take_w (i := 0) (oi := ?oZ1) (v := ?vZ1) ?hiZ1 (by kernel_rfl) (by kernel_rfl) (by kernel_rfl) ?hQZ1 ?hwZ1 ?hyZ1 (by assumption) ?restZ1
      case hiZ1 => (simp only [List.getElem?_toArray, List.getElem?_cons_zero] <;> rfl)
      case hQZ1 => exact (fun _ _ _ h => h)
      case hwZ1 => rfl
      case hyZ1 => (intro w hSw; (try dsimp only at hSw); go_simp; try with_reducible rfl)
      (try simp only [Act.put, List.setIfInBounds_toArray, List.set_cons_zero, List.set_cons_succ])
      refine take_w (i := 1) (oi := ?oZ2) (v := ?vZ2) ?hiZ2 (by kernel_rfl) (by kernel_rfl) (by kernel_rfl) ?hQZ2 ?hwZ2 ?hyZ2 (by assumption) ?restZ2
      case hiZ2 => (simp only [List.getElem?_toArray, List.getElem?_cons_succ, List.getElem?_cons_zero] <;> rfl)
      case hQZ2 => exact (fun _ _ _ h => h)
      case hwZ2 => rfl
      case hyZ2 => (intro w hSw; (try dsimp only at hSw); go_simp; try with_reducible rfl)
      (try simp only [Act.put, List.setIfInBounds_toArray, List.set_cons_zero, List.set_cons_succ])
      refine take_w (i := 2) (oi := ?oZ3) (v := ?vZ3) ?hiZ3 (by kernel_rfl) (by kernel_rfl) (by kernel_rfl) ?hQZ3 ?hwZ3 ?hyZ3 (by assumption) ?restZ3
      case hiZ3 => (simp only [List.getElem?_toArray, List.getElem?_cons_succ, List.getElem?_cons_zero] <;> rfl)
      case hQZ3 => exact (fun _ _ _ h => h)
      case hwZ3 => rfl
      case hyZ3 => (intro w hSw; (try dsimp only at hSw); go_simp; try with_reducible rfl)
      (try simp only [Act.put, List.setIfInBounds_toArray, List.set_cons_zero, List.set_cons_succ])
      refine take_w (i := 3) (oi := ?oZ4) (v := ?vZ4) ?hiZ4 (by kernel_rfl) (by kernel_rfl) (by kernel_rfl) ?hQZ4 ?hwZ4 ?hyZ4 (by assumption) ?restZ4
      case hiZ4 => (simp only [List.getElem?_toArray, List.getElem?_cons_succ, List.getElem?_cons_zero] <;> rfl)
      case hQZ4 => exact (fun _ _ _ h => h)
      case hwZ4 => rfl
      case hyZ4 => (intro w hSw; (try dsimp only at hSw); go_simp; try with_reducible rfl)
      (try simp only [Act.put, List.setIfInBounds_toArray, List.set_cons_zero, List.set_cons_succ])
      refine take_w (i := 4) (oi := ?oZ5) (v := ?vZ5) ?hiZ5 (by kernel_rfl) (by kernel_rfl) (by kernel_rfl) ?hQZ5 ?hwZ5 ?hyZ5 (by assumption) ?restZ5
      case hiZ5 => (simp only [List.getElem?_toArray, List.getElem?_cons_succ, List.getElem?_cons_zero] <;> rfl)
      case hQZ5 => exact (fun _ _ _ h => h)
      case hwZ5 => rfl
      case hyZ5 => (intro w hSw; (try dsimp only at hSw); go_simp; try with_reducible rfl)
      (try simp only [Act.put, List.setIfInBounds_toArray, List.set_cons_zero, List.set_cons_succ])
      refine take_w (i := 5) (oi := ?oZ6) (v := ?vZ6) ?hiZ6 (by kernel_rfl) (by kernel_rfl) (by kernel_rfl) ?hQZ6 ?hwZ6 ?hyZ6 (by assumption) ?restZ6
      case hiZ6 => (simp only [List.getElem?_toArray, List.getElem?_cons_succ, List.getElem?_cons_zero] <;> rfl)
      case hQZ6 => exact (fun _ _ _ h => h)
      case hwZ6 => rfl
      case hyZ6 => (intro w hSw; (try dsimp only at hSw); go_simp; try with_reducible rfl)
      (try simp only [Act.put, List.setIfInBounds_toArray, List.set_cons_zero, List.set_cons_succ])
      refine take_w (i := 6) (oi := ?oZ7) (v := ?vZ7) ?hiZ7 (by kernel_rfl) (by kernel_rfl) (by kernel_rfl) ?hQZ7 ?hwZ7 ?hyZ7 (by assumption) ?restZ7
      case hiZ7 => (simp only [List.getElem?_toArray, List.getElem?_cons_succ, List.getElem?_cons_zero] <;> rfl)
      case hQZ7 => exact (fun _ _ _ h => h)
      case hwZ7 => rfl
      case hyZ7 => (intro w hSw; (try dsimp only at hSw); go_simp; try with_reducible rfl)
      (try simp only [Act.put, List.setIfInBounds_toArray, List.set_cons_zero, List.set_cons_succ])
      refine take_w (i := 7) (oi := ?oZ8) (v := ?vZ8) ?hiZ8 (by kernel_rfl) (by kernel_rfl) (by kernel_rfl) ?hQZ8 ?hwZ8 ?hyZ8 (by assumption) ?restZ8
      case hiZ8 => (simp only [List.getElem?_toArray, List.getElem?_cons_succ, List.getElem?_cons_zero] <;> rfl)
      case hQZ8 => exact (fun _ _ _ h => h)
      case hwZ8 => rfl
      case hyZ8 => (intro w hSw; (try dsimp only at hSw); go_simp; try with_reducible rfl)
      (try simp only [Act.put, List.setIfInBounds_toArray, List.set_cons_zero, List.set_cons_succ])
      refine take_w (i := 8) (oi := ?oZ9) (v := ?vZ9) ?hiZ9 (by kernel_rfl) (by kernel_rfl) (by kernel_rfl) ?hQZ9 ?hwZ9 ?hyZ9 (by assumption) ?restZ9
      case hiZ9 => (simp only [List.getElem?_toArray, List.getElem?_cons_succ, List.getElem?_cons_zero] <;> rfl)
      case hQZ9 => exact (fun _ _ _ h => h)
      case hwZ9 => rfl
      case hyZ9 => (intro w hSw; (try dsimp only at hSw); go_simp; try with_reducible rfl)
      (try simp only [Act.put, List.setIfInBounds_toArray, List.set_cons_zero, List.set_cons_succ])
      refine take_w (i := 9) (oi := ?oZ10) (v := ?vZ10) ?hiZ10 (by kernel_rfl) (by kernel_rfl) (by kernel_rfl) ?hQZ10 ?hwZ10 ?hyZ10 (by assumption) ?restZ10
      case hiZ10 => (simp only [List.getElem?_toArray, List.getElem?_cons_succ, List.getElem?_cons_zero] <;> rfl)
      case hQZ10 => exact (fun _ _ _ h => h)
      case hwZ10 => rfl
      case hyZ10 => (intro w hSw; (try dsimp only at hSw); go_simp; try with_reducible rfl)
      (try simp only [Act.put, List.setIfInBounds_toArray, List.set_cons_zero, List.set_cons_succ])
      refine wpAnyH_ready (rs := [10]) (by kernel_rfl) (by simp) ?_
      refine AllReadyH.cons (o := ?oZ11) ?hiZ11 (fun K hK => ?stZ11) AllReadyH.nil
      case hiZ11 => (simp only [List.getElem?_toArray, List.getElem?_cons_succ, List.getElem?_cons_zero] <;> rfl)
      go_simp
      go_at_call 21
      refine (IH.out _ (List.getElem_mem him) (H i) (H' i) _ ((HP.out.1.below HD.out.drew.b).kids i him) ((HP.out.2.below HD.out.drew.b).kids i him)).mono ?_
      rintro _ w1 ⟨rfl, hb1⟩
      have HD1 := Lib.hid (HD.out.drew.below hb1)
      clear hb1
      go_simp
      refine hK.out _ _ ?_ (fun hHeld => ?_)
      · (first | exact ⟨(HD1.out.bx.cells.2.2.2.2).trans (by rw [HTA.out.1]), (HD1.out.by'.cells.2.2.2.2).trans (by rw [HTA.out.2]), (HP.out.1.below HD1.out.b).cellsAt HTA.out.1 i hlt, (HP.out.2.below HD1.out.b).cellsAt HTA.out.2 i hlt'⟩ | exact ⟨(HD.out.drew.bx.cells.2.2.2.2).trans (by rw [HTA.out.1]), (HD.out.drew.by'.cells.2.2.2.2).trans (by rw [HTA.out.2]), (HP.out.1.below HD.out.drew.b).cellsAt HTA.out.1 i hlt, (HP.out.2.below HD.out.drew.b).cellsAt HTA.out.2 i hlt'⟩)
      clear hK K
      (try simp only [Act.put, List.setIfInBounds_toArray, List.set_cons_zero, List.set_cons_succ])
      refine take_w (i := 11) (oi := ?oZ12) (v := ?vZ12) ?hiZ12 (by kernel_rfl) (by kernel_rfl) (by kernel_rfl) ?hQZ12 ?hwZ12 ?hyZ12 (by assumption) ?restZ12
      case hiZ12 => (simp only [List.getElem?_toArray, List.getElem?_cons_succ, List.getElem?_cons_zero] <;> rfl)
      case hQZ12 => exact (fun _ _ _ h => h)
      case hwZ12 => rfl
      case hyZ12 => (intro w hSw; (try dsimp only at hSw); go_simp; try with_reducible rfl)
      (try simp only [Act.put, List.setIfInBounds_toArray, List.set_cons_zero, List.set_cons_succ])
      refine wpAnyH_done (by kernel_rfl) ?_ _
      
      clear hHeld
      go_wp2_with fail
      exact ⟨⟨i + 1, by omega, by go_num, HD1.out⟩, by simp [intOf]; omega⟩
    · obtain rfl : i = h.tn := by omega
      have q1 : ¬ (h.tn : Int) < (h.tn : Int) := by omega
      go_wp2_with fail
      go_ret
      exact ⟨rfl, HD.out.b⟩
end Go.Proofs.YtioifkbkllnkgaaDoor

/- A region that draws its order and whose last operation waits for all others: what the reads lean on need not hold behind that last one. No program is named here. -/
namespace Go.Proofs.YtioifkbkllnkgaaDoor
open Go.RowKit
set_option linter.unusedVariables false

section
variable {P : Program} {md : Region.Mode} {ops : Array Oper} {Q : Exit → Act → World → Prop} {S : World → Prop} {f : Nat}
/-- Whatever order is picked: behind every operation but number f the world meets S. -/
def wpL (P : Program) (md : Region.Mode) (ops : Array Oper) (Q : Exit → Act → World → Prop) (S : World → Prop) (f : Nat) : Nat → Array Bool → Act → World → Prop
  | 0, l, a, w => Region.ready md ops l = [] ∧ Q .normal a w
  | n + 1, l, a, w => (Region.ready md ops l = [] → Q .normal a w) ∧ ∀ j ∈ Region.ready md ops l, wpOp P ops Q j (fun a' w' => (j ≠ f → S w') ∧ wpL P md ops Q S f n (l.setIfInBounds j true) a' w') a w
theorem wpL_any : ∀ (n : Nat) (l : Array Bool) (a : Act) (w : World), wpL P md ops Q S f n l a w → wpAny P md ops Q n l a w
  | 0, _, _, _, h => h
  | n + 1, _, _, _, h => ⟨h.1, fun j hj => wpOp_mono (fun a' w' q => wpL_any n _ a' w' q.2) (h.2 j hj)⟩
/-- Number f waits for number i. -/
def waits (md : Region.Mode) (ops : Array Oper) (f i : Nat) : Bool := match ops[f]? with
  | some o => o.after.any fun e => Region.binds md e && e.on == i
  | none => false
theorem waits_not {i : Nat} {l : Array Bool} (hw : waits md ops f i = true) (hi : i ∈ Region.ready md ops l) : f ∉ Region.ready md ops l := fun hf => by
  obtain ⟨_, o, ho, hall⟩ := mem_ready.1 hf
  have h0 := (mem_ready.1 hi).1
  unfold waits at hw
  rw [ho] at hw
  simp only [Array.any_eq_true'] at hw
  obtain ⟨e, he, hb⟩ := hw
  rw [Bool.and_eq_true, beq_iff_eq] at hb
  have h1 := hall e he hb.1
  rw [hb.2] at h1
  by_cases hlt : i < l.size
  · simp [hlt] at h0 h1
    rw [h0] at h1
    cases h1
  · simp [Array.getElem?_eq_none (Nat.le_of_not_lt hlt)] at h0
/-- What yields its value in every world that meets S, and for which number f waits, may be taken first. -/
theorem wpL_take_all {i : Nat} {oi : Oper} {v : Value} (hi : ops[i]? = some oi) (hsel : ∀ (j : Nat) (o : Oper) cs b, ops[j]? = some o → o.op ≠ .select cs b) (hQ : ∀ c a w, Q (.panic c) (a.put oi.dst v) w → Q (.panic c) a w) (hw : waits md ops f i = true) :
    ∀ (n : Nat) (l : Array Bool) (a : Act) (w : World), (∀ j oj, ops[j]? = some oj → j ≠ i → l.getD j true = false → (∀ e ∈ oj.after, Region.binds md e = true → e.on ≠ i) → oi.apart ops oj = true) →
      i ∈ Region.ready md ops l → YieldsIf P ops S oi v a → S w → wpL P md ops Q S f n (l.setIfInBounds i true) (a.put oi.dst v) w → wpL P md ops Q S f (n + 1) l a w := by
  intro n
  induction n with
  | zero =>
    intro l a w _ hr hy hS H
    refine ⟨fun e => absurd hr (by rw [e]; simp), fun j hj => ?_⟩
    by_cases hji : j = i
    · rw [hji]
      exact hy.wpOp hi hS ⟨fun _ => hS, H⟩
    · exact absurd (ready_mono hj hji) (by rw [H.1]; simp)
  | succ n ih =>
    intro l a w hfr hr hy hS H
    refine ⟨fun e => absurd hr (by rw [e]; simp), fun j hj => ?_⟩
    by_cases hji : j = i
    · rw [hji]
      exact hy.wpOp hi hS ⟨fun _ => hS, H⟩
    have hjf : j ≠ f := fun e => waits_not hw hr (e ▸ hj)
    obtain ⟨hun, oj, hoj, hall⟩ := mem_ready.1 hj
    have hno : ∀ e ∈ oj.after, Region.binds md e = true → e.on ≠ i := fun e he hb q => by
      have h1 := hall e he hb
      have h0 := (mem_ready.1 hr).1
      rw [q] at h1
      by_cases hlt : i < l.size
      · simp [hlt] at h0 h1
        rw [h0] at h1
        cases h1
      · simp [Array.getElem?_eq_none (Nat.le_of_not_lt hlt)] at h0
    have h2 := wpOp_putIf hoj (hfr j oj hoj hji hun hno) (fun cs b => hsel i oi cs b hi) (fun cs b => hsel j oj cs b hoj) hQ hy (H.2 j (ready_mono hj hji))
    refine wpOp_mono (fun a' w' q => ⟨q.2.1, ih _ a' w' (fun k ok hk hki hku hkn => hfr k ok hk hki ?_ hkn) (ready_mono hr (Ne.symm hji)) q.1 (q.2.1 hjf) ?_⟩) h2
    · by_cases hjk : j = k
      · rw [← hjk]
        exact hun
      · rw [getD_set_ne true hjk] at hku
        exact hku
    · rw [Array.setIfInBounds_comm _ _ hji]
      exact q.2.2
theorem take_l {i : Nat} {oi : Oper} {v : Value} {n : Nat} {l : Array Bool} {a : Act} {w : World} (hi : ops[i]? = some oi) (hs : Region.noSelect ops = true) (hf : Region.free md ops l i = true) (hr : (Region.ready md ops l).contains i = true) (hwt : waits md ops f i = true)
    (hQ : ∀ c a w, Q (.panic c) (a.put oi.dst v) w → Q (.panic c) a w) (hw : Region.wanted oi (yielded ops a.tmps) = true) (hy : ∀ w, S w → (execOp a.eval oi).run P w = .ok (.value v) w) (hS : S w)
    (h : wpL P md ops Q S f n (l.setIfInBounds i true) (a.put oi.dst v) w) : wpL P md ops Q S f (n + 1) l a w :=
  wpL_take_all hi (Region.noSelect_spec hs) hQ hwt n l a w (Region.free_spec hi hf) (by simpa using hr) (.inl ⟨hw, hy⟩) hS h
/-- The last one. -/
theorem last_l {o : Oper} {n : Nat} {l : Array Bool} {a : Act} {w : World} (hr : Region.ready md ops l = [f]) (ho : ops[f]? = some o) (hd : Region.ready md ops (l.setIfInBounds f true) = [])
    (h : ∀ K' : Act → World → Prop, Shut (∀ a w, Q .normal a w → K' a w) → if Region.wanted o (yielded ops a.tmps) = true then Oper.wp P o a w K' Q else K' (a.put o.dst undef) w) : wpL P md ops Q S f (n + 1) l a w := by
  refine ⟨fun e => absurd (hr.symm.trans e) (by simp), fun j hj => ?_⟩
  rw [hr, List.mem_singleton] at hj
  subst hj
  refine wpOp_step ho fun K' hK => h K' fun a w h1 => hK a w ⟨fun q => absurd rfl q, ?_⟩
  cases n with
  | zero => exact ⟨hd, h1⟩
  | succ n => exact ⟨fun _ => h1, by rw [hd]; simp⟩
theorem region_l (f : Nat) {id : Nat} {a : Act} {w : World} (hm : P.follows .mixedOrders = true) (hS : S w.drew) (h : S w.drew → wpL P .any ops Q S f ops.size (Array.replicate ops.size false) a w.drew) : (Code.region id ops true).wp P Q a w :=
  wp_region_any hm (wpL_any _ _ _ _ (h hS))
end
end Go.Proofs.YtioifkbkllnkgaaDoor

/- The walk of the law ClashStays. -/
namespace Go.Proofs.YtioifkbkllnkgaaDoor
open Go.RowKit
set_option linter.unusedVariables false

/-- The trees' boxes, and the copy's. -/
structure SS9 (w W : World) (h h2 : TH) (p q : Tr) (g7 : Nat) (h3 : TH) : Prop where
  k : TK9 w W h h2 p q
  ob : Box W 25 g7 h3
  oi : InTree W h3 p
theorem SS9.below {w W W' : World} {h h2 : TH} {p q : Tr} {g7 : Nat} {h3 : TH} (x : SS9 w W h h2 p q g7 h3) (hb : Below W.heap.size W W') : SS9 w W' h h2 p q g7 h3 := ⟨x.k.below hb, x.ob.below hb x.ob.lt, x.oi.lower hb⟩
set_option maxRecDepth 100000 in
set_option maxHeartbeats 8000000 in
theorem clashStays_law (x : Int) (p q : Tr) (h h2 : TH) (w : World) (ht : InTree w h p) (ht2 : InTree w h2 q) (hT : TabLies w) (hx1 : -9223372036854775808 ≤ x) (hx2 : x ≤ 9223372036854775807) :
    Calls Tryd.prog 7 #[.int .i64 x, h.v, h2.v] w (Says w (.bool true)) := by
  unfold TH.v
  have HD := Lib.hid (TK9.enter w h h2 p q ht ht2)
  have HT := Lib.hid hT
  clear hT ht ht2
  go_enter Tryd.func7, Tryd.ntmps7
  go_upto_region 1 with fail
  generalize ((w.alloc (.cells #[.int .i64 h.k, .slice h.ka h.kn h.kc, .slice h.va h.vn h.vc, .slice h.da h.dn h.dc, .slice h.ta h.tn h.tc] 25)).alloc (.cells #[.int .i64 h2.k, .slice h2.ka h2.kn h2.kc, .slice h2.va h2.vn h2.vc, .slice h2.da h2.dn h2.dc, .slice h2.ta h2.tn h2.tc] 25)) = w0 at *
  go_upto_region 2 with (first
    | (go_at_call 8
       refine (up9_any _ (HT.out.below HD.out.b (Nat.le_refl _))).mono ?_
       rintro _ w1 ⟨rfl, hb1⟩
       have HD1 := Lib.hid (HD.out.below hb1)
       clear hb1))
  go_cut [29] (fun s29 wx => ∃ b : Bool, s29 = .bool b ∧ TK9 w wx h h2 p q ∧ (b = false → LightOK p ∧ countT p ≤ 200 ∧ countT q ≤ 200))
  case first =>
    obtain ⟨x0, x1, x2, x3, x4⟩ := HD1.out.b1.cells
    obtain ⟨y0, y1, y2, y3, y4⟩ := HD1.out.b2.cells
    go_wp2_with (first
      | (go_at_call 9
         have hck : ∀ W, InTree W h p → Calls Tryd.prog 9 #[.agg #[.int .i64 h.k, .slice h.ka h.kn h.kc, .slice h.va h.vn h.vc, .slice h.da h.dn h.dc, .slice h.ta h.tn h.tc]] W (fun e w' => ∃ b, e = .returned (.bool b) ∧ (b = true → LightOK p ∧ countT p ≤ 200) ∧ Below W.heap.size W w') := fun W a => small9_any p h W a
         (with_reducible refine (hck _ ?_).mono ?_)
         · exact HD1.out.t1
         rintro _ w2 ⟨s2, rfl, hok2, hb2⟩
         have HD2 := Lib.hid (HD1.out.below hb2)
         have HK2 := Lib.hid hok2
         clear hck hok2 hb2 x0 x1 x2 x3 x4 y0 y1 y2 y3 y4
         obtain ⟨y0, y1, y2, y3, y4⟩ := HD2.out.b2.cells)
      | (go_at_call 9
         have hck : ∀ W, InTree W h2 q → Calls Tryd.prog 9 #[.agg #[.int .i64 h2.k, .slice h2.ka h2.kn h2.kc, .slice h2.va h2.vn h2.vc, .slice h2.da h2.dn h2.dc, .slice h2.ta h2.tn h2.tc]] W (fun e w' => ∃ b, e = .returned (.bool b) ∧ (b = true → LightOK q ∧ countT q ≤ 200) ∧ Below W.heap.size W w') := fun W a => small9_any q h2 W a
         (with_reducible refine (hck _ ?_).mono ?_)
         · exact HD2.out.t2
         rintro _ w3 ⟨s3, rfl, hok3, hb3⟩
         have HD3 := Lib.hid (HD2.out.below hb3)
         have HK3 := Lib.hid hok3
         clear hck hok3 hb3 y0 y1 y2 y3 y4
         skip))
    · go_meet
      cases s3 with
      | true => exact ⟨false, rfl, HD3.out, fun _ => ⟨(HK2.out (by assumption)).1, (HK2.out (by assumption)).2, (HK3.out rfl).2⟩⟩
      | false => exact ⟨true, rfl, HD3.out, fun q => (by cases q)⟩
    · go_meet
      exact ⟨true, rfl, HD2.out, fun q => (by cases q)⟩
  case rest =>
    obtain ⟨b, rfl, hd, hcc⟩ := hcut
    have HD4 := Lib.hid hd
    have HCC := Lib.hid hcc
    clear hd hcc HD1 HD
    cases b with
    | true =>
      go_wp2_with fail
      go_ret
      exact ⟨rfl, HD4.out.b⟩
    | false =>
    obtain ⟨hlo, hc1, hc2⟩ := HCC.out rfl
    have HLO := Lib.hid hlo
    clear hlo
    clear HCC
    obtain ⟨r, hr⟩ : ∃ r, findX x p q = r := ⟨_, rfl⟩
    have hr13 : r.1 ≤ 13 := by rw [← hr]; exact findX_le _ _ _
    have HR := Lib.hid hr
    clear hr
    obtain ⟨x0, x1, x2, x3, x4⟩ := HD4.out.b1.cells
    obtain ⟨y0, y1, y2, y3, y4⟩ := HD4.out.b2.cells
    go_upto_region 5 with (first
      | (go_at_call 20
         have hck : ∀ W W0, InTree W0 h p → Below W0.heap.size W0 W → Calls Tryd.prog 20 #[.agg #[.int .i64 h.k, .slice h.ka h.kn h.kc, .slice h.va h.vn h.vc, .slice h.da h.dn h.dc, .slice h.ta h.tn h.tc]] W (CopyOPost W0 W p) := fun W W0 a b => copyO_any W0 p h W a b HLO.out
         (with_reducible refine (hck _ _ HD4.out.t1 (Below.refl _ _)).mono ?_)
         rintro _ w5 ⟨h3, rfl, f5, hb5⟩
         unfold TH.v
         have HKW := Lib.hid HD4.out
         have HD5 := Lib.hid (HD4.out.below hb5)
         have HF5 := Lib.hid f5
         have HB5 := Lib.hid hb5
         clear hck f5 hb5))
    clear x0 x1 x2 x3 x4 y0 y1 y2 y3 y4
    have hb6 : Below w5.heap.size w5 (w5.alloc (.cells #[.int .i64 h3.k, .slice h3.ka h3.kn h3.kc, .slice h3.va h3.vn h3.vc, .slice h3.da h3.dn h3.dc, .slice h3.ta h3.tn h3.tc] 25)) := (Below.refl _ _).alloc (Nat.le_refl _) _
    have HS6 : Hid (SS9 w (w5.alloc (.cells #[.int .i64 h3.k, .slice h3.ka h3.kn h3.kc, .slice h3.va h3.vn h3.vc, .slice h3.da h3.dn h3.dc, .slice h3.ta h3.tn h3.tc] 25)) h h2 p q w5.heap.size h3) := Lib.hid ⟨HD5.out.below hb6, Box.new w5 25 h3, (HF5.out.self (Nat.le_refl _)).inTree.lower hb6⟩
    have HO6 := Lib.hid (HF5.out.below hb6 (Nat.le_refl _))
    have HBW := Lib.hid (HB5.out.trans (hb6.mono HB5.out.size))
    generalize (w5.alloc (.cells #[.int .i64 h3.k, .slice h3.ka h3.kn h3.kc, .slice h3.va h3.vn h3.vc, .slice h3.da h3.dn h3.dc, .slice h3.ta h3.tn h3.tc] 25)) = w6 at *
    generalize w5.heap.size = g7 at *
    clear hb6 HF5 HD5 HB5
    obtain ⟨x0, x1, x2, x3, x4⟩ := HS6.out.k.b1.cells
    obtain ⟨y0, y1, y2, y3, y4⟩ := HS6.out.k.b2.cells
    obtain ⟨z0, z1, z2, z3, z4⟩ := HS6.out.ob.cells
    go_upto_region 6 with (first
      | (go_at_call 10
         have hck : ∀ W, InTree W h3 p → InTree W h2 q → TabLies W → Calls Tryd.prog 10 #[.int .i64 x, .agg #[.int .i64 h3.k, .slice h3.ka h3.kn h3.kc, .slice h3.va h3.vn h3.vc, .slice h3.da h3.dn h3.dc, .slice h3.ta h3.tn h3.tc], .agg #[.int .i64 h2.k, .slice h2.ka h2.kn h2.kc, .slice h2.va h2.vn h2.vc, .slice h2.da h2.dn h2.dc, .slice h2.ta h2.tn h2.tc]] W (FindTold W (findX x p q)) := fun W a b c => find_any x hx1 hx2 p q h3 h2 W a b (by omega) (by omega) c
         (with_reducible refine (hck _ ?_ ?_ ?_).mono ?_)
         · exact HS6.out.oi
         · exact HS6.out.k.t2
         · exact HT.out.below HS6.out.k.b (Nat.le_refl _)
         rw [HR.out]
         rintro _ w7 ⟨a7, n7, c7, b7, m7, d7, rfl, f7, g7, hb7⟩
         have HS7 := Lib.hid (HS6.out.below hb7)
         have HF7 := Lib.hid (And.intro f7 g7)
         have HB7 := Lib.hid hb7
         clear hck f7 g7 hb7))
    clear x0 x1 x2 x3 x4 y0 y1 y2 y3 y4 z0 z1 z2 z3 z4
    obtain ⟨x0, x1, x2, x3, x4⟩ := HS7.out.k.b1.cells
    obtain ⟨z0, z1, z2, z3, z4⟩ := HS7.out.ob.cells
    go_upto_region 7 with (first
      | (go_at_call 21
         have hck : ∀ W, InTree W h3 p → InTree W h p → Calls Tryd.prog 21 #[.agg #[.int .i64 h3.k, .slice h3.ka h3.kn h3.kc, .slice h3.va h3.vn h3.vc, .slice h3.da h3.dn h3.dc, .slice h3.ta h3.tn h3.tc], .agg #[.int .i64 h.k, .slice h.ka h.kn h.kc, .slice h.va h.vn h.vc, .slice h.da h.dn h.dc, .slice h.ta h.tn h.tc]] W (Says W (.bool true)) := fun W a b => refSame_any p h3 h W a b
         (with_reducible refine (hck _ ?_ ?_).mono ?_)
         · exact HS7.out.oi
         · exact HS7.out.k.t1
         rintro _ w8 ⟨rfl, hb8⟩
         have HS8 := Lib.hid (HS7.out.below hb8)
         have HF8 := Lib.hid (And.intro (HF7.out.1.below hb8 (Nat.le_refl _)) (HF7.out.2.below hb8 (Nat.le_refl _)))
         have HB8 := Lib.hid hb8
         clear hck hb8))
    clear x0 x1 x2 x3 x4 z0 z1 z2 z3 z4
    have cv1 := conv_key ((HF8.out.1.wide (Nat.le_refl _) HB8.out.size) w8 (Nat.le_refl _) (fun _ _ _ => rfl))
    have cv2 := conv_key ((HF8.out.2.wide (Nat.le_refl _) HB8.out.size) w8 (Nat.le_refl _) (fun _ _ _ => rfl))
    obtain ⟨z0, z1, z2, z3, z4⟩ := HS8.out.ob.cells
    go_upto_if 50 with (first
      | (go_at_call 22
         have hck : ∀ W, InTree W h3 p → Calls Tryd.prog 22 #[.agg #[.int .i64 h3.k, .slice h3.ka h3.kn h3.kc, .slice h3.va h3.vn h3.vc, .slice h3.da h3.dn h3.dc, .slice h3.ta h3.tn h3.tc]] W (Says W (.int .i64 (checkT p))) := fun W a => refCheck_any p h3 W a
         (with_reducible refine (hck _ ?_).mono ?_)
         · exact HS8.out.oi
         rintro _ w9 ⟨rfl, hb9⟩
         have HS9 := Lib.hid (HS8.out.below hb9)
         have HB9 := Lib.hid hb9
         clear hck hb9))
    clear z0 z1 z2 z3 z4 cv1 cv2
    have HB69 : Hid (Below w6.heap.size w6 w9) := Lib.hid ((HB7.out.trans (HB8.out.mono HB7.out.size)).trans (HB9.out.mono (Nat.le_trans HB7.out.size HB8.out.size)))
    have HGL : Hid (g7 < w6.heap.size) := Lib.hid HS6.out.ob.lt
    go_cut [15] (fun s15 wx => ∃ (wb : World) (la : Option Addr) (n lc : Nat) (hs : List TH), s15 = .slice la n lc ∧ hs.length = n ∧ n ≤ 500 ∧ WS wb wx wx wb.heap.size g7 la n lc hs ∧ TK9 w wb h h2 p q ∧ Below w8.heap.size w8 wx)
    case first =>
      by_cases hck : checkT p = 0
      · have HCK := Lib.hid hck
        have hcb : ((checkT p : Int) == 0) = true := by rw [hck]; rfl
        obtain ⟨z0, z1, z2, z3, z4⟩ := HS9.out.ob.cells
        clear hck
        go_wp2_with (first
          | (go_at_call 23
             have hck : ∀ W lo, OTree W lo g7 h3 p → Calls Tryd.prog 23 #[.agg #[.int .i64 h3.k, .slice h3.ka h3.kn h3.kc, .slice h3.va h3.vn h3.vc, .slice h3.da h3.dn h3.dc, .slice h3.ta h3.tn h3.tc]] W (fun e w' => ∃ v hs, e = .returned v ∧ OwnT w' W.heap.size 25 v hs ∧ HeadsO W lo g7 hs (listT p) ∧ Below W.heap.size W w') := fun W lo a => refListO_any lo g7 p h3 W W a (Below.refl _ _) (check_zeroR HCK.out).1 (by omega)
             (with_reducible refine (hck _ _ ((HO6.out.below HB69.out (Nat.le_of_lt HGL.out)).self (Nat.le_trans (Nat.le_of_lt HGL.out) HB69.out.size))).mono ?_)
             rintro _ wa ⟨va, hs, rfl, hoa, hha, hba⟩
             obtain ⟨la, lc, hva⟩ := hoa.sl
             subst hva
             have HOA := Lib.hid hoa
             have HHA := Lib.hid hha
             have HBA := Lib.hid hba
             clear hck hoa hha hba z0 z1 z2 z3 z4))
        go_meet
        refine ⟨_, la, hs.length, lc, hs, rfl, rfl, ?_, ⟨HBW.out.trans ((HB69.out.trans (HBA.out.mono HB69.out.size)).mono HBW.out.size), rfl, Nat.le_refl _, fun _ _ _ => rfl, HOA.out.weak (Nat.zero_le _), fun i hi => ?_, fun i hi => ?_⟩, HKW.out, HB9.out.trans (HBA.out.mono HB9.out.size)⟩
        · have q1 := HHA.out.1.1
          have q2 := list_len p (check_zeroR HCK.out).1
          omega
        · obtain ⟨t', ht'⟩ := HHA.out.2 i hi
          obtain ⟨H, hp, k1, -, -⟩ := ht'.parts
          exact ⟨_, hp.key.bytes, own_keep k1.1 HBA.out, k1.2⟩
        · obtain ⟨t', ht'⟩ := HHA.out.2 i hi
          obtain ⟨H, hp, -, k2, -⟩ := ht'.parts
          exact ⟨_, hp.val.bytes, own_keep k2.1 HBA.out, k2.2⟩
      · have hcb : ((checkT p : Int) == 0) = false := by simp; omega
        go_wp2_with fail
        go_meet
        exact ⟨_, none, 0, 0, [], rfl, rfl, by omega, ⟨HBW.out.trans (HB69.out.mono HBW.out.size), rfl, Nat.le_refl _, fun _ _ _ => rfl, OwnT.nil _ _ _, fun i hi => absurd hi (Nat.not_lt_zero _), fun i hi => absurd hi (Nat.not_lt_zero _)⟩, HKW.out, HB9.out⟩
    case rest =>
      obtain ⟨wb, la, n, lc, hs, rfl, hn, hn5, hws, hkb, hbl⟩ := hcut
      have HN := Lib.hid hn
      have HV := Lib.hid hws
      have HKB := Lib.hid hkb
      have HBL := Lib.hid hbl
      clear hn hws hkb hbl
      go_upto_region 13 with fail
      obtain ⟨wl, hwl⟩ : ∃ W, W = wc := ⟨_, rfl⟩
      rw [← hwl] at HV HBL ⊢
      clear hwl
      go_loopw [16] (fun s16 wx => ∃ i : Nat, i ≤ n ∧ s16 = .int .i64 i ∧ WS wb wl wx wb.heap.size g7 la n lc hs) (fun s16 _ => n - (intOf s16).toNat)
      case atStart => exact ⟨0, by omega, rfl, HV.out⟩
      case round =>
        clear HV
        obtain ⟨i, hi, rfl, hv⟩ := hrel
        by_cases hlt : i < n
        · have q1 : (i : Int) < (n : Int) := by omega
          have him : i < hs.length := by rw [HN.out]; exact hlt
          obtain ⟨gr, hga⟩ := hv.place HN.out i him
          subst hga
          have HV := Lib.hid hv
          have hvl := hv.lenV i him
          clear hv
          generalize hvn : (hs[i]).vn = vn at *
          generalize hvc : (hs[i]).vc = vc at *
          generalize hva : (hs[i]).va = va at *
          have HVN := Lib.hid (And.intro hvn (And.intro hvc hva))
          clear hvn hvc hva
          go_upto_region 16 with fail
          go_loopw [17] (fun s17 wx => ∃ k : Nat, k ≤ vn ∧ s17 = .int .i64 k ∧ WS wb wl wx wb.heap.size g7 (some ⟨gr, 0, none⟩) n lc hs) (fun s17 _ => vn - (intOf s17).toNat)
          case atStart => exact ⟨0, by omega, rfl, HV.out⟩
          case round =>
            clear HV
            obtain ⟨k, hk, rfl, hv⟩ := hrel
            have hc := (hv.cells HN.out i him).2
            rw [HVN.out.1, HVN.out.2.1, HVN.out.2.2] at hc
            by_cases hltk : k < vn
            · have q2 : (k : Int) < (vn : Int) := by omega
              obtain ⟨gv, z, hva, hfr, hcz, hz0, hz1, hbump⟩ := hv.drew.bumpV i him k (by rw [HVN.out.1]; exact hltk)
              rw [HVN.out.2.2] at hva
              subst hva
              have hc2 : wr.drew.cell? ⟨gr, i * 5 + 2, none⟩ = some (.slice (some ⟨gv, 0, none⟩) vn vc) := hc
              have HBU := Lib.hid hbump
              have HCC := Lib.hid (And.intro hc2 hcz)
              clear hbump hv
              go_upto_region 18 with fail
              clear hc hc2 hcz
              refine region_l (S := (fun W => W.cell? ⟨gr, i * 5 + 2, none⟩ = some (.slice (some ⟨gv, 0, none⟩) vn vc) ∧ W.cell? ⟨gv, k, none⟩ = some (.int .u8 z))) 16 (by kernel_rfl) HCC.out (fun hHeld => ?_)
              refine take_l (i := 0) (oi := ?oZ23) (v := ?vZ23) ?hiZ23 (by kernel_rfl) (by kernel_rfl) (by kernel_rfl) (by kernel_rfl) ?hQZ23 ?hwZ23 ?hyZ23 (by assumption) ?restZ23
              case hiZ23 => (simp only [List.getElem?_toArray, List.getElem?_cons_zero] <;> rfl)
              case hQZ23 => exact (fun _ _ _ h => h)
              case hwZ23 => rfl
              case hyZ23 => (intro w hSw; (try dsimp only at hSw); go_simp; try with_reducible rfl)
              (try simp only [Act.put, List.setIfInBounds_toArray, List.set_cons_zero, List.set_cons_succ])
              refine take_l (i := 1) (oi := ?oZ24) (v := ?vZ24) ?hiZ24 (by kernel_rfl) (by kernel_rfl) (by kernel_rfl) (by kernel_rfl) ?hQZ24 ?hwZ24 ?hyZ24 (by assumption) ?restZ24
              case hiZ24 => (simp only [List.getElem?_toArray, List.getElem?_cons_succ, List.getElem?_cons_zero] <;> rfl)
              case hQZ24 => exact (fun _ _ _ h => h)
              case hwZ24 => rfl
              case hyZ24 => (intro w hSw; (try dsimp only at hSw); go_simp; try with_reducible rfl)
              (try simp only [Act.put, List.setIfInBounds_toArray, List.set_cons_zero, List.set_cons_succ])
              refine take_l (i := 2) (oi := ?oZ25) (v := ?vZ25) ?hiZ25 (by kernel_rfl) (by kernel_rfl) (by kernel_rfl) (by kernel_rfl) ?hQZ25 ?hwZ25 ?hyZ25 (by assumption) ?restZ25
              case hiZ25 => (simp only [List.getElem?_toArray, List.getElem?_cons_succ, List.getElem?_cons_zero] <;> rfl)
              case hQZ25 => exact (fun _ _ _ h => h)
              case hwZ25 => rfl
              case hyZ25 => (intro w hSw; (try dsimp only at hSw); go_simp; try with_reducible rfl)
              (try simp only [Act.put, List.setIfInBounds_toArray, List.set_cons_zero, List.set_cons_succ])
              refine take_l (i := 3) (oi := ?oZ26) (v := ?vZ26) ?hiZ26 (by kernel_rfl) (by kernel_rfl) (by kernel_rfl) (by kernel_rfl) ?hQZ26 ?hwZ26 ?hyZ26 (by assumption) ?restZ26
              case hiZ26 => (simp only [List.getElem?_toArray, List.getElem?_cons_succ, List.getElem?_cons_zero] <;> rfl)
              case hQZ26 => exact (fun _ _ _ h => h)
              case hwZ26 => rfl
              case hyZ26 => (intro w hSw; (try dsimp only at hSw); go_simp; try with_reducible rfl)
              (try simp only [Act.put, List.setIfInBounds_toArray, List.set_cons_zero, List.set_cons_succ])
              refine take_l (i := 4) (oi := ?oZ27) (v := ?vZ27) ?hiZ27 (by kernel_rfl) (by kernel_rfl) (by kernel_rfl) (by kernel_rfl) ?hQZ27 ?hwZ27 ?hyZ27 (by assumption) ?restZ27
              case hiZ27 => (simp only [List.getElem?_toArray, List.getElem?_cons_succ, List.getElem?_cons_zero] <;> rfl)
              case hQZ27 => exact (fun _ _ _ h => h)
              case hwZ27 => rfl
              case hyZ27 => (intro w hSw; (try dsimp only at hSw); go_simp; try with_reducible rfl)
              (try simp only [Act.put, List.setIfInBounds_toArray, List.set_cons_zero, List.set_cons_succ])
              refine take_l (i := 5) (oi := ?oZ28) (v := ?vZ28) ?hiZ28 (by kernel_rfl) (by kernel_rfl) (by kernel_rfl) (by kernel_rfl) ?hQZ28 ?hwZ28 ?hyZ28 (by assumption) ?restZ28
              case hiZ28 => (simp only [List.getElem?_toArray, List.getElem?_cons_succ, List.getElem?_cons_zero] <;> rfl)
              case hQZ28 => exact (fun _ _ _ h => h)
              case hwZ28 => rfl
              case hyZ28 => (intro w hSw; (try dsimp only at hSw); go_simp; try with_reducible rfl)
              (try simp only [Act.put, List.setIfInBounds_toArray, List.set_cons_zero, List.set_cons_succ])
              refine take_l (i := 6) (oi := ?oZ29) (v := ?vZ29) ?hiZ29 (by kernel_rfl) (by kernel_rfl) (by kernel_rfl) (by kernel_rfl) ?hQZ29 ?hwZ29 ?hyZ29 (by assumption) ?restZ29
              case hiZ29 => (simp only [List.getElem?_toArray, List.getElem?_cons_succ, List.getElem?_cons_zero] <;> rfl)
              case hQZ29 => exact (fun _ _ _ h => h)
              case hwZ29 => rfl
              case hyZ29 => (intro w hSw; (try dsimp only at hSw); go_simp; try with_reducible rfl)
              (try simp only [Act.put, List.setIfInBounds_toArray, List.set_cons_zero, List.set_cons_succ])
              refine take_l (i := 7) (oi := ?oZ30) (v := ?vZ30) ?hiZ30 (by kernel_rfl) (by kernel_rfl) (by kernel_rfl) (by kernel_rfl) ?hQZ30 ?hwZ30 ?hyZ30 (by assumption) ?restZ30
              case hiZ30 => (simp only [List.getElem?_toArray, List.getElem?_cons_succ, List.getElem?_cons_zero] <;> rfl)
              case hQZ30 => exact (fun _ _ _ h => h)
              case hwZ30 => rfl
              case hyZ30 => (intro w hSw; (try dsimp only at hSw); go_simp; try with_reducible rfl)
              (try simp only [Act.put, List.setIfInBounds_toArray, List.set_cons_zero, List.set_cons_succ])
              refine take_l (i := 8) (oi := ?oZ31) (v := ?vZ31) ?hiZ31 (by kernel_rfl) (by kernel_rfl) (by kernel_rfl) (by kernel_rfl) ?hQZ31 ?hwZ31 ?hyZ31 (by assumption) ?restZ31
              case hiZ31 => (simp only [List.getElem?_toArray, List.getElem?_cons_succ, List.getElem?_cons_zero] <;> rfl)
              case hQZ31 => exact (fun _ _ _ h => h)
              case hwZ31 => rfl
              case hyZ31 => (intro w hSw; (try dsimp only at hSw); go_simp; try with_reducible rfl)
              (try simp only [Act.put, List.setIfInBounds_toArray, List.set_cons_zero, List.set_cons_succ])
              refine take_l (i := 9) (oi := ?oZ32) (v := ?vZ32) ?hiZ32 (by kernel_rfl) (by kernel_rfl) (by kernel_rfl) (by kernel_rfl) ?hQZ32 ?hwZ32 ?hyZ32 (by assumption) ?restZ32
              case hiZ32 => (simp only [List.getElem?_toArray, List.getElem?_cons_succ, List.getElem?_cons_zero] <;> rfl)
              case hQZ32 => exact (fun _ _ _ h => h)
              case hwZ32 => rfl
              case hyZ32 => (intro w hSw; (try dsimp only at hSw); go_simp; try with_reducible rfl)
              (try simp only [Act.put, List.setIfInBounds_toArray, List.set_cons_zero, List.set_cons_succ])
              refine take_l (i := 10) (oi := ?oZ33) (v := ?vZ33) ?hiZ33 (by kernel_rfl) (by kernel_rfl) (by kernel_rfl) (by kernel_rfl) ?hQZ33 ?hwZ33 ?hyZ33 (by assumption) ?restZ33
              case hiZ33 => (simp only [List.getElem?_toArray, List.getElem?_cons_succ, List.getElem?_cons_zero] <;> rfl)
              case hQZ33 => exact (fun _ _ _ h => h)
              case hwZ33 => rfl
              case hyZ33 => (intro w hSw; (try dsimp only at hSw); go_simp; try with_reducible rfl)
              (try simp only [Act.put, List.setIfInBounds_toArray, List.set_cons_zero, List.set_cons_succ])
              refine take_l (i := 11) (oi := ?oZ34) (v := ?vZ34) ?hiZ34 (by kernel_rfl) (by kernel_rfl) (by kernel_rfl) (by kernel_rfl) ?hQZ34 ?hwZ34 ?hyZ34 (by assumption) ?restZ34
              case hiZ34 => (simp only [List.getElem?_toArray, List.getElem?_cons_succ, List.getElem?_cons_zero] <;> rfl)
              case hQZ34 => exact (fun _ _ _ h => h)
              case hwZ34 => rfl
              case hyZ34 => (intro w hSw; (try dsimp only at hSw); go_simp; try with_reducible rfl)
              (try simp only [Act.put, List.setIfInBounds_toArray, List.set_cons_zero, List.set_cons_succ])
              refine take_l (i := 12) (oi := ?oZ35) (v := ?vZ35) ?hiZ35 (by kernel_rfl) (by kernel_rfl) (by kernel_rfl) (by kernel_rfl) ?hQZ35 ?hwZ35 ?hyZ35 (by assumption) ?restZ35
              case hiZ35 => (simp only [List.getElem?_toArray, List.getElem?_cons_succ, List.getElem?_cons_zero] <;> rfl)
              case hQZ35 => exact (fun _ _ _ h => h)
              case hwZ35 => rfl
              case hyZ35 => (intro w hSw; (try dsimp only at hSw); go_simp; try with_reducible rfl)
              (try simp only [Act.put, List.setIfInBounds_toArray, List.set_cons_zero, List.set_cons_succ])
              refine take_l (i := 13) (oi := ?oZ36) (v := ?vZ36) ?hiZ36 (by kernel_rfl) (by kernel_rfl) (by kernel_rfl) (by kernel_rfl) ?hQZ36 ?hwZ36 ?hyZ36 (by assumption) ?restZ36
              case hiZ36 => (simp only [List.getElem?_toArray, List.getElem?_cons_succ, List.getElem?_cons_zero] <;> rfl)
              case hQZ36 => exact (fun _ _ _ h => h)
              case hwZ36 => rfl
              case hyZ36 => (intro w hSw; (try dsimp only at hSw); go_simp; try with_reducible rfl)
              (try simp only [Act.put, List.setIfInBounds_toArray, List.set_cons_zero, List.set_cons_succ])
              refine take_l (i := 14) (oi := ?oZ37) (v := ?vZ37) ?hiZ37 (by kernel_rfl) (by kernel_rfl) (by kernel_rfl) (by kernel_rfl) ?hQZ37 ?hwZ37 ?hyZ37 (by assumption) ?restZ37
              case hiZ37 => (simp only [List.getElem?_toArray, List.getElem?_cons_succ, List.getElem?_cons_zero] <;> rfl)
              case hQZ37 => exact (fun _ _ _ h => h)
              case hwZ37 => rfl
              case hyZ37 => (intro w hSw; (try dsimp only at hSw); go_simp; try with_reducible rfl)
              (try simp only [Act.put, List.setIfInBounds_toArray, List.set_cons_zero, List.set_cons_succ])
              refine take_l (i := 15) (oi := ?oZ38) (v := ?vZ38) ?hiZ38 (by kernel_rfl) (by kernel_rfl) (by kernel_rfl) (by kernel_rfl) ?hQZ38 ?hwZ38 ?hyZ38 (by assumption) ?restZ38
              case hiZ38 => (simp only [List.getElem?_toArray, List.getElem?_cons_succ, List.getElem?_cons_zero] <;> rfl)
              case hQZ38 => exact (fun _ _ _ h => h)
              case hwZ38 => rfl
              case hyZ38 => (intro w hSw; (try dsimp only at hSw); go_simp; try with_reducible rfl)
              (try simp only [Act.put, List.setIfInBounds_toArray, List.set_cons_zero, List.set_cons_succ])
              refine last_l (o := ?oZ39) (by kernel_rfl) ?hiZ39 (by kernel_rfl) (fun K hK => ?stZ39)
              case hiZ39 => (simp only [List.getElem?_toArray, List.getElem?_cons_succ, List.getElem?_cons_zero] <;> rfl)
              go_simp
              refine hK.out _ _ ?_
              clear hK K
              (try simp only [Act.put])
              
              clear HCC
              go_wp2_with fail
              exact ⟨⟨k + 1, by omega, by go_num, HBU.out _ (by first | omega | (rw [IntKind.wrap_u8]; omega)) (by first | omega | (rw [IntKind.wrap_u8]; omega))⟩, by simp [intOf]; omega⟩
            · obtain rfl : k = vn := by omega
              have q2 : ¬ (k : Int) < (k : Int) := by omega
              have HV3 := Lib.hid hv
              clear hv
              go_wp2_with fail
              exact ⟨⟨i + 1, by omega, by go_num, HV3.out⟩, by simp [intOf]; omega⟩
        · obtain rfl : i = n := by omega
          have q1 : ¬ (i : Int) < (i : Int) := by omega
          have HD9 := Lib.hid (HKB.out.below hv.b)
          have hagree : ∀ j, w6.heap.size ≤ j → j < w7.heap.size → wr.heap[j]? = w8.heap[j]? := fun j h1 h2 => (hv.up j (by have := HGL.out; omega) (by have q1 := HB8.out.size; have q2 := HBL.out.size; omega)).trans (HBL.out.block j (by have q1 := HB8.out.size; omega))
          have hsz : w7.heap.size ≤ wr.heap.size := Nat.le_trans HB8.out.size (Nat.le_trans HBL.out.size hv.sz)
          have HA9 : Hid (InBytes wr a7 n7 c7 r.2.1) := Lib.hid (HF8.out.1 wr hsz hagree)
          have HC9 : Hid (InBytes wr b7 m7 d7 r.2.2) := Lib.hid (HF8.out.2 wr hsz hagree)
          clear hv hagree hsz
          obtain ⟨x0, x1, x2, x3, x4⟩ := HD9.out.b1.cells
          obtain ⟨y0, y1, y2, y3, y4⟩ := HD9.out.b2.cells
          go_upto_region 20 with (first
            | (go_at_call 10
               have hck : ∀ W, InTree W h p → InTree W h2 q → TabLies W → Calls Tryd.prog 10 #[.int .i64 x, .agg #[.int .i64 h.k, .slice h.ka h.kn h.kc, .slice h.va h.vn h.vc, .slice h.da h.dn h.dc, .slice h.ta h.tn h.tc], .agg #[.int .i64 h2.k, .slice h2.ka h2.kn h2.kc, .slice h2.va h2.vn h2.vc, .slice h2.da h2.dn h2.dc, .slice h2.ta h2.tn h2.tc]] W (FindTold W (findX x p q)) := fun W a b c => find_any x hx1 hx2 p q h h2 W a b (by omega) (by omega) c
               (with_reducible refine (hck _ ?_ ?_ ?_).mono ?_)
               · exact HD9.out.t1
               · exact HD9.out.t2
               · exact HT.out.below HD9.out.b (Nat.le_refl _)
               rw [HR.out]
               rintro _ we ⟨ae, ne, ce, be, me, de, rfl, fe, ge, hbe⟩
               have HSe := Lib.hid (HD9.out.below hbe)
               have HFe := Lib.hid (And.intro fe ge)
               have HBe := Lib.hid hbe
               clear hck fe ge hbe))
          clear x0 x1 x2 x3 x4 y0 y1 y2 y3 y4
          have hcc : ((r.1 : Int) == (r.1 : Int)) = true := by simp
          have hq1 : ((strOfNums r.2.1).toList == (strOfNums r.2.1).toList) = true := by simp
          have hq2 : ((strOfNums r.2.2).toList == (strOfNums r.2.2).toList) = true := by simp
          have HAe : Hid (∀ W, Below we.heap.size we W → InBytes W a7 n7 c7 r.2.1 ∧ InBytes W b7 m7 d7 r.2.2 ∧ InBytes W ae ne ce r.2.1 ∧ InBytes W be me de r.2.2) := Lib.hid (fun W hb => ⟨(HA9.out.below HBe.out).below hb, (HC9.out.below HBe.out).below hb, (HFe.out.1 we (Nat.le_refl _) (fun _ _ _ => rfl)).below hb, (HFe.out.2 we (Nat.le_refl _) (fun _ _ _ => rfl)).below hb⟩)
          have cvs : ∀ m, (convert 22 9 (.slice a7 n7 c7)).run Tryd.prog (we.drewN m) = .ok (.string (strOfNums r.2.1)) (we.drewN m) := fun m => conv_key (HAe.out _ (below_drawn (Below.refl _ _) m)).1
          go_wp2_with (first
            | (go_at_call 13
               (with_reducible refine (code_any r.1 hr13 we).mono ?_)
               rintro _ wf ⟨rfl, mm, hwf⟩
               have hqf : Below we.heap.size we wf := by rw [hwf]; exact below_drawn (Below.refl _ _) mm
               have HQf := Lib.hid hqf
               clear hqf hwf cvs)
            | (go_at_call 13
               (with_reducible refine (code_any r.1 hr13 wf).mono ?_)
               rintro _ wg ⟨rfl, mm, hwg⟩
               have hqg : Below we.heap.size we wg := by rw [hwg]; exact below_drawn HQf.out mm
               have HQg := Lib.hid hqg
               have cv1 := conv_key (HAe.out wg hqg).1
               have cv2 := conv_key (HAe.out wg hqg).2.1
               have cv3 := conv_key (HAe.out wg hqg).2.2.1
               have cv4 := conv_key (HAe.out wg hqg).2.2.2
               clear hqg hwg))
          go_ret
          exact ⟨rfl, HSe.out.b.trans (HQg.out.mono HSe.out.b.size)⟩
end Go.Proofs.YtioifkbkllnkgaaDoor

/- A tree that is an argument of the program. -/
namespace Go.Proofs.YtioifkbkllnkgaaDoor
open Go.ChangeShapes Go.WideShapes Go.RowKit Go.Deep
set_option linter.unusedVariables false

set_option maxRecDepth 100000 in
theorem open_tree {H : Type} {enc : TypeId × Value → H} {w : World} {base : Nat} {spare : Nat → Bool} {held : Bool} {r : Reach} {b0 : Nat} {v : Value} {d : DataW H} {p : List MemPlace}
    (hv : Value.okWide Tryd.prog w r b0 25 v) (h : DataW.Trod enc Tryd.prog w base spare held 25 v d p) : ∃ hd t, v = TH.v hd ∧ InTree w hd t := by
  obtain ⟨cs, rfl, hs⟩ := okWide_struct Tryd.underlying25 hv
  obtain ⟨fuel, hf⟩ := h
  obtain ⟨hd, t, e, ht⟩ := trod_tree Tryd.underlying25 (by kernel_rfl) rfl rfl rfl rfl rfl (by kernel_rfl) (by kernel_rfl) (by kernel_rfl) (by kernel_rfl) (by kernel_rfl)
    Tryd.underlying3 Tryd.underlying22 Tryd.underlying22 Tryd.underlying22 Tryd.underlying23 Tryd.underlying5 (by kernel_rfl) fuel _ _ hf
  refine ⟨hd, t, ?_, ht⟩
  have e2 : cs = hd.cells.toArray := by
    simp only [Value.cells] at e
    rw [← e]
  rw [e2]
  rfl
end Go.Proofs.YtioifkbkllnkgaaDoor
