/- Pairs whose keys and values are rows of one's own. -/
import Derived.Test.YtpjojhmdgeejmaaScanDef
import Derived.Test.YtpjojhmdgeejmaaPrSpan
import Derived.Test.YtpjojhmdgeejmaaRefRange
namespace Go.Proofs.Ytpjojhmdgeejmaa
open Go.RowKit
set_option linter.unusedVariables false

/-- Rows of unlike types lie in unlike blocks. -/
theorem own_type {w : World} {base size n g : Nat} {e ty : TypeId} {v : Value} {xs : List Value} {cs : Array Value} {fr : Nat × Nat} (h : w.ownsRow base e size v n xs) (hg : v.ownBlock = some g) (hh : w.heap[g]? = some (.cells cs ty fr)) : ty = e := by
  rcases h.2 with ⟨rfl, _⟩ | ⟨g', c, cur, rfl, _, hq, _⟩
  · cases hg
  · have e1 : g' = g := Option.some.inj hg
    subst e1
    rw [hq] at hh
    injection hh with hh
    injection hh with _ hh
    exact hh.symm
theorem own_apart {w : World} {base base' size size' n n' : Nat} {e e' : TypeId} {v v' : Value} {xs xs' : List Value} (h : w.ownsRow base e size v n xs) (h' : w.ownsRow base' e' size' v' n' xs') (hne : e ≠ e') : v.ownBlock = none ∨ v.ownBlock ≠ v'.ownBlock := by
  rcases h.2 with ⟨rfl, _⟩ | ⟨g, c, cur, rfl, _, hq, _⟩
  · exact .inl rfl
  · right
    intro q
    exact hne (own_type h' q.symm hq)
theorem own_weak {w : World} {base base' size n : Nat} {e : TypeId} {v : Value} {xs : List Value} (h : w.ownsRow base e size v n xs) (hb : base' ≤ base) : w.ownsRow base' e size v n xs := by
  rcases h.2 with q | ⟨g, c, cur, q1, q2, q3⟩
  · exact ⟨h.1, .inl q⟩
  · exact ⟨h.1, .inr ⟨g, c, cur, q1, Nat.le_trans hb q2, q3⟩⟩
/-- A pair whose key and value are rows of one's own. -/
structure POK (W : World) (base : Nat) (p : PH) (q : KV) : Prop where
  k : W.ownsRow base 5 1 (.slice p.ka p.kn p.kc) q.1.length (q.1.map (Value.int .u8))
  v : W.ownsRow base 5 1 (.slice p.va p.vn p.vc) q.2.length (q.2.map (Value.int .u8))
  kb : Bytes8 q.1
  vb : Bytes8 q.2
theorem own_in {w : World} {base n : Nat} {t : TypeId} {a : Option Addr} {m c : Nat} {zs : List Int} (h : w.ownsRow base t 1 (.slice a m c) n (zs.map (Value.int .u8))) (hb : Bytes8 zs) : InBytes w a m c zs := by
  obtain ⟨a', c', e, hi⟩ := own_any h hb
  injection e with e1 e2 e3
  subst e1 e2 e3
  exact hi
theorem POK.pair {W : World} {base : Nat} {p : PH} {q : KV} (x : POK W base p q) : InBytes W p.ka p.kn p.kc q.1 ∧ InBytes W p.va p.vn p.vc q.2 := ⟨own_in x.k x.kb, own_in x.v x.vb⟩
theorem POK.keep {W W' : World} {base : Nat} {p : PH} {q : KV} (x : POK W base p q) (hb : Below W.heap.size W W') : POK W' base p q := ⟨own_keep x.k hb, own_keep x.v hb, x.kb, x.vb⟩
theorem POK.grown {W W' : World} {base b' size n : Nat} {e : TypeId} {v : Value} {xs : List Value} {p : PH} {q : KV} (x : POK W base p q) (ho : W.ownsRow b' e size v n xs) (hne : 5 ≠ e) (hg : W.grownBy W' v.ownBlock) : POK W' base p q :=
  ⟨World.ownsRow.kept x.k hg (own_apart x.k ho hne), World.ownsRow.kept x.v hg (own_apart x.v ho hne), x.kb, x.vb⟩
/-- Many such pairs. -/
def PV (W : World) (base : Nat) (ps : List PH) (kvs : List KV) : Prop := ps.length = kvs.length ∧ ∀ i (h1 : i < ps.length) (h2 : i < kvs.length), POK W base ps[i] kvs[i]
section
variable {W W' : World} {base : Nat} {ps : List PH} {kvs : List KV}
theorem PV.nil (W : World) (base : Nat) : PV W base [] [] := ⟨rfl, fun i h1 => by simp at h1⟩
theorem PV.keep (x : PV W base ps kvs) (hb : Below W.heap.size W W') : PV W' base ps kvs := ⟨x.1, fun i h1 h2 => (x.2 i h1 h2).keep hb⟩
theorem PV.grown {b' size n : Nat} {e : TypeId} {v : Value} {xs : List Value} (x : PV W base ps kvs) (ho : W.ownsRow b' e size v n xs) (hne : 5 ≠ e) (hg : W.grownBy W' v.ownBlock) : PV W' base ps kvs := ⟨x.1, fun i h1 h2 => (x.2 i h1 h2).grown ho hne hg⟩
theorem PV.snoc (x : PV W base ps kvs) {p : PH} {q : KV} (h : POK W base p q) : PV W base (ps ++ [p]) (kvs ++ [q]) := by
  refine ⟨by simp [x.1], fun i h1 h2 => ?_⟩
  by_cases hi : i < ps.length
  · rw [List.getElem_append_left hi, List.getElem_append_left (by rw [← x.1]; exact hi)]
    exact x.2 i hi _
  · have e0 : i = ps.length := by simp at h1; omega
    subst e0
    have e2 : (kvs ++ [q])[ps.length] = q := by simp [x.1]
    rw [e2]
    simpa using h
theorem PV.pairs (x : PV W base ps kvs) : PairsIn W ps kvs := ⟨x.1, fun i h1 h2 => (x.2 i h1 h2).pair⟩
theorem PV.vals (x : PV W base ps kvs) : ValsOK W base ps := by
  intro i h hn
  have p := x.2 i h (by rw [← x.1]; exact h)
  have hin := p.pair.2
  rcases p.v.2 with ⟨q, _⟩ | ⟨g, c, cur, q, hb, hh, hc, _, hs, ht⟩
  · injection q with _ q
    omega
  · injection q with q1 q2 q3
    refine ⟨g, 0, q1, hb, (Array.getElem?_eq_some_iff.1 hh).1, fun k hk => ⟨by simp [World.frozen?, hh], ?_⟩⟩
    obtain ⟨g', off', e, _, hseg⟩ := hin.place hn
    rw [q1] at e
    injection e with e
    injection e with e4 e5
    subst e4 e5
    have hk2 : k < (kvs[i]'(by rw [← x.1]; exact h)).2.length := by rw [hin.len]; exact hk
    have hz := p.vb _ (List.getElem_mem hk2)
    exact ⟨_, hseg k hk2, hz.1, hz.2⟩
theorem ValsOK.weak {base' : Nat} (x : ValsOK W base ps) (hb : base' ≤ base) : ValsOK W base' ps := fun i h hn => by
  obtain ⟨g, off, q1, q2, q3⟩ := x i h hn
  exact ⟨g, off, q1, Nat.le_trans hb q2, q3⟩
theorem PV.weak {base' : Nat} (x : PV W base ps kvs) (hb : base' ≤ base) : PV W base' ps kvs := ⟨x.1, fun i h1 h2 => ⟨own_weak (x.2 i h1 h2).k hb, own_weak (x.2 i h1 h2).v hb, (x.2 i h1 h2).kb, (x.2 i h1 h2).vb⟩⟩
end
/-- Range's pairs, whose bytes are one's own. -/
def RangeOwn (w : World) (kvs : List KV) (e : Ending) (w' : World) : Prop := ∃ ra r rc rs, e = .returned (.tuple #[.slice ra r rc, .nilIface]) ∧ OwnR recP w' w.heap.size 49 (.slice ra r rc) rs ∧ rs.length = r ∧ PV w' w.heap.size rs kvs ∧ Below w.heap.size w w'
/-- The row of trees, the span's box, and the row of pairs of one's own. -/
structure RS (w W : World) (gs : Nat) (sp : DH) (a : Option Addr) (n c : Nat) (hs : List TH) (ts : List Tr) (rv : Value) (rs : List PH) (kvs : List KV) : Prop where
  b : Below w.heap.size w W
  o : OwnT W w.heap.size 33 (.slice a n c) hs
  hw : Heads w hs ts
  box : RBox recD W 24 gs sp
  row : OwnR recP W w.heap.size 49 rv rs
  pv : PV W w.heap.size rs kvs
section
variable {w W W' : World} {gs : Nat} {sp : DH} {a : Option Addr} {n c : Nat} {hs : List TH} {ts : List Tr} {rv rv' : Value} {rs : List PH} {kvs : List KV} {p : PH} {q : KV}
theorem RS.ls (x : RS w W gs sp a n c hs ts rv rs kvs) : LS w W a n c hs ts := ⟨x.o, x.hw.lower x.b, x.b⟩
theorem RS.below (x : RS w W gs sp a n c hs ts rv rs kvs) (hb : Below W.heap.size W W') : RS w W' gs sp a n c hs ts rv rs kvs :=
  ⟨x.b.trans (hb.mono x.b.size), x.o.keep hb, x.hw, x.box.below hb x.box.lt, x.row.keep hb, x.pv.keep hb⟩
theorem RS.drew (x : RS w W gs sp a n c hs ts rv rs kvs) : RS w W.drew gs sp a n c hs ts rv rs kvs := x.below (Below.refl _ _).drew
theorem RS.app (x : RS w W gs sp a n c hs ts rv rs kvs) (hg : W.grownBy W' rv.ownBlock) (ho : OwnR recP W' w.heap.size 49 rv' (rs ++ [p])) (hp : POK W w.heap.size p q) : RS w W' gs sp a n c hs ts rv' (rs ++ [p]) (kvs ++ [q]) :=
  ⟨x.b.grown hg x.b.size (fun j hj => (x.row.base_le hj).1), World.ownsRow.kept x.o hg (own_apart x.o x.row (by decide)), x.hw, x.box.grown hg (fun e => by have := own_type x.row e.symm x.box; exact absurd this (by decide)), ho, (x.pv.grown x.row (by decide) hg).snoc (hp.grown x.row (by decide) hg)⟩
end
/-- And a node's box. -/
structure RN (w W : World) (gs : Nat) (sp : DH) (a : Option Addr) (n c : Nat) (hs : List TH) (ts : List Tr) (rv : Value) (rs : List PH) (kvs : List KV) (g : Nat) (hh : TH) : Prop where
  r : RS w W gs sp a n c hs ts rv rs kvs
  x : Box W 33 g hh
section
variable {w W W' : World} {gs : Nat} {sp : DH} {a : Option Addr} {n c g : Nat} {hs : List TH} {ts : List Tr} {rv rv' : Value} {rs : List PH} {kvs : List KV} {p : PH} {q : KV} {hh : TH}
theorem RN.below (x : RN w W gs sp a n c hs ts rv rs kvs g hh) (hb : Below W.heap.size W W') : RN w W' gs sp a n c hs ts rv rs kvs g hh := ⟨x.r.below hb, x.x.below hb x.x.lt⟩
theorem RN.drew (x : RN w W gs sp a n c hs ts rv rs kvs g hh) : RN w W.drew gs sp a n c hs ts rv rs kvs g hh := x.below (Below.refl _ _).drew
theorem RN.app (x : RN w W gs sp a n c hs ts rv rs kvs g hh) (hg : W.grownBy W' rv.ownBlock) (ho : OwnR recP W' w.heap.size 49 rv' (rs ++ [p])) (hp : POK W w.heap.size p q) : RN w W' gs sp a n c hs ts rv' (rs ++ [p]) (kvs ++ [q]) g hh :=
  ⟨x.r.app hg ho hp, (hg.block g x.x.lt (fun e => by have := own_type x.r.row e.symm x.x; exact absurd this (by decide))).trans x.x⟩
/-- Two cells of the node: its key, its value. -/
theorem RN.two (x : RN w W gs sp a n c hs ts rv rs kvs g hh) : W.cell? ⟨g, 1, none⟩ = some (.slice hh.ka hh.kn hh.kc) ∧ W.cell? ⟨g, 2, none⟩ = some (.slice hh.va hh.vn hh.vc) := ⟨x.x.cells.2.1, x.x.cells.2.2.1⟩
end
end Go.Proofs.Ytpjojhmdgeejmaa
