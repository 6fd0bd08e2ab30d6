/- The contract of the document's Copy. The walk of the law ChunkStays. Lists of pairs that are arguments. -/
import Derived.Test.YtkcmohmfejmfoaaDoorMAA
import Derived.Test.YtkcmohmfejmfoaaDoorMDG
import Derived.Test.YtkcmohmfejmfoaaDoorMAC
import Derived.Test.YtkcmohmfejmfoaaDoorProg
/- The contract of the document's Copy. -/
namespace Go.Proofs.YtkcmohmfejmfoaaDoor
open Go.RowKit
set_option linter.unusedVariables false

theorem box_bytes {W : World} {ty : TypeId} {g off : Nat} {hh : TH} {zs : List Int} (hb : Box W ty g hh) (hs : Seg .u8 W g off zs) (h0 : 0 < zs.length) : False := by
  have h1 := hs 0 h0
  rw [cell_of_row W g (off + 0) _ _ (0, 0) hb] at h1
  rcases (by omega : off = 0 ∨ off = 1 ∨ off = 2 ∨ off = 3 ∨ off = 4 ∨ 5 ≤ off) with rfl | rfl | rfl | rfl | rfl | h5
  · simp at h1
  · simp at h1
  · simp at h1
  · simp at h1
  · simp at h1
  · rw [Array.getElem?_eq_none (by simp; omega)] at h1
    cases h1
/-- Bytes are not in a tree's box. -/
theorem InBytes.offBox {W W' : World} {ty : TypeId} {g : Nat} {hh : TH} {a : Option Addr} {n c : Nat} {zs : List Int} (h : InBytes W a n c zs) (hb : Box W ty g hh) (hg : W.grownBy W' (some g)) : InBytes W' a n c zs :=
  ⟨h.len, h.bytes, h.le, h.max, h.nil, fun h0 => by
    obtain ⟨g', off, e, hlt, hc⟩ := h.place h0
    have hne : some g' ≠ some g := fun q => by
      injection q with q
      subst q
      exact box_bytes hb hc (by rw [h.len]; exact h0)
    exact ⟨g', off, e, Nat.lt_of_lt_of_le hlt hg.size, hc.keep fun o => World.cell?_of_block (a := ⟨g', o, none⟩) (hg.block g' hlt hne)⟩⟩
/-- Bytes in blocks from lo on. -/
def NewIn (lo : Nat) (W : World) (a : Option Addr) (n c : Nat) (zs : List Int) : Prop := InBytes W a n c zs ∧ ∀ y, a = some y → lo ≤ y.block ∧ y.block < W.heap.size
theorem NewIn.below {lo : Nat} {W W' : World} {a : Option Addr} {n c : Nat} {zs : List Int} (h : NewIn lo W a n c zs) (hb : Below W.heap.size W W') : NewIn lo W' a n c zs := ⟨h.1.below hb, fun y e => ⟨(h.2 y e).1, Nat.lt_of_lt_of_le (h.2 y e).2 hb.size⟩⟩
/-- What lies there while a tree's own bytes are copied, in whatever order. -/
structure CJ (w w0 W : World) (h : TH) (t : Tr) (b1 A1 b2 A2 b3 A3 bd al st : Bool) (s7 s10 s11 s14 s15 s18 s19 s3 : Value) : Prop where
  d : Below w0.heap.size w0 W
  e1 : b1 = true → ∃ g, s7 = .slice (some ⟨g, 0, none⟩) 0 0 ∧ w0.heap.size ≤ g ∧ W.heap[g]? = some (.cells #[] 5 (0, 0))
  e2 : b2 = true → ∃ g, s11 = .slice (some ⟨g, 0, none⟩) 0 0 ∧ w0.heap.size ≤ g ∧ W.heap[g]? = some (.cells #[] 5 (0, 0))
  e3 : b3 = true → ∃ g, s15 = .slice (some ⟨g, 0, none⟩) 0 0 ∧ w0.heap.size ≤ g ∧ W.heap[g]? = some (.cells #[] 5 (0, 0))
  p1 : A1 = true → ∃ a c, s10 = .slice a h.kn c ∧ NewIn w0.heap.size W a h.kn c t.key
  p2 : A2 = true → ∃ a c, s14 = .slice a h.vn c ∧ NewIn w0.heap.size W a h.vn c t.val
  p3 : A3 = true → ∃ a c, s18 = .slice a h.dn c ∧ NewIn w0.heap.size W a h.dn c t.dig
  q : bd = true → (A1 = true ∧ A2 = true ∧ A3 = true) ∧ s19 = .agg #[.int .i64 h.k, s10, s14, s18, .slice none 0 0]
  l : al = true → st = false → ∃ g, s3 = .pointer (some ⟨g, 0, none⟩) ∧ w0.heap.size ≤ g ∧ Box W 25 g hZ
  o : st = true → al = true
  z : st = true → ∃ g a1 c1 a2 c2 a3 c3, s3 = .pointer (some ⟨g, 0, none⟩) ∧ w0.heap.size ≤ g ∧ Box W 25 g ⟨h.k, a1, h.kn, c1, a2, h.vn, c2, a3, h.dn, c3, none, 0, 0⟩ ∧ NewIn w0.heap.size W a1 h.kn c1 t.key ∧ NewIn w0.heap.size W a2 h.vn c2 t.val ∧ NewIn w0.heap.size W a3 h.dn c3 t.dig
section
variable {w w0 W W' : World} {h : TH} {t : Tr} {b1 A1 b2 A2 b3 A3 bd al st : Bool} {s7 s10 s11 s14 s15 s18 s19 s3 : Value}
theorem heap_lt' {W : World} {g : Nat} {o : Obj} (h : W.heap[g]? = some o) : g < W.heap.size := (Array.getElem?_eq_some_iff.1 h).1
theorem CJ.below (x : CJ w w0 W h t b1 A1 b2 A2 b3 A3 bd al st s7 s10 s11 s14 s15 s18 s19 s3) (hb : Below W.heap.size W W') : CJ w w0 W' h t b1 A1 b2 A2 b3 A3 bd al st s7 s10 s11 s14 s15 s18 s19 s3 :=
  ⟨x.d.trans (hb.mono x.d.size), fun q => by obtain ⟨g, h1, h2, h3⟩ := x.e1 q; exact ⟨g, h1, h2, (hb.block g (heap_lt' h3)).trans h3⟩, fun q => by obtain ⟨g, h1, h2, h3⟩ := x.e2 q; exact ⟨g, h1, h2, (hb.block g (heap_lt' h3)).trans h3⟩, fun q => by obtain ⟨g, h1, h2, h3⟩ := x.e3 q; exact ⟨g, h1, h2, (hb.block g (heap_lt' h3)).trans h3⟩,
    fun q => by obtain ⟨a, c, h1, h2⟩ := x.p1 q; exact ⟨a, c, h1, h2.below hb⟩, fun q => by obtain ⟨a, c, h1, h2⟩ := x.p2 q; exact ⟨a, c, h1, h2.below hb⟩, fun q => by obtain ⟨a, c, h1, h2⟩ := x.p3 q; exact ⟨a, c, h1, h2.below hb⟩,
    x.q, fun q r => by obtain ⟨g, h1, h2, h3⟩ := x.l q r; exact ⟨g, h1, h2, h3.below hb h3.lt⟩, x.o,
    fun q => by obtain ⟨g, a1, c1, a2, c2, a3, c3, h1, h2, h3, h4, h5, h6⟩ := x.z q; exact ⟨g, a1, c1, a2, c2, a3, c3, h1, h2, h3.below hb h3.lt, h4.below hb, h5.below hb, h6.below hb⟩⟩
end
theorem row_box0 {W : World} {t t' : TypeId} {g : Nat} {x : TH} (hne : t ≠ t') (a : W.heap[g]? = some (.cells #[] t (0, 0))) (b : Box W t' g x) : False := by
  unfold Box at b
  rw [a] at b
  injection b with b
  injection b with _ b _
  exact hne b
theorem NewIn.offBox {lo : Nat} {W W' : World} {ty : TypeId} {g : Nat} {hh : TH} {a : Option Addr} {n c : Nat} {zs : List Int} (h : NewIn lo W a n c zs) (hb : Box W ty g hh) (hg : W.grownBy W' (some g)) : NewIn lo W' a n c zs := ⟨h.1.offBox hb hg, fun y e => ⟨(h.2 y e).1, Nat.lt_of_lt_of_le (h.2 y e).2 hg.size⟩⟩
theorem CJ.fin {w w0 W W' : World} {h : TH} {t : Tr} {b1 b2 b3 : Bool} {s7 s11 s15 s19 : Value} {g : Nat} {a1 a2 a3 : Option Addr} {c1 c2 c3 : Nat} (x : CJ w w0 W h t b1 true b2 true b3 true true true false s7 (.slice a1 h.kn c1) s11 (.slice a2 h.vn c2) s15 (.slice a3 h.dn c3) s19 (.pointer (some ⟨g, 0, none⟩)))
    (n1 : NewIn w0.heap.size W a1 h.kn c1 t.key) (n2 : NewIn w0.heap.size W a2 h.vn c2 t.val) (n3 : NewIn w0.heap.size W a3 h.dn c3 t.dig) (hge : w0.heap.size ≤ g) (hbx : Box W 25 g hZ) (hbx' : Box W' 25 g ⟨h.k, a1, h.kn, c1, a2, h.vn, c2, a3, h.dn, c3, none, 0, 0⟩) (hg : W.grownBy W' (some g)) :
    CJ w w0 W' h t b1 true b2 true b3 true true true true s7 (.slice a1 h.kn c1) s11 (.slice a2 h.vn c2) s15 (.slice a3 h.dn c3) s19 (.pointer (some ⟨g, 0, none⟩)) := by
  have ne : ∀ g' : Nat, W.heap[g']? = some (Obj.cells #[] 5 (0, 0)) → W'.heap[g']? = some (Obj.cells #[] 5 (0, 0)) := fun g' h' => (hg.block g' (heap_lt' h') (fun q => by
    injection q with q
    subst q
    exact row_box0 (by decide) h' hbx)).trans h'
  exact ⟨x.d.grown hg x.d.size (fun j hj => by injection hj; omega), fun q => by obtain ⟨g, h1, h2, h3⟩ := x.e1 q; exact ⟨g, h1, h2, ne g h3⟩, fun q => by obtain ⟨g, h1, h2, h3⟩ := x.e2 q; exact ⟨g, h1, h2, ne g h3⟩, fun q => by obtain ⟨g, h1, h2, h3⟩ := x.e3 q; exact ⟨g, h1, h2, ne g h3⟩,
    fun _ => ⟨a1, c1, rfl, n1.offBox hbx hg⟩, fun _ => ⟨a2, c2, rfl, n2.offBox hbx hg⟩, fun _ => ⟨a3, c3, rfl, n3.offBox hbx hg⟩, x.q, (fun _ q => by cases q), fun _ => rfl,
    fun _ => ⟨g, a1, c1, a2, c2, a3, c3, rfl, hge, hbx', n1.offBox hbx hg, n2.offBox hbx hg, n3.offBox hbx hg⟩⟩
theorem all_mem {l : List Nat} {p : Nat → Bool} (h : l.all p = true) {i : Nat} (hi : i ∈ l) : p i = true := List.all_eq_true.1 h i hi
theorem CJ.start {w w0 W : World} {h : TH} {t : Tr} (hb : Below w0.heap.size w0 W) : CJ w w0 W h t false false false false false false false false false undef undef undef undef undef undef undef undef :=
  ⟨hb, (fun q => by cases q), (fun q => by cases q), (fun q => by cases q), (fun q => by cases q), (fun q => by cases q), (fun q => by cases q), (fun q => by cases q), (fun q => by cases q), (fun q => by cases q), (fun q => by cases q)⟩
/-- How many operations are still to come. -/
def leftB (l : Array Bool) : Nat := (l.toList.map fun x => if x then 0 else 1).sum
/-- The world inside Copy: the tree's box, the result's box. -/
structure PW (w W : World) (h : TH) : Prop where
  box : Box W 25 w.heap.size h
  res : Box W 25 (w.heap.size + 1) hZ
  b : Below w.heap.size w W
theorem PW.new (w : World) (h : TH) : PW w ((w.alloc (.cells #[.int .i64 h.k, .slice h.ka h.kn h.kc, .slice h.va h.vn h.vc, .slice h.da h.dn h.dc, .slice h.ta h.tn h.tc] 25)).alloc (.cells #[.int .i64 0, .slice none 0 0, .slice none 0 0, .slice none 0 0, .slice none 0 0] 25)) h := by
  have h1 : Below w.heap.size w (w.alloc (.cells #[.int .i64 h.k, .slice h.ka h.kn h.kc, .slice h.va h.vn h.vc, .slice h.da h.dn h.dc, .slice h.ta h.tn h.tc] 25)) := (Below.refl _ _).alloc (Nat.le_refl _) _
  have h2 : Below (w.alloc (.cells #[.int .i64 h.k, .slice h.ka h.kn h.kc, .slice h.va h.vn h.vc, .slice h.da h.dn h.dc, .slice h.ta h.tn h.tc] 25)).heap.size (w.alloc (.cells #[.int .i64 h.k, .slice h.ka h.kn h.kc, .slice h.va h.vn h.vc, .slice h.da h.dn h.dc, .slice h.ta h.tn h.tc] 25)) ((w.alloc (.cells #[.int .i64 h.k, .slice h.ka h.kn h.kc, .slice h.va h.vn h.vc, .slice h.da h.dn h.dc, .slice h.ta h.tn h.tc] 25)).alloc (.cells #[.int .i64 0, .slice none 0 0, .slice none 0 0, .slice none 0 0, .slice none 0 0] 25)) := (Below.refl _ _).alloc (Nat.le_refl _) _
  have hx := Box.new w 25 h
  have hr := Box.new (w.alloc (.cells #[.int .i64 h.k, .slice h.ka h.kn h.kc, .slice h.va h.vn h.vc, .slice h.da h.dn h.dc, .slice h.ta h.tn h.tc] 25)) 25 hZ
  have hs : (w.alloc (.cells #[.int .i64 h.k, .slice h.ka h.kn h.kc, .slice h.va h.vn h.vc, .slice h.da h.dn h.dc, .slice h.ta h.tn h.tc] 25)).heap.size = w.heap.size + 1 := by simp
  rw [hs] at hr
  exact ⟨hx.below h2 hx.lt, hr, h1.trans (h2.mono h1.size)⟩
theorem Box.setKids {W : World} {ty : TypeId} {g : Nat} {hh : TH} (hb : Box W ty g hh) (a : Option Addr) (n c : Nat) : Box (W.setCell ⟨g, 4, none⟩ (.slice a n c)) ty g ⟨hh.k, hh.ka, hh.kn, hh.kc, hh.va, hh.vn, hh.vc, hh.da, hh.dn, hh.dc, a, n, c⟩ := by
  unfold Box at hb ⊢
  simp [World.setCell, Array.getElem?_modify, hb]
theorem Box.free {W : World} {ty : TypeId} {g : Nat} {hh : TH} (hb : Box W ty g hh) (i : Nat) : W.frozen? ⟨g, i, none⟩ = false := by
  unfold Box at hb
  simp [World.frozen?, hb]
theorem results_cell1 {P : Program} {fn : Func} {p : Tmp} {ty : TypeId} (h : fn.results = #[.cell p ty]) (tmps : Array Value) {w : World} {g : Nat} {t : TypeId} {hh : TH} {fs : Array Field} (hx : Box w t g hh)
    (hp : tmps.getD p undef = .pointer (some ⟨g, 0, none⟩)) (hu : P.underlying ty = some (.struct fs)) (hi : (P.info? ty).map (·.size) = some 5) : (results fn tmps).run P w = .ok hh.v w := by
  have hp' : tmps[p]?.getD undef = .pointer (some ⟨g, 0, none⟩) := by simpa using hp
  have hl := run_loadVar_row (P := P) w g t ty _ _ (.struct fs) hx hu rfl (by simpa using hi)
  simp [results, h, hp', asAddr, hl, TH.v]
/-- What lies there while a tree's kids are copied: i of them are; L0: where their memory begins; g: the copy's box. -/
structure CL (wb w X : World) (h : TH) (t : Tr) (L0 g : Nat) (a1 : Option Addr) (c1 : Nat) (a2 : Option Addr) (c2 : Nat) (a3 : Option Addr) (c3 : Nat) (av : Option Addr) (i cv : Nat) (hs : List TH) : Prop where
  box : Box X 25 w.heap.size h
  res : Box X 25 (w.heap.size + 1) hZ
  b : Below w.heap.size w X
  out : Box X 25 g ⟨h.k, a1, h.kn, c1, a2, h.vn, c2, a3, h.dn, c3, av, i, cv⟩
  n1 : InBytes X a1 h.kn c1 t.key
  n2 : InBytes X a2 h.vn c2 t.val
  n3 : InBytes X a3 h.dn c3 t.dig
  m1 : ∀ y, a1 = some y → w.heap.size ≤ y.block ∧ y.block < L0
  m2 : ∀ y, a2 = some y → w.heap.size ≤ y.block ∧ y.block < L0
  m3 : ∀ y, a3 = some y → w.heap.size ≤ y.block ∧ y.block < L0
  og : w.heap.size + 1 < g ∧ g < L0
  L : L0 ≤ X.heap.size
  own : OwnT X L0 25 (.slice av i cv) hs
  len : hs.length = i
  fr : ∀ j (hj : j < hs.length) (hk : j < t.kids.length), ∃ lo hi, L0 ≤ lo ∧ hi ≤ X.heap.size ∧ (∀ b, (Value.slice av i cv).ownBlock = some b → b < lo ∨ hi ≤ b) ∧ From wb lo hi X hs[j] t.kids[j]
section
variable {wb w X X' : World} {h : TH} {t : Tr} {L0 g : Nat} {a1 : Option Addr} {c1 : Nat} {a2 : Option Addr} {c2 : Nat} {a3 : Option Addr} {c3 : Nat} {av : Option Addr} {i cv : Nat} {hs : List TH}
theorem CL.below (x : CL wb w X h t L0 g a1 c1 a2 c2 a3 c3 av i cv hs) (hb : Below X.heap.size X X') : CL wb w X' h t L0 g a1 c1 a2 c2 a3 c3 av i cv hs :=
  ⟨x.box.below hb x.box.lt, x.res.below hb x.res.lt, x.b.trans (hb.mono x.b.size), x.out.below hb x.out.lt, x.n1.below hb, x.n2.below hb, x.n3.below hb, x.m1, x.m2, x.m3, x.og, Nat.le_trans x.L hb.size, x.own.keep hb, x.len,
    fun j hj hk => by
      obtain ⟨lo, hi, q1, q2, q3, q4⟩ := x.fr j hj hk
      exact ⟨lo, hi, q1, Nat.le_trans q2 hb.size, q3, q4.below hb q2⟩⟩
theorem CL.drew (x : CL wb w X h t L0 g a1 c1 a2 c2 a3 c3 av i cv hs) : CL wb w X.drew h t L0 g a1 c1 a2 c2 a3 c3 av i cv hs := x.below (Below.refl _ _).drew
/-- One more kid. -/
theorem CL.next (x : CL wb w X h t L0 g a1 c1 a2 c2 a3 c3 av i cv hs) {W : World} {h' : TH} {lo hi : Nat} {a' : Option Addr} {c' : Nat} (hik : i < t.kids.length) (f : From wb lo hi X h' t.kids[i]) (hlo : L0 ≤ lo) (hhi : hi ≤ X.heap.size) (hvb : ∀ b, (Value.slice av i cv).ownBlock = some b → b < lo)
    (ho : OwnT W L0 25 (.slice a' (i + 1) c') (hs ++ [h'])) (hg : X.grownBy W (Value.slice av i cv).ownBlock) (hob : (Value.slice a' (i + 1) c').ownBlock = (Value.slice av i cv).ownBlock ∨ (Value.slice a' (i + 1) c').ownBlock = some X.heap.size) :
    CL wb w (W.setCell ⟨g, 4, none⟩ (.slice a' (i + 1) c')) h t L0 g a1 c1 a2 c2 a3 c3 a' (i + 1) c' (hs ++ [h']) := by
  have hob' := fun k (e : (Value.slice av i cv).ownBlock = some k) => x.own.lt k e
  have old : ∀ j, j < L0 → W.heap[j]? = X.heap[j]? := fun j hj => hg.block j (by have := x.L; omega) (fun q => by have := (hob' j q.symm).1; omega)
  have hout := x.out
  have boutW : Box W 25 g ⟨h.k, a1, h.kn, c1, a2, h.vn, c2, a3, h.dn, c3, av, i, cv⟩ := (old g x.og.2).trans x.out
  have hg2 : W.grownBy (W.setCell ⟨g, 4, none⟩ (.slice a' (i + 1) c')) (some g) := only_set (only_refl W _) 4 _
  have hsz : X.heap.size ≤ (W.setCell ⟨g, 4, none⟩ (.slice a' (i + 1) c')).heap.size := Nat.le_trans hg.size hg2.size
  have far : ∀ j, j ≠ g → (W.setCell ⟨g, 4, none⟩ (.slice a' (i + 1) c')).heap[j]? = W.heap[j]? := fun j hj => Below.heap_setCell W ⟨g, 4, none⟩ _ j hj
  have q1 := x.og.1
  have q2 := x.og.2
  have bytes : ∀ {a : Option Addr} {n c : Nat} {zs : List Int}, InBytes X a n c zs → (∀ y, a = some y → w.heap.size ≤ y.block ∧ y.block < L0) → InBytes (W.setCell ⟨g, 4, none⟩ (.slice a' (i + 1) c')) a n c zs := fun hi hm =>
    (hi.agree hg.size (fun ad e => old _ (hm ad e).2)).offBox boutW hg2
  have hown : OwnT (W.setCell ⟨g, 4, none⟩ (.slice a' (i + 1) c')) L0 25 (.slice a' (i + 1) c') (hs ++ [h']) := ho.far (p := ⟨g, 4, none⟩) (fun q => by have := (ho.lt g q.symm).1; omega) _
  have range : ∀ {lo hi : Nat} {hh : TH} {c : Tr}, From wb lo hi X hh c → L0 ≤ lo → hi ≤ X.heap.size → (∀ b, (Value.slice av i cv).ownBlock = some b → b < lo ∨ hi ≤ b) → From wb lo hi (W.setCell ⟨g, 4, none⟩ (.slice a' (i + 1) c')) hh c := fun {lo hi hh c} ff e1 e2 e3 Y y1 y2 y3 => ff Y y1 y2 fun j hj1 hj2 => by
    rw [y3 j hj1 hj2, far j (by omega)]
    exact hg.block j (by omega) (fun q => by have := e3 j q.symm; omega)
  have newb : ∀ {lo hi : Nat}, hi ≤ X.heap.size → (∀ b, (Value.slice av i cv).ownBlock = some b → b < lo ∨ hi ≤ b) → ∀ b, (Value.slice a' (i + 1) c').ownBlock = some b → b < lo ∨ hi ≤ b := fun {lo hi} e2 e3 b e => by
    rcases hob with q | q
    · exact e3 b (q.symm.trans e)
    · rw [q] at e
      injection e with e
      omega
  refine ⟨(far _ (by omega)).trans ((old _ (by omega)).trans x.box), (far _ (by omega)).trans ((old _ (by omega)).trans x.res), ?_, boutW.setKids a' (i + 1) c', bytes x.n1 x.m1, bytes x.n2 x.m2, bytes x.n3 x.m3, x.m1, x.m2, x.m3, x.og, Nat.le_trans x.L hsz, hown, by rw [List.length_append, x.len]; rfl, ?_⟩
  · exact (x.b.grown hg x.b.size (fun k e => by have := (hob' k e).1; omega)).setCell (show w.heap.size ≤ g by omega) _
  · intro j hj hk
    by_cases hlt : j < hs.length
    · obtain ⟨lo', hi', e1, e2, e3, e4⟩ := x.fr j hlt hk
      rw [List.getElem_append_left hlt]
      exact ⟨lo', hi', e1, Nat.le_trans e2 hsz, newb e2 e3, range e4 e1 e2 e3⟩
    · have hji : j = i := by
        have := x.len
        rw [List.length_append] at hj
        simp at hj
        omega
      subst hji
      have e0 : (hs ++ [h'])[j] = h' := by
        rw [List.getElem_append_right (by omega)]
        simp
      rw [e0]
      have hv : ∀ b, (Value.slice av j cv).ownBlock = some b → b < lo ∨ hi ≤ b := fun b e => .inl (hvb b e)
      exact ⟨lo, hi, hlo, Nat.le_trans hhi hsz, newb hhi hv, range f hlo hhi hv⟩
/-- All kids are copied, and the result is written. -/
theorem CL.fin (x : CL wb w X h t L0 g a1 c1 a2 c2 a3 c3 av i cv hs) (hi : i = h.tn) {H : Nat → TH} (hp : TreeAt wb h t H) (hg : X.grownBy X' (some (w.heap.size + 1))) :
    From wb w.heap.size X'.heap.size X' ⟨h.k, a1, h.kn, c1, a2, h.vn, c2, a3, h.dn, c3, av, i, cv⟩ t := by
  intro Y hb hs' ha
  have q1 := x.og.1
  have q2 := x.og.2
  have hsz := hg.size
  have L := x.L
  have same : ∀ j, w.heap.size + 1 < j → j < X.heap.size → Y.heap[j]? = X.heap[j]? := fun j e1 e2 => by
    rw [ha j (by omega) (by omega)]
    exact hg.block j e2 (fun q => by injection q; omega)
  have bytes : ∀ {a : Option Addr} {n c : Nat} {zs : List Int}, InBytes X a n c zs → (∀ y, a = some y → w.heap.size ≤ y.block ∧ y.block < L0) → InBytes Y a n c zs := fun hi hm =>
    (hi.offBox x.res hg).agree hs' (fun ad e => ha _ (hm ad e).1 (by have := (hm ad e).2; omega))
  refine .mk _ _ (fun j => hs.getD j hZ) hp.hk hp.hk1 hp.hk2 (bytes x.n1 x.m1) (bytes x.n2 x.m2) (bytes x.n3 x.m3) ?_ (hp.len.trans hi.symm) (fun j hj => ?_)
  · rcases x.own.form with ⟨h1, h2⟩ | ⟨g', c', h1, h2, h3, h4, h5, h6⟩
    · injection h1 with e1 e2 e3
      subst e1 e2 e3
      exact ⟨Nat.le_refl _, by simp [maxLen], fun _ => rfl, fun q => absurd q (by simp)⟩
    · injection h1 with e1 e2 e3
      subst e1 e3
      rw [x.len] at h4
      refine ⟨h4, h5, (fun q => by cases q), fun _ => ⟨g', 0, rfl, by show g' < Y.heap.size; omega, fun k hk => ?_⟩⟩
      have hk5 : k / 5 < hs.length := by
        rw [x.len]
        have : k < i * 5 := hk
        omega
      have e := h6 _ _ (cellsT_get hs (k / 5) (k % 5) hk5 (by omega))
      rw [show k / 5 * 5 + k % 5 = k by omega] at e
      rw [Nat.zero_add, World.cell?_of_block (a := ⟨g', k, none⟩) (same g' (by omega) h3), e]
      simp [List.getD, hk5]
  · have hj2 : j < hs.length := by
      rw [x.len, hi, ← hp.len]
      exact hj
    obtain ⟨lo, hi', e1, e2, _, e4⟩ := x.fr j hj2 hj
    have e : hs.getD j hZ = hs[j] := by simp [List.getD, hj2]
    rw [e]
    exact e4 Y hb (by omega) fun k k1 k2 => same k (by omega) (by omega)
end
def CopyPost (wb w : World) (t : Tr) (e : Ending) (w' : World) : Prop := ∃ h', e = .returned h'.v ∧ From wb w.heap.size w'.heap.size w' h' t ∧ Below w.heap.size w w'

set_option maxRecDepth 100000 in
set_option maxHeartbeats 8000000 in
theorem copy_any (wb : World) : ∀ (t : Tr) (h : TH) (w : World), InTree wb h t → Below wb.heap.size wb w → LightOK t →
    Calls Tryd.prog 28 #[h.v] w (CopyPost wb w t) := by
  intro t
  induction t using Tr.ind with
  | h t ih =>
  intro h w ht hbw hlo
  unfold TH.v
  obtain ⟨H, hp⟩ := ht.parts
  have htl := hp.len
  have htm := Nat.le_trans hp.sl.le hp.sl.max
  have htc := hp.sl.le
  have hkl := hp.key.len
  have hvl := hp.val.len
  have hdl := hp.dig.len
  simp only [maxLen] at htm
  obtain ⟨_, lk, lv, ld, ln, lkids⟩ := hlo
  have hkn : h.kn ≤ 3000 := by omega
  have hvn : h.vn ≤ 3000 := by omega
  have hdn : h.dn ≤ 3000 := by omega
  have htn : h.tn ≤ 500 := by omega
  have HP := Lib.hid hp
  have IH := Lib.hid ih
  have HLK := Lib.hid lkids
  have HBW := Lib.hid hbw
  have hd0 := PW.new w h
  clear hp ih ht lkids hbw hkl hvl hdl lk lv ld ln
  obtain ⟨i0, hi0, hz0, hz1, hz2⟩ := info_parts infoU8
  obtain ⟨ti, hti, htz⟩ := Option.map_eq_some_iff.1 infoTree2
  simp only [Prod.mk.injEq] at htz
  obtain ⟨hy0, hy1, hy2⟩ := htz
  go_enter Tryd.func28, Tryd.ntmps28
  go_upto_region 1 with fail
  generalize ((w.alloc (.cells #[.int .i64 h.k, .slice h.ka h.kn h.kc, .slice h.va h.vn h.vc, .slice h.da h.dn h.dc, .slice h.ta h.tn h.tc] 25)).alloc (.cells #[.int .i64 0, .slice none 0 0, .slice none 0 0, .slice none 0 0, .slice none 0 0] 25)) = w0 at *
  have HD0 := Lib.hid hd0
  clear hd0
  have HB0 := Lib.hid (HBW.out.trans (HD0.out.b.mono HBW.out.size))
  go_cut [3] (fun s3 wx => ∃ g a1 c1 a2 c2 a3 c3, s3 = .pointer (some ⟨g, 0, none⟩) ∧ w0.heap.size ≤ g ∧ Box wx 25 g ⟨h.k, a1, h.kn, c1, a2, h.vn, c2, a3, h.dn, c3, none, 0, 0⟩ ∧ NewIn w0.heap.size wx a1 h.kn c1 t.key ∧ NewIn w0.heap.size wx a2 h.vn c2 t.val ∧ NewIn w0.heap.size wx a3 h.dn c3 t.dig ∧ Below w0.heap.size w0 wx)
  case first =>
    have keepS : ∀ {W : World}, Below w0.heap.size w0 W → (fun W => W.cell? ⟨w.heap.size, 0, none⟩ = some (.int .i64 h.k) ∧ W.cell? ⟨w.heap.size, 1, none⟩ = some (.slice h.ka h.kn h.kc) ∧ W.cell? ⟨w.heap.size, 2, none⟩ = some (.slice h.va h.vn h.vc) ∧ W.cell? ⟨w.heap.size, 3, none⟩ = some (.slice h.da h.dn h.dc) ∧ W.cell? ⟨w.heap.size, 4, none⟩ = some (.slice h.ta h.tn h.tc)) W := fun {W} hb => (HD0.out.box.below hb HD0.out.box.lt).cells
    have hb0 : Below w0.heap.size w0 w0.drew := (Below.refl _ _).drew
    refine wp_region_held_drew (S := (fun W => W.cell? ⟨w.heap.size, 0, none⟩ = some (.int .i64 h.k) ∧ W.cell? ⟨w.heap.size, 1, none⟩ = some (.slice h.ka h.kn h.kc) ∧ W.cell? ⟨w.heap.size, 2, none⟩ = some (.slice h.va h.vn h.vc) ∧ W.cell? ⟨w.heap.size, 3, none⟩ = some (.slice h.da h.dn h.dc) ∧ W.cell? ⟨w.heap.size, 4, none⟩ = some (.slice h.ta h.tn h.tc))) (by kernel_rfl) (keepS hb0) (fun hHeld => ?_)
    refine take_w (i := 0) (oi := ?oZ1) (v := ?vZ1) ?hiZ1 (by kernel_rfl) (by kernel_rfl) (by kernel_rfl) ?hQZ1 ?hwZ1 ?hyZ1 (by assumption) ?restZ1
    case hiZ1 => (simp only [List.getElem?_toArray, List.getElem?_cons_zero] <;> rfl)
    case hQZ1 => exact (fun _ _ _ h => h)
    case hwZ1 => rfl
    case hyZ1 => (intro w hSw; (try dsimp only at hSw); go_simp; try with_reducible rfl)
    (try simp only [Act.put, List.setIfInBounds_toArray, List.set_cons_zero, List.set_cons_succ])
    refine take_w (i := 1) (oi := ?oZ2) (v := ?vZ2) ?hiZ2 (by kernel_rfl) (by kernel_rfl) (by kernel_rfl) ?hQZ2 ?hwZ2 ?hyZ2 (by assumption) ?restZ2
    case hiZ2 => (simp only [List.getElem?_toArray, List.getElem?_cons_succ, List.getElem?_cons_zero] <;> rfl)
    case hQZ2 => exact (fun _ _ _ h => h)
    case hwZ2 => rfl
    case hyZ2 => (intro w hSw; (try dsimp only at hSw); go_simp; try with_reducible rfl)
    (try simp only [Act.put, List.setIfInBounds_toArray, List.set_cons_zero, List.set_cons_succ])
    refine take_w (i := 3) (oi := ?oZ3) (v := ?vZ3) ?hiZ3 (by kernel_rfl) (by kernel_rfl) (by kernel_rfl) ?hQZ3 ?hwZ3 ?hyZ3 (by assumption) ?restZ3
    case hiZ3 => (simp only [List.getElem?_toArray, List.getElem?_cons_succ, List.getElem?_cons_zero] <;> rfl)
    case hQZ3 => exact (fun _ _ _ h => h)
    case hwZ3 => rfl
    case hyZ3 => (intro w hSw; (try dsimp only at hSw); go_simp; try with_reducible rfl)
    (try simp only [Act.put, List.setIfInBounds_toArray, List.set_cons_zero, List.set_cons_succ])
    refine take_w (i := 4) (oi := ?oZ4) (v := ?vZ4) ?hiZ4 (by kernel_rfl) (by kernel_rfl) (by kernel_rfl) ?hQZ4 ?hwZ4 ?hyZ4 (by assumption) ?restZ4
    case hiZ4 => (simp only [List.getElem?_toArray, List.getElem?_cons_succ, List.getElem?_cons_zero] <;> rfl)
    case hQZ4 => exact (fun _ _ _ h => h)
    case hwZ4 => rfl
    case hyZ4 => (intro w hSw; (try dsimp only at hSw); go_simp; try with_reducible rfl)
    (try simp only [Act.put, List.setIfInBounds_toArray, List.set_cons_zero, List.set_cons_succ])
    refine take_w (i := 7) (oi := ?oZ5) (v := ?vZ5) ?hiZ5 (by kernel_rfl) (by kernel_rfl) (by kernel_rfl) ?hQZ5 ?hwZ5 ?hyZ5 (by assumption) ?restZ5
    case hiZ5 => (simp only [List.getElem?_toArray, List.getElem?_cons_succ, List.getElem?_cons_zero] <;> rfl)
    case hQZ5 => exact (fun _ _ _ h => h)
    case hwZ5 => rfl
    case hyZ5 => (intro w hSw; (try dsimp only at hSw); go_simp; try with_reducible rfl)
    (try simp only [Act.put, List.setIfInBounds_toArray, List.set_cons_zero, List.set_cons_succ])
    refine take_w (i := 8) (oi := ?oZ6) (v := ?vZ6) ?hiZ6 (by kernel_rfl) (by kernel_rfl) (by kernel_rfl) ?hQZ6 ?hwZ6 ?hyZ6 (by assumption) ?restZ6
    case hiZ6 => (simp only [List.getElem?_toArray, List.getElem?_cons_succ, List.getElem?_cons_zero] <;> rfl)
    case hQZ6 => exact (fun _ _ _ h => h)
    case hwZ6 => rfl
    case hyZ6 => (intro w hSw; (try dsimp only at hSw); go_simp; try with_reducible rfl)
    (try simp only [Act.put, List.setIfInBounds_toArray, List.set_cons_zero, List.set_cons_succ])
    refine take_w (i := 11) (oi := ?oZ7) (v := ?vZ7) ?hiZ7 (by kernel_rfl) (by kernel_rfl) (by kernel_rfl) ?hQZ7 ?hwZ7 ?hyZ7 (by assumption) ?restZ7
    case hiZ7 => (simp only [List.getElem?_toArray, List.getElem?_cons_succ, List.getElem?_cons_zero] <;> rfl)
    case hQZ7 => exact (fun _ _ _ h => h)
    case hwZ7 => rfl
    case hyZ7 => (intro w hSw; (try dsimp only at hSw); go_simp; try with_reducible rfl)
    (try simp only [Act.put, List.setIfInBounds_toArray, List.set_cons_zero, List.set_cons_succ])
    refine take_w (i := 12) (oi := ?oZ8) (v := ?vZ8) ?hiZ8 (by kernel_rfl) (by kernel_rfl) (by kernel_rfl) ?hQZ8 ?hwZ8 ?hyZ8 (by assumption) ?restZ8
    case hiZ8 => (simp only [List.getElem?_toArray, List.getElem?_cons_succ, List.getElem?_cons_zero] <;> rfl)
    case hQZ8 => exact (fun _ _ _ h => h)
    case hwZ8 => rfl
    case hyZ8 => (intro w hSw; (try dsimp only at hSw); go_simp; try with_reducible rfl)
    (try simp only [Act.put, List.setIfInBounds_toArray, List.set_cons_zero, List.set_cons_succ])

    refine wpAnyH_inv (fun listed a W => ∃ (b1 A1 b2 A2 b3 A3 bd al st : Bool) (s7 s10 s11 s14 s15 s18 s19 s3 : Value), listed = #[true, true, b1, true, true, A1, b2, true, true, A2, b3, true, true, A3, bd, al, st] ∧ a = ⟨#[.agg #[.int .i64 h.k, .slice h.ka h.kn h.kc, .slice h.va h.vn h.vc, .slice h.da h.dn h.dc, .slice h.ta h.tn h.tc], .pointer (some ⟨w.heap.size, 0, none⟩), .pointer (some ⟨w.heap.size + 1, 0, none⟩), s3, undef, .pointer (some ⟨w.heap.size, 0, none⟩), .int .i64 h.k, s7, .pointer (some ⟨w.heap.size, 1, none⟩), .slice h.ka h.kn h.kc, s10, s11, .pointer (some ⟨w.heap.size, 2, none⟩), .slice h.va h.vn h.vc, s14, s15, .pointer (some ⟨w.heap.size, 3, none⟩), .slice h.da h.dn h.dc, s18, s19, undef, undef, undef, undef, undef, undef, undef, undef, undef, undef, undef, undef, undef, undef, undef, undef, undef, undef, undef], []⟩ ∧ CJ w w0 W h t b1 A1 b2 A2 b3 A3 bd al st s7 s10 s11 s14 s15 s18 s19 s3) leftB ?hstep ?hdone _ _ _ _ ⟨false, false, false, false, false, false, false, false, false, undef, undef, undef, undef, undef, undef, undef, undef, rfl, rfl, CJ.start hb0⟩ (by decide)
    case hstep =>
      rintro listed a W ⟨b1, A1, b2, A2, b3, A3, bd, al, st, s7, s10, s11, s14, s15, s18, s19, s3, rfl, rfl, hc⟩ i hi
      have hcond : (fun i : Nat => ((i == 2 && !b1) || (i == 5 && b1 && !A1) || (i == 6 && !b2) || (i == 9 && b2 && !A2) || (i == 10 && !b3) || (i == 13 && b3 && !A3) || (i == 14 && A1 && A2 && A3 && !bd) || (i == 15 && !al) || (i == 16 && al && bd && !st))) i = true := by
        refine all_mem (p := fun i : Nat => ((i == 2 && !b1) || (i == 5 && b1 && !A1) || (i == 6 && !b2) || (i == 9 && b2 && !A2) || (i == 10 && !b3) || (i == 13 && b3 && !A3) || (i == 14 && A1 && A2 && A3 && !bd) || (i == 15 && !al) || (i == 16 && al && bd && !st))) ?_ hi
        clear hi hc
        revert b1 A1 b2 A2 b3 A3 bd al st
        decide +kernel
      simp only [Bool.or_eq_true, Bool.and_eq_true, beq_iff_eq, Bool.not_eq_true'] at hcond
      clear hi
      rcases hcond with (((((((⟨rfl, rfl⟩ | ⟨⟨rfl, rfl⟩, rfl⟩) | ⟨rfl, rfl⟩) | ⟨⟨rfl, rfl⟩, rfl⟩) | ⟨rfl, rfl⟩) | ⟨⟨rfl, rfl⟩, rfl⟩) | ⟨⟨⟨⟨rfl, rfl⟩, rfl⟩, rfl⟩, rfl⟩) | ⟨rfl, rfl⟩) | ⟨⟨⟨rfl, rfl⟩, rfl⟩, rfl⟩
      · refine ⟨by simp [leftB]; try omega, wpOp_step (o := ?oS2) ?hiS2 (fun K' hK => ?_)⟩
        case hiS2 => (simp only [List.getElem?_toArray, List.getElem?_cons_succ, List.getElem?_cons_zero] <;> rfl)
        go_simp
        have hb : Below W.heap.size W (W.alloc (.cells #[] 5)) := (Below.refl _ _).alloc (Nat.le_refl _) _
        have hc' := hc.below hb
        exact hK _ _ ⟨keepS hc'.d, true, A1, b2, A2, b3, A3, bd, al, st, .slice (some ⟨W.heap.size, 0, none⟩) 0 0, s10, s11, s14, s15, s18, s19, s3, rfl, rfl, { hc' with e1 := fun _ => ⟨W.heap.size, rfl, hc.d.size, heap_alloc_new W _⟩ }⟩
      · refine ⟨by simp [leftB]; try omega, wpOp_step (o := ?oS5) ?hiS5 (fun K' hK => ?_)⟩
        case hiS5 => (simp only [List.getElem?_toArray, List.getElem?_cons_succ, List.getElem?_cons_zero] <;> rfl)
        obtain ⟨g, rfl, hge, hge2⟩ := hc.e1 rfl
        refine step_append_empty _ rfl (.tmp 7) (.tmp 9) 22 rfl 5 i0 _ Tryd.underlying22 hi0 hz0 hz1 hz2 rfl g rfl hge2 h.ka h.kn h.kc t.key rfl (HP.out.key.below (HB0.out.trans (hc.d.mono HB0.out.size))) (by omega) ?_
        intro ra rc W' hin hnw hb
        have hc' := hc.below hb
        exact hK _ _ ⟨keepS hc'.d, true, true, b2, A2, b3, A3, bd, al, st, .slice (some ⟨g, 0, none⟩) 0 0, .slice ra h.kn rc, s11, s14, s15, s18, s19, s3, rfl, rfl, { hc' with p1 := fun _ => ⟨ra, rc, rfl, hin, fun y e => ⟨(hnw y e).1.elim (fun q => by rw [q]; exact hge) (fun q => Nat.le_trans hc.d.size q), (hnw y e).2⟩⟩, q := fun hq => absurd (hc.q hq).1.1 (by decide) }⟩
      · refine ⟨by simp [leftB]; try omega, wpOp_step (o := ?oS6) ?hiS6 (fun K' hK => ?_)⟩
        case hiS6 => (simp only [List.getElem?_toArray, List.getElem?_cons_succ, List.getElem?_cons_zero] <;> rfl)
        go_simp
        have hb : Below W.heap.size W (W.alloc (.cells #[] 5)) := (Below.refl _ _).alloc (Nat.le_refl _) _
        have hc' := hc.below hb
        exact hK _ _ ⟨keepS hc'.d, b1, A1, true, A2, b3, A3, bd, al, st, s7, s10, .slice (some ⟨W.heap.size, 0, none⟩) 0 0, s14, s15, s18, s19, s3, rfl, rfl, { hc' with e2 := fun _ => ⟨W.heap.size, rfl, hc.d.size, heap_alloc_new W _⟩ }⟩
      · refine ⟨by simp [leftB]; try omega, wpOp_step (o := ?oS9) ?hiS9 (fun K' hK => ?_)⟩
        case hiS9 => (simp only [List.getElem?_toArray, List.getElem?_cons_succ, List.getElem?_cons_zero] <;> rfl)
        obtain ⟨g, rfl, hge, hge2⟩ := hc.e2 rfl
        refine step_append_empty _ rfl (.tmp 11) (.tmp 13) 22 rfl 5 i0 _ Tryd.underlying22 hi0 hz0 hz1 hz2 rfl g rfl hge2 h.va h.vn h.vc t.val rfl (HP.out.val.below (HB0.out.trans (hc.d.mono HB0.out.size))) (by omega) ?_
        intro ra rc W' hin hnw hb
        have hc' := hc.below hb
        exact hK _ _ ⟨keepS hc'.d, b1, A1, true, true, b3, A3, bd, al, st, s7, s10, .slice (some ⟨g, 0, none⟩) 0 0, .slice ra h.vn rc, s15, s18, s19, s3, rfl, rfl, { hc' with p2 := fun _ => ⟨ra, rc, rfl, hin, fun y e => ⟨(hnw y e).1.elim (fun q => by rw [q]; exact hge) (fun q => Nat.le_trans hc.d.size q), (hnw y e).2⟩⟩, q := fun hq => absurd (hc.q hq).1.2.1 (by decide) }⟩
      · refine ⟨by simp [leftB]; try omega, wpOp_step (o := ?oS10) ?hiS10 (fun K' hK => ?_)⟩
        case hiS10 => (simp only [List.getElem?_toArray, List.getElem?_cons_succ, List.getElem?_cons_zero] <;> rfl)
        go_simp
        have hb : Below W.heap.size W (W.alloc (.cells #[] 5)) := (Below.refl _ _).alloc (Nat.le_refl _) _
        have hc' := hc.below hb
        exact hK _ _ ⟨keepS hc'.d, b1, A1, b2, A2, true, A3, bd, al, st, s7, s10, s11, s14, .slice (some ⟨W.heap.size, 0, none⟩) 0 0, s18, s19, s3, rfl, rfl, { hc' with e3 := fun _ => ⟨W.heap.size, rfl, hc.d.size, heap_alloc_new W _⟩ }⟩
      · refine ⟨by simp [leftB]; try omega, wpOp_step (o := ?oS13) ?hiS13 (fun K' hK => ?_)⟩
        case hiS13 => (simp only [List.getElem?_toArray, List.getElem?_cons_succ, List.getElem?_cons_zero] <;> rfl)
        obtain ⟨g, rfl, hge, hge2⟩ := hc.e3 rfl
        refine step_append_empty _ rfl (.tmp 15) (.tmp 17) 22 rfl 5 i0 _ Tryd.underlying22 hi0 hz0 hz1 hz2 rfl g rfl hge2 h.da h.dn h.dc t.dig rfl (HP.out.dig.below (HB0.out.trans (hc.d.mono HB0.out.size))) (by omega) ?_
        intro ra rc W' hin hnw hb
        have hc' := hc.below hb
        exact hK _ _ ⟨keepS hc'.d, b1, A1, b2, A2, true, true, bd, al, st, s7, s10, s11, s14, .slice (some ⟨g, 0, none⟩) 0 0, .slice ra h.dn rc, s19, s3, rfl, rfl, { hc' with p3 := fun _ => ⟨ra, rc, rfl, hin, fun y e => ⟨(hnw y e).1.elim (fun q => by rw [q]; exact hge) (fun q => Nat.le_trans hc.d.size q), (hnw y e).2⟩⟩, q := fun hq => absurd (hc.q hq).1.2.2 (by decide) }⟩
      · refine ⟨by simp [leftB]; try omega, wpOp_step (o := ?oS14) ?hiS14 (fun K' hK => ?_)⟩
        case hiS14 => (simp only [List.getElem?_toArray, List.getElem?_cons_succ, List.getElem?_cons_zero] <;> rfl)
        obtain ⟨a1, c1, rfl, n1⟩ := hc.p1 rfl
        obtain ⟨a2, c2, rfl, n2⟩ := hc.p2 rfl
        obtain ⟨a3, c3, rfl, n3⟩ := hc.p3 rfl
        go_simp
        exact hK _ _ ⟨keepS hc.d, b1, true, b2, true, b3, true, true, al, st, s7, .slice a1 h.kn c1, s11, .slice a2 h.vn c2, s15, .slice a3 h.dn c3, .agg #[.int .i64 h.k, .slice a1 h.kn c1, .slice a2 h.vn c2, .slice a3 h.dn c3, .slice none 0 0], s3, rfl, rfl, { hc with q := fun _ => ⟨⟨rfl, rfl, rfl⟩, rfl⟩ }⟩
      · refine ⟨by simp [leftB]; try omega, wpOp_step (o := ?oS15) ?hiS15 (fun K' hK => ?_)⟩
        case hiS15 => (simp only [List.getElem?_toArray, List.getElem?_cons_succ, List.getElem?_cons_zero] <;> rfl)
        go_simp
        have hb : Below W.heap.size W (W.alloc (.cells #[.int .i64 0, .slice none 0 0, .slice none 0 0, .slice none 0 0, .slice none 0 0] 25)) := (Below.refl _ _).alloc (Nat.le_refl _) _
        have hc' := hc.below hb
        exact hK _ _ ⟨keepS hc'.d, b1, A1, b2, A2, b3, A3, bd, true, st, s7, s10, s11, s14, s15, s18, s19, .pointer (some ⟨W.heap.size, 0, none⟩), rfl, rfl, { hc' with l := fun _ _ => ⟨W.heap.size, rfl, hc.d.size, Box.new W 25 hZ⟩, o := fun _ => rfl, z := fun q => absurd (hc.o q) (by decide) }⟩
      · refine ⟨by simp [leftB]; try omega, wpOp_step (o := ?oS16) ?hiS16 (fun K' hK => ?_)⟩
        case hiS16 => (simp only [List.getElem?_toArray, List.getElem?_cons_succ, List.getElem?_cons_zero] <;> rfl)
        obtain ⟨⟨rfl, rfl, rfl⟩, rfl⟩ := hc.q rfl
        obtain ⟨a1, c1, rfl, n1⟩ := hc.p1 rfl
        obtain ⟨a2, c2, rfl, n2⟩ := hc.p2 rfl
        obtain ⟨a3, c3, rfl, n3⟩ := hc.p3 rfl
        obtain ⟨g, rfl, hge, hbx⟩ := hc.l rfl rfl
        refine step_store_box rfl 25 (.tmp 3) (.tmp 19) rfl g hZ ⟨h.k, a1, h.kn, c1, a2, h.vn, c2, a3, h.dn, c3, none, 0, 0⟩ rfl rfl 25 hbx infoTree5 ?_
        intro W' hbx' hg
        have hc' := hc.fin n1 n2 n3 hge hbx hbx' hg
        exact hK _ _ ⟨keepS hc'.d, b1, true, b2, true, b3, true, true, true, true, s7, _, s11, _, s15, _, _, _, rfl, rfl, hc'⟩
    case hdone =>
      rintro listed a W ⟨b1, A1, b2, A2, b3, A3, bd, al, st, s7, s10, s11, s14, s15, s18, s19, s3, rfl, rfl, hc⟩ hr
      have hst : st = true := by
        revert hr
        clear hc
        revert b1 A1 b2 A2 b3 A3 bd al st
        decide +kernel
      obtain ⟨g, a1, c1, a2, c2, a3, c3, rfl, q1, q2, q3, q4, q5⟩ := hc.z hst
      go_wp2_with fail
      go_meet
      exact ⟨g, a1, c1, a2, c2, a3, c3, rfl, q1, q2, q3, q4, q5, hc.d⟩
  case rest =>
    obtain ⟨g, a1, c1, a2, c2, a3, c3, rfl, q1, q2, q3, q4, q5, q6⟩ := hcut
    have hl0 : CL wb w wc h t wc.heap.size g a1 c1 a2 c2 a3 c3 none 0 0 [] :=
      ⟨HD0.out.box.below q6 HD0.out.box.lt, HD0.out.res.below q6 HD0.out.res.lt, HD0.out.b.trans (q6.mono HD0.out.b.size), q2, q3.1, q4.1, q5.1, fun y e => ⟨Nat.le_trans HD0.out.b.size (q3.2 y e).1, (q3.2 y e).2⟩, fun y e => ⟨Nat.le_trans HD0.out.b.size (q4.2 y e).1, (q4.2 y e).2⟩, fun y e => ⟨Nat.le_trans HD0.out.b.size (q5.2 y e).1, (q5.2 y e).2⟩,
        ⟨Nat.lt_of_lt_of_le HD0.out.res.lt q1, q2.lt⟩, Nat.le_refl _, OwnT.nil _ _ _, rfl, fun j hj _ => absurd hj (Nat.not_lt_zero j)⟩
    generalize hL0 : wc.heap.size = L0 at hl0
    have HL0 := Lib.hid hl0
    clear q1 q2 q3 q4 q5 q6 hl0 hL0
    go_wp2_with fail
    go_loopw [4] (fun s4 wx => ∃ (i : Nat) (av : Option Addr) (cv : Nat) (hs : List TH), i ≤ h.tn ∧ s4 = .int .i64 i ∧ CL wb w wx h t L0 g a1 c1 a2 c2 a3 c3 av i cv hs) (fun s4 _ => h.tn - (intOf s4).toNat)
    case atStart => exact ⟨0, none, 0, [], by omega, rfl, HL0.out⟩
    case round =>
      clear HL0
      obtain ⟨i, av, cv, hs, hi, rfl, hx⟩ := hrel
      have HX := Lib.hid hx
      have x4 := hx.box.cells.2.2.2.2
      clear hx
      by_cases hlt : i < h.tn
      · have q1 : (i : Int) < (h.tn : Int) := by omega
        have him : i < t.kids.length := by omega
        obtain ⟨gt, off, hta, hgt, hcs⟩ := (HP.out.below (HBW.out.trans (HX.out.b.mono HBW.out.size))).place (by omega)
        have HTA := Lib.hid hta
        have keepS : ∀ {W : World}, Box W 25 w.heap.size h → Below w.heap.size w W → (fun W => W.cell? ⟨w.heap.size, 4, none⟩ = some (.slice (some ⟨gt, off, none⟩) h.tn h.tc) ∧ W.cell? ⟨gt, off + i * 5, none⟩ = some (.int .i64 (H i).k) ∧ W.cell? ⟨gt, off + i * 5 + 1, none⟩ = some (.slice (H i).ka (H i).kn (H i).kc) ∧ W.cell? ⟨gt, off + i * 5 + 2, none⟩ = some (.slice (H i).va (H i).vn (H i).vc) ∧ W.cell? ⟨gt, off + i * 5 + 3, none⟩ = some (.slice (H i).da (H i).dn (H i).dc) ∧ W.cell? ⟨gt, off + i * 5 + 4, none⟩ = some (.slice (H i).ta (H i).tn (H i).tc)) W := fun {W} hb hbb => by
          obtain ⟨k0, k1, k2, k3, k4⟩ := (HP.out.below (HBW.out.trans (hbb.mono HBW.out.size))).cellsAt HTA.out i hlt
          exact ⟨(hb.cells.2.2.2.2).trans (by rw [HTA.out]), k0, k1, k2, k3, k4⟩
        clear hcs hgt
        go_upto_region 5 with fail
        clear x4
        have co1 := HX.out.out.cells.2.2.2.2
        refine wp_region_held_drew (S := (fun W => W.cell? ⟨w.heap.size, 4, none⟩ = some (.slice (some ⟨gt, off, none⟩) h.tn h.tc) ∧ W.cell? ⟨gt, off + i * 5, none⟩ = some (.int .i64 (H i).k) ∧ W.cell? ⟨gt, off + i * 5 + 1, none⟩ = some (.slice (H i).ka (H i).kn (H i).kc) ∧ W.cell? ⟨gt, off + i * 5 + 2, none⟩ = some (.slice (H i).va (H i).vn (H i).vc) ∧ W.cell? ⟨gt, off + i * 5 + 3, none⟩ = some (.slice (H i).da (H i).dn (H i).dc) ∧ W.cell? ⟨gt, off + i * 5 + 4, none⟩ = some (.slice (H i).ta (H i).tn (H i).tc))) (by kernel_rfl) (keepS HX.out.drew.box HX.out.drew.b) (fun hHeld => ?_)
        refine take_w (i := 0) (oi := ?oZ9) (v := ?vZ9) ?hiZ9 (by kernel_rfl) (by kernel_rfl) (by kernel_rfl) ?hQZ9 ?hwZ9 ?hyZ9 (by assumption) ?restZ9
        case hiZ9 => (simp only [List.getElem?_toArray, List.getElem?_cons_zero] <;> rfl)
        case hQZ9 => exact (fun _ _ _ h => h)
        case hwZ9 => rfl
        case hyZ9 => (intro w hSw; (try dsimp only at hSw); go_simp; try with_reducible rfl)
        (try simp only [Act.put, List.setIfInBounds_toArray, List.set_cons_zero, List.set_cons_succ])
        refine take_w (i := 2) (oi := ?oZ10) (v := ?vZ10) ?hiZ10 (by kernel_rfl) (by kernel_rfl) (by kernel_rfl) ?hQZ10 ?hwZ10 ?hyZ10 (by assumption) ?restZ10
        case hiZ10 => (simp only [List.getElem?_toArray, List.getElem?_cons_succ, List.getElem?_cons_zero] <;> rfl)
        case hQZ10 => exact (fun _ _ _ h => h)
        case hwZ10 => rfl
        case hyZ10 => (intro w hSw; (try dsimp only at hSw); go_simp; try with_reducible rfl)
        (try simp only [Act.put, List.setIfInBounds_toArray, List.set_cons_zero, List.set_cons_succ])
        refine take_w (i := 3) (oi := ?oZ11) (v := ?vZ11) ?hiZ11 (by kernel_rfl) (by kernel_rfl) (by kernel_rfl) ?hQZ11 ?hwZ11 ?hyZ11 (by assumption) ?restZ11
        case hiZ11 => (simp only [List.getElem?_toArray, List.getElem?_cons_succ, List.getElem?_cons_zero] <;> rfl)
        case hQZ11 => exact (fun _ _ _ h => h)
        case hwZ11 => rfl
        case hyZ11 => (intro w hSw; (try dsimp only at hSw); go_simp; try with_reducible rfl)
        (try simp only [Act.put, List.setIfInBounds_toArray, List.set_cons_zero, List.set_cons_succ])
        refine take_w (i := 4) (oi := ?oZ12) (v := ?vZ12) ?hiZ12 (by kernel_rfl) (by kernel_rfl) (by kernel_rfl) ?hQZ12 ?hwZ12 ?hyZ12 (by assumption) ?restZ12
        case hiZ12 => (simp only [List.getElem?_toArray, List.getElem?_cons_succ, List.getElem?_cons_zero] <;> rfl)
        case hQZ12 => exact (fun _ _ _ h => h)
        case hwZ12 => rfl
        case hyZ12 => (intro w hSw; (try dsimp only at hSw); go_simp; try with_reducible rfl)
        (try simp only [Act.put, List.setIfInBounds_toArray, List.set_cons_zero, List.set_cons_succ])
        refine take_w (i := 5) (oi := ?oZ13) (v := ?vZ13) ?hiZ13 (by kernel_rfl) (by kernel_rfl) (by kernel_rfl) ?hQZ13 ?hwZ13 ?hyZ13 (by assumption) ?restZ13
        case hiZ13 => (simp only [List.getElem?_toArray, List.getElem?_cons_succ, List.getElem?_cons_zero] <;> rfl)
        case hQZ13 => exact (fun _ _ _ h => h)
        case hwZ13 => rfl
        case hyZ13 => (intro w hSw; (try dsimp only at hSw); go_simp; try with_reducible rfl)
        (try simp only [Act.put, List.setIfInBounds_toArray, List.set_cons_zero, List.set_cons_succ])
        refine take_w (i := 6) (oi := ?oZ14) (v := ?vZ14) ?hiZ14 (by kernel_rfl) (by kernel_rfl) (by kernel_rfl) ?hQZ14 ?hwZ14 ?hyZ14 (by assumption) ?restZ14
        case hiZ14 => (simp only [List.getElem?_toArray, List.getElem?_cons_succ, List.getElem?_cons_zero] <;> rfl)
        case hQZ14 => exact (fun _ _ _ h => h)
        case hwZ14 => rfl
        case hyZ14 => (intro w hSw; (try dsimp only at hSw); go_simp; try with_reducible rfl)
        (try simp only [Act.put, List.setIfInBounds_toArray, List.set_cons_zero, List.set_cons_succ])
        refine wpAnyH_ready (rs := [1, 7]) (by kernel_rfl) (by simp) ?_
        refine AllReadyH.cons (o := ?oZ15) ?hiZ15 (fun K hK => ?stZ15) (AllReadyH.cons (o := ?oZ16) ?hiZ16 (fun K hK => ?stZ16) AllReadyH.nil)
        case hiZ15 => (simp only [List.getElem?_toArray, List.getElem?_cons_succ, List.getElem?_cons_zero] <;> rfl)
        case hiZ16 => (simp only [List.getElem?_toArray, List.getElem?_cons_succ, List.getElem?_cons_zero] <;> rfl)
        case stZ15 =>
          go_simp
          refine hK.out _ _ ?_ (fun hHeld => ?_)
          · (first | exact keepS HX5.out.box HX5.out.b | exact keepS ((HKS.out _ (by have := HX3.out.og; omega)).trans HX3.out.box) (HX3.out.b.grown (HG4.out) HX3.out.b.size (fun k e => by have := (HX3.out.own.lt k e).1; have := HX3.out.og; omega)) | exact keepS HX3.out.box HX3.out.b | exact keepS HX2.out.box HX2.out.b | exact keepS HX.out.drew.box HX.out.drew.b)
          clear hK K
          (try simp only [Act.put, List.setIfInBounds_toArray, List.set_cons_zero, List.set_cons_succ])
          refine wpAnyH_ready (rs := [7]) (by kernel_rfl) (by simp) ?_
          refine AllReadyH.cons (o := ?oZ17) ?hiZ17 (fun K hK => ?stZ17) AllReadyH.nil
          case hiZ17 => (simp only [List.getElem?_toArray, List.getElem?_cons_succ, List.getElem?_cons_zero] <;> rfl)
          go_simp
          go_at_call 28
          refine (IH.out _ (List.getElem_mem him) (H i) _ (HP.out.kids i him) (HBW.out.trans (HX.out.drew.b.mono HBW.out.size)) (HLK.out i him)).mono ?_
          rintro _ w2 ⟨h2, rfl, hf2, hb2⟩
          unfold TH.v
          have HX2 := Lib.hid (HX.out.drew.below hb2)
          have hb3 : Below w2.heap.size w2 (w2.alloc (.cells #[.int .i64 h2.k, .slice h2.ka h2.kn h2.kc, .slice h2.va h2.vn h2.vc, .slice h2.da h2.dn h2.dc, .slice h2.ta h2.tn h2.tc] 25)) := (Below.refl _ _).alloc (Nat.le_refl _) _
          have HX3 := Lib.hid (HX2.out.below hb3)
          have HF3 := Lib.hid (hf2.below hb3 (Nat.le_refl _))
          have HS3 := Lib.hid (And.intro hb2.size hb3.size)
          have HB3 := Lib.hid (Box.new w2 25 h2)
          have co2 := HX2.out.out.cells.2.2.2.2
          have co3 := HX3.out.out.cells.2.2.2.2
          clear hf2 hb2 hb3
          go_simp
          refine hK.out _ _ ?_ (fun hHeld => ?_)
          · (first | exact keepS HX5.out.box HX5.out.b | exact keepS ((HKS.out _ (by have := HX3.out.og; omega)).trans HX3.out.box) (HX3.out.b.grown (HG4.out) HX3.out.b.size (fun k e => by have := (HX3.out.own.lt k e).1; have := HX3.out.og; omega)) | exact keepS HX3.out.box HX3.out.b | exact keepS HX2.out.box HX2.out.b | exact keepS HX.out.drew.box HX.out.drew.b)
          clear hK K
          (try simp only [Act.put, List.setIfInBounds_toArray, List.set_cons_zero, List.set_cons_succ])
          refine wpAnyH_ready (rs := [8]) (by kernel_rfl) (by simp) ?_
          refine AllReadyH.cons (o := ?oZ18) ?hiZ18 (fun K hK => ?stZ18) AllReadyH.nil
          case hiZ18 => (simp only [List.getElem?_toArray, List.getElem?_cons_succ, List.getElem?_cons_zero] <;> rfl)
          go_simp
          refine hK.out _ _ ?_ (fun hHeld => ?_)
          · (first | exact keepS HX5.out.box HX5.out.b | exact keepS ((HKS.out _ (by have := HX3.out.og; omega)).trans HX3.out.box) (HX3.out.b.grown (HG4.out) HX3.out.b.size (fun k e => by have := (HX3.out.own.lt k e).1; have := HX3.out.og; omega)) | exact keepS HX3.out.box HX3.out.b | exact keepS HX2.out.box HX2.out.b | exact keepS HX.out.drew.box HX.out.drew.b)
          clear hK K
          (try simp only [Act.put, List.setIfInBounds_toArray, List.set_cons_zero, List.set_cons_succ])
          refine wpAnyH_ready (rs := [9]) (by kernel_rfl) (by simp) ?_
          refine AllReadyH.cons (o := ?oZ19) ?hiZ19 (fun K hK => ?stZ19) AllReadyH.nil
          case hiZ19 => (simp only [List.getElem?_toArray, List.getElem?_cons_succ, List.getElem?_cons_zero] <;> rfl)
          refine step_append_trees _ rfl (.tmp 28) (.tmp 35) 23 rfl L0 25 ti _ 104 Tryd.underlying23 hti hy0 hy1 hy2 rfl (.slice av i cv) hs rfl HX3.out.own w2.heap.size 1 [h2] rfl HB3.out.row (by rw [HX3.out.len]; simp only [List.length_cons, List.length_nil]; omega) (by omega) HX3.out.L ?_
          intro v4 w4 ho4 hg4 hob4
          obtain ⟨a4, c4, hv4⟩ := ho4.sl
          have hl4 : (hs ++ [h2]).length = i + 1 := by rw [List.length_append, HX3.out.len]; rfl
          rw [hl4] at hv4
          subst hv4
          have bo4 : Box w4 25 g ⟨h.k, a1, h.kn, c1, a2, h.vn, c2, a3, h.dn, c3, av, i, cv⟩ := HX3.out.out.grown hg4 (fun q => by have := (HX3.out.own.lt g q.symm).1; have := HX3.out.og.2; omega)
          have cn4 := bo4.cells.2.2.2.2
          have cf4 := bo4.free 4
          have HX5 := Lib.hid (HX3.out.next him HF3.out (Nat.le_trans HX.out.L (Nat.le_refl _)) HS3.out.2 (fun b e => (HX.out.own.lt b e).2) ho4 hg4 hob4)
          have HKS := Lib.hid (fun j (hj : j < L0) => hg4.block j (Nat.lt_of_lt_of_le hj HX3.out.L) (fun q => by have := (HX3.out.own.lt j q.symm).1; omega))
          have HBX4 := Lib.hid bo4
          have HG4 := Lib.hid hg4
          clear ho4 hg4 hob4 hl4 bo4
          refine hK.out _ _ ?_ (fun hHeld => ?_)
          · (first | exact keepS HX5.out.box HX5.out.b | exact keepS ((HKS.out _ (by have := HX3.out.og; omega)).trans HX3.out.box) (HX3.out.b.grown (HG4.out) HX3.out.b.size (fun k e => by have := (HX3.out.own.lt k e).1; have := HX3.out.og; omega)) | exact keepS HX3.out.box HX3.out.b | exact keepS HX2.out.box HX2.out.b | exact keepS HX.out.drew.box HX.out.drew.b)
          clear hK K
          (try simp only [Act.put, List.setIfInBounds_toArray, List.set_cons_zero, List.set_cons_succ])
          refine take_w (i := 10) (oi := ?oZ20) (v := ?vZ20) ?hiZ20 (by kernel_rfl) (by kernel_rfl) (by kernel_rfl) ?hQZ20 ?hwZ20 ?hyZ20 (by assumption) ?restZ20
          case hiZ20 => (simp only [List.getElem?_toArray, List.getElem?_cons_succ, List.getElem?_cons_zero] <;> rfl)
          case hQZ20 => exact (fun _ _ _ h => h)
          case hwZ20 => rfl
          case hyZ20 => (intro w hSw; (try dsimp only at hSw); go_simp; try with_reducible rfl)
          (try simp only [Act.put, List.setIfInBounds_toArray, List.set_cons_zero, List.set_cons_succ])
          refine wpAnyH_ready (rs := [11]) (by kernel_rfl) (by simp) ?_
          refine AllReadyH.cons (o := ?oZ21) ?hiZ21 (fun K hK => ?stZ21) AllReadyH.nil
          case hiZ21 => (simp only [List.getElem?_toArray, List.getElem?_cons_succ, List.getElem?_cons_zero] <;> rfl)
          go_simp
          refine hK.out _ _ ?_ (fun hHeld => ?_)
          · (first | exact keepS HX5.out.box HX5.out.b | exact keepS ((HKS.out _ (by have := HX3.out.og; omega)).trans HX3.out.box) (HX3.out.b.grown (HG4.out) HX3.out.b.size (fun k e => by have := (HX3.out.own.lt k e).1; have := HX3.out.og; omega)) | exact keepS HX3.out.box HX3.out.b | exact keepS HX2.out.box HX2.out.b | exact keepS HX.out.drew.box HX.out.drew.b)
          clear hK K
          (try simp only [Act.put])
          refine wpAnyH_done (by kernel_rfl) ?_ _
          go_wp2_with fail
          exact ⟨⟨i + 1, by omega, by go_num, a4, c4, hs ++ [h2], HX5.out⟩, by simp [intOf]; omega⟩
        case stZ16 =>
          go_simp
          go_at_call 28
          refine (IH.out _ (List.getElem_mem him) (H i) _ (HP.out.kids i him) (HBW.out.trans (HX.out.drew.b.mono HBW.out.size)) (HLK.out i him)).mono ?_
          rintro _ w2 ⟨h2, rfl, hf2, hb2⟩
          unfold TH.v
          have HX2 := Lib.hid (HX.out.drew.below hb2)
          have hb3 : Below w2.heap.size w2 (w2.alloc (.cells #[.int .i64 h2.k, .slice h2.ka h2.kn h2.kc, .slice h2.va h2.vn h2.vc, .slice h2.da h2.dn h2.dc, .slice h2.ta h2.tn h2.tc] 25)) := (Below.refl _ _).alloc (Nat.le_refl _) _
          have HX3 := Lib.hid (HX2.out.below hb3)
          have HF3 := Lib.hid (hf2.below hb3 (Nat.le_refl _))
          have HS3 := Lib.hid (And.intro hb2.size hb3.size)
          have HB3 := Lib.hid (Box.new w2 25 h2)
          have co2 := HX2.out.out.cells.2.2.2.2
          have co3 := HX3.out.out.cells.2.2.2.2
          clear hf2 hb2 hb3
          go_simp
          refine hK.out _ _ ?_ (fun hHeld => ?_)
          · (first | exact keepS HX5.out.box HX5.out.b | exact keepS ((HKS.out _ (by have := HX3.out.og; omega)).trans HX3.out.box) (HX3.out.b.grown (HG4.out) HX3.out.b.size (fun k e => by have := (HX3.out.own.lt k e).1; have := HX3.out.og; omega)) | exact keepS HX3.out.box HX3.out.b | exact keepS HX2.out.box HX2.out.b | exact keepS HX.out.drew.box HX.out.drew.b)
          clear hK K
          (try simp only [Act.put, List.setIfInBounds_toArray, List.set_cons_zero, List.set_cons_succ])
          refine wpAnyH_ready (rs := [1, 8]) (by kernel_rfl) (by simp) ?_
          refine AllReadyH.cons (o := ?oZ22) ?hiZ22 (fun K hK => ?stZ22) (AllReadyH.cons (o := ?oZ23) ?hiZ23 (fun K hK => ?stZ23) AllReadyH.nil)
          case hiZ22 => (simp only [List.getElem?_toArray, List.getElem?_cons_succ, List.getElem?_cons_zero] <;> rfl)
          case hiZ23 => (simp only [List.getElem?_toArray, List.getElem?_cons_succ, List.getElem?_cons_zero] <;> rfl)
          case stZ22 =>
            go_simp
            refine hK.out _ _ ?_ (fun hHeld => ?_)
            · (first | exact keepS HX5.out.box HX5.out.b | exact keepS ((HKS.out _ (by have := HX3.out.og; omega)).trans HX3.out.box) (HX3.out.b.grown (HG4.out) HX3.out.b.size (fun k e => by have := (HX3.out.own.lt k e).1; have := HX3.out.og; omega)) | exact keepS HX3.out.box HX3.out.b | exact keepS HX2.out.box HX2.out.b | exact keepS HX.out.drew.box HX.out.drew.b)
            clear hK K
            (try simp only [Act.put, List.setIfInBounds_toArray, List.set_cons_zero, List.set_cons_succ])
            refine wpAnyH_ready (rs := [8]) (by kernel_rfl) (by simp) ?_
            refine AllReadyH.cons (o := ?oZ24) ?hiZ24 (fun K hK => ?stZ24) AllReadyH.nil
            case hiZ24 => (simp only [List.getElem?_toArray, List.getElem?_cons_succ, List.getElem?_cons_zero] <;> rfl)
            go_simp
            refine hK.out _ _ ?_ (fun hHeld => ?_)
            · (first | exact keepS HX5.out.box HX5.out.b | exact keepS ((HKS.out _ (by have := HX3.out.og; omega)).trans HX3.out.box) (HX3.out.b.grown (HG4.out) HX3.out.b.size (fun k e => by have := (HX3.out.own.lt k e).1; have := HX3.out.og; omega)) | exact keepS HX3.out.box HX3.out.b | exact keepS HX2.out.box HX2.out.b | exact keepS HX.out.drew.box HX.out.drew.b)
            clear hK K
            (try simp only [Act.put, List.setIfInBounds_toArray, List.set_cons_zero, List.set_cons_succ])
            refine wpAnyH_ready (rs := [9]) (by kernel_rfl) (by simp) ?_
            refine AllReadyH.cons (o := ?oZ25) ?hiZ25 (fun K hK => ?stZ25) AllReadyH.nil
            case hiZ25 => (simp only [List.getElem?_toArray, List.getElem?_cons_succ, List.getElem?_cons_zero] <;> rfl)
            refine step_append_trees _ rfl (.tmp 28) (.tmp 35) 23 rfl L0 25 ti _ 104 Tryd.underlying23 hti hy0 hy1 hy2 rfl (.slice av i cv) hs rfl HX3.out.own w2.heap.size 1 [h2] rfl HB3.out.row (by rw [HX3.out.len]; simp only [List.length_cons, List.length_nil]; omega) (by omega) HX3.out.L ?_
            intro v4 w4 ho4 hg4 hob4
            obtain ⟨a4, c4, hv4⟩ := ho4.sl
            have hl4 : (hs ++ [h2]).length = i + 1 := by rw [List.length_append, HX3.out.len]; rfl
            rw [hl4] at hv4
            subst hv4
            have bo4 : Box w4 25 g ⟨h.k, a1, h.kn, c1, a2, h.vn, c2, a3, h.dn, c3, av, i, cv⟩ := HX3.out.out.grown hg4 (fun q => by have := (HX3.out.own.lt g q.symm).1; have := HX3.out.og.2; omega)
            have cn4 := bo4.cells.2.2.2.2
            have cf4 := bo4.free 4
            have HX5 := Lib.hid (HX3.out.next him HF3.out (Nat.le_trans HX.out.L (Nat.le_refl _)) HS3.out.2 (fun b e => (HX.out.own.lt b e).2) ho4 hg4 hob4)
            have HKS := Lib.hid (fun j (hj : j < L0) => hg4.block j (Nat.lt_of_lt_of_le hj HX3.out.L) (fun q => by have := (HX3.out.own.lt j q.symm).1; omega))
            have HBX4 := Lib.hid bo4
            have HG4 := Lib.hid hg4
            clear ho4 hg4 hob4 hl4 bo4
            refine hK.out _ _ ?_ (fun hHeld => ?_)
            · (first | exact keepS HX5.out.box HX5.out.b | exact keepS ((HKS.out _ (by have := HX3.out.og; omega)).trans HX3.out.box) (HX3.out.b.grown (HG4.out) HX3.out.b.size (fun k e => by have := (HX3.out.own.lt k e).1; have := HX3.out.og; omega)) | exact keepS HX3.out.box HX3.out.b | exact keepS HX2.out.box HX2.out.b | exact keepS HX.out.drew.box HX.out.drew.b)
            clear hK K
            (try simp only [Act.put, List.setIfInBounds_toArray, List.set_cons_zero, List.set_cons_succ])
            refine take_w (i := 10) (oi := ?oZ26) (v := ?vZ26) ?hiZ26 (by kernel_rfl) (by kernel_rfl) (by kernel_rfl) ?hQZ26 ?hwZ26 ?hyZ26 (by assumption) ?restZ26
            case hiZ26 => (simp only [List.getElem?_toArray, List.getElem?_cons_succ, List.getElem?_cons_zero] <;> rfl)
            case hQZ26 => exact (fun _ _ _ h => h)
            case hwZ26 => rfl
            case hyZ26 => (intro w hSw; (try dsimp only at hSw); go_simp; try with_reducible rfl)
            (try simp only [Act.put, List.setIfInBounds_toArray, List.set_cons_zero, List.set_cons_succ])
            refine wpAnyH_ready (rs := [11]) (by kernel_rfl) (by simp) ?_
            refine AllReadyH.cons (o := ?oZ27) ?hiZ27 (fun K hK => ?stZ27) AllReadyH.nil
            case hiZ27 => (simp only [List.getElem?_toArray, List.getElem?_cons_succ, List.getElem?_cons_zero] <;> rfl)
            go_simp
            refine hK.out _ _ ?_ (fun hHeld => ?_)
            · (first | exact keepS HX5.out.box HX5.out.b | exact keepS ((HKS.out _ (by have := HX3.out.og; omega)).trans HX3.out.box) (HX3.out.b.grown (HG4.out) HX3.out.b.size (fun k e => by have := (HX3.out.own.lt k e).1; have := HX3.out.og; omega)) | exact keepS HX3.out.box HX3.out.b | exact keepS HX2.out.box HX2.out.b | exact keepS HX.out.drew.box HX.out.drew.b)
            clear hK K
            (try simp only [Act.put])
            refine wpAnyH_done (by kernel_rfl) ?_ _
            go_wp2_with fail
            exact ⟨⟨i + 1, by omega, by go_num, a4, c4, hs ++ [h2], HX5.out⟩, by simp [intOf]; omega⟩
          case stZ23 =>
            go_simp
            refine hK.out _ _ ?_ (fun hHeld => ?_)
            · (first | exact keepS HX5.out.box HX5.out.b | exact keepS ((HKS.out _ (by have := HX3.out.og; omega)).trans HX3.out.box) (HX3.out.b.grown (HG4.out) HX3.out.b.size (fun k e => by have := (HX3.out.own.lt k e).1; have := HX3.out.og; omega)) | exact keepS HX3.out.box HX3.out.b | exact keepS HX2.out.box HX2.out.b | exact keepS HX.out.drew.box HX.out.drew.b)
            clear hK K
            (try simp only [Act.put, List.setIfInBounds_toArray, List.set_cons_zero, List.set_cons_succ])
            refine wpAnyH_ready (rs := [1]) (by kernel_rfl) (by simp) ?_
            refine AllReadyH.cons (o := ?oZ28) ?hiZ28 (fun K hK => ?stZ28) AllReadyH.nil
            case hiZ28 => (simp only [List.getElem?_toArray, List.getElem?_cons_succ, List.getElem?_cons_zero] <;> rfl)
            go_simp
            refine hK.out _ _ ?_ (fun hHeld => ?_)
            · (first | exact keepS HX5.out.box HX5.out.b | exact keepS ((HKS.out _ (by have := HX3.out.og; omega)).trans HX3.out.box) (HX3.out.b.grown (HG4.out) HX3.out.b.size (fun k e => by have := (HX3.out.own.lt k e).1; have := HX3.out.og; omega)) | exact keepS HX3.out.box HX3.out.b | exact keepS HX2.out.box HX2.out.b | exact keepS HX.out.drew.box HX.out.drew.b)
            clear hK K
            (try simp only [Act.put, List.setIfInBounds_toArray, List.set_cons_zero, List.set_cons_succ])
            refine wpAnyH_ready (rs := [9]) (by kernel_rfl) (by simp) ?_
            refine AllReadyH.cons (o := ?oZ29) ?hiZ29 (fun K hK => ?stZ29) AllReadyH.nil
            case hiZ29 => (simp only [List.getElem?_toArray, List.getElem?_cons_succ, List.getElem?_cons_zero] <;> rfl)
            refine step_append_trees _ rfl (.tmp 28) (.tmp 35) 23 rfl L0 25 ti _ 104 Tryd.underlying23 hti hy0 hy1 hy2 rfl (.slice av i cv) hs rfl HX3.out.own w2.heap.size 1 [h2] rfl HB3.out.row (by rw [HX3.out.len]; simp only [List.length_cons, List.length_nil]; omega) (by omega) HX3.out.L ?_
            intro v4 w4 ho4 hg4 hob4
            obtain ⟨a4, c4, hv4⟩ := ho4.sl
            have hl4 : (hs ++ [h2]).length = i + 1 := by rw [List.length_append, HX3.out.len]; rfl
            rw [hl4] at hv4
            subst hv4
            have bo4 : Box w4 25 g ⟨h.k, a1, h.kn, c1, a2, h.vn, c2, a3, h.dn, c3, av, i, cv⟩ := HX3.out.out.grown hg4 (fun q => by have := (HX3.out.own.lt g q.symm).1; have := HX3.out.og.2; omega)
            have cn4 := bo4.cells.2.2.2.2
            have cf4 := bo4.free 4
            have HX5 := Lib.hid (HX3.out.next him HF3.out (Nat.le_trans HX.out.L (Nat.le_refl _)) HS3.out.2 (fun b e => (HX.out.own.lt b e).2) ho4 hg4 hob4)
            have HKS := Lib.hid (fun j (hj : j < L0) => hg4.block j (Nat.lt_of_lt_of_le hj HX3.out.L) (fun q => by have := (HX3.out.own.lt j q.symm).1; omega))
            have HBX4 := Lib.hid bo4
            have HG4 := Lib.hid hg4
            clear ho4 hg4 hob4 hl4 bo4
            refine hK.out _ _ ?_ (fun hHeld => ?_)
            · (first | exact keepS HX5.out.box HX5.out.b | exact keepS ((HKS.out _ (by have := HX3.out.og; omega)).trans HX3.out.box) (HX3.out.b.grown (HG4.out) HX3.out.b.size (fun k e => by have := (HX3.out.own.lt k e).1; have := HX3.out.og; omega)) | exact keepS HX3.out.box HX3.out.b | exact keepS HX2.out.box HX2.out.b | exact keepS HX.out.drew.box HX.out.drew.b)
            clear hK K
            (try simp only [Act.put, List.setIfInBounds_toArray, List.set_cons_zero, List.set_cons_succ])
            refine take_w (i := 10) (oi := ?oZ30) (v := ?vZ30) ?hiZ30 (by kernel_rfl) (by kernel_rfl) (by kernel_rfl) ?hQZ30 ?hwZ30 ?hyZ30 (by assumption) ?restZ30
            case hiZ30 => (simp only [List.getElem?_toArray, List.getElem?_cons_succ, List.getElem?_cons_zero] <;> rfl)
            case hQZ30 => exact (fun _ _ _ h => h)
            case hwZ30 => rfl
            case hyZ30 => (intro w hSw; (try dsimp only at hSw); go_simp; try with_reducible rfl)
            (try simp only [Act.put, List.setIfInBounds_toArray, List.set_cons_zero, List.set_cons_succ])
            refine wpAnyH_ready (rs := [11]) (by kernel_rfl) (by simp) ?_
            refine AllReadyH.cons (o := ?oZ31) ?hiZ31 (fun K hK => ?stZ31) AllReadyH.nil
            case hiZ31 => (simp only [List.getElem?_toArray, List.getElem?_cons_succ, List.getElem?_cons_zero] <;> rfl)
            go_simp
            refine hK.out _ _ ?_ (fun hHeld => ?_)
            · (first | exact keepS HX5.out.box HX5.out.b | exact keepS ((HKS.out _ (by have := HX3.out.og; omega)).trans HX3.out.box) (HX3.out.b.grown (HG4.out) HX3.out.b.size (fun k e => by have := (HX3.out.own.lt k e).1; have := HX3.out.og; omega)) | exact keepS HX3.out.box HX3.out.b | exact keepS HX2.out.box HX2.out.b | exact keepS HX.out.drew.box HX.out.drew.b)
            clear hK K
            (try simp only [Act.put])
            refine wpAnyH_done (by kernel_rfl) ?_ _
            go_wp2_with fail
            exact ⟨⟨i + 1, by omega, by go_num, a4, c4, hs ++ [h2], HX5.out⟩, by simp [intOf]; omega⟩
      · obtain rfl : i = h.tn := by omega
        have q1 : ¬ (h.tn : Int) < (h.tn : Int) := by omega
        obtain ⟨v0, v1, v2, v3, v4⟩ := HX.out.out.cells
        go_wp2_with (first
          | (refine wpList_store_box rfl 25 (.tmp 2) (.tmp 38) rfl (w.heap.size + 1) hZ ⟨h.k, a1, h.kn, c1, a2, h.vn, c2, a3, h.dn, c3, av, h.tn, cv⟩ rfl rfl 25 HX.out.res infoTree5 ?_
             intro w9 hbx9 hg9
             have HX9 := Lib.hid hbx9
             have HF9 := Lib.hid (HX.out.fin rfl HP.out hg9)
             have HB9 : Hid (Below w.heap.size w w9) := Lib.hid (HX.out.b.grown hg9 HX.out.b.size (fun j hj => by injection hj; omega))
             clear hbx9 hg9))
        refine bodyPost_ret (v := TH.v ⟨h.k, a1, h.kn, c1, a2, h.vn, c2, a3, h.dn, c3, av, h.tn, cv⟩) (results_cell1 Tryd.results28 _ HX9.out rfl Tryd.underlying25 infoTree5) rfl ⟨_, rfl, HF9.out, HB9.out⟩
end Go.Proofs.YtkcmohmfejmfoaaDoor

/- The walk of the law ChunkStays. -/
namespace Go.Proofs.YtkcmohmfejmfoaaDoor
open Go.RowKit
set_option linter.unusedVariables false

/-- The tree's box, and its copy's. -/
structure SW11 (w W : World) (a : AT) (g2 : Nat) (h2 : TH) (g3 : Nat) (h3 : TH) : Prop where
  b2 : Box W 25 g2 h2
  t2 : InTree W h2 a.tr
  b3 : Box W 25 g3 h3
  t3 : InTree W h3 a.tr
  b : Below w.heap.size w W
theorem SW11.below {w W W' : World} {a : AT} {g2 g3 : Nat} {h2 h3 : TH} (x : SW11 w W a g2 h2 g3 h3) (hb : Below W.heap.size W W') : SW11 w W' a g2 h2 g3 h3 :=
  ⟨x.b2.below hb x.b2.lt, x.t2.lower hb, x.b3.below hb x.b3.lt, x.t3.lower hb, x.b.trans (hb.mono x.b.size)⟩
/-- The head's box, and the parts, too. -/
structure SX11 (w W : World) (a : AT) (g2 : Nat) (h2 : TH) (g3 : Nat) (h3 : TH) (g4 : Nat) (h4 : TH) (m : Nat) (a4 : Option Addr) (n4 c4 : Nat) (H4 : Nat → TH) : Prop where
  s : SW11 w W a g2 h2 g3 h3
  b4 : Box W 25 g4 h4
  t4 : InTree W h4 (headA 4 m a).tr
  ps : TreesAt W a4 n4 c4 ((partsA m a).map AT.tr) H4
theorem SX11.below {w W W' : World} {a : AT} {g2 g3 g4 : Nat} {h2 h3 h4 : TH} {m : Nat} {a4 : Option Addr} {n4 c4 : Nat} {H4 : Nat → TH} (x : SX11 w W a g2 h2 g3 h3 g4 h4 m a4 n4 c4 H4) (hb : Below W.heap.size W W') : SX11 w W' a g2 h2 g3 h3 g4 h4 m a4 n4 c4 H4 :=
  ⟨x.s.below hb, x.b4.below hb x.b4.lt, x.t4.lower hb, x.ps.below hb⟩
/-- One more tree, in a box. -/
structure TB11 (W : World) (g : Nat) (h : TH) (t : Tr) : Prop where
  bx : Box W 25 g h
  ti : InTree W h t
theorem TB11.below {W W' : World} {g : Nat} {h : TH} {t : Tr} (x : TB11 W g h t) (hb : Below W.heap.size W W') : TB11 W' g h t := ⟨x.bx.below hb x.bx.lt, x.ti.lower hb⟩

set_option maxRecDepth 100000 in
set_option maxHeartbeats 4000000 in
theorem chunkStays_law (n : Int) (la : Option Addr) (ln lc : Nat) (D : Nat → PH) (w : World) (hD : InRec recP w la ln lc D) (hq : ∀ i, i < ln → ∃ key val, InBytes w (D i).ka (D i).kn (D i).kc key ∧ InBytes w (D i).va (D i).vn (D i).vc val) (hT : TabLies w) (hn1 : -9223372036854775808 ≤ n) (hn2 : n ≤ 9223372036854775807) :
    Calls Tryd.prog 7 #[.slice la ln lc, .int .i64 n] w (Says w (.bool true)) := by
  have HT := Lib.hid hT
  have HDD := Lib.hid (And.intro hD hq)
  clear hT hD hq
  go_enter Tryd.func7, Tryd.ntmps7
  go_upto_region 3 with (first
    | (go_at_call 8
       refine (up11_any _ HT.out).mono ?_
       rintro _ w1 ⟨rfl, hb1⟩
       have HB1 := Lib.hid hb1
       clear hb1)
    | (go_at_call 23
       refine (refGrown_any la ln lc D _ (HDD.out.1.below HB1.out) (fun i hi => by obtain ⟨key, val, q1, q2⟩ := HDD.out.2 i hi; exact ⟨key, val, q1.below HB1.out, q2.below HB1.out⟩)).mono ?_
       unfold Grows Tells
       rintro _ w2 ⟨a, hgd, hln, h2, rfl, hi2, hb2⟩
       have HGD := Lib.hid (And.intro hgd hln)
       have HI2 := Lib.hid hi2
       have HB2 : Hid (Below w.heap.size w w2) := Lib.hid (HB1.out.trans (hb2.mono HB1.out.size))
       unfold TH.v
       clear hgd hln hi2 hb2)
    | (refine wpList_store_box rfl 25 (.tmp 6) (.tmp 20) rfl w2.heap.size hZ h2 rfl rfl 25 (Box.new w2 25 hZ) infoTree5 ?_
       intro w2b hbx hg
       have qq : Below w2.heap.size w2 w2b := ((Below.refl w2.heap.size w2).alloc (Nat.le_refl _) _).grown hg (by simp) (fun j hj => by injection hj; omega)
       have HX3 : Hid (Box w2b 25 w2.heap.size h2 ∧ InTree w2b h2 a.tr ∧ Below w.heap.size w w2b) := Lib.hid ⟨hbx, HI2.out.lower qq, HB2.out.trans (qq.mono HB2.out.size)⟩
       clear hbx hg qq))
  generalize w2.heap.size = g2 at *
  clear HI2 HB2 HB1
  have HCK : Hid (checkT a.tr = 0) := Lib.hid (AT.checked HGD.out.1.lim (Nat.le_trans (AT.depth_le a) (by have := HGD.out.2; omega)))
  have HCN : Hid (countT a.tr ≤ 500) := Lib.hid (count_small8 HGD.out.2)
  obtain ⟨x0, x1, x2, x3, x4⟩ := HX3.out.1.cells
  go_upto_if 24 with (first
    | (go_at_call 28
       refine (copy_any _ a.tr h2 _ HX3.out.2.1 (Below.refl _ _) (AT.lightX a HGD.out.1.lim)).mono ?_
       unfold CopyPost TH.v
       rintro _ w3 ⟨h3, rfl, hf3, hb3⟩
       have HF3 : Hid (InTree w3 h3 a.tr) := Lib.hid (hf3.self hb3 (Nat.le_refl _))
       have HX4 : Hid (Box w3 25 g2 h2 ∧ InTree w3 h2 a.tr ∧ Below w.heap.size w w3) := Lib.hid ⟨HX3.out.1.below hb3 HX3.out.1.lt, HX3.out.2.1.lower hb3, HX3.out.2.2.trans (hb3.mono HX3.out.2.2.size)⟩
       clear hf3 hb3 x0 x1 x2 x3 x4)
    | (refine wpList_store_box rfl 25 (.tmp 7) (.tmp 22) rfl w3.heap.size hZ h3 rfl rfl 25 (Box.new w3 25 hZ) infoTree5 ?_
       intro w3b hbx hg
       have qq : Below w3.heap.size w3 w3b := ((Below.refl w3.heap.size w3).alloc (Nat.le_refl _) _).grown hg (by simp) (fun j hj => by injection hj; omega)
       have HS5 : Hid (SW11 w w3b a g2 h2 w3.heap.size h3) := Lib.hid ⟨HX4.out.1.below qq HX4.out.1.lt, HX4.out.2.1.lower qq, hbx, HF3.out.lower qq, HX4.out.2.2.trans (qq.mono HX4.out.2.2.size)⟩
       clear hbx hg qq))
  generalize w3.heap.size = g3 at *
  clear HX3 HX4 HF3
  go_cut [1] (fun s1 wx => ∃ q : Nat, s1 = .int .i64 q ∧ (q : Int) ≤ 9223372036854775807 ∧ wx = w3b)
  case first =>
    by_cases hneg : n < 0
    · have e1 : IntKind.i64.wrap (n + 1) = n + 1 := IntWalk.i64_in _ (by omega)
      have e2 : IntKind.i64.wrap (-(n + 1)) = -(n + 1) := IntWalk.i64_in _ (by omega)
      go_wp2_with fail
      go_meet
      exact ⟨(-(n + 1)).toNat, by rw [Int.toNat_of_nonneg (by omega)], by omega, rfl⟩
    · go_wp2_with fail
      go_meet
      exact ⟨n.toNat, by rw [Int.toNat_of_nonneg (by omega)], by omega, rfl⟩
  case rest =>
  obtain ⟨q, rfl, hq2, rfl⟩ := hcut
  obtain ⟨m, hm⟩ : ∃ m, q % 8 = m := ⟨_, rfl⟩
  have hm8 : m < 8 := by rw [← hm]; exact Nat.mod_lt _ (by omega)
  have em : Int.tmod (q : Int) 8 = (m : Int) := (Int.tmod_eq_emod_of_nonneg (by omega)).trans (by omega)
  have e64 : IntKind.i64.wrap (m : Int) = (m : Int) := IntWalk.i64_in _ (by omega)
  clear hm
  obtain ⟨x0, x1, x2, x3, x4⟩ := HS5.out.b3.cells
  go_upto_region 7 with (first
    | (go_at_call 10
       have hcg : cutX 4 a.tr (m : Int) = (0, (headA 4 m a).tr, (partsA m a).map AT.tr) := cut_good (k := 4) (m := m) (by omega) (by omega) (by omega) HCK.out
       refine (ccut_any 4 (by omega) (by omega) a.tr h3 m (by omega) (by omega) _ HS5.out.t3 HCN.out (HT.out.below HS5.out.b (Nat.le_refl _))).mono ?_
       rw [hcg]
       unfold CutTold TH.v
       rintro _ w4 ⟨h4, a4, n4, c4, H4, rfl, hi4, ht4, hb4⟩
       rw [show codeV ((0, (headA 4 m a).tr, (partsA m a).map AT.tr) : Nat × Tr × List Tr).1 = .nilIface from rfl]
       have HI4 := Lib.hid (And.intro hi4 ht4)
       have HS6 := Lib.hid (HS5.out.below hb4)
       clear hi4 ht4 hb4 x0 x1 x2 x3 x4)
    | (refine wpList_store_box rfl 25 (.tmp 8) (.tmp 33) rfl w4.heap.size hZ h4 rfl rfl 25 (Box.new w4 25 hZ) infoTree5 ?_
       intro w4b hbx hg
       have qq : Below w4.heap.size w4 w4b := ((Below.refl w4.heap.size w4).alloc (Nat.le_refl _) _).grown hg (by simp) (fun j hj => by injection hj; omega)
       have HD5 : Hid (SX11 w w4b a g2 h2 g3 h3 w4.heap.size h4 m a4 n4 c4 H4) := Lib.hid ⟨HS6.out.below qq, hbx, HI4.out.1.lower qq, HI4.out.2.below qq⟩
       clear hbx hg qq))
  generalize w4.heap.size = g4 at *
  clear HS5 HS6 HI4
  obtain ⟨x0, x1, x2, x3, x4⟩ := HD5.out.s.b2.cells
  obtain ⟨y0, y1, y2, y3, y4⟩ := HD5.out.s.b3.cells
  go_upto_region 8 with (first
    | (go_at_call 18
       have hck : ∀ W, InTree W h3 a.tr → InTree W h2 a.tr → Calls Tryd.prog 18 #[.agg #[.int .i64 h3.k, .slice h3.ka h3.kn h3.kc, .slice h3.va h3.vn h3.vc, .slice h3.da h3.dn h3.dc, .slice h3.ta h3.tn h3.tc], .agg #[.int .i64 h2.k, .slice h2.ka h2.kn h2.kc, .slice h2.va h2.vn h2.vc, .slice h2.da h2.dn h2.dc, .slice h2.ta h2.tn h2.tc]] W (Says W (.bool true)) := fun W p q => refSame_any a.tr h3 h2 W p q
       (with_reducible refine (hck _ ?_ ?_).mono ?_)
       · exact HD5.out.s.t3
       · exact HD5.out.s.t2
       clear hck
       rintro _ w5 ⟨rfl, hb5⟩
       have HD6 := Lib.hid (HD5.out.below hb5)
       clear hb5 x0 x1 x2 x3 x4 y0 y1 y2 y3 y4))
  clear HD5
  obtain ⟨x0, x1, x2, x3, x4⟩ := HD6.out.b4.cells
  go_upto_region 9 with (first
    | (go_at_call 28
       refine (copy_any _ (headA 4 m a).tr h4 _ HD6.out.t4 (Below.refl _ _) (head_light (by omega) m a HGD.out.1.lim)).mono ?_
       unfold CopyPost TH.v
       rintro _ w6 ⟨h6, rfl, hf6, hb6⟩
       have HF6 : Hid (InTree w6 h6 (headA 4 m a).tr) := Lib.hid (hf6.self hb6 (Nat.le_refl _))
       have HD7 := Lib.hid (HD6.out.below hb6)
       clear hf6 hb6 x0 x1 x2 x3 x4)
    | (refine wpList_store_box rfl 25 (.tmp 12) (.tmp 40) rfl w6.heap.size hZ h6 rfl rfl 25 (Box.new w6 25 hZ) infoTree5 ?_
       intro w6b hbx hg
       have qq : Below w6.heap.size w6 w6b := ((Below.refl w6.heap.size w6).alloc (Nat.le_refl _) _).grown hg (by simp) (fun j hj => by injection hj; omega)
       have HE7 : Hid (SX11 w w6b a g2 h2 g3 h3 g4 h4 m a4 n4 c4 H4 ∧ TB11 w6b w6.heap.size h6 (headA 4 m a).tr) := Lib.hid ⟨HD7.out.below qq, hbx, HF6.out.lower qq⟩
       clear hbx hg qq))
  generalize w6.heap.size = g6 at *
  clear HD6 HD7 HF6
  obtain ⟨x0, x1, x2, x3, x4⟩ := HE7.out.1.b4.cells
  go_upto_region 10 with (first
    | (go_at_call 24
       refine (cjoin_any 4 (by omega) (by omega) (headA 4 m a).tr h4 a4 _ c4 ((partsA m a).map AT.tr) H4 _ HE7.out.1.t4 HE7.out.1.ps (by have := head_countT (k := 4) m a; have := HCN.out; omega) (fun p hp => by
         obtain ⟨b, hb, rfl⟩ := List.mem_map.1 hp
         have := part_countT m a b hb
         have := HCN.out
         omega) (by rw [List.length_map]; have := parts_len m a; have := HCN.out; omega) (HT.out.below HE7.out.1.s.b (Nat.le_refl _))).mono ?_
       have hjb : joinX 4 (headA 4 m a).tr ((partsA m a).map AT.tr) = (0, none, a.tr) := join_back (k := 4) (n := m) (by omega) (by omega) HCK.out
       rw [hjb]
       unfold JoinTold TH.v
       rintro _ w8 ⟨h8, v8, rfl, hi8, hv8, hb8⟩
       have hvz : v8 = .nilIface := hv8
       subst hvz
       have HI8 := Lib.hid hi8
       have HE8 : Hid (SX11 w w8 a g2 h2 g3 h3 g4 h4 m a4 n4 c4 H4 ∧ TB11 w8 g6 h6 (headA 4 m a).tr) := Lib.hid ⟨HE7.out.1.below hb8, HE7.out.2.below hb8⟩
       clear hi8 hv8 hb8 hjb x0 x1 x2 x3 x4)
    | (refine wpList_store_box rfl 25 (.tmp 13) (.tmp 45) rfl w8.heap.size hZ h8 rfl rfl 25 (Box.new w8 25 hZ) infoTree5 ?_
       intro w8b hbx hg
       have qq : Below w8.heap.size w8 w8b := ((Below.refl w8.heap.size w8).alloc (Nat.le_refl _) _).grown hg (by simp) (fun j hj => by injection hj; omega)
       have HE9 : Hid (SX11 w w8b a g2 h2 g3 h3 g4 h4 m a4 n4 c4 H4 ∧ TB11 w8b g6 h6 (headA 4 m a).tr ∧ TB11 w8b w8.heap.size h8 a.tr) := Lib.hid ⟨HE8.out.1.below qq, HE8.out.2.below qq, hbx, HI8.out.lower qq⟩
       clear hbx hg qq))
  generalize w8.heap.size = g8 at *
  clear HE7 HE8 HI8
  obtain ⟨x0, x1, x2, x3, x4⟩ := HE9.out.1.b4.cells
  obtain ⟨y0, y1, y2, y3, y4⟩ := HE9.out.2.1.bx.cells
  go_cut [15] (fun s15 wx => s15 = .bool true ∧ SX11 w wx a g2 h2 g3 h3 g4 h4 m a4 n4 c4 H4 ∧ TB11 wx g8 h8 a.tr)
  case first =>
    go_wp2_with (first
      | (go_at_call 18
         have hck : ∀ W, InTree W h4 (headA 4 m a).tr → InTree W h6 (headA 4 m a).tr → Calls Tryd.prog 18 #[.agg #[.int .i64 h4.k, .slice h4.ka h4.kn h4.kc, .slice h4.va h4.vn h4.vc, .slice h4.da h4.dn h4.dc, .slice h4.ta h4.tn h4.tc], .agg #[.int .i64 h6.k, .slice h6.ka h6.kn h6.kc, .slice h6.va h6.vn h6.vc, .slice h6.da h6.dn h6.dc, .slice h6.ta h6.tn h6.tc]] W (Says W (.bool true)) := fun W p q => refSame_any (headA 4 m a).tr h4 h6 W p q
         (with_reducible refine (hck _ ?_ ?_).mono ?_)
         · exact HE9.out.1.t4
         · exact HE9.out.2.1.ti
         clear hck
         rintro _ wa ⟨rfl, hba⟩
         have HEa : Hid (SX11 w wa a g2 h2 g3 h3 g4 h4 m a4 n4 c4 H4 ∧ TB11 wa g8 h8 a.tr) := Lib.hid ⟨HE9.out.1.below hba, HE9.out.2.2.below hba⟩
         clear hba x0 x1 x2 x3 x4 y0 y1 y2 y3 y4
         obtain ⟨x0, x1, x2, x3, x4⟩ := HEa.out.1.s.b2.cells
         obtain ⟨y0, y1, y2, y3, y4⟩ := HEa.out.1.s.b3.cells)
      | (go_at_call 18
         have hck : ∀ W, InTree W h3 a.tr → InTree W h2 a.tr → Calls Tryd.prog 18 #[.agg #[.int .i64 h3.k, .slice h3.ka h3.kn h3.kc, .slice h3.va h3.vn h3.vc, .slice h3.da h3.dn h3.dc, .slice h3.ta h3.tn h3.tc], .agg #[.int .i64 h2.k, .slice h2.ka h2.kn h2.kc, .slice h2.va h2.vn h2.vc, .slice h2.da h2.dn h2.dc, .slice h2.ta h2.tn h2.tc]] W (Says W (.bool true)) := fun W p q => refSame_any a.tr h3 h2 W p q
         (with_reducible refine (hck _ ?_ ?_).mono ?_)
         · exact HEa.out.1.s.t3
         · exact HEa.out.1.s.t2
         clear hck
         rintro _ wb ⟨rfl, hbb⟩
         have HEb : Hid (SX11 w wb a g2 h2 g3 h3 g4 h4 m a4 n4 c4 H4 ∧ TB11 wb g8 h8 a.tr) := Lib.hid ⟨HEa.out.1.below hbb, HEa.out.2.below hbb⟩
         clear hbb x0 x1 x2 x3 x4 y0 y1 y2 y3 y4))
    go_meet
    exact ⟨rfl, HEb.out.1, HEb.out.2⟩
  case rest =>
  obtain ⟨rfl, hd, ht⟩ := hcut
  have HF9 := Lib.hid (And.intro hd ht)
  clear hd ht HE9 x0 x1 x2 x3 x4 y0 y1 y2 y3 y4
  obtain ⟨x0, x1, x2, x3, x4⟩ := HF9.out.1.b4.cells
  go_upto_region 12 with (first
    | (go_at_call 24
       refine (cjoin_any 4 (by omega) (by omega) (headA 4 m a).tr h4 a4 _ c4 ((partsA m a).map AT.tr) H4 _ HF9.out.1.t4 HF9.out.1.ps (by have := head_countT (k := 4) m a; have := HCN.out; omega) (fun p hp => by
         obtain ⟨b, hb, rfl⟩ := List.mem_map.1 hp
         have := part_countT m a b hb
         have := HCN.out
         omega) (by rw [List.length_map]; have := parts_len m a; have := HCN.out; omega) (HT.out.below HF9.out.1.s.b (Nat.le_refl _))).mono ?_
       have hjb : joinX 4 (headA 4 m a).tr ((partsA m a).map AT.tr) = (0, none, a.tr) := join_back (k := 4) (n := m) (by omega) (by omega) HCK.out
       rw [hjb]
       unfold JoinTold TH.v
       rintro _ wc ⟨h9, v9, rfl, hi9, hv9, hb9⟩
       have hvz : v9 = .nilIface := hv9
       subst hvz
       have HI9 := Lib.hid hi9
       have HFc : Hid (SX11 w wc a g2 h2 g3 h3 g4 h4 m a4 n4 c4 H4 ∧ TB11 wc g8 h8 a.tr) := Lib.hid ⟨HF9.out.1.below hb9, HF9.out.2.below hb9⟩
       clear hi9 hv9 hb9 hjb x0 x1 x2 x3 x4)
    | (refine wpList_store_box rfl 25 (.tmp 16) (.tmp 59) rfl wc.heap.size hZ h9 rfl rfl 25 (Box.new wc 25 hZ) infoTree5 ?_
       intro wcb hbx hg
       have qq : Below wc.heap.size wc wcb := ((Below.refl wc.heap.size wc).alloc (Nat.le_refl _) _).grown hg (by simp) (fun j hj => by injection hj; omega)
       have HFd : Hid (Below w.heap.size w wcb ∧ TB11 wcb g8 h8 a.tr ∧ TB11 wcb wc.heap.size h9 a.tr) := Lib.hid ⟨HFc.out.1.s.b.trans (qq.mono HFc.out.1.s.b.size), HFc.out.2.below qq, hbx, HI9.out.lower qq⟩
       clear hbx hg qq))
  generalize wc.heap.size = g9 at *
  clear HF9 HFc HI9
  obtain ⟨x0, x1, x2, x3, x4⟩ := HFd.out.2.1.bx.cells
  obtain ⟨y0, y1, y2, y3, y4⟩ := HFd.out.2.2.bx.cells
  go_wp2_with (first
    | (go_at_call 18
       have hck : ∀ W, InTree W h8 a.tr → InTree W h9 a.tr → Calls Tryd.prog 18 #[.agg #[.int .i64 h8.k, .slice h8.ka h8.kn h8.kc, .slice h8.va h8.vn h8.vc, .slice h8.da h8.dn h8.dc, .slice h8.ta h8.tn h8.tc], .agg #[.int .i64 h9.k, .slice h9.ka h9.kn h9.kc, .slice h9.va h9.vn h9.vc, .slice h9.da h9.dn h9.dc, .slice h9.ta h9.tn h9.tc]] W (Says W (.bool true)) := fun W p q => refSame_any a.tr h8 h9 W p q
       (with_reducible refine (hck _ ?_ ?_).mono ?_)
       · exact HFd.out.2.1.ti
       · exact HFd.out.2.2.ti
       clear hck
       rintro _ we ⟨rfl, hbe⟩
       have HBe : Hid (Below w.heap.size w we) := Lib.hid (HFd.out.1.trans (hbe.mono HFd.out.1.size))
       clear hbe x0 x1 x2 x3 x4 y0 y1 y2 y3 y4))
  go_ret
  exact ⟨rfl, HBe.out⟩
end Go.Proofs.YtkcmohmfejmfoaaDoor

/- Lists of pairs that are arguments. -/
namespace Go.Proofs.YtkcmohmfejmfoaaDoor
open Go.ChangeShapes Go.WideShapes Go.RowKit Go.Deep
set_option linter.unusedVariables false

section
variable {H : Type} {enc : TypeId × Value → H} {P : Program} {w : World} {base : Nat} {spare : Nat → Bool} {held : Bool}
theorem trod_pair {T B : TypeId} {f0 f1 : Field} (he : P.underlying T = some (.struct #[f0, f1])) (hc : P.cellsOf T = 2)
    (o0 : f0.offset = 0) (o1 : f1.offset = 1) (c0 : P.cellsOf f0.type = 1) (c1 : P.cellsOf f1.type = 1)
    (u0 : P.underlying f0.type = some (.slice B)) (u1 : P.underlying f1.type = some (.slice B)) (hB : P.underlying B = some (.int .u8)) (hcB : P.cellsOf B = 1)
    (fuel : Nat) (cs : List Value) (x : DataW H × List MemPlace) (hx : DataW.trod enc P w base spare held fuel T cs = some x) :
    ∃ r : PH, cs = recP.cells r ∧ ∃ key val, InBytes w r.ka r.kn r.kc key ∧ InBytes w r.va r.vn r.vc val := by
  obtain ⟨xs, n, hn, _, hl, hxl, hf⟩ := DataW.trod_struct he hx
  rw [hc] at hl
  obtain ⟨v0, v1, rfl⟩ : ∃ v0 v1, cs = [v0, v1] := by
    rcases cs with _ | ⟨v0, _ | ⟨v1, _ | ⟨y, r⟩⟩⟩ <;> simp at hl
    exact ⟨_, _, rfl⟩
  have hxs : xs.length = 2 := by simpa using hxl
  have g0 := hf 0 f0 rfl
  have g1 := hf 1 f1 rfl
  rw [o0, c0, List.getElem?_eq_getElem (by omega)] at g0
  rw [o1, c1, List.getElem?_eq_getElem (by omega)] at g1
  replace g0 : DataW.trod enc P w base spare held n f0.type [v0] = some xs[0] := g0
  replace g1 : DataW.trod enc P w base spare held n f1.type [v1] = some xs[1] := g1
  obtain ⟨a0, n0, k0, rfl⟩ := slice_form u0 g0
  obtain ⟨a1, n1, k1, rfl⟩ := slice_form u1 g1
  obtain ⟨key, hkey⟩ := open_bytes (d := xs[0].1) (p := xs[0].2) u0 hB hcB ⟨n, g0⟩
  obtain ⟨val, hval⟩ := open_bytes (d := xs[1].1) (p := xs[1].2) u1 hB hcB ⟨n, g1⟩
  exact ⟨⟨a0, n0, k0, a1, n1, k1⟩, rfl, key, val, hkey, hval⟩
end
set_option maxRecDepth 100000 in
theorem open_pairs {H : Type} {enc : TypeId × Value → H} {w : World} {base : Nat} {spare : Nat → Bool} {held : Bool} {a : Option Addr} {n cap : Nat} {d : DataW H} {p : List MemPlace}
    (h : DataW.Trod enc Tryd.prog w base spare held 52 (.slice a n cap) d p) : ∃ D : Nat → PH, InRec recP w a n cap D ∧ ∀ i, i < n → ∃ key val, InBytes w (D i).ka (D i).kn (D i).kc key ∧ InBytes w (D i).va (D i).vn (D i).vc val :=
  open_rec recP (fun r => ∃ key val, InBytes w r.ka r.kn r.kc key ∧ InBytes w r.va r.vn r.vc val) pZ Tryd.underlying52 (by kernel_rfl)
    (fun fuel cs x hx => trod_pair Tryd.underlying65 (by kernel_rfl) rfl rfl (by kernel_rfl) (by kernel_rfl) Tryd.underlying22 Tryd.underlying22 Tryd.underlying5 (by kernel_rfl) fuel cs x hx) h
end Go.Proofs.YtkcmohmfejmfoaaDoor
