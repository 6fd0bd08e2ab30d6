/- The contract of the document's Copy. The walk of the law CheckStays. Spans, and lists of pairs, that are arguments. -/
import Derived.Test.YtlbiefddcimdgaaDoorMFF
import Derived.Test.YtlbiefddcimdgaaDoorMAB
import Derived.Test.YtlbiefddcimdgaaDoorMFE
import Derived.Test.YtlbiefddcimdgaaDoorMAC
import Derived.Test.YtlbiefddcimdgaaDoorMAA
/- The contract of the document's Copy. -/
namespace Go.Proofs.YtlbiefddcimdgaaDoor
open Go.RowKit
set_option linter.unusedVariables false

theorem box_bytes {W : World} {ty : TypeId} {g off : Nat} {hh : TH} {zs : List Int} (hb : Box W ty g hh) (hs : Seg .u8 W g off zs) (h0 : 0 < zs.length) : False := by
  have h1 := hs 0 h0
  rw [cell_of_row W g (off + 0) _ _ (0, 0) hb] at h1
  rcases (by omega : off = 0 ∨ off = 1 ∨ off = 2 ∨ off = 3 ∨ off = 4 ∨ 5 ≤ off) with rfl | rfl | rfl | rfl | rfl | h5
  · simp at h1
  · simp at h1
  · simp at h1
  · simp at h1
  · simp at h1
  · rw [Array.getElem?_eq_none (by simp; omega)] at h1
    cases h1
/-- Bytes are not in a tree's box. -/
theorem InBytes.offBox {W W' : World} {ty : TypeId} {g : Nat} {hh : TH} {a : Option Addr} {n c : Nat} {zs : List Int} (h : InBytes W a n c zs) (hb : Box W ty g hh) (hg : W.grownBy W' (some g)) : InBytes W' a n c zs :=
  ⟨h.len, h.bytes, h.le, h.max, h.nil, fun h0 => by
    obtain ⟨g', off, e, hlt, hc⟩ := h.place h0
    have hne : some g' ≠ some g := fun q => by
      injection q with q
      subst q
      exact box_bytes hb hc (by rw [h.len]; exact h0)
    exact ⟨g', off, e, Nat.lt_of_lt_of_le hlt hg.size, hc.keep fun o => World.cell?_of_block (a := ⟨g', o, none⟩) (hg.block g' hlt hne)⟩⟩
/-- Bytes in blocks from lo on. -/
def NewIn (lo : Nat) (W : World) (a : Option Addr) (n c : Nat) (zs : List Int) : Prop := InBytes W a n c zs ∧ ∀ y, a = some y → lo ≤ y.block ∧ y.block < W.heap.size
theorem NewIn.below {lo : Nat} {W W' : World} {a : Option Addr} {n c : Nat} {zs : List Int} (h : NewIn lo W a n c zs) (hb : Below W.heap.size W W') : NewIn lo W' a n c zs := ⟨h.1.below hb, fun y e => ⟨(h.2 y e).1, Nat.lt_of_lt_of_le (h.2 y e).2 hb.size⟩⟩
/-- What lies there while a tree's own bytes are copied, in whatever order. -/
structure CJ (w w0 W : World) (h : TH) (t : Tr) (b1 A1 b2 A2 b3 A3 bd al st : Bool) (s7 s10 s11 s14 s15 s18 s19 s3 : Value) : Prop where
  d : Below w0.heap.size w0 W
  e1 : b1 = true → ∃ g, s7 = .slice (some ⟨g, 0, none⟩) 0 0 ∧ w0.heap.size ≤ g ∧ W.heap[g]? = some (.cells #[] 5 (0, 0))
  e2 : b2 = true → ∃ g, s11 = .slice (some ⟨g, 0, none⟩) 0 0 ∧ w0.heap.size ≤ g ∧ W.heap[g]? = some (.cells #[] 5 (0, 0))
  e3 : b3 = true → ∃ g, s15 = .slice (some ⟨g, 0, none⟩) 0 0 ∧ w0.heap.size ≤ g ∧ W.heap[g]? = some (.cells #[] 5 (0, 0))
  p1 : A1 = true → ∃ a c, s10 = .slice a h.kn c ∧ NewIn w0.heap.size W a h.kn c t.key
  p2 : A2 = true → ∃ a c, s14 = .slice a h.vn c ∧ NewIn w0.heap.size W a h.vn c t.val
  p3 : A3 = true → ∃ a c, s18 = .slice a h.dn c ∧ NewIn w0.heap.size W a h.dn c t.dig
  q : bd = true → (A1 = true ∧ A2 = true ∧ A3 = true) ∧ s19 = .agg #[.int .i64 h.k, s10, s14, s18, .slice none 0 0]
  l : al = true → st = false → ∃ g, s3 = .pointer (some ⟨g, 0, none⟩) ∧ w0.heap.size ≤ g ∧ Box W 27 g hZ
  o : st = true → al = true
  z : st = true → ∃ g a1 c1 a2 c2 a3 c3, s3 = .pointer (some ⟨g, 0, none⟩) ∧ w0.heap.size ≤ g ∧ Box W 27 g ⟨h.k, a1, h.kn, c1, a2, h.vn, c2, a3, h.dn, c3, none, 0, 0⟩ ∧ NewIn w0.heap.size W a1 h.kn c1 t.key ∧ NewIn w0.heap.size W a2 h.vn c2 t.val ∧ NewIn w0.heap.size W a3 h.dn c3 t.dig
section
variable {w w0 W W' : World} {h : TH} {t : Tr} {b1 A1 b2 A2 b3 A3 bd al st : Bool} {s7 s10 s11 s14 s15 s18 s19 s3 : Value}
theorem heap_lt' {W : World} {g : Nat} {o : Obj} (h : W.heap[g]? = some o) : g < W.heap.size := (Array.getElem?_eq_some_iff.1 h).1
theorem CJ.below (x : CJ w w0 W h t b1 A1 b2 A2 b3 A3 bd al st s7 s10 s11 s14 s15 s18 s19 s3) (hb : Below W.heap.size W W') : CJ w w0 W' h t b1 A1 b2 A2 b3 A3 bd al st s7 s10 s11 s14 s15 s18 s19 s3 :=
  ⟨x.d.trans (hb.mono x.d.size), fun q => by obtain ⟨g, h1, h2, h3⟩ := x.e1 q; exact ⟨g, h1, h2, (hb.block g (heap_lt' h3)).trans h3⟩, fun q => by obtain ⟨g, h1, h2, h3⟩ := x.e2 q; exact ⟨g, h1, h2, (hb.block g (heap_lt' h3)).trans h3⟩, fun q => by obtain ⟨g, h1, h2, h3⟩ := x.e3 q; exact ⟨g, h1, h2, (hb.block g (heap_lt' h3)).trans h3⟩,
    fun q => by obtain ⟨a, c, h1, h2⟩ := x.p1 q; exact ⟨a, c, h1, h2.below hb⟩, fun q => by obtain ⟨a, c, h1, h2⟩ := x.p2 q; exact ⟨a, c, h1, h2.below hb⟩, fun q => by obtain ⟨a, c, h1, h2⟩ := x.p3 q; exact ⟨a, c, h1, h2.below hb⟩,
    x.q, fun q r => by obtain ⟨g, h1, h2, h3⟩ := x.l q r; exact ⟨g, h1, h2, h3.below hb h3.lt⟩, x.o,
    fun q => by obtain ⟨g, a1, c1, a2, c2, a3, c3, h1, h2, h3, h4, h5, h6⟩ := x.z q; exact ⟨g, a1, c1, a2, c2, a3, c3, h1, h2, h3.below hb h3.lt, h4.below hb, h5.below hb, h6.below hb⟩⟩
end
theorem row_box0 {W : World} {t t' : TypeId} {g : Nat} {x : TH} (hne : t ≠ t') (a : W.heap[g]? = some (.cells #[] t (0, 0))) (b : Box W t' g x) : False := by
  unfold Box at b
  rw [a] at b
  injection b with b
  injection b with _ b _
  exact hne b
theorem NewIn.offBox {lo : Nat} {W W' : World} {ty : TypeId} {g : Nat} {hh : TH} {a : Option Addr} {n c : Nat} {zs : List Int} (h : NewIn lo W a n c zs) (hb : Box W ty g hh) (hg : W.grownBy W' (some g)) : NewIn lo W' a n c zs := ⟨h.1.offBox hb hg, fun y e => ⟨(h.2 y e).1, Nat.lt_of_lt_of_le (h.2 y e).2 hg.size⟩⟩
theorem CJ.fin {w w0 W W' : World} {h : TH} {t : Tr} {b1 b2 b3 : Bool} {s7 s11 s15 s19 : Value} {g : Nat} {a1 a2 a3 : Option Addr} {c1 c2 c3 : Nat} (x : CJ w w0 W h t b1 true b2 true b3 true true true false s7 (.slice a1 h.kn c1) s11 (.slice a2 h.vn c2) s15 (.slice a3 h.dn c3) s19 (.pointer (some ⟨g, 0, none⟩)))
    (n1 : NewIn w0.heap.size W a1 h.kn c1 t.key) (n2 : NewIn w0.heap.size W a2 h.vn c2 t.val) (n3 : NewIn w0.heap.size W a3 h.dn c3 t.dig) (hge : w0.heap.size ≤ g) (hbx : Box W 27 g hZ) (hbx' : Box W' 27 g ⟨h.k, a1, h.kn, c1, a2, h.vn, c2, a3, h.dn, c3, none, 0, 0⟩) (hg : W.grownBy W' (some g)) :
    CJ w w0 W' h t b1 true b2 true b3 true true true true s7 (.slice a1 h.kn c1) s11 (.slice a2 h.vn c2) s15 (.slice a3 h.dn c3) s19 (.pointer (some ⟨g, 0, none⟩)) := by
  have ne : ∀ g' : Nat, W.heap[g']? = some (Obj.cells #[] 5 (0, 0)) → W'.heap[g']? = some (Obj.cells #[] 5 (0, 0)) := fun g' h' => (hg.block g' (heap_lt' h') (fun q => by
    injection q with q
    subst q
    exact row_box0 (by decide) h' hbx)).trans h'
  exact ⟨x.d.grown hg x.d.size (fun j hj => by injection hj; omega), fun q => by obtain ⟨g, h1, h2, h3⟩ := x.e1 q; exact ⟨g, h1, h2, ne g h3⟩, fun q => by obtain ⟨g, h1, h2, h3⟩ := x.e2 q; exact ⟨g, h1, h2, ne g h3⟩, fun q => by obtain ⟨g, h1, h2, h3⟩ := x.e3 q; exact ⟨g, h1, h2, ne g h3⟩,
    fun _ => ⟨a1, c1, rfl, n1.offBox hbx hg⟩, fun _ => ⟨a2, c2, rfl, n2.offBox hbx hg⟩, fun _ => ⟨a3, c3, rfl, n3.offBox hbx hg⟩, x.q, (fun _ q => by cases q), fun _ => rfl,
    fun _ => ⟨g, a1, c1, a2, c2, a3, c3, rfl, hge, hbx', n1.offBox hbx hg, n2.offBox hbx hg, n3.offBox hbx hg⟩⟩
theorem all_mem {l : List Nat} {p : Nat → Bool} (h : l.all p = true) {i : Nat} (hi : i ∈ l) : p i = true := List.all_eq_true.1 h i hi
theorem CJ.start {w w0 W : World} {h : TH} {t : Tr} (hb : Below w0.heap.size w0 W) : CJ w w0 W h t false false false false false false false false false undef undef undef undef undef undef undef undef :=
  ⟨hb, (fun q => by cases q), (fun q => by cases q), (fun q => by cases q), (fun q => by cases q), (fun q => by cases q), (fun q => by cases q), (fun q => by cases q), (fun q => by cases q), (fun q => by cases q), (fun q => by cases q)⟩
/-- How many operations are still to come. -/
def leftB (l : Array Bool) : Nat := (l.toList.map fun x => if x then 0 else 1).sum
/-- The world inside Copy: the tree's box, the result's box. -/
structure PW (w W : World) (h : TH) : Prop where
  box : Box W 27 w.heap.size h
  res : Box W 27 (w.heap.size + 1) hZ
  b : Below w.heap.size w W
theorem PW.new (w : World) (h : TH) : PW w ((w.alloc (.cells #[.int .i64 h.k, .slice h.ka h.kn h.kc, .slice h.va h.vn h.vc, .slice h.da h.dn h.dc, .slice h.ta h.tn h.tc] 27)).alloc (.cells #[.int .i64 0, .slice none 0 0, .slice none 0 0, .slice none 0 0, .slice none 0 0] 27)) h := by
  have h1 : Below w.heap.size w (w.alloc (.cells #[.int .i64 h.k, .slice h.ka h.kn h.kc, .slice h.va h.vn h.vc, .slice h.da h.dn h.dc, .slice h.ta h.tn h.tc] 27)) := (Below.refl _ _).alloc (Nat.le_refl _) _
  have h2 : Below (w.alloc (.cells #[.int .i64 h.k, .slice h.ka h.kn h.kc, .slice h.va h.vn h.vc, .slice h.da h.dn h.dc, .slice h.ta h.tn h.tc] 27)).heap.size (w.alloc (.cells #[.int .i64 h.k, .slice h.ka h.kn h.kc, .slice h.va h.vn h.vc, .slice h.da h.dn h.dc, .slice h.ta h.tn h.tc] 27)) ((w.alloc (.cells #[.int .i64 h.k, .slice h.ka h.kn h.kc, .slice h.va h.vn h.vc, .slice h.da h.dn h.dc, .slice h.ta h.tn h.tc] 27)).alloc (.cells #[.int .i64 0, .slice none 0 0, .slice none 0 0, .slice none 0 0, .slice none 0 0] 27)) := (Below.refl _ _).alloc (Nat.le_refl _) _
  have hx := Box.new w 27 h
  have hr := Box.new (w.alloc (.cells #[.int .i64 h.k, .slice h.ka h.kn h.kc, .slice h.va h.vn h.vc, .slice h.da h.dn h.dc, .slice h.ta h.tn h.tc] 27)) 27 hZ
  have hs : (w.alloc (.cells #[.int .i64 h.k, .slice h.ka h.kn h.kc, .slice h.va h.vn h.vc, .slice h.da h.dn h.dc, .slice h.ta h.tn h.tc] 27)).heap.size = w.heap.size + 1 := by simp
  rw [hs] at hr
  exact ⟨hx.below h2 hx.lt, hr, h1.trans (h2.mono h1.size)⟩
theorem Box.set4 {W : World} {ty : TypeId} {g : Nat} {hh : TH} (hb : Box W ty g hh) (a : Option Addr) (n c : Nat) : Box (W.setCell ⟨g, 4, none⟩ (.slice a n c)) ty g ⟨hh.k, hh.ka, hh.kn, hh.kc, hh.va, hh.vn, hh.vc, hh.da, hh.dn, hh.dc, a, n, c⟩ := by
  unfold Box at hb ⊢
  simp [World.setCell, Array.getElem?_modify, hb]
theorem Box.free {W : World} {ty : TypeId} {g : Nat} {hh : TH} (hb : Box W ty g hh) (i : Nat) : W.frozen? ⟨g, i, none⟩ = false := by
  unfold Box at hb
  simp [World.frozen?, hb]
theorem results_cell1 {P : Program} {fn : Func} {p : Tmp} {ty : TypeId} (h : fn.results = #[.cell p ty]) (tmps : Array Value) {w : World} {g : Nat} {t : TypeId} {hh : TH} {fs : Array Field} (hx : Box w t g hh)
    (hp : tmps.getD p undef = .pointer (some ⟨g, 0, none⟩)) (hu : P.underlying ty = some (.struct fs)) (hi : (P.info? ty).map (·.size) = some 5) : (results fn tmps).run P w = .ok hh.v w := by
  have hp' : tmps[p]?.getD undef = .pointer (some ⟨g, 0, none⟩) := by simpa using hp
  have hl := run_loadVar_row (P := P) w g t ty _ _ (.struct fs) hx hu rfl (by simpa using hi)
  simp [results, h, hp', asAddr, hl, TH.v]
/-- What lies there while a tree's kids are copied: i of them are; L0: where their memory begins; g: the copy's box. -/
structure CL (wb w X : World) (h : TH) (t : Tr) (L0 g : Nat) (a1 : Option Addr) (c1 : Nat) (a2 : Option Addr) (c2 : Nat) (a3 : Option Addr) (c3 : Nat) (av : Option Addr) (i cv : Nat) (hs : List TH) : Prop where
  box : Box X 27 w.heap.size h
  res : Box X 27 (w.heap.size + 1) hZ
  b : Below w.heap.size w X
  out : Box X 27 g ⟨h.k, a1, h.kn, c1, a2, h.vn, c2, a3, h.dn, c3, av, i, cv⟩
  n1 : InBytes X a1 h.kn c1 t.key
  n2 : InBytes X a2 h.vn c2 t.val
  n3 : InBytes X a3 h.dn c3 t.dig
  m1 : ∀ y, a1 = some y → w.heap.size ≤ y.block ∧ y.block < L0
  m2 : ∀ y, a2 = some y → w.heap.size ≤ y.block ∧ y.block < L0
  m3 : ∀ y, a3 = some y → w.heap.size ≤ y.block ∧ y.block < L0
  og : w.heap.size + 1 < g ∧ g < L0
  L : L0 ≤ X.heap.size
  own : OwnT X L0 27 (.slice av i cv) hs
  len : hs.length = i
  fr : ∀ j (hj : j < hs.length) (hk : j < t.kids.length), ∃ lo hi, L0 ≤ lo ∧ hi ≤ X.heap.size ∧ (∀ b, (Value.slice av i cv).ownBlock = some b → b < lo ∨ hi ≤ b) ∧ From wb lo hi X hs[j] t.kids[j]
section
variable {wb w X X' : World} {h : TH} {t : Tr} {L0 g : Nat} {a1 : Option Addr} {c1 : Nat} {a2 : Option Addr} {c2 : Nat} {a3 : Option Addr} {c3 : Nat} {av : Option Addr} {i cv : Nat} {hs : List TH}
theorem CL.below (x : CL wb w X h t L0 g a1 c1 a2 c2 a3 c3 av i cv hs) (hb : Below X.heap.size X X') : CL wb w X' h t L0 g a1 c1 a2 c2 a3 c3 av i cv hs :=
  ⟨x.box.below hb x.box.lt, x.res.below hb x.res.lt, x.b.trans (hb.mono x.b.size), x.out.below hb x.out.lt, x.n1.below hb, x.n2.below hb, x.n3.below hb, x.m1, x.m2, x.m3, x.og, Nat.le_trans x.L hb.size, x.own.keep hb, x.len,
    fun j hj hk => by
      obtain ⟨lo, hi, q1, q2, q3, q4⟩ := x.fr j hj hk
      exact ⟨lo, hi, q1, Nat.le_trans q2 hb.size, q3, q4.below hb q2⟩⟩
theorem CL.drew (x : CL wb w X h t L0 g a1 c1 a2 c2 a3 c3 av i cv hs) : CL wb w X.drew h t L0 g a1 c1 a2 c2 a3 c3 av i cv hs := x.below (Below.refl _ _).drew
/-- One more kid. -/
theorem CL.next (x : CL wb w X h t L0 g a1 c1 a2 c2 a3 c3 av i cv hs) {W : World} {h' : TH} {lo hi : Nat} {a' : Option Addr} {c' : Nat} (hik : i < t.kids.length) (f : From wb lo hi X h' t.kids[i]) (hlo : L0 ≤ lo) (hhi : hi ≤ X.heap.size) (hvb : ∀ b, (Value.slice av i cv).ownBlock = some b → b < lo)
    (ho : OwnT W L0 27 (.slice a' (i + 1) c') (hs ++ [h'])) (hg : X.grownBy W (Value.slice av i cv).ownBlock) (hob : (Value.slice a' (i + 1) c').ownBlock = (Value.slice av i cv).ownBlock ∨ (Value.slice a' (i + 1) c').ownBlock = some X.heap.size) :
    CL wb w (W.setCell ⟨g, 4, none⟩ (.slice a' (i + 1) c')) h t L0 g a1 c1 a2 c2 a3 c3 a' (i + 1) c' (hs ++ [h']) := by
  have hob' := fun k (e : (Value.slice av i cv).ownBlock = some k) => x.own.lt k e
  have old : ∀ j, j < L0 → W.heap[j]? = X.heap[j]? := fun j hj => hg.block j (by have := x.L; omega) (fun q => by have := (hob' j q.symm).1; omega)
  have hout := x.out
  have boutW : Box W 27 g ⟨h.k, a1, h.kn, c1, a2, h.vn, c2, a3, h.dn, c3, av, i, cv⟩ := (old g x.og.2).trans x.out
  have hg2 : W.grownBy (W.setCell ⟨g, 4, none⟩ (.slice a' (i + 1) c')) (some g) := only_set (only_refl W _) 4 _
  have hsz : X.heap.size ≤ (W.setCell ⟨g, 4, none⟩ (.slice a' (i + 1) c')).heap.size := Nat.le_trans hg.size hg2.size
  have far : ∀ j, j ≠ g → (W.setCell ⟨g, 4, none⟩ (.slice a' (i + 1) c')).heap[j]? = W.heap[j]? := fun j hj => Below.heap_setCell W ⟨g, 4, none⟩ _ j hj
  have q1 := x.og.1
  have q2 := x.og.2
  have bytes : ∀ {a : Option Addr} {n c : Nat} {zs : List Int}, InBytes X a n c zs → (∀ y, a = some y → w.heap.size ≤ y.block ∧ y.block < L0) → InBytes (W.setCell ⟨g, 4, none⟩ (.slice a' (i + 1) c')) a n c zs := fun hi hm =>
    (hi.agree hg.size (fun ad e => old _ (hm ad e).2)).offBox boutW hg2
  have hown : OwnT (W.setCell ⟨g, 4, none⟩ (.slice a' (i + 1) c')) L0 27 (.slice a' (i + 1) c') (hs ++ [h']) := ho.far (p := ⟨g, 4, none⟩) (fun q => by have := (ho.lt g q.symm).1; omega) _
  have range : ∀ {lo hi : Nat} {hh : TH} {c : Tr}, From wb lo hi X hh c → L0 ≤ lo → hi ≤ X.heap.size → (∀ b, (Value.slice av i cv).ownBlock = some b → b < lo ∨ hi ≤ b) → From wb lo hi (W.setCell ⟨g, 4, none⟩ (.slice a' (i + 1) c')) hh c := fun {lo hi hh c} ff e1 e2 e3 Y y1 y2 y3 => ff Y y1 y2 fun j hj1 hj2 => by
    rw [y3 j hj1 hj2, far j (by omega)]
    exact hg.block j (by omega) (fun q => by have := e3 j q.symm; omega)
  have newb : ∀ {lo hi : Nat}, hi ≤ X.heap.size → (∀ b, (Value.slice av i cv).ownBlock = some b → b < lo ∨ hi ≤ b) → ∀ b, (Value.slice a' (i + 1) c').ownBlock = some b → b < lo ∨ hi ≤ b := fun {lo hi} e2 e3 b e => by
    rcases hob with q | q
    · exact e3 b (q.symm.trans e)
    · rw [q] at e
      injection e with e
      omega
  refine ⟨(far _ (by omega)).trans ((old _ (by omega)).trans x.box), (far _ (by omega)).trans ((old _ (by omega)).trans x.res), ?_, boutW.set4 a' (i + 1) c', bytes x.n1 x.m1, bytes x.n2 x.m2, bytes x.n3 x.m3, x.m1, x.m2, x.m3, x.og, Nat.le_trans x.L hsz, hown, by rw [List.length_append, x.len]; rfl, ?_⟩
  · exact (x.b.grown hg x.b.size (fun k e => by have := (hob' k e).1; omega)).setCell (show w.heap.size ≤ g by omega) _
  · intro j hj hk
    by_cases hlt : j < hs.length
    · obtain ⟨lo', hi', e1, e2, e3, e4⟩ := x.fr j hlt hk
      rw [List.getElem_append_left hlt]
      exact ⟨lo', hi', e1, Nat.le_trans e2 hsz, newb e2 e3, range e4 e1 e2 e3⟩
    · have hji : j = i := by
        have := x.len
        rw [List.length_append] at hj
        simp at hj
        omega
      subst hji
      have e0 : (hs ++ [h'])[j] = h' := by
        rw [List.getElem_append_right (by omega)]
        simp
      rw [e0]
      have hv : ∀ b, (Value.slice av j cv).ownBlock = some b → b < lo ∨ hi ≤ b := fun b e => .inl (hvb b e)
      exact ⟨lo, hi, hlo, Nat.le_trans hhi hsz, newb hhi hv, range f hlo hhi hv⟩
/-- All kids are copied, and the result is written. -/
theorem CL.fin (x : CL wb w X h t L0 g a1 c1 a2 c2 a3 c3 av i cv hs) (hi : i = h.tn) {H : Nat → TH} (hp : TreeAt wb h t H) (hg : X.grownBy X' (some (w.heap.size + 1))) :
    From wb w.heap.size X'.heap.size X' ⟨h.k, a1, h.kn, c1, a2, h.vn, c2, a3, h.dn, c3, av, i, cv⟩ t := by
  intro Y hb hs' ha
  have q1 := x.og.1
  have q2 := x.og.2
  have hsz := hg.size
  have L := x.L
  have same : ∀ j, w.heap.size + 1 < j → j < X.heap.size → Y.heap[j]? = X.heap[j]? := fun j e1 e2 => by
    rw [ha j (by omega) (by omega)]
    exact hg.block j e2 (fun q => by injection q; omega)
  have bytes : ∀ {a : Option Addr} {n c : Nat} {zs : List Int}, InBytes X a n c zs → (∀ y, a = some y → w.heap.size ≤ y.block ∧ y.block < L0) → InBytes Y a n c zs := fun hi hm =>
    (hi.offBox x.res hg).agree hs' (fun ad e => ha _ (hm ad e).1 (by have := (hm ad e).2; omega))
  refine .mk _ _ (fun j => hs.getD j hZ) hp.hk hp.hk1 hp.hk2 (bytes x.n1 x.m1) (bytes x.n2 x.m2) (bytes x.n3 x.m3) ?_ (hp.len.trans hi.symm) (fun j hj => ?_)
  · rcases x.own.form with ⟨h1, h2⟩ | ⟨g', c', h1, h2, h3, h4, h5, h6⟩
    · injection h1 with e1 e2 e3
      subst e1 e2 e3
      exact ⟨Nat.le_refl _, by simp [maxLen], fun _ => rfl, fun q => absurd q (by simp)⟩
    · injection h1 with e1 e2 e3
      subst e1 e3
      rw [x.len] at h4
      refine ⟨h4, h5, (fun q => by cases q), fun _ => ⟨g', 0, rfl, by show g' < Y.heap.size; omega, fun k hk => ?_⟩⟩
      have hk5 : k / 5 < hs.length := by
        rw [x.len]
        have : k < i * 5 := hk
        omega
      have e := h6 _ _ (cellsT_get hs (k / 5) (k % 5) hk5 (by omega))
      rw [show k / 5 * 5 + k % 5 = k by omega] at e
      rw [Nat.zero_add, World.cell?_of_block (a := ⟨g', k, none⟩) (same g' (by omega) h3), e]
      simp [List.getD, hk5]
  · have hj2 : j < hs.length := by
      rw [x.len, hi, ← hp.len]
      exact hj
    obtain ⟨lo, hi', e1, e2, _, e4⟩ := x.fr j hj2 hj
    have e : hs.getD j hZ = hs[j] := by simp [List.getD, hj2]
    rw [e]
    exact e4 Y hb (by omega) fun k k1 k2 => same k (by omega) (by omega)
end
def CopyPost (wb w : World) (t : Tr) (e : Ending) (w' : World) : Prop := ∃ h', e = .returned h'.v ∧ From wb w.heap.size w'.heap.size w' h' t ∧ Below w.heap.size w w'

set_option maxRecDepth 100000 in
set_option maxHeartbeats 8000000 in
theorem copy_any (wb : World) : ∀ (t : Tr) (h : TH) (w : World), InTree wb h t → Below wb.heap.size wb w → LightOK t →
    Calls Tryd.prog 23 #[h.v] w (CopyPost wb w t) := by
  intro t
  induction t using Tr.ind with
  | h t ih =>
  intro h w ht hbw hlo
  unfold TH.v
  obtain ⟨H, hp⟩ := ht.parts
  have htl := hp.len
  have htm := Nat.le_trans hp.sl.le hp.sl.max
  have htc := hp.sl.le
  have hkl := hp.key.len
  have hvl := hp.val.len
  have hdl := hp.dig.len
  simp only [maxLen] at htm
  obtain ⟨_, lk, lv, ld, ln, lkids⟩ := hlo
  have hkn : h.kn ≤ 3000 := by omega
  have hvn : h.vn ≤ 3000 := by omega
  have hdn : h.dn ≤ 3000 := by omega
  have htn : h.tn ≤ 500 := by omega
  have HP := Lib.hid hp
  have IH := Lib.hid ih
  have HLK := Lib.hid lkids
  have HBW := Lib.hid hbw
  have hd0 := PW.new w h
  clear hp ih ht lkids hbw hkl hvl hdl lk lv ld ln
  obtain ⟨i0, hi0, hz0, hz1, hz2⟩ := info_parts infoU8
  obtain ⟨ti, hti, htz⟩ := Option.map_eq_some_iff.1 infoTree2
  simp only [Prod.mk.injEq] at htz
  obtain ⟨hy0, hy1, hy2⟩ := htz
  go_enter Tryd.func23, Tryd.ntmps23
  go_upto_region 1 with fail
  generalize ((w.alloc (.cells #[.int .i64 h.k, .slice h.ka h.kn h.kc, .slice h.va h.vn h.vc, .slice h.da h.dn h.dc, .slice h.ta h.tn h.tc] 27)).alloc (.cells #[.int .i64 0, .slice none 0 0, .slice none 0 0, .slice none 0 0, .slice none 0 0] 27)) = w0 at *
  have HD0 := Lib.hid hd0
  clear hd0
  have HB0 := Lib.hid (HBW.out.trans (HD0.out.b.mono HBW.out.size))
  go_cut [3] (fun s3 wx => ∃ g a1 c1 a2 c2 a3 c3, s3 = .pointer (some ⟨g, 0, none⟩) ∧ w0.heap.size ≤ g ∧ Box wx 27 g ⟨h.k, a1, h.kn, c1, a2, h.vn, c2, a3, h.dn, c3, none, 0, 0⟩ ∧ NewIn w0.heap.size wx a1 h.kn c1 t.key ∧ NewIn w0.heap.size wx a2 h.vn c2 t.val ∧ NewIn w0.heap.size wx a3 h.dn c3 t.dig ∧ Below w0.heap.size w0 wx)
  case first =>
    have keepS : ∀ {W : World}, Below w0.heap.size w0 W → (fun W => W.cell? ⟨w.heap.size, 0, none⟩ = some (.int .i64 h.k) ∧ W.cell? ⟨w.heap.size, 1, none⟩ = some (.slice h.ka h.kn h.kc) ∧ W.cell? ⟨w.heap.size, 2, none⟩ = some (.slice h.va h.vn h.vc) ∧ W.cell? ⟨w.heap.size, 3, none⟩ = some (.slice h.da h.dn h.dc) ∧ W.cell? ⟨w.heap.size, 4, none⟩ = some (.slice h.ta h.tn h.tc)) W := fun {W} hb => (HD0.out.box.below hb HD0.out.box.lt).cells
    have hb0 : Below w0.heap.size w0 w0.drew := (Below.refl _ _).drew
    refine wp_region_held_drew (S := (fun W => W.cell? ⟨w.heap.size, 0, none⟩ = some (.int .i64 h.k) ∧ W.cell? ⟨w.heap.size, 1, none⟩ = some (.slice h.ka h.kn h.kc) ∧ W.cell? ⟨w.heap.size, 2, none⟩ = some (.slice h.va h.vn h.vc) ∧ W.cell? ⟨w.heap.size, 3, none⟩ = some (.slice h.da h.dn h.dc) ∧ W.cell? ⟨w.heap.size, 4, none⟩ = some (.slice h.ta h.tn h.tc))) (by kernel_rfl) (keepS hb0) (fun hHeld => ?_)
    refine take_w (i := 0) (oi := ?oZ1) (v := ?vZ1) ?hiZ1 (by kernel_rfl) (by kernel_rfl) (by kernel_rfl) ?hQZ1 ?hwZ1 ?hyZ1 (by assumption) ?restZ1
    case hiZ1 => (simp only [List.getElem?_toArray, List.getElem?_cons_zero] <;> rfl)
    case hQZ1 => exact (fun _ _ _ h => h)
    case hwZ1 => rfl
    case hyZ1 => (intro w hSw; (try dsimp only at hSw); go_simp; try with_reducible rfl)
    (try simp only [Act.put, List.setIfInBounds_toArray, List.set_cons_zero, List.set_cons_succ])
    refine take_w (i := 1) (oi := ?oZ2) (v := ?vZ2) ?hiZ2 (by kernel_rfl) (by kernel_rfl) (by kernel_rfl) ?hQZ2 ?hwZ2 ?hyZ2 (by assumption) ?restZ2
    case hiZ2 => (simp only [List.getElem?_toArray, List.getElem?_cons_succ, List.getElem?_cons_zero] <;> rfl)
    case hQZ2 => exact (fun _ _ _ h => h)
    case hwZ2 => rfl
    case hyZ2 => (intro w hSw; (try dsimp only at hSw); go_simp; try with_reducible rfl)
    (try simp only [Act.put, List.setIfInBounds_toArray, List.set_cons_zero, List.set_cons_succ])
    refine take_w (i := 3) (oi := ?oZ3) (v := ?vZ3) ?hiZ3 (by kernel_rfl) (by kernel_rfl) (by kernel_rfl) ?hQZ3 ?hwZ3 ?hyZ3 (by assumption) ?restZ3
    case hiZ3 => (simp only [List.getElem?_toArray, List.getElem?_cons_succ, List.getElem?_cons_zero] <;> rfl)
    case hQZ3 => exact (fun _ _ _ h => h)
    case hwZ3 => rfl
    case hyZ3 => (intro w hSw; (try dsimp only at hSw); go_simp; try with_reducible rfl)
    (try simp only [Act.put, List.setIfInBounds_toArray, List.set_cons_zero, List.set_cons_succ])
    refine take_w (i := 4) (oi := ?oZ4) (v := ?vZ4) ?hiZ4 (by kernel_rfl) (by kernel_rfl) (by kernel_rfl) ?hQZ4 ?hwZ4 ?hyZ4 (by assumption) ?restZ4
    case hiZ4 => (simp only [List.getElem?_toArray, List.getElem?_cons_succ, List.getElem?_cons_zero] <;> rfl)
    case hQZ4 => exact (fun _ _ _ h => h)
    case hwZ4 => rfl
    case hyZ4 => (intro w hSw; (try dsimp only at hSw); go_simp; try with_reducible rfl)
    (try simp only [Act.put, List.setIfInBounds_toArray, List.set_cons_zero, List.set_cons_succ])
    refine take_w (i := 7) (oi := ?oZ5) (v := ?vZ5) ?hiZ5 (by kernel_rfl) (by kernel_rfl) (by kernel_rfl) ?hQZ5 ?hwZ5 ?hyZ5 (by assumption) ?restZ5
    case hiZ5 => (simp only [List.getElem?_toArray, List.getElem?_cons_succ, List.getElem?_cons_zero] <;> rfl)
    case hQZ5 => exact (fun _ _ _ h => h)
    case hwZ5 => rfl
    case hyZ5 => (intro w hSw; (try dsimp only at hSw); go_simp; try with_reducible rfl)
    (try simp only [Act.put, List.setIfInBounds_toArray, List.set_cons_zero, List.set_cons_succ])
    refine take_w (i := 8) (oi := ?oZ6) (v := ?vZ6) ?hiZ6 (by kernel_rfl) (by kernel_rfl) (by kernel_rfl) ?hQZ6 ?hwZ6 ?hyZ6 (by assumption) ?restZ6
    case hiZ6 => (simp only [List.getElem?_toArray, List.getElem?_cons_succ, List.getElem?_cons_zero] <;> rfl)
    case hQZ6 => exact (fun _ _ _ h => h)
    case hwZ6 => rfl
    case hyZ6 => (intro w hSw; (try dsimp only at hSw); go_simp; try with_reducible rfl)
    (try simp only [Act.put, List.setIfInBounds_toArray, List.set_cons_zero, List.set_cons_succ])
    refine take_w (i := 11) (oi := ?oZ7) (v := ?vZ7) ?hiZ7 (by kernel_rfl) (by kernel_rfl) (by kernel_rfl) ?hQZ7 ?hwZ7 ?hyZ7 (by assumption) ?restZ7
    case hiZ7 => (simp only [List.getElem?_toArray, List.getElem?_cons_succ, List.getElem?_cons_zero] <;> rfl)
    case hQZ7 => exact (fun _ _ _ h => h)
    case hwZ7 => rfl
    case hyZ7 => (intro w hSw; (try dsimp only at hSw); go_simp; try with_reducible rfl)
    (try simp only [Act.put, List.setIfInBounds_toArray, List.set_cons_zero, List.set_cons_succ])
    refine take_w (i := 12) (oi := ?oZ8) (v := ?vZ8) ?hiZ8 (by kernel_rfl) (by kernel_rfl) (by kernel_rfl) ?hQZ8 ?hwZ8 ?hyZ8 (by assumption) ?restZ8
    case hiZ8 => (simp only [List.getElem?_toArray, List.getElem?_cons_succ, List.getElem?_cons_zero] <;> rfl)
    case hQZ8 => exact (fun _ _ _ h => h)
    case hwZ8 => rfl
    case hyZ8 => (intro w hSw; (try dsimp only at hSw); go_simp; try with_reducible rfl)
    (try simp only [Act.put, List.setIfInBounds_toArray, List.set_cons_zero, List.set_cons_succ])

    refine wpAnyH_inv (fun listed a W => ∃ (b1 A1 b2 A2 b3 A3 bd al st : Bool) (s7 s10 s11 s14 s15 s18 s19 s3 : Value), listed = #[true, true, b1, true, true, A1, b2, true, true, A2, b3, true, true, A3, bd, al, st] ∧ a = ⟨#[.agg #[.int .i64 h.k, .slice h.ka h.kn h.kc, .slice h.va h.vn h.vc, .slice h.da h.dn h.dc, .slice h.ta h.tn h.tc], .pointer (some ⟨w.heap.size, 0, none⟩), .pointer (some ⟨w.heap.size + 1, 0, none⟩), s3, undef, .pointer (some ⟨w.heap.size, 0, none⟩), .int .i64 h.k, s7, .pointer (some ⟨w.heap.size, 1, none⟩), .slice h.ka h.kn h.kc, s10, s11, .pointer (some ⟨w.heap.size, 2, none⟩), .slice h.va h.vn h.vc, s14, s15, .pointer (some ⟨w.heap.size, 3, none⟩), .slice h.da h.dn h.dc, s18, s19, undef, undef, undef, undef, undef, undef, undef, undef, undef, undef, undef, undef, undef, undef, undef, undef, undef, undef, undef], []⟩ ∧ CJ w w0 W h t b1 A1 b2 A2 b3 A3 bd al st s7 s10 s11 s14 s15 s18 s19 s3) leftB ?hstep ?hdone _ _ _ _ ⟨false, false, false, false, false, false, false, false, false, undef, undef, undef, undef, undef, undef, undef, undef, rfl, rfl, CJ.start hb0⟩ (by decide)
    case hstep =>
      rintro listed a W ⟨b1, A1, b2, A2, b3, A3, bd, al, st, s7, s10, s11, s14, s15, s18, s19, s3, rfl, rfl, hc⟩ i hi
      have hcond : (fun i : Nat => ((i == 2 && !b1) || (i == 5 && b1 && !A1) || (i == 6 && !b2) || (i == 9 && b2 && !A2) || (i == 10 && !b3) || (i == 13 && b3 && !A3) || (i == 14 && A1 && A2 && A3 && !bd) || (i == 15 && !al) || (i == 16 && al && bd && !st))) i = true := by
        refine all_mem (p := fun i : Nat => ((i == 2 && !b1) || (i == 5 && b1 && !A1) || (i == 6 && !b2) || (i == 9 && b2 && !A2) || (i == 10 && !b3) || (i == 13 && b3 && !A3) || (i == 14 && A1 && A2 && A3 && !bd) || (i == 15 && !al) || (i == 16 && al && bd && !st))) ?_ hi
        clear hi hc
        revert b1 A1 b2 A2 b3 A3 bd al st
        decide +kernel
      simp only [Bool.or_eq_true, Bool.and_eq_true, beq_iff_eq, Bool.not_eq_true'] at hcond
      clear hi
      rcases hcond with (((((((⟨rfl, rfl⟩ | ⟨⟨rfl, rfl⟩, rfl⟩) | ⟨rfl, rfl⟩) | ⟨⟨rfl, rfl⟩, rfl⟩) | ⟨rfl, rfl⟩) | ⟨⟨rfl, rfl⟩, rfl⟩) | ⟨⟨⟨⟨rfl, rfl⟩, rfl⟩, rfl⟩, rfl⟩) | ⟨rfl, rfl⟩) | ⟨⟨⟨rfl, rfl⟩, rfl⟩, rfl⟩
      · refine ⟨by simp [leftB]; try omega, wpOp_step (o := ?oS2) ?hiS2 (fun K' hK => ?_)⟩
        case hiS2 => (simp only [List.getElem?_toArray, List.getElem?_cons_succ, List.getElem?_cons_zero] <;> rfl)
        go_simp
        have hb : Below W.heap.size W (W.alloc (.cells #[] 5)) := (Below.refl _ _).alloc (Nat.le_refl _) _
        have hc' := hc.below hb
        exact hK _ _ ⟨keepS hc'.d, true, A1, b2, A2, b3, A3, bd, al, st, .slice (some ⟨W.heap.size, 0, none⟩) 0 0, s10, s11, s14, s15, s18, s19, s3, rfl, rfl, { hc' with e1 := fun _ => ⟨W.heap.size, rfl, hc.d.size, heap_alloc_new W _⟩ }⟩
      · refine ⟨by simp [leftB]; try omega, wpOp_step (o := ?oS5) ?hiS5 (fun K' hK => ?_)⟩
        case hiS5 => (simp only [List.getElem?_toArray, List.getElem?_cons_succ, List.getElem?_cons_zero] <;> rfl)
        obtain ⟨g, rfl, hge, hge2⟩ := hc.e1 rfl
        refine step_append_empty _ rfl (.tmp 7) (.tmp 9) 22 rfl 5 i0 _ Tryd.underlying22 hi0 hz0 hz1 hz2 rfl g rfl hge2 h.ka h.kn h.kc t.key rfl (HP.out.key.below (HB0.out.trans (hc.d.mono HB0.out.size))) (by omega) ?_
        intro ra rc W' hin hnw hb
        have hc' := hc.below hb
        exact hK _ _ ⟨keepS hc'.d, true, true, b2, A2, b3, A3, bd, al, st, .slice (some ⟨g, 0, none⟩) 0 0, .slice ra h.kn rc, s11, s14, s15, s18, s19, s3, rfl, rfl, { hc' with p1 := fun _ => ⟨ra, rc, rfl, hin, fun y e => ⟨(hnw y e).1.elim (fun q => by rw [q]; exact hge) (fun q => Nat.le_trans hc.d.size q), (hnw y e).2⟩⟩, q := fun hq => absurd (hc.q hq).1.1 (by decide) }⟩
      · refine ⟨by simp [leftB]; try omega, wpOp_step (o := ?oS6) ?hiS6 (fun K' hK => ?_)⟩
        case hiS6 => (simp only [List.getElem?_toArray, List.getElem?_cons_succ, List.getElem?_cons_zero] <;> rfl)
        go_simp
        have hb : Below W.heap.size W (W.alloc (.cells #[] 5)) := (Below.refl _ _).alloc (Nat.le_refl _) _
        have hc' := hc.below hb
        exact hK _ _ ⟨keepS hc'.d, b1, A1, true, A2, b3, A3, bd, al, st, s7, s10, .slice (some ⟨W.heap.size, 0, none⟩) 0 0, s14, s15, s18, s19, s3, rfl, rfl, { hc' with e2 := fun _ => ⟨W.heap.size, rfl, hc.d.size, heap_alloc_new W _⟩ }⟩
      · refine ⟨by simp [leftB]; try omega, wpOp_step (o := ?oS9) ?hiS9 (fun K' hK => ?_)⟩
        case hiS9 => (simp only [List.getElem?_toArray, List.getElem?_cons_succ, List.getElem?_cons_zero] <;> rfl)
        obtain ⟨g, rfl, hge, hge2⟩ := hc.e2 rfl
        refine step_append_empty _ rfl (.tmp 11) (.tmp 13) 22 rfl 5 i0 _ Tryd.underlying22 hi0 hz0 hz1 hz2 rfl g rfl hge2 h.va h.vn h.vc t.val rfl (HP.out.val.below (HB0.out.trans (hc.d.mono HB0.out.size))) (by omega) ?_
        intro ra rc W' hin hnw hb
        have hc' := hc.below hb
        exact hK _ _ ⟨keepS hc'.d, b1, A1, true, true, b3, A3, bd, al, st, s7, s10, .slice (some ⟨g, 0, none⟩) 0 0, .slice ra h.vn rc, s15, s18, s19, s3, rfl, rfl, { hc' with p2 := fun _ => ⟨ra, rc, rfl, hin, fun y e => ⟨(hnw y e).1.elim (fun q => by rw [q]; exact hge) (fun q => Nat.le_trans hc.d.size q), (hnw y e).2⟩⟩, q := fun hq => absurd (hc.q hq).1.2.1 (by decide) }⟩
      · refine ⟨by simp [leftB]; try omega, wpOp_step (o := ?oS10) ?hiS10 (fun K' hK => ?_)⟩
        case hiS10 => (simp only [List.getElem?_toArray, List.getElem?_cons_succ, List.getElem?_cons_zero] <;> rfl)
        go_simp
        have hb : Below W.heap.size W (W.alloc (.cells #[] 5)) := (Below.refl _ _).alloc (Nat.le_refl _) _
        have hc' := hc.below hb
        exact hK _ _ ⟨keepS hc'.d, b1, A1, b2, A2, true, A3, bd, al, st, s7, s10, s11, s14, .slice (some ⟨W.heap.size, 0, none⟩) 0 0, s18, s19, s3, rfl, rfl, { hc' with e3 := fun _ => ⟨W.heap.size, rfl, hc.d.size, heap_alloc_new W _⟩ }⟩
      · refine ⟨by simp [leftB]; try omega, wpOp_step (o := ?oS13) ?hiS13 (fun K' hK => ?_)⟩
        case hiS13 => (simp only [List.getElem?_toArray, List.getElem?_cons_succ, List.getElem?_cons_zero] <;> rfl)
        obtain ⟨g, rfl, hge, hge2⟩ := hc.e3 rfl
        refine step_append_empty _ rfl (.tmp 15) (.tmp 17) 22 rfl 5 i0 _ Tryd.underlying22 hi0 hz0 hz1 hz2 rfl g rfl hge2 h.da h.dn h.dc t.dig rfl (HP.out.dig.below (HB0.out.trans (hc.d.mono HB0.out.size))) (by omega) ?_
        intro ra rc W' hin hnw hb
        have hc' := hc.below hb
        exact hK _ _ ⟨keepS hc'.d, b1, A1, b2, A2, true, true, bd, al, st, s7, s10, s11, s14, .slice (some ⟨g, 0, none⟩) 0 0, .slice ra h.dn rc, s19, s3, rfl, rfl, { hc' with p3 := fun _ => ⟨ra, rc, rfl, hin, fun y e => ⟨(hnw y e).1.elim (fun q => by rw [q]; exact hge) (fun q => Nat.le_trans hc.d.size q), (hnw y e).2⟩⟩, q := fun hq => absurd (hc.q hq).1.2.2 (by decide) }⟩
      · refine ⟨by simp [leftB]; try omega, wpOp_step (o := ?oS14) ?hiS14 (fun K' hK => ?_)⟩
        case hiS14 => (simp only [List.getElem?_toArray, List.getElem?_cons_succ, List.getElem?_cons_zero] <;> rfl)
        obtain ⟨a1, c1, rfl, n1⟩ := hc.p1 rfl
        obtain ⟨a2, c2, rfl, n2⟩ := hc.p2 rfl
        obtain ⟨a3, c3, rfl, n3⟩ := hc.p3 rfl
        go_simp
        exact hK _ _ ⟨keepS hc.d, b1, true, b2, true, b3, true, true, al, st, s7, .slice a1 h.kn c1, s11, .slice a2 h.vn c2, s15, .slice a3 h.dn c3, .agg #[.int .i64 h.k, .slice a1 h.kn c1, .slice a2 h.vn c2, .slice a3 h.dn c3, .slice none 0 0], s3, rfl, rfl, { hc with q := fun _ => ⟨⟨rfl, rfl, rfl⟩, rfl⟩ }⟩
      · refine ⟨by simp [leftB]; try omega, wpOp_step (o := ?oS15) ?hiS15 (fun K' hK => ?_)⟩
        case hiS15 => (simp only [List.getElem?_toArray, List.getElem?_cons_succ, List.getElem?_cons_zero] <;> rfl)
        go_simp
        have hb : Below W.heap.size W (W.alloc (.cells #[.int .i64 0, .slice none 0 0, .slice none 0 0, .slice none 0 0, .slice none 0 0] 27)) := (Below.refl _ _).alloc (Nat.le_refl _) _
        have hc' := hc.below hb
        exact hK _ _ ⟨keepS hc'.d, b1, A1, b2, A2, b3, A3, bd, true, st, s7, s10, s11, s14, s15, s18, s19, .pointer (some ⟨W.heap.size, 0, none⟩), rfl, rfl, { hc' with l := fun _ _ => ⟨W.heap.size, rfl, hc.d.size, Box.new W 27 hZ⟩, o := fun _ => rfl, z := fun q => absurd (hc.o q) (by decide) }⟩
      · refine ⟨by simp [leftB]; try omega, wpOp_step (o := ?oS16) ?hiS16 (fun K' hK => ?_)⟩
        case hiS16 => (simp only [List.getElem?_toArray, List.getElem?_cons_succ, List.getElem?_cons_zero] <;> rfl)
        obtain ⟨⟨rfl, rfl, rfl⟩, rfl⟩ := hc.q rfl
        obtain ⟨a1, c1, rfl, n1⟩ := hc.p1 rfl
        obtain ⟨a2, c2, rfl, n2⟩ := hc.p2 rfl
        obtain ⟨a3, c3, rfl, n3⟩ := hc.p3 rfl
        obtain ⟨g, rfl, hge, hbx⟩ := hc.l rfl rfl
        refine step_store_box rfl 27 (.tmp 3) (.tmp 19) rfl g hZ ⟨h.k, a1, h.kn, c1, a2, h.vn, c2, a3, h.dn, c3, none, 0, 0⟩ rfl rfl 27 hbx infoTree5 ?_
        intro W' hbx' hg
        have hc' := hc.fin n1 n2 n3 hge hbx hbx' hg
        exact hK _ _ ⟨keepS hc'.d, b1, true, b2, true, b3, true, true, true, true, s7, _, s11, _, s15, _, _, _, rfl, rfl, hc'⟩
    case hdone =>
      rintro listed a W ⟨b1, A1, b2, A2, b3, A3, bd, al, st, s7, s10, s11, s14, s15, s18, s19, s3, rfl, rfl, hc⟩ hr
      have hst : st = true := by
        revert hr
        clear hc
        revert b1 A1 b2 A2 b3 A3 bd al st
        decide +kernel
      obtain ⟨g, a1, c1, a2, c2, a3, c3, rfl, q1, q2, q3, q4, q5⟩ := hc.z hst
      go_wp2_with fail
      go_meet
      exact ⟨g, a1, c1, a2, c2, a3, c3, rfl, q1, q2, q3, q4, q5, hc.d⟩
  case rest =>
    obtain ⟨g, a1, c1, a2, c2, a3, c3, rfl, q1, q2, q3, q4, q5, q6⟩ := hcut
    have hl0 : CL wb w wc h t wc.heap.size g a1 c1 a2 c2 a3 c3 none 0 0 [] :=
      ⟨HD0.out.box.below q6 HD0.out.box.lt, HD0.out.res.below q6 HD0.out.res.lt, HD0.out.b.trans (q6.mono HD0.out.b.size), q2, q3.1, q4.1, q5.1, fun y e => ⟨Nat.le_trans HD0.out.b.size (q3.2 y e).1, (q3.2 y e).2⟩, fun y e => ⟨Nat.le_trans HD0.out.b.size (q4.2 y e).1, (q4.2 y e).2⟩, fun y e => ⟨Nat.le_trans HD0.out.b.size (q5.2 y e).1, (q5.2 y e).2⟩,
        ⟨Nat.lt_of_lt_of_le HD0.out.res.lt q1, q2.lt⟩, Nat.le_refl _, OwnT.nil _ _ _, rfl, fun j hj _ => absurd hj (Nat.not_lt_zero j)⟩
    generalize hL0 : wc.heap.size = L0 at hl0
    have HL0 := Lib.hid hl0
    clear q1 q2 q3 q4 q5 q6 hl0 hL0
    go_wp2_with fail
    go_loopw [4] (fun s4 wx => ∃ (i : Nat) (av : Option Addr) (cv : Nat) (hs : List TH), i ≤ h.tn ∧ s4 = .int .i64 i ∧ CL wb w wx h t L0 g a1 c1 a2 c2 a3 c3 av i cv hs) (fun s4 _ => h.tn - (intOf s4).toNat)
    case atStart => exact ⟨0, none, 0, [], by omega, rfl, HL0.out⟩
    case round =>
      clear HL0
      obtain ⟨i, av, cv, hs, hi, rfl, hx⟩ := hrel
      have HX := Lib.hid hx
      have x4 := hx.box.cells.2.2.2.2
      clear hx
      by_cases hlt : i < h.tn
      · have q1 : (i : Int) < (h.tn : Int) := by omega
        have him : i < t.kids.length := by omega
        obtain ⟨gt, off, hta, hgt, hcs⟩ := (HP.out.below (HBW.out.trans (HX.out.b.mono HBW.out.size))).place (by omega)
        have HTA := Lib.hid hta
        have keepS : ∀ {W : World}, Box W 27 w.heap.size h → Below w.heap.size w W → (fun W => W.cell? ⟨w.heap.size, 4, none⟩ = some (.slice (some ⟨gt, off, none⟩) h.tn h.tc) ∧ W.cell? ⟨gt, off + i * 5, none⟩ = some (.int .i64 (H i).k) ∧ W.cell? ⟨gt, off + i * 5 + 1, none⟩ = some (.slice (H i).ka (H i).kn (H i).kc) ∧ W.cell? ⟨gt, off + i * 5 + 2, none⟩ = some (.slice (H i).va (H i).vn (H i).vc) ∧ W.cell? ⟨gt, off + i * 5 + 3, none⟩ = some (.slice (H i).da (H i).dn (H i).dc) ∧ W.cell? ⟨gt, off + i * 5 + 4, none⟩ = some (.slice (H i).ta (H i).tn (H i).tc)) W := fun {W} hb hbb => by
          obtain ⟨k0, k1, k2, k3, k4⟩ := (HP.out.below (HBW.out.trans (hbb.mono HBW.out.size))).cellsAt HTA.out i hlt
          exact ⟨(hb.cells.2.2.2.2).trans (by rw [HTA.out]), k0, k1, k2, k3, k4⟩
        clear hcs hgt
        go_upto_region 5 with fail
        clear x4
        have co1 := HX.out.out.cells.2.2.2.2
        refine wp_region_held_drew (S := (fun W => W.cell? ⟨w.heap.size, 4, none⟩ = some (.slice (some ⟨gt, off, none⟩) h.tn h.tc) ∧ W.cell? ⟨gt, off + i * 5, none⟩ = some (.int .i64 (H i).k) ∧ W.cell? ⟨gt, off + i * 5 + 1, none⟩ = some (.slice (H i).ka (H i).kn (H i).kc) ∧ W.cell? ⟨gt, off + i * 5 + 2, none⟩ = some (.slice (H i).va (H i).vn (H i).vc) ∧ W.cell? ⟨gt, off + i * 5 + 3, none⟩ = some (.slice (H i).da (H i).dn (H i).dc) ∧ W.cell? ⟨gt, off + i * 5 + 4, none⟩ = some (.slice (H i).ta (H i).tn (H i).tc))) (by kernel_rfl) (keepS HX.out.drew.box HX.out.drew.b) (fun hHeld => ?_)
        refine take_w (i := 0) (oi := ?oZ9) (v := ?vZ9) ?hiZ9 (by kernel_rfl) (by kernel_rfl) (by kernel_rfl) ?hQZ9 ?hwZ9 ?hyZ9 (by assumption) ?restZ9
        case hiZ9 => (simp only [List.getElem?_toArray, List.getElem?_cons_zero] <;> rfl)
        case hQZ9 => exact (fun _ _ _ h => h)
        case hwZ9 => rfl
        case hyZ9 => (intro w hSw; (try dsimp only at hSw); go_simp; try with_reducible rfl)
        (try simp only [Act.put, List.setIfInBounds_toArray, List.set_cons_zero, List.set_cons_succ])
        refine take_w (i := 2) (oi := ?oZ10) (v := ?vZ10) ?hiZ10 (by kernel_rfl) (by kernel_rfl) (by kernel_rfl) ?hQZ10 ?hwZ10 ?hyZ10 (by assumption) ?restZ10
        case hiZ10 => (simp only [List.getElem?_toArray, List.getElem?_cons_succ, List.getElem?_cons_zero] <;> rfl)
        case hQZ10 => exact (fun _ _ _ h => h)
        case hwZ10 => rfl
        case hyZ10 => (intro w hSw; (try dsimp only at hSw); go_simp; try with_reducible rfl)
        (try simp only [Act.put, List.setIfInBounds_toArray, List.set_cons_zero, List.set_cons_succ])
        refine take_w (i := 3) (oi := ?oZ11) (v := ?vZ11) ?hiZ11 (by kernel_rfl) (by kernel_rfl) (by kernel_rfl) ?hQZ11 ?hwZ11 ?hyZ11 (by assumption) ?restZ11
        case hiZ11 => (simp only [List.getElem?_toArray, List.getElem?_cons_succ, List.getElem?_cons_zero] <;> rfl)
        case hQZ11 => exact (fun _ _ _ h => h)
        case hwZ11 => rfl
        case hyZ11 => (intro w hSw; (try dsimp only at hSw); go_simp; try with_reducible rfl)
        (try simp only [Act.put, List.setIfInBounds_toArray, List.set_cons_zero, List.set_cons_succ])
        refine take_w (i := 4) (oi := ?oZ12) (v := ?vZ12) ?hiZ12 (by kernel_rfl) (by kernel_rfl) (by kernel_rfl) ?hQZ12 ?hwZ12 ?hyZ12 (by assumption) ?restZ12
        case hiZ12 => (simp only [List.getElem?_toArray, List.getElem?_cons_succ, List.getElem?_cons_zero] <;> rfl)
        case hQZ12 => exact (fun _ _ _ h => h)
        case hwZ12 => rfl
        case hyZ12 => (intro w hSw; (try dsimp only at hSw); go_simp; try with_reducible rfl)
        (try simp only [Act.put, List.setIfInBounds_toArray, List.set_cons_zero, List.set_cons_succ])
        refine take_w (i := 5) (oi := ?oZ13) (v := ?vZ13) ?hiZ13 (by kernel_rfl) (by kernel_rfl) (by kernel_rfl) ?hQZ13 ?hwZ13 ?hyZ13 (by assumption) ?restZ13
        case hiZ13 => (simp only [List.getElem?_toArray, List.getElem?_cons_succ, List.getElem?_cons_zero] <;> rfl)
        case hQZ13 => exact (fun _ _ _ h => h)
        case hwZ13 => rfl
        case hyZ13 => (intro w hSw; (try dsimp only at hSw); go_simp; try with_reducible rfl)
        (try simp only [Act.put, List.setIfInBounds_toArray, List.set_cons_zero, List.set_cons_succ])
        refine take_w (i := 6) (oi := ?oZ14) (v := ?vZ14) ?hiZ14 (by kernel_rfl) (by kernel_rfl) (by kernel_rfl) ?hQZ14 ?hwZ14 ?hyZ14 (by assumption) ?restZ14
        case hiZ14 => (simp only [List.getElem?_toArray, List.getElem?_cons_succ, List.getElem?_cons_zero] <;> rfl)
        case hQZ14 => exact (fun _ _ _ h => h)
        case hwZ14 => rfl
        case hyZ14 => (intro w hSw; (try dsimp only at hSw); go_simp; try with_reducible rfl)
        (try simp only [Act.put, List.setIfInBounds_toArray, List.set_cons_zero, List.set_cons_succ])
        refine wpAnyH_ready (rs := [1, 7]) (by kernel_rfl) (by simp) ?_
        refine AllReadyH.cons (o := ?oZ15) ?hiZ15 (fun K hK => ?stZ15) (AllReadyH.cons (o := ?oZ16) ?hiZ16 (fun K hK => ?stZ16) AllReadyH.nil)
        case hiZ15 => (simp only [List.getElem?_toArray, List.getElem?_cons_succ, List.getElem?_cons_zero] <;> rfl)
        case hiZ16 => (simp only [List.getElem?_toArray, List.getElem?_cons_succ, List.getElem?_cons_zero] <;> rfl)
        case stZ15 =>
          go_simp
          refine hK.out _ _ ?_ (fun hHeld => ?_)
          · (first | exact keepS HX5.out.box HX5.out.b | exact keepS ((HKS.out _ (by have := HX3.out.og; omega)).trans HX3.out.box) (HX3.out.b.grown (HG4.out) HX3.out.b.size (fun k e => by have := (HX3.out.own.lt k e).1; have := HX3.out.og; omega)) | exact keepS HX3.out.box HX3.out.b | exact keepS HX2.out.box HX2.out.b | exact keepS HX.out.drew.box HX.out.drew.b)
          clear hK K
          (try simp only [Act.put, List.setIfInBounds_toArray, List.set_cons_zero, List.set_cons_succ])
          refine wpAnyH_ready (rs := [7]) (by kernel_rfl) (by simp) ?_
          refine AllReadyH.cons (o := ?oZ17) ?hiZ17 (fun K hK => ?stZ17) AllReadyH.nil
          case hiZ17 => (simp only [List.getElem?_toArray, List.getElem?_cons_succ, List.getElem?_cons_zero] <;> rfl)
          go_simp
          go_at_call 23
          refine (IH.out _ (List.getElem_mem him) (H i) _ (HP.out.kids i him) (HBW.out.trans (HX.out.drew.b.mono HBW.out.size)) (HLK.out i him)).mono ?_
          rintro _ w2 ⟨h2, rfl, hf2, hb2⟩
          unfold TH.v
          have HX2 := Lib.hid (HX.out.drew.below hb2)
          have hb3 : Below w2.heap.size w2 (w2.alloc (.cells #[.int .i64 h2.k, .slice h2.ka h2.kn h2.kc, .slice h2.va h2.vn h2.vc, .slice h2.da h2.dn h2.dc, .slice h2.ta h2.tn h2.tc] 27)) := (Below.refl _ _).alloc (Nat.le_refl _) _
          have HX3 := Lib.hid (HX2.out.below hb3)
          have HF3 := Lib.hid (hf2.below hb3 (Nat.le_refl _))
          have HS3 := Lib.hid (And.intro hb2.size hb3.size)
          have HB3 := Lib.hid (Box.new w2 27 h2)
          have co2 := HX2.out.out.cells.2.2.2.2
          have co3 := HX3.out.out.cells.2.2.2.2
          clear hf2 hb2 hb3
          go_simp
          refine hK.out _ _ ?_ (fun hHeld => ?_)
          · (first | exact keepS HX5.out.box HX5.out.b | exact keepS ((HKS.out _ (by have := HX3.out.og; omega)).trans HX3.out.box) (HX3.out.b.grown (HG4.out) HX3.out.b.size (fun k e => by have := (HX3.out.own.lt k e).1; have := HX3.out.og; omega)) | exact keepS HX3.out.box HX3.out.b | exact keepS HX2.out.box HX2.out.b | exact keepS HX.out.drew.box HX.out.drew.b)
          clear hK K
          (try simp only [Act.put, List.setIfInBounds_toArray, List.set_cons_zero, List.set_cons_succ])
          refine wpAnyH_ready (rs := [8]) (by kernel_rfl) (by simp) ?_
          refine AllReadyH.cons (o := ?oZ18) ?hiZ18 (fun K hK => ?stZ18) AllReadyH.nil
          case hiZ18 => (simp only [List.getElem?_toArray, List.getElem?_cons_succ, List.getElem?_cons_zero] <;> rfl)
          go_simp
          refine hK.out _ _ ?_ (fun hHeld => ?_)
          · (first | exact keepS HX5.out.box HX5.out.b | exact keepS ((HKS.out _ (by have := HX3.out.og; omega)).trans HX3.out.box) (HX3.out.b.grown (HG4.out) HX3.out.b.size (fun k e => by have := (HX3.out.own.lt k e).1; have := HX3.out.og; omega)) | exact keepS HX3.out.box HX3.out.b | exact keepS HX2.out.box HX2.out.b | exact keepS HX.out.drew.box HX.out.drew.b)
          clear hK K
          (try simp only [Act.put, List.setIfInBounds_toArray, List.set_cons_zero, List.set_cons_succ])
          refine wpAnyH_ready (rs := [9]) (by kernel_rfl) (by simp) ?_
          refine AllReadyH.cons (o := ?oZ19) ?hiZ19 (fun K hK => ?stZ19) AllReadyH.nil
          case hiZ19 => (simp only [List.getElem?_toArray, List.getElem?_cons_succ, List.getElem?_cons_zero] <;> rfl)
          refine step_append_trees _ rfl (.tmp 28) (.tmp 35) 25 rfl L0 27 ti _ 104 Tryd.underlying25 hti hy0 hy1 hy2 rfl (.slice av i cv) hs rfl HX3.out.own w2.heap.size 1 [h2] rfl HB3.out.row (by rw [HX3.out.len]; simp only [List.length_cons, List.length_nil]; omega) (by omega) HX3.out.L ?_
          intro v4 w4 ho4 hg4 hob4
          obtain ⟨a4, c4, hv4⟩ := ho4.sl
          have hl4 : (hs ++ [h2]).length = i + 1 := by rw [List.length_append, HX3.out.len]; rfl
          rw [hl4] at hv4
          subst hv4
          have bo4 : Box w4 27 g ⟨h.k, a1, h.kn, c1, a2, h.vn, c2, a3, h.dn, c3, av, i, cv⟩ := HX3.out.out.grown hg4 (fun q => by have := (HX3.out.own.lt g q.symm).1; have := HX3.out.og.2; omega)
          have cn4 := bo4.cells.2.2.2.2
          have cf4 := bo4.free 4
          have HX5 := Lib.hid (HX3.out.next him HF3.out (Nat.le_trans HX.out.L (Nat.le_refl _)) HS3.out.2 (fun b e => (HX.out.own.lt b e).2) ho4 hg4 hob4)
          have HKS := Lib.hid (fun j (hj : j < L0) => hg4.block j (Nat.lt_of_lt_of_le hj HX3.out.L) (fun q => by have := (HX3.out.own.lt j q.symm).1; omega))
          have HBX4 := Lib.hid bo4
          have HG4 := Lib.hid hg4
          clear ho4 hg4 hob4 hl4 bo4
          refine hK.out _ _ ?_ (fun hHeld => ?_)
          · (first | exact keepS HX5.out.box HX5.out.b | exact keepS ((HKS.out _ (by have := HX3.out.og; omega)).trans HX3.out.box) (HX3.out.b.grown (HG4.out) HX3.out.b.size (fun k e => by have := (HX3.out.own.lt k e).1; have := HX3.out.og; omega)) | exact keepS HX3.out.box HX3.out.b | exact keepS HX2.out.box HX2.out.b | exact keepS HX.out.drew.box HX.out.drew.b)
          clear hK K
          (try simp only [Act.put, List.setIfInBounds_toArray, List.set_cons_zero, List.set_cons_succ])
          refine take_w (i := 10) (oi := ?oZ20) (v := ?vZ20) ?hiZ20 (by kernel_rfl) (by kernel_rfl) (by kernel_rfl) ?hQZ20 ?hwZ20 ?hyZ20 (by assumption) ?restZ20
          case hiZ20 => (simp only [List.getElem?_toArray, List.getElem?_cons_succ, List.getElem?_cons_zero] <;> rfl)
          case hQZ20 => exact (fun _ _ _ h => h)
          case hwZ20 => rfl
          case hyZ20 => (intro w hSw; (try dsimp only at hSw); go_simp; try with_reducible rfl)
          (try simp only [Act.put, List.setIfInBounds_toArray, List.set_cons_zero, List.set_cons_succ])
          refine wpAnyH_ready (rs := [11]) (by kernel_rfl) (by simp) ?_
          refine AllReadyH.cons (o := ?oZ21) ?hiZ21 (fun K hK => ?stZ21) AllReadyH.nil
          case hiZ21 => (simp only [List.getElem?_toArray, List.getElem?_cons_succ, List.getElem?_cons_zero] <;> rfl)
          go_simp
          refine hK.out _ _ ?_ (fun hHeld => ?_)
          · (first | exact keepS HX5.out.box HX5.out.b | exact keepS ((HKS.out _ (by have := HX3.out.og; omega)).trans HX3.out.box) (HX3.out.b.grown (HG4.out) HX3.out.b.size (fun k e => by have := (HX3.out.own.lt k e).1; have := HX3.out.og; omega)) | exact keepS HX3.out.box HX3.out.b | exact keepS HX2.out.box HX2.out.b | exact keepS HX.out.drew.box HX.out.drew.b)
          clear hK K
          (try simp only [Act.put])
          refine wpAnyH_done (by kernel_rfl) ?_ _
          go_wp2_with fail
          exact ⟨⟨i + 1, by omega, by go_num, a4, c4, hs ++ [h2], HX5.out⟩, by simp [intOf]; omega⟩
        case stZ16 =>
          go_simp
          go_at_call 23
          refine (IH.out _ (List.getElem_mem him) (H i) _ (HP.out.kids i him) (HBW.out.trans (HX.out.drew.b.mono HBW.out.size)) (HLK.out i him)).mono ?_
          rintro _ w2 ⟨h2, rfl, hf2, hb2⟩
          unfold TH.v
          have HX2 := Lib.hid (HX.out.drew.below hb2)
          have hb3 : Below w2.heap.size w2 (w2.alloc (.cells #[.int .i64 h2.k, .slice h2.ka h2.kn h2.kc, .slice h2.va h2.vn h2.vc, .slice h2.da h2.dn h2.dc, .slice h2.ta h2.tn h2.tc] 27)) := (Below.refl _ _).alloc (Nat.le_refl _) _
          have HX3 := Lib.hid (HX2.out.below hb3)
          have HF3 := Lib.hid (hf2.below hb3 (Nat.le_refl _))
          have HS3 := Lib.hid (And.intro hb2.size hb3.size)
          have HB3 := Lib.hid (Box.new w2 27 h2)
          have co2 := HX2.out.out.cells.2.2.2.2
          have co3 := HX3.out.out.cells.2.2.2.2
          clear hf2 hb2 hb3
          go_simp
          refine hK.out _ _ ?_ (fun hHeld => ?_)
          · (first | exact keepS HX5.out.box HX5.out.b | exact keepS ((HKS.out _ (by have := HX3.out.og; omega)).trans HX3.out.box) (HX3.out.b.grown (HG4.out) HX3.out.b.size (fun k e => by have := (HX3.out.own.lt k e).1; have := HX3.out.og; omega)) | exact keepS HX3.out.box HX3.out.b | exact keepS HX2.out.box HX2.out.b | exact keepS HX.out.drew.box HX.out.drew.b)
          clear hK K
          (try simp only [Act.put, List.setIfInBounds_toArray, List.set_cons_zero, List.set_cons_succ])
          refine wpAnyH_ready (rs := [1, 8]) (by kernel_rfl) (by simp) ?_
          refine AllReadyH.cons (o := ?oZ22) ?hiZ22 (fun K hK => ?stZ22) (AllReadyH.cons (o := ?oZ23) ?hiZ23 (fun K hK => ?stZ23) AllReadyH.nil)
          case hiZ22 => (simp only [List.getElem?_toArray, List.getElem?_cons_succ, List.getElem?_cons_zero] <;> rfl)
          case hiZ23 => (simp only [List.getElem?_toArray, List.getElem?_cons_succ, List.getElem?_cons_zero] <;> rfl)
          case stZ22 =>
            go_simp
            refine hK.out _ _ ?_ (fun hHeld => ?_)
            · (first | exact keepS HX5.out.box HX5.out.b | exact keepS ((HKS.out _ (by have := HX3.out.og; omega)).trans HX3.out.box) (HX3.out.b.grown (HG4.out) HX3.out.b.size (fun k e => by have := (HX3.out.own.lt k e).1; have := HX3.out.og; omega)) | exact keepS HX3.out.box HX3.out.b | exact keepS HX2.out.box HX2.out.b | exact keepS HX.out.drew.box HX.out.drew.b)
            clear hK K
            (try simp only [Act.put, List.setIfInBounds_toArray, List.set_cons_zero, List.set_cons_succ])
            refine wpAnyH_ready (rs := [8]) (by kernel_rfl) (by simp) ?_
            refine AllReadyH.cons (o := ?oZ24) ?hiZ24 (fun K hK => ?stZ24) AllReadyH.nil
            case hiZ24 => (simp only [List.getElem?_toArray, List.getElem?_cons_succ, List.getElem?_cons_zero] <;> rfl)
            go_simp
            refine hK.out _ _ ?_ (fun hHeld => ?_)
            · (first | exact keepS HX5.out.box HX5.out.b | exact keepS ((HKS.out _ (by have := HX3.out.og; omega)).trans HX3.out.box) (HX3.out.b.grown (HG4.out) HX3.out.b.size (fun k e => by have := (HX3.out.own.lt k e).1; have := HX3.out.og; omega)) | exact keepS HX3.out.box HX3.out.b | exact keepS HX2.out.box HX2.out.b | exact keepS HX.out.drew.box HX.out.drew.b)
            clear hK K
            (try simp only [Act.put, List.setIfInBounds_toArray, List.set_cons_zero, List.set_cons_succ])
            refine wpAnyH_ready (rs := [9]) (by kernel_rfl) (by simp) ?_
            refine AllReadyH.cons (o := ?oZ25) ?hiZ25 (fun K hK => ?stZ25) AllReadyH.nil
            case hiZ25 => (simp only [List.getElem?_toArray, List.getElem?_cons_succ, List.getElem?_cons_zero] <;> rfl)
            refine step_append_trees _ rfl (.tmp 28) (.tmp 35) 25 rfl L0 27 ti _ 104 Tryd.underlying25 hti hy0 hy1 hy2 rfl (.slice av i cv) hs rfl HX3.out.own w2.heap.size 1 [h2] rfl HB3.out.row (by rw [HX3.out.len]; simp only [List.length_cons, List.length_nil]; omega) (by omega) HX3.out.L ?_
            intro v4 w4 ho4 hg4 hob4
            obtain ⟨a4, c4, hv4⟩ := ho4.sl
            have hl4 : (hs ++ [h2]).length = i + 1 := by rw [List.length_append, HX3.out.len]; rfl
            rw [hl4] at hv4
            subst hv4
            have bo4 : Box w4 27 g ⟨h.k, a1, h.kn, c1, a2, h.vn, c2, a3, h.dn, c3, av, i, cv⟩ := HX3.out.out.grown hg4 (fun q => by have := (HX3.out.own.lt g q.symm).1; have := HX3.out.og.2; omega)
            have cn4 := bo4.cells.2.2.2.2
            have cf4 := bo4.free 4
            have HX5 := Lib.hid (HX3.out.next him HF3.out (Nat.le_trans HX.out.L (Nat.le_refl _)) HS3.out.2 (fun b e => (HX.out.own.lt b e).2) ho4 hg4 hob4)
            have HKS := Lib.hid (fun j (hj : j < L0) => hg4.block j (Nat.lt_of_lt_of_le hj HX3.out.L) (fun q => by have := (HX3.out.own.lt j q.symm).1; omega))
            have HBX4 := Lib.hid bo4
            have HG4 := Lib.hid hg4
            clear ho4 hg4 hob4 hl4 bo4
            refine hK.out _ _ ?_ (fun hHeld => ?_)
            · (first | exact keepS HX5.out.box HX5.out.b | exact keepS ((HKS.out _ (by have := HX3.out.og; omega)).trans HX3.out.box) (HX3.out.b.grown (HG4.out) HX3.out.b.size (fun k e => by have := (HX3.out.own.lt k e).1; have := HX3.out.og; omega)) | exact keepS HX3.out.box HX3.out.b | exact keepS HX2.out.box HX2.out.b | exact keepS HX.out.drew.box HX.out.drew.b)
            clear hK K
            (try simp only [Act.put, List.setIfInBounds_toArray, List.set_cons_zero, List.set_cons_succ])
            refine take_w (i := 10) (oi := ?oZ26) (v := ?vZ26) ?hiZ26 (by kernel_rfl) (by kernel_rfl) (by kernel_rfl) ?hQZ26 ?hwZ26 ?hyZ26 (by assumption) ?restZ26
            case hiZ26 => (simp only [List.getElem?_toArray, List.getElem?_cons_succ, List.getElem?_cons_zero] <;> rfl)
            case hQZ26 => exact (fun _ _ _ h => h)
            case hwZ26 => rfl
            case hyZ26 => (intro w hSw; (try dsimp only at hSw); go_simp; try with_reducible rfl)
            (try simp only [Act.put, List.setIfInBounds_toArray, List.set_cons_zero, List.set_cons_succ])
            refine wpAnyH_ready (rs := [11]) (by kernel_rfl) (by simp) ?_
            refine AllReadyH.cons (o := ?oZ27) ?hiZ27 (fun K hK => ?stZ27) AllReadyH.nil
            case hiZ27 => (simp only [List.getElem?_toArray, List.getElem?_cons_succ, List.getElem?_cons_zero] <;> rfl)
            go_simp
            refine hK.out _ _ ?_ (fun hHeld => ?_)
            · (first | exact keepS HX5.out.box HX5.out.b | exact keepS ((HKS.out _ (by have := HX3.out.og; omega)).trans HX3.out.box) (HX3.out.b.grown (HG4.out) HX3.out.b.size (fun k e => by have := (HX3.out.own.lt k e).1; have := HX3.out.og; omega)) | exact keepS HX3.out.box HX3.out.b | exact keepS HX2.out.box HX2.out.b | exact keepS HX.out.drew.box HX.out.drew.b)
            clear hK K
            (try simp only [Act.put])
            refine wpAnyH_done (by kernel_rfl) ?_ _
            go_wp2_with fail
            exact ⟨⟨i + 1, by omega, by go_num, a4, c4, hs ++ [h2], HX5.out⟩, by simp [intOf]; omega⟩
          case stZ23 =>
            go_simp
            refine hK.out _ _ ?_ (fun hHeld => ?_)
            · (first | exact keepS HX5.out.box HX5.out.b | exact keepS ((HKS.out _ (by have := HX3.out.og; omega)).trans HX3.out.box) (HX3.out.b.grown (HG4.out) HX3.out.b.size (fun k e => by have := (HX3.out.own.lt k e).1; have := HX3.out.og; omega)) | exact keepS HX3.out.box HX3.out.b | exact keepS HX2.out.box HX2.out.b | exact keepS HX.out.drew.box HX.out.drew.b)
            clear hK K
            (try simp only [Act.put, List.setIfInBounds_toArray, List.set_cons_zero, List.set_cons_succ])
            refine wpAnyH_ready (rs := [1]) (by kernel_rfl) (by simp) ?_
            refine AllReadyH.cons (o := ?oZ28) ?hiZ28 (fun K hK => ?stZ28) AllReadyH.nil
            case hiZ28 => (simp only [List.getElem?_toArray, List.getElem?_cons_succ, List.getElem?_cons_zero] <;> rfl)
            go_simp
            refine hK.out _ _ ?_ (fun hHeld => ?_)
            · (first | exact keepS HX5.out.box HX5.out.b | exact keepS ((HKS.out _ (by have := HX3.out.og; omega)).trans HX3.out.box) (HX3.out.b.grown (HG4.out) HX3.out.b.size (fun k e => by have := (HX3.out.own.lt k e).1; have := HX3.out.og; omega)) | exact keepS HX3.out.box HX3.out.b | exact keepS HX2.out.box HX2.out.b | exact keepS HX.out.drew.box HX.out.drew.b)
            clear hK K
            (try simp only [Act.put, List.setIfInBounds_toArray, List.set_cons_zero, List.set_cons_succ])
            refine wpAnyH_ready (rs := [9]) (by kernel_rfl) (by simp) ?_
            refine AllReadyH.cons (o := ?oZ29) ?hiZ29 (fun K hK => ?stZ29) AllReadyH.nil
            case hiZ29 => (simp only [List.getElem?_toArray, List.getElem?_cons_succ, List.getElem?_cons_zero] <;> rfl)
            refine step_append_trees _ rfl (.tmp 28) (.tmp 35) 25 rfl L0 27 ti _ 104 Tryd.underlying25 hti hy0 hy1 hy2 rfl (.slice av i cv) hs rfl HX3.out.own w2.heap.size 1 [h2] rfl HB3.out.row (by rw [HX3.out.len]; simp only [List.length_cons, List.length_nil]; omega) (by omega) HX3.out.L ?_
            intro v4 w4 ho4 hg4 hob4
            obtain ⟨a4, c4, hv4⟩ := ho4.sl
            have hl4 : (hs ++ [h2]).length = i + 1 := by rw [List.length_append, HX3.out.len]; rfl
            rw [hl4] at hv4
            subst hv4
            have bo4 : Box w4 27 g ⟨h.k, a1, h.kn, c1, a2, h.vn, c2, a3, h.dn, c3, av, i, cv⟩ := HX3.out.out.grown hg4 (fun q => by have := (HX3.out.own.lt g q.symm).1; have := HX3.out.og.2; omega)
            have cn4 := bo4.cells.2.2.2.2
            have cf4 := bo4.free 4
            have HX5 := Lib.hid (HX3.out.next him HF3.out (Nat.le_trans HX.out.L (Nat.le_refl _)) HS3.out.2 (fun b e => (HX.out.own.lt b e).2) ho4 hg4 hob4)
            have HKS := Lib.hid (fun j (hj : j < L0) => hg4.block j (Nat.lt_of_lt_of_le hj HX3.out.L) (fun q => by have := (HX3.out.own.lt j q.symm).1; omega))
            have HBX4 := Lib.hid bo4
            have HG4 := Lib.hid hg4
            clear ho4 hg4 hob4 hl4 bo4
            refine hK.out _ _ ?_ (fun hHeld => ?_)
            · (first | exact keepS HX5.out.box HX5.out.b | exact keepS ((HKS.out _ (by have := HX3.out.og; omega)).trans HX3.out.box) (HX3.out.b.grown (HG4.out) HX3.out.b.size (fun k e => by have := (HX3.out.own.lt k e).1; have := HX3.out.og; omega)) | exact keepS HX3.out.box HX3.out.b | exact keepS HX2.out.box HX2.out.b | exact keepS HX.out.drew.box HX.out.drew.b)
            clear hK K
            (try simp only [Act.put, List.setIfInBounds_toArray, List.set_cons_zero, List.set_cons_succ])
            refine take_w (i := 10) (oi := ?oZ30) (v := ?vZ30) ?hiZ30 (by kernel_rfl) (by kernel_rfl) (by kernel_rfl) ?hQZ30 ?hwZ30 ?hyZ30 (by assumption) ?restZ30
            case hiZ30 => (simp only [List.getElem?_toArray, List.getElem?_cons_succ, List.getElem?_cons_zero] <;> rfl)
            case hQZ30 => exact (fun _ _ _ h => h)
            case hwZ30 => rfl
            case hyZ30 => (intro w hSw; (try dsimp only at hSw); go_simp; try with_reducible rfl)
            (try simp only [Act.put, List.setIfInBounds_toArray, List.set_cons_zero, List.set_cons_succ])
            refine wpAnyH_ready (rs := [11]) (by kernel_rfl) (by simp) ?_
            refine AllReadyH.cons (o := ?oZ31) ?hiZ31 (fun K hK => ?stZ31) AllReadyH.nil
            case hiZ31 => (simp only [List.getElem?_toArray, List.getElem?_cons_succ, List.getElem?_cons_zero] <;> rfl)
            go_simp
            refine hK.out _ _ ?_ (fun hHeld => ?_)
            · (first | exact keepS HX5.out.box HX5.out.b | exact keepS ((HKS.out _ (by have := HX3.out.og; omega)).trans HX3.out.box) (HX3.out.b.grown (HG4.out) HX3.out.b.size (fun k e => by have := (HX3.out.own.lt k e).1; have := HX3.out.og; omega)) | exact keepS HX3.out.box HX3.out.b | exact keepS HX2.out.box HX2.out.b | exact keepS HX.out.drew.box HX.out.drew.b)
            clear hK K
            (try simp only [Act.put])
            refine wpAnyH_done (by kernel_rfl) ?_ _
            go_wp2_with fail
            exact ⟨⟨i + 1, by omega, by go_num, a4, c4, hs ++ [h2], HX5.out⟩, by simp [intOf]; omega⟩
      · obtain rfl : i = h.tn := by omega
        have q1 : ¬ (h.tn : Int) < (h.tn : Int) := by omega
        obtain ⟨v0, v1, v2, v3, v4⟩ := HX.out.out.cells
        go_wp2_with (first
          | (refine wpList_store_box rfl 27 (.tmp 2) (.tmp 38) rfl (w.heap.size + 1) hZ ⟨h.k, a1, h.kn, c1, a2, h.vn, c2, a3, h.dn, c3, av, h.tn, cv⟩ rfl rfl 27 HX.out.res infoTree5 ?_
             intro w9 hbx9 hg9
             have HX9 := Lib.hid hbx9
             have HF9 := Lib.hid (HX.out.fin rfl HP.out hg9)
             have HB9 : Hid (Below w.heap.size w w9) := Lib.hid (HX.out.b.grown hg9 HX.out.b.size (fun j hj => by injection hj; omega))
             clear hbx9 hg9))
        refine bodyPost_ret (v := TH.v ⟨h.k, a1, h.kn, c1, a2, h.vn, c2, a3, h.dn, c3, av, h.tn, cv⟩) (results_cell1 Tryd.results23 _ HX9.out rfl Tryd.underlying27 infoTree5) rfl ⟨_, rfl, HF9.out, HB9.out⟩
end Go.Proofs.YtlbiefddcimdgaaDoor

/- The walk of the law CheckStays. -/
namespace Go.Proofs.YtlbiefddcimdgaaDoor
open Go.RowKit
set_option linter.unusedVariables false

/-- The span, the tree, its proof, the proof's copy, the digest and the root. -/
structure YX8 (w W : World) (sp : DH) (f tt : List Int) (g6 : Nat) (h2 : TH) (a : AT) (g9 : Nat) (hp : TH) (g11 : Nat) (hc : TH) (p : Tr) (da : Option Addr) (dc : Nat) (ra : Option Addr) (rc : Nat) (zs : List Int) : Prop where
  sx : SX w W sp f tt
  tb : Box W 27 g6 h2
  ti : InTree W h2 a.tr
  pb : Box W 27 g9 hp
  pt : InTree W hp p
  cb : Box W 27 g11 hc
  ct : InTree W hc p
  dg : InBytes W da 4 dc zs
  rt : InBytes W ra 4 rc zs
section
variable {w W W' : World} {sp : DH} {f tt : List Int} {g6 : Nat} {h2 : TH} {a : AT} {g9 : Nat} {hp : TH} {g11 : Nat} {hc : TH} {p : Tr} {da : Option Addr} {dc : Nat} {ra : Option Addr} {rc : Nat} {zs : List Int}
theorem YX8.below (x : YX8 w W sp f tt g6 h2 a g9 hp g11 hc p da dc ra rc zs) (hb : Below W.heap.size W W') : YX8 w W' sp f tt g6 h2 a g9 hp g11 hc p da dc ra rc zs := ⟨x.sx.below hb, x.tb.below hb x.tb.lt, x.ti.lower hb, x.pb.below hb x.pb.lt, x.pt.lower hb, x.cb.below hb x.cb.lt, x.ct.lower hb, x.dg.below hb, x.rt.below hb⟩
end
set_option maxRecDepth 100000 in
set_option maxHeartbeats 8000000 in
theorem checkStays_law (la : Option Addr) (n cap : Nat) (D : Nat → PH) (sp : DH) (f tt : List Int) (w : World) (hin : InRec recP w la n cap D) (hkv : ∀ i, i < n → ∃ key val, InBytes w (D i).ka (D i).kn (D i).kc key ∧ InBytes w (D i).va (D i).vn (D i).vc val)
    (hs : SpanIn w sp f tt) (hT : TabLies w) :
    Calls Tryd.prog 8 #[.slice la n cap, sp.v] w (Says w (.bool true)) := by
  obtain ⟨i0, hi0, hz0, hz1, hz2⟩ := info_parts infoU8
  have HI0 := Lib.hid (And.intro hi0 (And.intro hz0 (And.intro hz1 hz2)))
  unfold DH.v
  have HD0 := Lib.hid (SX.new w hs)
  have HL0 := Lib.hid (And.intro hin hkv)
  have HT := Lib.hid hT
  clear hs hin hkv hT hi0 hz0 hz1 hz2
  go_enter Tryd.func8, Tryd.ntmps8
  go_upto_region 3 with (first
    | (go_at_call 9
       refine (up8_any _ (HT.out.below HD0.out.b (Nat.le_refl _))).mono ?_
       rintro _ w1 ⟨rfl, hb1⟩
       have HD1 := Lib.hid (HD0.out.below hb1)
       clear hb1)
    | (go_at_call 19
       refine (refGrown_any la n cap D _ (HL0.out.1.below HD1.out.b) (fun i hi => by
         obtain ⟨key, val, q1, q2⟩ := HL0.out.2 i hi
         exact ⟨key, val, q1.below HD1.out.b, q2.below HD1.out.b⟩)).mono ?_
       rintro _ w2 ⟨a, hgood, hlen, h2, rfl, hi2, hb2⟩
       have HD2 := Lib.hid (HD1.out.below hb2)
       have HI2 := Lib.hid hi2
       have HGD := Lib.hid hgood
       have HLEN := Lib.hid hlen
       clear hb2 hi2 hgood hlen)
    | (refine wpList_store_box rfl 27 (.tmp 6) (.tmp 22) rfl w2.heap.size hZ h2 rfl rfl 27 (Box.new w2 27 hZ) infoTree5 ?_
       intro w2b hbx hg
       have qq : Below w2.heap.size w2 w2b := ((Below.refl w2.heap.size w2).alloc (Nat.le_refl _) _).grown hg (by simp) (fun j hj => by injection hj; omega)
       have HG3 : Hid (SX w w2b sp f tt ∧ Box w2b 27 w2.heap.size h2 ∧ InTree w2b h2 a.tr) := Lib.hid ⟨HD2.out.below qq, hbx, HI2.out.lower qq⟩
       clear hbx hg qq))
  generalize w2.heap.size = g6 at *
  have HIS : Hid (isT a.tr = true) := Lib.hid (HGD.out.is (by have := HLEN.out; omega))
  have HCN : Hid (countT a.tr ≤ 500) := Lib.hid (count_small8 HLEN.out)
  have HDP : Hid (a.depth ≤ 64) := Lib.hid (Nat.le_trans (AT.depth_le a) (by have := HLEN.out; omega))
  have HCK : Hid (checkT a.tr = 0) := Lib.hid (AT.checked HGD.out.lim HDP.out)
  have HR : Hid (checkX 4 (digA 4 a) f tt sp.out (showA 4 f tt sp.out a) = (0, a.pairs.filter fun p => inS f tt sp.out p.1)) := Lib.hid (by
    have e : checkX ((4 : Nat) : Int) (digA 4 a) f tt sp.out (showA 4 f tt sp.out a) = _ := checkX_ok (k := 4) (by omega) (by omega) (digA_len (by omega) a) _ _ _ _
    rw [show ((4 : Nat) : Int) = 4 from rfl] at e
    rw [e]
    exact show_check8 (by omega) f tt sp.out HGD.out.rise HGD.out.lim HDP.out)
  have HPC : Hid (countT (showA 4 f tt sp.out a) ≤ 500 ∧ LightOK (showA 4 f tt sp.out a)) := Lib.hid ⟨Nat.le_trans (show_count f tt sp.out a) HCN.out, show_light (by omega) f tt sp.out a HGD.out.lim⟩
  have HDL : Hid ((digA 4 a).length = 4) := Lib.hid (digA_len (by omega) a)
  have HKL : Hid ((a.pairs.filter fun p => inS f tt sp.out p.1).length ≤ 60) := Lib.hid (Nat.le_trans (List.length_filter_le _ _) HLEN.out)
  obtain ⟨x0, x1, x2, x3, x4⟩ := HG3.out.2.1.cells
  go_upto_region 4 with (first
    | (go_at_call 16
       refine (digest_ok 4 (by omega) (by omega) a.tr h2 _ HG3.out.2.2 (HT.out.below HG3.out.1.b (Nat.le_refl _)) HCK.out (AT.digs (by omega) a)).mono ?_
       rintro _ w4 ⟨a4, c4, rfl, hn4, hb4⟩
       rw [HDL.out]
       have HG4 : Hid (SX w w4 sp f tt ∧ Box w4 27 g6 h2 ∧ InTree w4 h2 a.tr ∧ InBytes w4 a4 4 c4 (digA 4 a)) := Lib.hid ⟨HG3.out.1.below hb4, HG3.out.2.1.below hb4 HG3.out.2.1.lt, HG3.out.2.2.lower hb4, by have q := hn4.inb; rw [HDL.out] at q; exact q⟩
       clear hn4 hb4 x0 x1 x2 x3 x4))
  obtain ⟨x0, x1, x2, x3, x4⟩ := HG4.out.2.1.cells
  obtain ⟨y0, y1, y2⟩ := HG4.out.1.box.three
  go_upto_region 5 with (first
    | (go_at_call 20
       refine (prove_ok 4 (by omega) (by omega) a h2 sp f tt _ HG4.out.2.2.1 HG4.out.1.sp HIS.out HCN.out (HT.out.below HG4.out.1.b (Nat.le_refl _))).mono ?_
       rintro _ w5 ⟨h5, rfl, hf5, hb5⟩
       have HG5 : Hid (SX w w5 sp f tt ∧ Box w5 27 g6 h2 ∧ InTree w5 h2 a.tr ∧ InBytes w5 a4 4 c4 (digA 4 a)) := Lib.hid ⟨HG4.out.1.below hb5, HG4.out.2.1.below hb5 HG4.out.2.1.lt, HG4.out.2.2.1.lower hb5, HG4.out.2.2.2.below hb5⟩
       have HP5 := Lib.hid (hf5.self (Nat.le_refl _))
       clear hf5 hb5 x0 x1 x2 x3 x4 y0 y1 y2)
    | (refine wpList_store_box rfl 27 (.tmp 9) (.tmp 32) rfl w5.heap.size hZ h5 rfl rfl 27 (Box.new w5 27 hZ) infoTree5 ?_
       intro w5b hbx hg
       have qq : Below w5.heap.size w5 w5b := ((Below.refl w5.heap.size w5).alloc (Nat.le_refl _) _).grown hg (by simp) (fun j hj => by injection hj; omega)
       have HG6 : Hid (SX w w5b sp f tt ∧ Box w5b 27 g6 h2 ∧ InTree w5b h2 a.tr ∧ InBytes w5b a4 4 c4 (digA 4 a) ∧ Box w5b 27 w5.heap.size h5 ∧ InTree w5b h5 (showA 4 f tt sp.out a)) := Lib.hid ⟨HG5.out.1.below qq, HG5.out.2.1.below qq HG5.out.2.1.lt, HG5.out.2.2.1.lower qq, HG5.out.2.2.2.below qq, hbx, HP5.out.lower qq⟩
       clear hbx hg qq))
  generalize w5.heap.size = g9 at *
  obtain ⟨x0, x1, x2, x3, x4⟩ := HG6.out.2.2.2.2.1.cells
  go_upto_region 8 with (first
    | (go_at_call 23
       refine (copy_any w5b (showA 4 f tt sp.out a) h5 _ HG6.out.2.2.2.2.2 (Below.refl _ _) HPC.out.2).mono ?_
       rintro _ w7 ⟨h7, rfl, hf7, hb7⟩
       have HG7 : Hid (SX w w7 sp f tt ∧ Box w7 27 g6 h2 ∧ InTree w7 h2 a.tr ∧ InBytes w7 a4 4 c4 (digA 4 a) ∧ Box w7 27 g9 h5 ∧ InTree w7 h5 (showA 4 f tt sp.out a) ∧ InTree w7 h7 (showA 4 f tt sp.out a)) := Lib.hid ⟨HG6.out.1.below hb7, HG6.out.2.1.below hb7 HG6.out.2.1.lt, HG6.out.2.2.1.lower hb7, HG6.out.2.2.2.1.below hb7, HG6.out.2.2.2.2.1.below hb7 HG6.out.2.2.2.2.1.lt, HG6.out.2.2.2.2.2.lower hb7, hf7.self hb7 (Nat.le_refl _)⟩
       clear hf7 hb7 x0 x1 x2 x3 x4)
    | (refine wpList_store_box rfl 27 (.tmp 11) (.tmp 41) rfl w7.heap.size hZ h7 rfl rfl 27 (Box.new w7 27 hZ) infoTree5 ?_
       intro w7b hbx hg
       have qq : Below w7.heap.size w7 w7b := ((Below.refl w7.heap.size w7).alloc (Nat.le_refl _) _).grown hg (by simp) (fun j hj => by injection hj; omega)
       have HG8 : Hid (SX w w7b sp f tt ∧ Box w7b 27 g6 h2 ∧ InTree w7b h2 a.tr ∧ InBytes w7b a4 4 c4 (digA 4 a) ∧ Box w7b 27 g9 h5 ∧ InTree w7b h5 (showA 4 f tt sp.out a) ∧ Box w7b 27 w7.heap.size h7 ∧ InTree w7b h7 (showA 4 f tt sp.out a)) := Lib.hid ⟨HG7.out.1.below qq, HG7.out.2.1.below qq HG7.out.2.1.lt, HG7.out.2.2.1.lower qq, HG7.out.2.2.2.1.below qq, HG7.out.2.2.2.2.1.below qq HG7.out.2.2.2.2.1.lt, HG7.out.2.2.2.2.2.1.lower qq, hbx, HG7.out.2.2.2.2.2.2.lower qq⟩
       clear hbx hg qq))
  generalize w7.heap.size = g11 at *
  have q8 : Below w7b.heap.size w7b (w7b.alloc (.cells #[] 5)) := (Below.refl _ _).alloc (Nat.le_refl _) _
  have HQ8 := Lib.hid q8
  clear q8
  go_upto_region 9 with (first
    | (at_builtin
       refine wpList_append_bytes' _ rfl (.tmp 42) (.tmp 43) 22 rfl w7b.heap.size 5 i0 _ 1 Tryd.underlying22 HI0.out.1 HI0.out.2.1 HI0.out.2.2.1 HI0.out.2.2.2 rfl w7b.heap.size 0 0 [] rfl (own_new w7b 5 .u8 [] w7b.heap.size (Nat.le_refl _) (by simp [maxLen])) a4 4 c4 (digA 4 a) rfl (HG8.out.2.2.2.1.below HQ8.out) (by simp only [maxLen]; omega) (by omega) (by simp) ?_
       intro g12 c12 w8 hown8 hg8
       have qq : Below w7b.heap.size w7b w8 := below_only HQ8.out hg8 (by simp) (Nat.le_refl _)
       have ho := hown8
       rw [List.nil_append] at ho
       have HY9 : Hid (YX8 w w8 sp f tt g6 h2 a g9 h5 g11 h7 (showA 4 f tt sp.out a) a4 c4 (some ⟨g12, 0, none⟩) c12 (digA 4 a)) := Lib.hid ⟨HG8.out.1.below qq, HG8.out.2.1.below qq HG8.out.2.1.lt, HG8.out.2.2.1.lower qq, HG8.out.2.2.2.2.1.below qq HG8.out.2.2.2.2.1.lt, HG8.out.2.2.2.2.2.1.lower qq, HG8.out.2.2.2.2.2.2.1.below qq HG8.out.2.2.2.2.2.2.1.lt, HG8.out.2.2.2.2.2.2.2.lower qq, HG8.out.2.2.2.1.below qq, InBytes.of_own ho HG8.out.2.2.2.1.bytes⟩
       clear hown8 hg8 qq ho))
  generalize hpt : showA 4 f tt sp.out a = pt at *
  generalize hkv : (a.pairs.filter fun p => inS f tt sp.out p.1) = kvs at *
  have HKV := Lib.hid hkv
  clear hkv hpt
  obtain ⟨x0, x1, x2, x3, x4⟩ := HY9.out.cb.cells
  obtain ⟨y0, y1, y2⟩ := HY9.out.sx.box.three
  go_upto_region 10 with (first
    | (go_at_call 11
       refine (chk_any 4 (by omega) (by omega) (some ⟨g12, 0, none⟩) 4 c12 (digA 4 a) sp f tt pt h7 _ HY9.out.rt HY9.out.sx.sp HY9.out.ct HPC.out.1 (HT.out.below HY9.out.sx.b (Nat.le_refl _))).mono ?_
       rw [HR.out]
       rintro _ w10 ⟨ra, r, rc, rs, rfl, ho10, hrl10, hpv10, hb10⟩
       have e0 : codeV ((0, kvs) : Nat × List KV).1 = .nilIface := rfl
       rw [e0]
       have HV10 : Hid (VS w8 w10 ra r rc rs) := Lib.hid ⟨hb10, ho10, hpv10.own⟩
       have HRL : Hid (rs.length = r ∧ r ≤ 60) := Lib.hid ⟨hrl10, by have q := hpv10.1; have := HKL.out; dsimp only at q; omega⟩
       clear ho10 hrl10 hpv10 hb10 e0 x0 x1 x2 x3 x4 y0 y1 y2))
  have HY10 := Lib.hid (HY9.out.below HV10.out.b)
  obtain ⟨x0, x1, x2, x3, x4⟩ := HY10.out.cb.cells
  obtain ⟨z0, z1, z2, z3, z4⟩ := HY10.out.pb.cells
  have hse : ((strOfNums (digA 4 a)).toList == (strOfNums (digA 4 a)).toList) = true := by simp
  have HCV : Hid (∀ W, Below w10.heap.size w10 W → (convert 22 9 (.slice (some ⟨g12, 0, none⟩) 4 c12)).run Tryd.prog W = .ok (.string (strOfNums (digA 4 a))) W ∧ (convert 22 9 (.slice a4 4 c4)).run Tryd.prog W = .ok (.string (strOfNums (digA 4 a))) W) := Lib.hid (fun W hW => ⟨conv_key (HY10.out.rt.below hW), conv_key (HY10.out.dg.below hW)⟩)
  go_upto_region 11 with (first
    | (go_at_call 24
       refine (refSame_any pt h7 h5 _ HY10.out.ct HY10.out.pt).mono ?_
       rintro _ w11 ⟨rfl, hb11⟩
       have HV11 := Lib.hid (HV10.out.below hb11)
       obtain ⟨cv1, cv2⟩ := HCV.out _ hb11
       clear hb11 x0 x1 x2 x3 x4 z0 z1 z2 z3 z4))
  clear HV10 HY10 cv1 cv2
  have hr60 : r ≤ 60 := HRL.out.2
  go_wp2_with fail
  go_loopw [16] (fun s16 wx => ∃ i : Nat, i ≤ r ∧ s16 = .int .i64 i ∧ VS w8 wx ra r rc rs) (fun s16 _ => r - (intOf s16).toNat)
  case atStart => exact ⟨0, by omega, rfl, HV11.out⟩
  case round =>
    clear HV11
    obtain ⟨i, hi, rfl, hv⟩ := hrel
    by_cases hlt : i < r
    · have q1 : (i : Int) < (r : Int) := by omega
      have him : i < rs.length := by rw [HRL.out.1]; exact hlt
      obtain ⟨gr, hga⟩ := hv.place HRL.out.1 i him
      subst hga
      have HV := Lib.hid hv
      have hvl := hv.len i him
      clear hv
      generalize hvn : (rs[i]).vn = vn at *
      generalize hvc : (rs[i]).vc = vc at *
      generalize hva : (rs[i]).va = va at *
      have HVN := Lib.hid (And.intro hvn (And.intro hvc hva))
      clear hvn hvc hva
      go_upto_region 15 with fail
      go_loopw [17] (fun s17 wx => ∃ k : Nat, k ≤ vn ∧ s17 = .int .i64 k ∧ VS w8 wx (some ⟨gr, 0, none⟩) r rc rs) (fun s17 _ => vn - (intOf s17).toNat)
      case atStart => exact ⟨0, by omega, rfl, HV.out⟩
      case round =>
        clear HV
        obtain ⟨k, hk, rfl, hv⟩ := hrel
        have hc := hv.cell HRL.out.1 i him
        rw [HVN.out.1, HVN.out.2.1, HVN.out.2.2] at hc
        by_cases hltk : k < vn
        · have q2 : (k : Int) < (vn : Int) := by omega
          obtain ⟨gv, z, hva, hfr, hcz, hz0, hz1, hbump⟩ := hv.drew.bump i him k (by rw [HVN.out.1]; exact hltk)
          rw [HVN.out.2.2] at hva
          subst hva
          have hc2 : wr.drew.cell? ⟨gr, i * 2 + 1, none⟩ = some (.slice (some ⟨gv, 0, none⟩) vn vc) := hc
          have HBU := Lib.hid hbump
          have HCC := Lib.hid (And.intro hc2 hcz)
          clear hbump hv
          go_upto_region 17 with fail
          clear hc hc2 hcz
          refine region_l (S := (fun W => W.cell? ⟨gr, i * 2 + 1, none⟩ = some (.slice (some ⟨gv, 0, none⟩) vn vc) ∧ W.cell? ⟨gv, k, none⟩ = some (.int .u8 z))) 16 (by kernel_rfl) HCC.out (fun hHeld => ?_)
          refine take_l (i := 0) (oi := ?oZ114) (v := ?vZ114) ?hiZ114 (by kernel_rfl) (by kernel_rfl) (by kernel_rfl) (by kernel_rfl) ?hQZ114 ?hwZ114 ?hyZ114 (by assumption) ?restZ114
          case hiZ114 => (simp only [List.getElem?_toArray, List.getElem?_cons_zero] <;> rfl)
          case hQZ114 => exact (fun _ _ _ h => h)
          case hwZ114 => rfl
          case hyZ114 => (intro w hSw; (try dsimp only at hSw); go_simp; try with_reducible rfl)
          (try simp only [Act.put, List.setIfInBounds_toArray, List.set_cons_zero, List.set_cons_succ])
          refine take_l (i := 1) (oi := ?oZ115) (v := ?vZ115) ?hiZ115 (by kernel_rfl) (by kernel_rfl) (by kernel_rfl) (by kernel_rfl) ?hQZ115 ?hwZ115 ?hyZ115 (by assumption) ?restZ115
          case hiZ115 => (simp only [List.getElem?_toArray, List.getElem?_cons_succ, List.getElem?_cons_zero] <;> rfl)
          case hQZ115 => exact (fun _ _ _ h => h)
          case hwZ115 => rfl
          case hyZ115 => (intro w hSw; (try dsimp only at hSw); go_simp; try with_reducible rfl)
          (try simp only [Act.put, List.setIfInBounds_toArray, List.set_cons_zero, List.set_cons_succ])
          refine take_l (i := 2) (oi := ?oZ116) (v := ?vZ116) ?hiZ116 (by kernel_rfl) (by kernel_rfl) (by kernel_rfl) (by kernel_rfl) ?hQZ116 ?hwZ116 ?hyZ116 (by assumption) ?restZ116
          case hiZ116 => (simp only [List.getElem?_toArray, List.getElem?_cons_succ, List.getElem?_cons_zero] <;> rfl)
          case hQZ116 => exact (fun _ _ _ h => h)
          case hwZ116 => rfl
          case hyZ116 => (intro w hSw; (try dsimp only at hSw); go_simp; try with_reducible rfl)
          (try simp only [Act.put, List.setIfInBounds_toArray, List.set_cons_zero, List.set_cons_succ])
          refine take_l (i := 3) (oi := ?oZ117) (v := ?vZ117) ?hiZ117 (by kernel_rfl) (by kernel_rfl) (by kernel_rfl) (by kernel_rfl) ?hQZ117 ?hwZ117 ?hyZ117 (by assumption) ?restZ117
          case hiZ117 => (simp only [List.getElem?_toArray, List.getElem?_cons_succ, List.getElem?_cons_zero] <;> rfl)
          case hQZ117 => exact (fun _ _ _ h => h)
          case hwZ117 => rfl
          case hyZ117 => (intro w hSw; (try dsimp only at hSw); go_simp; try with_reducible rfl)
          (try simp only [Act.put, List.setIfInBounds_toArray, List.set_cons_zero, List.set_cons_succ])
          refine take_l (i := 4) (oi := ?oZ118) (v := ?vZ118) ?hiZ118 (by kernel_rfl) (by kernel_rfl) (by kernel_rfl) (by kernel_rfl) ?hQZ118 ?hwZ118 ?hyZ118 (by assumption) ?restZ118
          case hiZ118 => (simp only [List.getElem?_toArray, List.getElem?_cons_succ, List.getElem?_cons_zero] <;> rfl)
          case hQZ118 => exact (fun _ _ _ h => h)
          case hwZ118 => rfl
          case hyZ118 => (intro w hSw; (try dsimp only at hSw); go_simp; try with_reducible rfl)
          (try simp only [Act.put, List.setIfInBounds_toArray, List.set_cons_zero, List.set_cons_succ])
          refine take_l (i := 5) (oi := ?oZ119) (v := ?vZ119) ?hiZ119 (by kernel_rfl) (by kernel_rfl) (by kernel_rfl) (by kernel_rfl) ?hQZ119 ?hwZ119 ?hyZ119 (by assumption) ?restZ119
          case hiZ119 => (simp only [List.getElem?_toArray, List.getElem?_cons_succ, List.getElem?_cons_zero] <;> rfl)
          case hQZ119 => exact (fun _ _ _ h => h)
          case hwZ119 => rfl
          case hyZ119 => (intro w hSw; (try dsimp only at hSw); go_simp; try with_reducible rfl)
          (try simp only [Act.put, List.setIfInBounds_toArray, List.set_cons_zero, List.set_cons_succ])
          refine take_l (i := 6) (oi := ?oZ120) (v := ?vZ120) ?hiZ120 (by kernel_rfl) (by kernel_rfl) (by kernel_rfl) (by kernel_rfl) ?hQZ120 ?hwZ120 ?hyZ120 (by assumption) ?restZ120
          case hiZ120 => (simp only [List.getElem?_toArray, List.getElem?_cons_succ, List.getElem?_cons_zero] <;> rfl)
          case hQZ120 => exact (fun _ _ _ h => h)
          case hwZ120 => rfl
          case hyZ120 => (intro w hSw; (try dsimp only at hSw); go_simp; try with_reducible rfl)
          (try simp only [Act.put, List.setIfInBounds_toArray, List.set_cons_zero, List.set_cons_succ])
          refine take_l (i := 7) (oi := ?oZ121) (v := ?vZ121) ?hiZ121 (by kernel_rfl) (by kernel_rfl) (by kernel_rfl) (by kernel_rfl) ?hQZ121 ?hwZ121 ?hyZ121 (by assumption) ?restZ121
          case hiZ121 => (simp only [List.getElem?_toArray, List.getElem?_cons_succ, List.getElem?_cons_zero] <;> rfl)
          case hQZ121 => exact (fun _ _ _ h => h)
          case hwZ121 => rfl
          case hyZ121 => (intro w hSw; (try dsimp only at hSw); go_simp; try with_reducible rfl)
          (try simp only [Act.put, List.setIfInBounds_toArray, List.set_cons_zero, List.set_cons_succ])
          refine take_l (i := 8) (oi := ?oZ122) (v := ?vZ122) ?hiZ122 (by kernel_rfl) (by kernel_rfl) (by kernel_rfl) (by kernel_rfl) ?hQZ122 ?hwZ122 ?hyZ122 (by assumption) ?restZ122
          case hiZ122 => (simp only [List.getElem?_toArray, List.getElem?_cons_succ, List.getElem?_cons_zero] <;> rfl)
          case hQZ122 => exact (fun _ _ _ h => h)
          case hwZ122 => rfl
          case hyZ122 => (intro w hSw; (try dsimp only at hSw); go_simp; try with_reducible rfl)
          (try simp only [Act.put, List.setIfInBounds_toArray, List.set_cons_zero, List.set_cons_succ])
          refine take_l (i := 9) (oi := ?oZ123) (v := ?vZ123) ?hiZ123 (by kernel_rfl) (by kernel_rfl) (by kernel_rfl) (by kernel_rfl) ?hQZ123 ?hwZ123 ?hyZ123 (by assumption) ?restZ123
          case hiZ123 => (simp only [List.getElem?_toArray, List.getElem?_cons_succ, List.getElem?_cons_zero] <;> rfl)
          case hQZ123 => exact (fun _ _ _ h => h)
          case hwZ123 => rfl
          case hyZ123 => (intro w hSw; (try dsimp only at hSw); go_simp; try with_reducible rfl)
          (try simp only [Act.put, List.setIfInBounds_toArray, List.set_cons_zero, List.set_cons_succ])
          refine take_l (i := 10) (oi := ?oZ124) (v := ?vZ124) ?hiZ124 (by kernel_rfl) (by kernel_rfl) (by kernel_rfl) (by kernel_rfl) ?hQZ124 ?hwZ124 ?hyZ124 (by assumption) ?restZ124
          case hiZ124 => (simp only [List.getElem?_toArray, List.getElem?_cons_succ, List.getElem?_cons_zero] <;> rfl)
          case hQZ124 => exact (fun _ _ _ h => h)
          case hwZ124 => rfl
          case hyZ124 => (intro w hSw; (try dsimp only at hSw); go_simp; try with_reducible rfl)
          (try simp only [Act.put, List.setIfInBounds_toArray, List.set_cons_zero, List.set_cons_succ])
          refine take_l (i := 11) (oi := ?oZ125) (v := ?vZ125) ?hiZ125 (by kernel_rfl) (by kernel_rfl) (by kernel_rfl) (by kernel_rfl) ?hQZ125 ?hwZ125 ?hyZ125 (by assumption) ?restZ125
          case hiZ125 => (simp only [List.getElem?_toArray, List.getElem?_cons_succ, List.getElem?_cons_zero] <;> rfl)
          case hQZ125 => exact (fun _ _ _ h => h)
          case hwZ125 => rfl
          case hyZ125 => (intro w hSw; (try dsimp only at hSw); go_simp; try with_reducible rfl)
          (try simp only [Act.put, List.setIfInBounds_toArray, List.set_cons_zero, List.set_cons_succ])
          refine take_l (i := 12) (oi := ?oZ126) (v := ?vZ126) ?hiZ126 (by kernel_rfl) (by kernel_rfl) (by kernel_rfl) (by kernel_rfl) ?hQZ126 ?hwZ126 ?hyZ126 (by assumption) ?restZ126
          case hiZ126 => (simp only [List.getElem?_toArray, List.getElem?_cons_succ, List.getElem?_cons_zero] <;> rfl)
          case hQZ126 => exact (fun _ _ _ h => h)
          case hwZ126 => rfl
          case hyZ126 => (intro w hSw; (try dsimp only at hSw); go_simp; try with_reducible rfl)
          (try simp only [Act.put, List.setIfInBounds_toArray, List.set_cons_zero, List.set_cons_succ])
          refine take_l (i := 13) (oi := ?oZ127) (v := ?vZ127) ?hiZ127 (by kernel_rfl) (by kernel_rfl) (by kernel_rfl) (by kernel_rfl) ?hQZ127 ?hwZ127 ?hyZ127 (by assumption) ?restZ127
          case hiZ127 => (simp only [List.getElem?_toArray, List.getElem?_cons_succ, List.getElem?_cons_zero] <;> rfl)
          case hQZ127 => exact (fun _ _ _ h => h)
          case hwZ127 => rfl
          case hyZ127 => (intro w hSw; (try dsimp only at hSw); go_simp; try with_reducible rfl)
          (try simp only [Act.put, List.setIfInBounds_toArray, List.set_cons_zero, List.set_cons_succ])
          refine take_l (i := 14) (oi := ?oZ128) (v := ?vZ128) ?hiZ128 (by kernel_rfl) (by kernel_rfl) (by kernel_rfl) (by kernel_rfl) ?hQZ128 ?hwZ128 ?hyZ128 (by assumption) ?restZ128
          case hiZ128 => (simp only [List.getElem?_toArray, List.getElem?_cons_succ, List.getElem?_cons_zero] <;> rfl)
          case hQZ128 => exact (fun _ _ _ h => h)
          case hwZ128 => rfl
          case hyZ128 => (intro w hSw; (try dsimp only at hSw); go_simp; try with_reducible rfl)
          (try simp only [Act.put, List.setIfInBounds_toArray, List.set_cons_zero, List.set_cons_succ])
          refine take_l (i := 15) (oi := ?oZ129) (v := ?vZ129) ?hiZ129 (by kernel_rfl) (by kernel_rfl) (by kernel_rfl) (by kernel_rfl) ?hQZ129 ?hwZ129 ?hyZ129 (by assumption) ?restZ129
          case hiZ129 => (simp only [List.getElem?_toArray, List.getElem?_cons_succ, List.getElem?_cons_zero] <;> rfl)
          case hQZ129 => exact (fun _ _ _ h => h)
          case hwZ129 => rfl
          case hyZ129 => (intro w hSw; (try dsimp only at hSw); go_simp; try with_reducible rfl)
          (try simp only [Act.put, List.setIfInBounds_toArray, List.set_cons_zero, List.set_cons_succ])
          refine last_l (o := ?oZ130) (by kernel_rfl) ?hiZ130 (by kernel_rfl) (fun K hK => ?stZ130)
          case hiZ130 => (simp only [List.getElem?_toArray, List.getElem?_cons_succ, List.getElem?_cons_zero] <;> rfl)
          go_simp
          refine hK.out _ _ ?_
          clear hK K
          (try simp only [Act.put])
          
          clear HCC
          go_wp2_with fail
          exact ⟨⟨k + 1, by omega, by go_num, HBU.out _ (by first | omega | (rw [IntKind.wrap_u8]; omega)) (by first | omega | (rw [IntKind.wrap_u8]; omega))⟩, by simp [intOf]; omega⟩
        · obtain rfl : k = vn := by omega
          have q2 : ¬ (k : Int) < (k : Int) := by omega
          have HV2 := Lib.hid hv
          clear hv
          go_wp2_with fail
          exact ⟨⟨i + 1, by omega, by go_num, HV2.out⟩, by simp [intOf]; omega⟩
    · obtain rfl : i = r := by omega
      have q1 : ¬ (i : Int) < (i : Int) := by omega
      have HY12 := Lib.hid (HY9.out.below hv.b)
      clear hv HY9 HRL hr60
      obtain ⟨x0, x1, x2, x3, x4⟩ := HY12.out.cb.cells
      obtain ⟨y0, y1, y2⟩ := HY12.out.sx.box.three
      go_wp2_with (first
        | (go_at_call 11
           refine (chk_any 4 (by omega) (by omega) (some ⟨g12, 0, none⟩) 4 c12 (digA 4 a) sp f tt pt h7 _ HY12.out.rt HY12.out.sx.sp HY12.out.ct HPC.out.1 (HT.out.below HY12.out.sx.b (Nat.le_refl _))).mono ?_
           rw [HR.out]
           rintro _ w13 ⟨ra13, n13, c13, rs13, rfl, ho13, hrl13, hpv13, hb13⟩
           have e0 : codeV ((0, kvs) : Nat × List KV).1 = .nilIface := rfl
           rw [e0]
           have HY13 := Lib.hid (HY12.out.below hb13)
           have HR13 := Lib.hid (And.intro ho13 (And.intro hrl13 hpv13.pairs))
           clear ho13 hrl13 hpv13 hb13 e0 x0 x1 x2 x3 x4 y0 y1 y2
           obtain ⟨x0, x1, x2, x3, x4⟩ := HY13.out.tb.cells
           obtain ⟨y0, y1, y2⟩ := HY13.out.sx.box.three)
        | (go_at_call 25
           refine (refRange_any a h2 sp f tt _ HY13.out.ti HGD.out.lim HCN.out HY13.out.sx.sp).mono ?_
           rw [HKV.out]
           rintro _ w14 ⟨ra14, n14, c14, rs14, rfl, ho14, hl14, hp14, hb14⟩
           have HY14 := Lib.hid (HY13.out.below hb14)
           have HR14 := Lib.hid (And.intro (HR13.out.1.keep hb14) (And.intro HR13.out.2.1 (HR13.out.2.2.below hb14)))
           have HO14 := Lib.hid (And.intro ho14 (And.intro hl14 (hp14.below hb14)))
           clear ho14 hl14 hp14 hb14)
        | (go_at_call 15
           refine (same_told HR14.out.1 HR14.out.2.1 HR14.out.2.2 HO14.out.1 HO14.out.2.1 HO14.out.2.2).mono ?_
           rintro _ w15 ⟨rfl, hb15⟩
           have HY15 := Lib.hid (HY14.out.below hb15)
           clear hb15))
      go_ret
      exact ⟨rfl, HY15.out.sx.b⟩
end Go.Proofs.YtlbiefddcimdgaaDoor

/- Spans, and lists of pairs, that are arguments. -/
namespace Go.Proofs.YtlbiefddcimdgaaDoor
open Go.ChangeShapes Go.WideShapes Go.RowKit Go.Deep
set_option linter.unusedVariables false

set_option maxRecDepth 100000 in
theorem open_span {H : Type} {enc : TypeId × Value → H} {w : World} {base : Nat} {spare : Nat → Bool} {held : Bool} {r : Reach} {b0 : Nat} {v : Value} {d : DataW H} {p : List MemPlace}
    (hv : Value.okWide Tryd.prog w r b0 24 v) (h : DataW.Trod enc Tryd.prog w base spare held 24 v d p) : ∃ hd f t, v = DH.v hd ∧ SpanIn w hd f t := by
  obtain ⟨cs, rfl, hs⟩ := okWide_struct Tryd.underlying24 hv
  obtain ⟨fuel, hf⟩ := h
  obtain ⟨hd, e, key, val, h1, h2⟩ := trod_deed Tryd.underlying24 (by kernel_rfl) rfl rfl rfl (by kernel_rfl) (by kernel_rfl) (by kernel_rfl) Tryd.underlying22 Tryd.underlying22 Tryd.underlying4 Tryd.underlying5 (by kernel_rfl) fuel _ _ hf
  refine ⟨hd, key, val, ?_, h1, h2⟩
  have e2 : cs = (recD.cells hd).toArray := by
    simp only [Value.cells] at e
    rw [← e]
  rw [e2]
  rfl
section
variable {H : Type} {enc : TypeId × Value → H} {P : Program} {w : World} {base : Nat} {spare : Nat → Bool} {held : Bool}
theorem trod_pair {T B : TypeId} {f0 f1 : Field} (he : P.underlying T = some (.struct #[f0, f1])) (hc : P.cellsOf T = 2)
    (o0 : f0.offset = 0) (o1 : f1.offset = 1) (c0 : P.cellsOf f0.type = 1) (c1 : P.cellsOf f1.type = 1)
    (u0 : P.underlying f0.type = some (.slice B)) (u1 : P.underlying f1.type = some (.slice B)) (hB : P.underlying B = some (.int .u8)) (hcB : P.cellsOf B = 1)
    (fuel : Nat) (cs : List Value) (x : DataW H × List MemPlace) (hx : DataW.trod enc P w base spare held fuel T cs = some x) :
    ∃ r : PH, cs = recP.cells r ∧ ∃ key val, InBytes w r.ka r.kn r.kc key ∧ InBytes w r.va r.vn r.vc val := by
  obtain ⟨xs, n, hn, _, hl, hxl, hf⟩ := DataW.trod_struct he hx
  rw [hc] at hl
  obtain ⟨v0, v1, rfl⟩ : ∃ v0 v1, cs = [v0, v1] := by
    rcases cs with _ | ⟨v0, _ | ⟨v1, _ | ⟨y, r⟩⟩⟩ <;> simp at hl
    exact ⟨_, _, rfl⟩
  have hxs : xs.length = 2 := by simpa using hxl
  have g0 := hf 0 f0 rfl
  have g1 := hf 1 f1 rfl
  rw [o0, c0, List.getElem?_eq_getElem (by omega)] at g0
  rw [o1, c1, List.getElem?_eq_getElem (by omega)] at g1
  replace g0 : DataW.trod enc P w base spare held n f0.type [v0] = some xs[0] := g0
  replace g1 : DataW.trod enc P w base spare held n f1.type [v1] = some xs[1] := g1
  obtain ⟨a0, n0, k0, rfl⟩ := slice_form u0 g0
  obtain ⟨a1, n1, k1, rfl⟩ := slice_form u1 g1
  obtain ⟨key, hkey⟩ := open_bytes (d := xs[0].1) (p := xs[0].2) u0 hB hcB ⟨n, g0⟩
  obtain ⟨val, hval⟩ := open_bytes (d := xs[1].1) (p := xs[1].2) u1 hB hcB ⟨n, g1⟩
  exact ⟨⟨a0, n0, k0, a1, n1, k1⟩, rfl, key, val, hkey, hval⟩
end
set_option maxRecDepth 100000 in
theorem open_pairs {H : Type} {enc : TypeId × Value → H} {w : World} {base : Nat} {spare : Nat → Bool} {held : Bool} {a : Option Addr} {n cap : Nat} {d : DataW H} {p : List MemPlace}
    (h : DataW.Trod enc Tryd.prog w base spare held 30 (.slice a n cap) d p) : ∃ D : Nat → PH, InRec recP w a n cap D ∧ ∀ i, i < n → ∃ key val, InBytes w (D i).ka (D i).kn (D i).kc key ∧ InBytes w (D i).va (D i).vn (D i).vc val :=
  open_rec recP (fun r => ∃ key val, InBytes w r.ka r.kn r.kc key ∧ InBytes w r.va r.vn r.vc val) pZ Tryd.underlying30 (by kernel_rfl)
    (fun fuel cs x hx => trod_pair Tryd.underlying53 (by kernel_rfl) rfl rfl (by kernel_rfl) (by kernel_rfl) Tryd.underlying22 Tryd.underlying22 Tryd.underlying5 (by kernel_rfl) fuel cs x hx) h
end Go.Proofs.YtlbiefddcimdgaaDoor
