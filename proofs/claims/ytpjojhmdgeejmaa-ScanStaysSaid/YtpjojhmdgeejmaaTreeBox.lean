/- Boxes of trees, results that are trees, strings of bytes: the types alone are named. -/
import Derived.Test.YtpjojhmdgeejmaaOffBox
import Derived.Test.YtpjojhmdgeejmaaProg
namespace Go.Proofs.Ytpjojhmdgeejmaa
open Go.RowKit
set_option linter.unusedVariables false

theorem infoTree5 : (Try.prog.info? 33).map (·.size) = some 5 := by kernel_rfl
/-- It answers a full tree; what was there stays. -/
def Tells (w : World) (a : AT) (e : Ending) (w' : World) : Prop := ∃ h', e = .returned h'.v ∧ InTree w' h' a.tr ∧ Below w.heap.size w w'
theorem result_tree {P : Program} {fn : Func} {p : Tmp} {ty : TypeId} (h : fn.results = #[.cell p ty]) (tmps : Array Value) {w : World} {g : Nat} {t : TypeId} {hh : TH} {fs : Array Field} (hx : Box w t g hh)
    (hp : tmps.getD p undef = .pointer (some ⟨g, 0, none⟩)) (hu : P.underlying ty = some (.struct fs)) (hi : (P.info? ty).map (·.size) = some 5) : (results fn tmps).run P w = .ok hh.v w := by
  have hp' : tmps[p]?.getD undef = .pointer (some ⟨g, 0, none⟩) := by simpa using hp
  have hl := run_loadVar_row (P := P) w g t ty _ _ (.struct fs) hx hu rfl (by simpa using hi)
  simp [results, h, hp', asAddr, hl, TH.v]

/-- A tree's box, and the tree. -/
structure BW (w W : World) (h : TH) (t : Tr) : Prop where
  box : Box W 33 w.heap.size h
  ti : InTree W h t
  b : Below w.heap.size w W
theorem BW.below {w W W' : World} {h : TH} {t : Tr} (d : BW w W h t) (hb : Below W.heap.size W W') : BW w W' h t := ⟨d.box.below hb d.box.lt, d.ti.lower hb, d.b.trans (hb.mono d.b.size)⟩
theorem BW.drew {w W : World} {h : TH} {t : Tr} (d : BW w W h t) : BW w W.drew h t := d.below (Below.refl _ _).drew
theorem BW.new (w : World) {h : TH} {t : Tr} (ht : InTree w h t) : BW w (w.alloc (.cells #[.int .i64 h.k, .slice h.ka h.kn h.kc, .slice h.va h.vn h.vc, .slice h.da h.dn h.dc, .slice h.ta h.tn h.tc] 33)) h t := ⟨Box.new w _ h, ht.lower ((Below.refl _ _).alloc (Nat.le_refl _) _), (Below.refl _ _).alloc (Nat.le_refl _) _⟩
theorem Lim.node {l : AT} {k v : List Int} {r : AT} (h : Lim (AT.node l k v r).pairs) : Lim l.pairs ∧ k.length ≤ 80 ∧ v.length ≤ 1024 ∧ Lim r.pairs := by
  unfold Lim at *
  simp only [AT.pairs, List.mem_append, List.mem_cons] at h
  exact ⟨fun p hp => h p (.inl hp), (h _ (.inr (.inl rfl))).1, (h _ (.inr (.inl rfl))).2, fun p hp => h p (.inr (.inr hp))⟩

/-- What lies there while a tree is turned: its box, the result's box, the kid's box. -/
structure RX (w W : World) (h hk : TH) : Prop where
  box : Box W 33 w.heap.size h
  res : Box W 33 (w.heap.size + 1) hZ
  kb : Box W 33 (w.heap.size + 2) hk
  b : Below w.heap.size w W
theorem RX.below {w W W' : World} {h hk : TH} (d : RX w W h hk) (hb : Below W.heap.size W W') : RX w W' h hk := ⟨d.box.below hb d.box.lt, d.res.below hb d.res.lt, d.kb.below hb d.kb.lt, d.b.trans (hb.mono d.b.size)⟩
theorem RX.drew {w W : World} {h hk : TH} (d : RX w W h hk) : RX w W.drew h hk := d.below (Below.refl _ _).drew
theorem enter2 (w : World) (h : TH) : Box ((w.alloc (.cells #[.int .i64 h.k, .slice h.ka h.kn h.kc, .slice h.va h.vn h.vc, .slice h.da h.dn h.dc, .slice h.ta h.tn h.tc] 33)).alloc (.cells #[.int .i64 0, .slice none 0 0, .slice none 0 0, .slice none 0 0, .slice none 0 0] 33)) 33 w.heap.size h ∧ Box ((w.alloc (.cells #[.int .i64 h.k, .slice h.ka h.kn h.kc, .slice h.va h.vn h.vc, .slice h.da h.dn h.dc, .slice h.ta h.tn h.tc] 33)).alloc (.cells #[.int .i64 0, .slice none 0 0, .slice none 0 0, .slice none 0 0, .slice none 0 0] 33)) 33 (w.heap.size + 1) hZ ∧ Below w.heap.size w ((w.alloc (.cells #[.int .i64 h.k, .slice h.ka h.kn h.kc, .slice h.va h.vn h.vc, .slice h.da h.dn h.dc, .slice h.ta h.tn h.tc] 33)).alloc (.cells #[.int .i64 0, .slice none 0 0, .slice none 0 0, .slice none 0 0, .slice none 0 0] 33)) ∧ ((w.alloc (.cells #[.int .i64 h.k, .slice h.ka h.kn h.kc, .slice h.va h.vn h.vc, .slice h.da h.dn h.dc, .slice h.ta h.tn h.tc] 33)).alloc (.cells #[.int .i64 0, .slice none 0 0, .slice none 0 0, .slice none 0 0, .slice none 0 0] 33)).heap.size = w.heap.size + 2 := by
  have q1 : Below w.heap.size w (w.alloc (.cells #[.int .i64 h.k, .slice h.ka h.kn h.kc, .slice h.va h.vn h.vc, .slice h.da h.dn h.dc, .slice h.ta h.tn h.tc] 33)) := (Below.refl _ _).alloc (Nat.le_refl _) _
  have s1 : (w.alloc (.cells #[.int .i64 h.k, .slice h.ka h.kn h.kc, .slice h.va h.vn h.vc, .slice h.da h.dn h.dc, .slice h.ta h.tn h.tc] 33)).heap.size = w.heap.size + 1 := by simp
  have x1 := Box.new w 33 h
  have x2 : Box ((w.alloc (.cells #[.int .i64 h.k, .slice h.ka h.kn h.kc, .slice h.va h.vn h.vc, .slice h.da h.dn h.dc, .slice h.ta h.tn h.tc] 33)).alloc (.cells #[.int .i64 0, .slice none 0 0, .slice none 0 0, .slice none 0 0, .slice none 0 0] 33)) 33 (w.alloc (.cells #[.int .i64 h.k, .slice h.ka h.kn h.kc, .slice h.va h.vn h.vc, .slice h.da h.dn h.dc, .slice h.ta h.tn h.tc] 33)).heap.size hZ := Box.new _ 33 hZ
  rw [s1] at x2
  exact ⟨x1.below ((Below.refl _ _).alloc (Nat.le_refl _) _) x1.lt, x2, q1.alloc (by rw [s1]; omega) _, by simp⟩

/-- A tree's box, the result's box, and the tree. -/
structure LX (w W : World) (h : TH) (t : Tr) : Prop where
  box : Box W 33 w.heap.size h
  res : Box W 33 (w.heap.size + 1) hZ
  ti : InTree W h t
  b : Below w.heap.size w W
theorem LX.below {w W W' : World} {h : TH} {t : Tr} (d : LX w W h t) (hb : Below W.heap.size W W') : LX w W' h t := ⟨d.box.below hb d.box.lt, d.res.below hb d.res.lt, d.ti.lower hb, d.b.trans (hb.mono d.b.size)⟩
theorem LX.drew {w W : World} {h : TH} {t : Tr} (d : LX w W h t) : LX w W.drew h t := d.below (Below.refl _ _).drew

theorem conv_key {w : World} {a : Option Addr} {n cap : Nat} {bs : List Int} (h : InBytes w a n cap bs) :
    (convert 22 9 (.slice a n cap)).run Try.prog w = .ok (.string (strOfNums bs)) w :=
  conv_in (P := Try.prog) h 22 5 9 Try.underlying22 Try.underlying5 Try.underlying9
end Go.Proofs.Ytpjojhmdgeejmaa
