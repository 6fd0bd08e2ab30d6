/- A law's own box of its tree. -/
import Derived.Test.YtolpdidjabbipaaTree
namespace Go.Proofs.Ytolpdidjabbipaa
open Go.RowKit
set_option linter.unusedVariables false

/-- A law's own box of its tree, in world W. -/
structure TW (w W : World) (h : TH) (t : Tr) : Prop where
  box : Box W 25 w.heap.size h
  t : InTree W h t
  b : Below w.heap.size w W
theorem TW.below {w W W' : World} {h : TH} {t : Tr} (d : TW w W h t) (hb : Below W.heap.size W W') : TW w W' h t := ⟨d.box.below hb d.box.lt, d.t.lower hb, d.b.trans (hb.mono d.b.size)⟩
theorem TW.drew {w W : World} {h : TH} {t : Tr} (d : TW w W h t) : TW w W.drew h t := d.below (Below.refl _ _).drew
theorem TW.drewN {w W : World} {h : TH} {t : Tr} (d : TW w W h t) (m : Nat) : TW w (W.drewN m) h t := by
  have hb : Below W.heap.size W (W.drewN m) := ⟨rfl, rfl, rfl, Nat.le_refl _, fun _ _ => rfl⟩
  exact d.below hb
theorem TW.new (w : World) {h : TH} {t : Tr} (ht : InTree w h t) : TW w (w.alloc (.cells #[.int .i64 h.k, .slice h.ka h.kn h.kc, .slice h.va h.vn h.vc, .slice h.da h.dn h.dc, .slice h.ta h.tn h.tc] 25)) h t :=
  ⟨Box.new w _ h, ht.lower ((Below.refl _ _).alloc (Nat.le_refl _) _), (Below.refl _ _).alloc (Nat.le_refl _) _⟩
end Go.Proofs.Ytolpdidjabbipaa
