/- Two boxes of trees: the law's own, and one of what was answered. -/
import Derived.Test.YtolpdidjabbipaaAvlUp
import Derived.Test.YtolpdidjabbipaaTreeW
import Derived.Test.YtolpdidjabbipaaRefSame
import Derived.Test.YtolpdidjabbipaaCode
import Derived.Test.YtolpdidjabbipaaRefDel
namespace Go.Proofs.Ytolpdidjabbipaa
open Go.RowKit
set_option linter.unusedVariables false

structure UX (w W : World) (h : TH) (t : Tr) (g : Nat) (hu : TH) (tu : Tr) : Prop where
  d : TW w W h t
  box : Box W 25 g hu
  ti : InTree W hu tu
theorem UX.below {w W W' : World} {h : TH} {t : Tr} {g : Nat} {hu : TH} {tu : Tr} (x : UX w W h t g hu tu) (hb : Below W.heap.size W W') : UX w W' h t g hu tu := ⟨x.d.below hb, x.box.below hb x.box.lt, x.ti.lower hb⟩
theorem UX.drew {w W : World} {h : TH} {t : Tr} {g : Nat} {hu : TH} {tu : Tr} (x : UX w W h t g hu tu) : UX w W.drew h t g hu tu := x.below (Below.refl _ _).drew
theorem UX.drewN {w W : World} {h : TH} {t : Tr} {g : Nat} {hu : TH} {tu : Tr} (x : UX w W h t g hu tu) (m : Nat) : UX w (W.drewN m) h t g hu tu := x.below ⟨rfl, rfl, rfl, Nat.le_refl _, fun _ _ => rfl⟩
/-- An answer is laid in a new box. -/
theorem UX.new {w W W' : World} {h : TH} {t : Tr} {hu : TH} {tu : Tr} (d : TW w W h t) (ht : InTree W hu tu) (hx : Box W' 25 W.heap.size hu) (hg : (W.alloc (.cells #[.int .i64 0, .slice none 0 0, .slice none 0 0, .slice none 0 0, .slice none 0 0] 25)).grownBy W' (some W.heap.size)) : UX w W' h t W.heap.size hu tu :=
  have q : Below W.heap.size W W' := ((Below.refl W.heap.size W).alloc (Nat.le_refl _) _).grown hg (by simp) (fun j hj => by injection hj; omega)
  ⟨d.below q, hx, ht.lower q⟩
theorem small_pairs {a : AT} (hl : Lim a.pairs) (hc : countT a.tr ≤ 300) : a.pairs.length ≤ 300 := by
  have h1 := list_len a.tr ((AT.tr_formed a).2 hl)
  rw [AT.list_pairs] at h1
  omega
end Go.Proofs.Ytolpdidjabbipaa
