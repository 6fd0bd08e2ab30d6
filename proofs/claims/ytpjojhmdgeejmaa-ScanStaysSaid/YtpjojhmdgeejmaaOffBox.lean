/- A full tree does not lie in a box: what is written there leaves it as it is. No program is named here. -/
import Derived.Test.YtpjojhmdgeejmaaAvlTr
import Derived.Test.YtpjojhmdgeejmaaCutLib
namespace Go.Proofs.Ytpjojhmdgeejmaa
open Go.RowKit
set_option linter.unusedVariables false

theorem box_bytes' {W : World} {ty : TypeId} {g off : Nat} {hh : TH} {zs : List Int} (hb : Box W ty g hh) (hs : Seg .u8 W g off zs) (h0 : 0 < zs.length) : False := by
  have h1 := hs 0 h0
  rw [cell_of_row W g (off + 0) _ _ (0, 0) hb] at h1
  rcases (by omega : off = 0 ∨ off = 1 ∨ off = 2 ∨ off = 3 ∨ off = 4 ∨ 5 ≤ off) with rfl | rfl | rfl | rfl | rfl | h5
  · simp at h1
  · simp at h1
  · simp at h1
  · simp at h1
  · simp at h1
  · rw [Array.getElem?_eq_none (by simp; omega)] at h1
    cases h1
theorem InBytes.outBox {W W' : World} {ty : TypeId} {g : Nat} {hh : TH} {a : Option Addr} {n c : Nat} {zs : List Int} (h : InBytes W a n c zs) (hb : Box W ty g hh) (hg : W.grownBy W' (some g)) : InBytes W' a n c zs :=
  ⟨h.len, h.bytes, h.le, h.max, h.nil, fun h0 => by
    obtain ⟨g', off, e, hlt, hc⟩ := h.place h0
    have hne : some g' ≠ some g := fun q => by
      injection q with q
      subst q
      exact box_bytes' hb hc (by rw [h.len]; exact h0)
    exact ⟨g', off, e, Nat.lt_of_lt_of_le hlt hg.size, hc.keep fun o => World.cell?_of_block (a := ⟨g', o, none⟩) (hg.block g' hlt hne)⟩⟩
theorem AT.outBox {W W' : World} {ty : TypeId} {g : Nat} {hh : TH} (hb : Box W ty g hh) (hg : W.grownBy W' (some g)) : ∀ (a : AT) (h : TH), InTree W h a.tr → InTree W' h a.tr := by
  intro a
  induction a with
  | nil =>
    intro h ht
    obtain ⟨H, hp⟩ := ht.parts
    have h0 : h.tn = 0 := hp.len.symm
    exact .mk h _ H hp.hk hp.hk1 hp.hk2 (hp.key.outBox hb hg) (hp.val.outBox hb hg) (hp.dig.outBox hb hg) ⟨hp.sl.le, hp.sl.max, hp.sl.nil, fun q => by omega⟩ hp.len (fun i hi => absurd hi (Nat.not_lt_zero i))
  | node l k v r ihl ihr =>
    intro h ht
    obtain ⟨H, hp⟩ := ht.parts
    have h2 : h.tn = 2 := hp.len.symm
    refine .mk h _ H hp.hk hp.hk1 hp.hk2 (hp.key.outBox hb hg) (hp.val.outBox hb hg) (hp.dig.outBox hb hg) ⟨hp.sl.le, hp.sl.max, hp.sl.nil, fun q => ?_⟩ hp.len (fun i hi => ?_)
    · obtain ⟨g', off, e, hlt, hc⟩ := hp.sl.place q
      have hne : some g' ≠ some g := fun q => by
        injection q with q
        subst q
        have h9 := hc 9 (by omega)
        rw [cell_of_row W g' (off + 9) _ _ (0, 0) hb, Array.getElem?_eq_none (by simp)] at h9
        cases h9
      exact ⟨g', off, e, Nat.lt_of_lt_of_le hlt hg.size, fun i hi => (World.cell?_of_block (a := ⟨g', off + i, none⟩) (hg.block g' hlt hne)).trans (hc i hi)⟩
    · have hi' : i < 2 := hi
      rcases (by omega : i = 0 ∨ i = 1) with rfl | rfl
      · exact ihl _ (hp.kids 0 hi)
      · exact ihr _ (hp.kids 1 hi)
/-- A node of two trees that lie side by side. -/
theorem AT.inNode {w : World} {ty : TypeId} {g : Nat} {h1 h2 : TH} {a b : AT} (hx : Two5 w ty g h1 h2) (i1 : InTree w h1 a.tr) (i2 : InTree w h2 b.tr) {ka va : Option Addr} {kn kc vn vc : Nat} {key val : List Int} (hkey : InBytes w ka kn kc key) (hval : InBytes w va vn vc val) :
    InTree w ⟨1, ka, kn, kc, va, vn, vc, none, 0, 0, some ⟨g, 0, none⟩, 2, 2⟩ (AT.node a key val b).tr :=
  inTree_pair hx i1 i2 (by omega) (by omega) hkey hval (none_in w)
end Go.Proofs.Ytpjojhmdgeejmaa
