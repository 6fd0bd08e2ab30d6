/- Rows of pairs of a key and a value. No program is named here. -/
import Derived.Test.YtpjojhmdgeejmaaRec
import Derived.Test.YtpjojhmdgeejmaaOffBox
namespace Go.Proofs.Ytpjojhmdgeejmaa
open Go.RowKit
set_option linter.unusedVariables false

/-- The head of a pair: its two cells. -/
structure PH where
  ka : Option Addr
  kn : Nat
  kc : Nat
  va : Option Addr
  vn : Nat
  vc : Nat
def recP : Rec PH where
  cells := fun p => [.slice p.ka p.kn p.kc, .slice p.va p.vn p.vc]
  sz := 2
  pos := by omega
  len := fun _ => rfl
  one := fun r u hu => by
    simp at hu
    rcases hu with rfl | rfl <;> rfl
/-- A slice's cell. -/
def isSl (u : Value) : Prop := ∃ a n c, u = .slice a n c
theorem recP_sl (p : PH) : ∀ u ∈ recP.cells p, isSl u := fun u hu => by
  simp [recP] at hu
  rcases hu with rfl | rfl
  · exact ⟨_, _, _, rfl⟩
  · exact ⟨_, _, _, rfl⟩
/-- Heads and pairs, side by side. -/
def PairsIn (w : World) (ps : List PH) (kvs : List KV) : Prop := ps.length = kvs.length ∧ ∀ i (h1 : i < ps.length) (h2 : i < kvs.length), InBytes w (ps[i]).ka (ps[i]).kn (ps[i]).kc (kvs[i]).1 ∧ InBytes w (ps[i]).va (ps[i]).vn (ps[i]).vc (kvs[i]).2
theorem PairsIn.nil (w : World) : PairsIn w [] [] := ⟨rfl, fun i h1 => by simp at h1⟩
theorem PairsIn.snoc {w : World} {ps : List PH} {kvs : List KV} (h : PairsIn w ps kvs) {p : PH} {q : KV} (hk : InBytes w p.ka p.kn p.kc q.1) (hv : InBytes w p.va p.vn p.vc q.2) : PairsIn w (ps ++ [p]) (kvs ++ [q]) := by
  refine ⟨by simp [h.1], fun i h1 h2 => ?_⟩
  by_cases hi : i < ps.length
  · rw [List.getElem_append_left hi, List.getElem_append_left (by rw [← h.1]; exact hi)]
    exact h.2 i hi _
  · have e : i = ps.length := by rw [List.length_append] at h1; simp at h1; omega
    have e2 : i = kvs.length := by rw [e, h.1]
    have g1 : (ps ++ [p])[i] = p := by simp [e]
    have g2 : (kvs ++ [q])[i] = q := by simp [e2]
    rw [g1, g2]
    exact ⟨hk, hv⟩
theorem PairsIn.below {w w' : World} {ps : List PH} {kvs : List KV} (h : PairsIn w ps kvs) (hb : Below w.heap.size w w') : PairsIn w' ps kvs := ⟨h.1, fun i h1 h2 => ⟨(h.2 i h1 h2).1.below hb, (h.2 i h1 h2).2.below hb⟩⟩
/-- Bytes do not lie where slices lie. -/
theorem InBytes.outRow {W W' : World} {g : Nat} {a : Option Addr} {n c : Nat} {zs : List Int} (h : InBytes W a n c zs) (hs : ∀ j u, W.cell? ⟨g, j, none⟩ = some u → isSl u) (hg : W.grownBy W' (some g)) : InBytes W' a n c zs :=
  ⟨h.len, h.bytes, h.le, h.max, h.nil, fun h0 => by
    obtain ⟨g', off, e, hlt, hc⟩ := h.place h0
    have hne : some g' ≠ some g := fun q => by
      injection q with q
      subst q
      obtain ⟨_, _, _, q⟩ := hs _ _ (hc 0 (by rw [h.len]; exact h0))
      cases q
    exact ⟨g', off, e, Nat.lt_of_lt_of_le hlt hg.size, hc.keep fun o => World.cell?_of_block (a := ⟨g', o, none⟩) (hg.block g' hlt hne)⟩⟩
theorem AT.outRow {W W' : World} {g : Nat} (hs : ∀ j u, W.cell? ⟨g, j, none⟩ = some u → isSl u) (hg : W.grownBy W' (some g)) : ∀ (a : AT) (h : TH), InTree W h a.tr → InTree W' h a.tr := by
  intro a
  induction a with
  | nil =>
    intro h ht
    obtain ⟨H, hp⟩ := ht.parts
    have h0 : h.tn = 0 := hp.len.symm
    exact .mk h _ H hp.hk hp.hk1 hp.hk2 (hp.key.outRow hs hg) (hp.val.outRow hs hg) (hp.dig.outRow hs hg) ⟨hp.sl.le, hp.sl.max, hp.sl.nil, fun q => by omega⟩ hp.len (fun i hi => absurd hi (Nat.not_lt_zero i))
  | node l k v r ihl ihr =>
    intro h ht
    obtain ⟨H, hp⟩ := ht.parts
    have h2 : h.tn = 2 := hp.len.symm
    refine .mk h _ H hp.hk hp.hk1 hp.hk2 (hp.key.outRow hs hg) (hp.val.outRow hs hg) (hp.dig.outRow hs hg) ⟨hp.sl.le, hp.sl.max, hp.sl.nil, fun q => ?_⟩ hp.len (fun i hi => ?_)
    · obtain ⟨g', off, e, hlt, hc⟩ := hp.sl.place q
      have hne : some g' ≠ some g := fun q => by
        injection q with q
        subst q
        obtain ⟨_, _, _, q⟩ := hs _ _ (hc 0 (by omega))
        cases q
      exact ⟨g', off, e, Nat.lt_of_lt_of_le hlt hg.size, fun i hi => (World.cell?_of_block (a := ⟨g', off + i, none⟩) (hg.block g' hlt hne)).trans (hc i hi)⟩
    · have hi' : i < 2 := hi
      rcases (by omega : i = 0 ∨ i = 1) with rfl | rfl
      · exact ihl _ (hp.kids 0 hi)
      · exact ihr _ (hp.kids 1 hi)
end Go.Proofs.Ytpjojhmdgeejmaa
