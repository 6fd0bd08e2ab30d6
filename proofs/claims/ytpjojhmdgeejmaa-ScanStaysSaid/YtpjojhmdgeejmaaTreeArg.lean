/- A tree that is an argument is one that lies in memory. No program is named here. -/
import Derived.Test.YtpjojhmdgeejmaaTree
namespace Go.Proofs.Ytpjojhmdgeejmaa
open Go.ChangeShapes Go.WideShapes Go.RowKit Go.Deep
set_option linter.unusedVariables false

section
variable {H : Type} {enc : TypeId × Value → H} {P : Program} {w : World} {base : Nat} {spare : Nat → Bool} {held : Bool}
/-- A slice that came in: its cells, and that each element is read with less fuel. -/
theorem open_slF {t e : TypeId} {a : Option Addr} {n cap sz fuel : Nat} {x : DataW H × List MemPlace}
    (hu : P.underlying t = some (.slice e)) (hc : P.cellsOf e = sz) (hsz : 0 < sz)
    (h : DataW.trod enc P w base spare held fuel t [.slice a n cap] = some x) :
    ∃ V, InSl w a n cap sz V ∧ ∀ i, i < n → ∃ m x, m < fuel ∧ DataW.trod enc P w base spare held m e ((List.range sz).map fun j => V (i * sz + j)) = some x := by
  rcases DataW.trod_slice hu h with ⟨hcs, _⟩ | ⟨ad, len, cp, elems, rest, m, hfm, hcs, _, hb, hl, hm, hlen, hel, _, _⟩
  · simp at hcs
    obtain ⟨rfl, rfl, rfl⟩ := hcs
    exact ⟨fun _ => .nilIface, ⟨Nat.le_refl _, by simp [maxLen], fun _ => rfl, fun h => by omega⟩, fun i hi => by omega⟩
  · simp at hcs
    obtain ⟨rfl, rfl, rfl⟩ := hcs
    rw [hc] at hel
    have hx : ∀ i, i < n → ∃ cs', w.cells? base (ad.add (i * sz)) sz = some cs' ∧ ∃ y, DataW.trod enc P w base spare held m e cs' = some y := by
      intro i hi
      have h1 := hel i hi
      rw [List.getElem?_eq_getElem (by omega)] at h1
      obtain ⟨cs', h2, h3⟩ := Option.bind_eq_some_iff.1 h1
      exact ⟨cs', h2, _, h3⟩
    by_cases h0 : 0 < n
    · obtain ⟨g, off, spot⟩ := ad
      have hspot : spot = none := by
        obtain ⟨cs', h1, _⟩ := hx 0 (by omega)
        obtain ⟨_, hlen', hcc⟩ := World.cells?_some h1
        have h2 := hcc 0 hsz
        rw [List.getElem?_eq_getElem (by omega)] at h2
        simpa [Addr.add] using World.cell?_spot h2
      subst hspot
      have hadd : ∀ k, (⟨g, off, none⟩ : Addr).add k = ⟨g, off + k, none⟩ := fun k => by unfold Addr.add; split <;> simp_all
      have hadd2 : ∀ k j, ((⟨g, off, none⟩ : Addr).add k).add j = ⟨g, off + (k + j), none⟩ := fun k j => by
        rw [hadd k]
        unfold Addr.add
        split <;> simp_all
        omega
      have hcs : ∀ i, i < n → ∃ cs', cs'.length = sz ∧ (∀ j, j < sz → w.cell? ⟨g, off + (i * sz + j), none⟩ = cs'[j]?) ∧ ∃ y, DataW.trod enc P w base spare held m e cs' = some y := by
        intro i hi
        obtain ⟨cs', h1, h2⟩ := hx i hi
        obtain ⟨_, hlen', hcc⟩ := World.cells?_some h1
        exact ⟨cs', hlen', fun j hj => by have := hcc j hj; rwa [hadd2] at this, h2⟩
      refine ⟨fun i => (w.cell? ⟨g, off + i, none⟩).getD .nilIface, ⟨hl, hm, (fun h => by cases h), fun _ => ⟨g, off, rfl, ?_, fun i hi => ?_⟩⟩, fun i hi => ?_⟩
      · obtain ⟨cs', hlen', hcc, _⟩ := hcs 0 h0
        have h2 := hcc 0 hsz
        rw [List.getElem?_eq_getElem (by omega)] at h2
        exact World.block_lt_of_cell? w _ h2
      · obtain ⟨cs', hlen', hcc, _⟩ := hcs (i / sz) (Nat.div_lt_of_lt_mul (by rw [Nat.mul_comm]; exact hi))
        have h2 := hcc (i % sz) (Nat.mod_lt _ hsz)
        rw [show i / sz * sz + i % sz = i by rw [Nat.mul_comm]; exact Nat.div_add_mod i sz] at h2
        have h3 := Nat.mod_lt i hsz
        rw [List.getElem?_eq_getElem (by omega)] at h2
        simp only [h2, Option.getD_some]
      · obtain ⟨cs', hlen', hcc, y, ht⟩ := hcs i hi
        refine ⟨m, y, by omega, ?_⟩
        have e : ((List.range sz).map fun j => (w.cell? ⟨g, off + (i * sz + j), none⟩).getD .nilIface) = cs' := by
          apply List.ext_getElem
          · simp [hlen']
          · intro j h1 h2
            simp only [List.getElem_map, List.getElem_range]
            rw [hcc j (by omega), List.getElem?_eq_getElem h2]
            rfl
        rw [e]
        exact ht
    · obtain rfl : n = 0 := by omega
      exact ⟨fun _ => .nilIface, ⟨hl, hm, (fun h => by cases h), fun h => by omega⟩, fun i hi => by omega⟩

theorem slice_form {t e : TypeId} {fuel : Nat} {v : Value} {x : DataW H × List MemPlace} (hu : P.underlying t = some (.slice e)) (h : DataW.trod enc P w base spare held fuel t [v] = some x) : ∃ a n c, v = .slice a n c := by
  rcases DataW.trod_slice hu h with ⟨h1, _⟩ | ⟨a', l', c', _, _, _, _, h1, _⟩
  · simp at h1; exact ⟨_, _, _, h1⟩
  · simp at h1; exact ⟨_, _, _, h1⟩

theorem trod_tree {T B : TypeId} {f0 f1 f2 f3 f4 : Field} (he : P.underlying T = some (.struct #[f0, f1, f2, f3, f4])) (hc : P.cellsOf T = 5)
    (o0 : f0.offset = 0) (o1 : f1.offset = 1) (o2 : f2.offset = 2) (o3 : f3.offset = 3) (o4 : f4.offset = 4)
    (c0 : P.cellsOf f0.type = 1) (c1 : P.cellsOf f1.type = 1) (c2 : P.cellsOf f2.type = 1) (c3 : P.cellsOf f3.type = 1) (c4 : P.cellsOf f4.type = 1)
    (u0 : P.underlying f0.type = some (.int .i64)) (u1 : P.underlying f1.type = some (.slice B)) (u2 : P.underlying f2.type = some (.slice B)) (u3 : P.underlying f3.type = some (.slice B)) (u4 : P.underlying f4.type = some (.slice T))
    (hB : P.underlying B = some (.int .u8)) (hcB : P.cellsOf B = 1) (fuel : Nat) :
    ∀ (cs : List Value) (x : DataW H × List MemPlace), DataW.trod enc P w base spare held fuel T cs = some x → ∃ (hd : TH) (t : Tr), cs = hd.cells ∧ InTree w hd t := by
  induction fuel using Nat.strongRecOn with
  | ind fuel ih =>
  intro cs x hx
  obtain ⟨xs, n, hn, _, hl, hxl, hf⟩ := DataW.trod_struct he hx
  rw [hc] at hl
  obtain ⟨v0, v1, v2, v3, v4, rfl⟩ : ∃ v0 v1 v2 v3 v4, cs = [v0, v1, v2, v3, v4] := by
    rcases cs with _ | ⟨v0, _ | ⟨v1, _ | ⟨v2, _ | ⟨v3, _ | ⟨v4, _ | ⟨y, r⟩⟩⟩⟩⟩⟩ <;> simp at hl
    exact ⟨_, _, _, _, _, rfl⟩
  have hxs : xs.length = 5 := by simpa using hxl
  have g0 := hf 0 f0 rfl
  have g1 := hf 1 f1 rfl
  have g2 := hf 2 f2 rfl
  have g3 := hf 3 f3 rfl
  have g4 := hf 4 f4 rfl
  rw [o0, c0, List.getElem?_eq_getElem (by omega)] at g0
  rw [o1, c1, List.getElem?_eq_getElem (by omega)] at g1
  rw [o2, c2, List.getElem?_eq_getElem (by omega)] at g2
  rw [o3, c3, List.getElem?_eq_getElem (by omega)] at g3
  rw [o4, c4, List.getElem?_eq_getElem (by omega)] at g4
  replace g0 : DataW.trod enc P w base spare held n f0.type [v0] = some xs[0] := g0
  replace g1 : DataW.trod enc P w base spare held n f1.type [v1] = some xs[1] := g1
  replace g2 : DataW.trod enc P w base spare held n f2.type [v2] = some xs[2] := g2
  replace g3 : DataW.trod enc P w base spare held n f3.type [v3] = some xs[3] := g3
  replace g4 : DataW.trod enc P w base spare held n f4.type [v4] = some xs[4] := g4
  obtain ⟨k, e0, _, hwf⟩ := DataW.trod_int u0 g0
  obtain ⟨a1, n1, k1, rfl⟩ := slice_form u1 g1
  obtain ⟨a2, n2, k2, rfl⟩ := slice_form u2 g2
  obtain ⟨a3, n3, k3, rfl⟩ := slice_form u3 g3
  obtain ⟨a4, n4, k4, rfl⟩ := slice_form u4 g4
  obtain ⟨key, hkey⟩ := open_bytes (d := xs[1].1) (p := xs[1].2) u1 hB hcB ⟨n, g1⟩
  obtain ⟨val, hval⟩ := open_bytes (d := xs[2].1) (p := xs[2].2) u2 hB hcB ⟨n, g2⟩
  obtain ⟨dig, hdig⟩ := open_bytes (d := xs[3].1) (p := xs[3].2) u3 hB hcB ⟨n, g3⟩
  obtain ⟨V, hsl, hV⟩ := open_slF u4 hc (by omega) g4
  have hq : ∀ i, i < n4 → ∃ q : TH × Tr, ((List.range 5).map fun j => V (i * 5 + j)) = q.1.cells ∧ InTree w q.1 q.2 := by
    intro i hi
    obtain ⟨m, y, hm, hy⟩ := hV i hi
    obtain ⟨hd, t, h1, h2⟩ := ih m (by omega) _ _ hy
    exact ⟨(hd, t), h1, h2⟩
  have hnil : ∃ q : TH × Tr, True := ⟨(⟨0, none, 0, 0, none, 0, 0, none, 0, 0, none, 0, 0⟩, .mk 0 [] [] [] []), trivial⟩
  obtain ⟨Q, hQ⟩ : ∃ Q : Nat → TH × Tr, ∀ i, i < n4 → ((List.range 5).map fun j => V (i * 5 + j)) = (Q i).1.cells ∧ InTree w (Q i).1 (Q i).2 := by
    refine ⟨fun i => if hi : i < n4 then (hq i hi).choose else hnil.choose, fun i hi => ?_⟩
    simp only [hi, dif_pos]
    exact (hq i hi).choose_spec
  have hb := bounds_i64 hwf
  simp at e0
  refine ⟨⟨k, a1, n1, k1, a2, n2, k2, a3, n3, k3, a4, n4, k4⟩, .mk k key val dig ((List.range n4).map fun i => (Q i).2), by rw [e0]; rfl, ?_⟩
  refine .mk _ _ (fun i => (Q i).1) rfl hb.1 hb.2 hkey hval hdig ⟨hsl.le, hsl.max, hsl.nil, fun h0 => ?_⟩ (by simp [Tr.kids]) fun i hi => ?_
  · obtain ⟨g, off, e1, hg, hcc⟩ := hsl.place h0
    refine ⟨g, off, e1, hg, fun i hi => ?_⟩
    rw [hcc i hi]
    have h5 := (hQ (i / 5) (by dsimp only at hi; omega)).1
    have h6 : ((List.range 5).map fun j => V (i / 5 * 5 + j)).getD (i % 5) .nilIface = ((Q (i / 5)).1.cells).getD (i % 5) .nilIface := by rw [h5]
    have h7 : i % 5 < 5 := by omega
    have h8 : ((List.range 5).map fun j => V (i / 5 * 5 + j)).getD (i % 5) .nilIface = V (i / 5 * 5 + i % 5) := by
      simp [List.getD, h7]
    rw [h8, show i / 5 * 5 + i % 5 = i by omega] at h6
    rw [h6]
    rfl
  · simp only [Tr.kids, List.length_map, List.length_range] at hi
    simp only [Tr.kids, List.getElem_map, List.getElem_range]
    exact (hQ i hi).2
end
end Go.Proofs.Ytpjojhmdgeejmaa
