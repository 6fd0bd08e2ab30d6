/- Rows of trees: the cells of the i-th; their heads. No program is named here. -/
import Derived.Test.YtpjojhmdgeejmaaTreeRow
namespace Go.Proofs.Ytpjojhmdgeejmaa
open Go.RowKit
set_option linter.unusedVariables false

/-- The cells of the i-th tree of a row. -/
theorem OwnT.at {W : World} {base : Nat} {ty : TypeId} {a : Option Addr} {n c : Nat} {hs : List TH} (h : OwnT W base ty (.slice a n c) hs) (hl : hs.length = n) (i : Nat) (hi : i < hs.length) :
    ∃ g, a = some ⟨g, 0, none⟩ ∧ W.cell? ⟨g, i * 5, none⟩ = some (.int .i64 (hs[i]).k) ∧ W.cell? ⟨g, i * 5 + 1, none⟩ = some (.slice (hs[i]).ka (hs[i]).kn (hs[i]).kc) ∧ W.cell? ⟨g, i * 5 + 2, none⟩ = some (.slice (hs[i]).va (hs[i]).vn (hs[i]).vc) ∧ W.cell? ⟨g, i * 5 + 3, none⟩ = some (.slice (hs[i]).da (hs[i]).dn (hs[i]).dc) ∧ W.cell? ⟨g, i * 5 + 4, none⟩ = some (.slice (hs[i]).ta (hs[i]).tn (hs[i]).tc) := by
  rcases h.form with ⟨_, h2⟩ | ⟨g, c', h1, _, _, _, _, hc⟩
  · rw [h2] at hi
    simp at hi
  · injection h1 with h1
    refine ⟨g, h1, ?_, ?_, ?_, ?_, ?_⟩
    · exact hc _ _ (cellsT_get hs i 0 hi (by omega))
    · exact hc _ _ (cellsT_get hs i 1 hi (by omega))
    · exact hc _ _ (cellsT_get hs i 2 hi (by omega))
    · exact hc _ _ (cellsT_get hs i 3 hi (by omega))
    · exact hc _ _ (cellsT_get hs i 4 hi (by omega))
theorem Heads.lower {w w' : World} {hs : List TH} {ts : List Tr} (h : Heads w hs ts) (hb : Below w.heap.size w w') : Heads w' hs ts := ⟨h.1, fun i h1 h2 => (h.2 i h1 h2).lower hb⟩
end Go.Proofs.Ytpjojhmdgeejmaa
