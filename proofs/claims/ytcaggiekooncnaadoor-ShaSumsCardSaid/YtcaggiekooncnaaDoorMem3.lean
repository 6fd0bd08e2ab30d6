/- append onto a row of the call's own, of bytes that came in, nil or not. No program is named here. -/
import Derived.Test.YtcaggiekooncnaaDoorOpen2
import Derived.Laws.AppendOwnNone
import Derived.OwnWalk
namespace Go.Proofs.YtcaggiekooncnaaDoor
open Go.RowKit
set_option linter.unusedVariables false

theorem wpList_append_bytes {P : Program} (w : World) {ops : Array Oper} {rest : List Oper} {o : Oper} {a : Act} {Q : Exit → Act → World → Prop} (hgd : o.guard = none) (s x : Operand) (t : TypeId)
    (ho : o.op = .call { callee := .builtin .append, args := #[s, x], argTypes := #[t, t] })
    (base : Nat) (e : TypeId) (i : TypeInfo) (z : Value) (bytes : Nat) (ht : P.underlying t = some (.slice e)) (hi : P.info? e = some i) (hz : i.zero = some z)
    (hsize : i.size = 1) (hby : i.bytes = bytes) (hzs : z.cells.size = 1)
    (v : Value) (n : Nat) (xs : List Value) (hs : a.eval s = v) (hown : w.ownsRow base e 1 v n xs)
    (ad : Option Addr) (k cap : Nat) (r : List Int) (hx : a.eval x = .slice ad k cap) (hin : InBytes w ad k cap r)
    (h63 : n + k ≤ maxLen) (hbytes : (n + k) * bytes ≤ 140737488355328) (hbase : base ≤ w.heap.size)
    (h : ∀ v' w', w'.ownsRow base e 1 v' (n + k) (xs ++ r.map (Value.int .u8)) → w.grownBy w' v.ownBlock → wpList P ops Q rest (a.put o.dst v') w') : wpList P ops Q (o :: rest) a w := by
  cases ad with
  | none =>
    have hc := hin.nil rfl
    have hk : k = 0 := by have := hin.le; omega
    subst hc
    subst hk
    have hr : r = [] := List.eq_nil_of_length_eq_zero hin.len
    subst hr
    refine wpList_append_own_none hgd s x t ho base e i 1 ht hi v n xs hs hown hx ?_
    exact h v w (by simpa using hown) (only_refl w _)
  | some ad =>
    have hnews : ∀ (j : Nat) (u : Value), (r.map (Value.int .u8))[j]? = some u → w.cell? (ad.add j) = some u := by
      intro j u hu
      have hj : j < r.length := by
        rcases Nat.lt_or_ge j r.length with h | h
        · exact h
        · rw [List.getElem?_eq_none (by simpa using h)] at hu; cases hu
      have hl := hin.len
      obtain ⟨g, off, e1, _, hseg⟩ := hin.place (by omega)
      obtain rfl := Option.some.inj e1
      exact hseg.news j u hu
    refine wpList_append_own w hgd s x t ho base e i z 1 bytes ht hi hz hsize hby hzs (by omega) v n xs hs hown ad k cap (r.map (Value.int .u8)) hx (by simp [hin.len]) hnews (by simp [Value.oneCell']) h63 hbytes hbase ?_
    intro v' w' h1 h2 _
    exact h v' w' h1 h2
end Go.Proofs.YtcaggiekooncnaaDoor
