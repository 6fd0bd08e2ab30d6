/- Bytes as a string; append onto a slice that is not nil. No program is named here. -/
import Derived.Test.YtcaggiekooncnaaDoorMem3
import Derived.Laws.BytesArg
import Derived.Deep.AppendLies
namespace Go.Proofs.YtcaggiekooncnaaDoor
open Go.RowKit
set_option linter.unusedVariables false

theorem conv_in {P : Program} {w : World} {a : Option Addr} {n cap : Nat} {bs : List Int} (h : InBytes w a n cap bs) (src e dst : TypeId) (hs : P.underlying src = some (.slice e)) (he : P.underlying e = some (.int .u8)) (hd : P.underlying dst = some .string) :
    (convert src dst (.slice a n cap)).run P w = .ok (.string (strOfNums bs)) w := by
  by_cases h0 : 0 < n
  · obtain ⟨g, off, rfl, _, hseg⟩ := h.place h0
    exact run_convert_bytes_arg w src e hs he g off n cap bs h.len (fun i hi => hseg.cellD i (by rw [h.len]; exact hi)) dst hd
  · have hn : n = 0 := by omega
    subst hn
    have hb : bs = [] := List.eq_nil_of_length_eq_zero h.len
    subst hb
    rw [run_convert_bytes_string w src dst e a 0 cap hs he hd]
    cases a with
    | none => simp [Conv.bytesToString, strOfNums]; rfl
    | some x =>
      have hl : (loadCells x 0).run P w = .ok (([] : List Int).map (Value.int .u8)).toArray w := by
        simpa using run_loadCells_list (P := P) w x [] (fun j v hj => by simp at hj)
      rw [run_bytesToString w x 0 cap [] hl]
      simp [strOfNums]; rfl

theorem wpList_append_bytes' {P : Program} (w : World) {ops : Array Oper} {rest : List Oper} {o : Oper} {a : Act} {Q : Exit → Act → World → Prop} (hgd : o.guard = none) (s x : Operand) (t : TypeId)
    (ho : o.op = .call { callee := .builtin .append, args := #[s, x], argTypes := #[t, t] })
    (base : Nat) (e : TypeId) (i : TypeInfo) (z : Value) (bytes : Nat) (ht : P.underlying t = some (.slice e)) (hi : P.info? e = some i) (hz : i.zero = some z)
    (hsize : i.size = 1) (hby : i.bytes = bytes) (hzs : z.cells.size = 1)
    (g0 n c0 : Nat) (xs : List Value) (hs : a.eval s = .slice (some ⟨g0, 0, none⟩) n c0) (hown : w.ownsRow base e 1 (.slice (some ⟨g0, 0, none⟩) n c0) n xs)
    (ad : Option Addr) (k cap : Nat) (r : List Int) (hx : a.eval x = .slice ad k cap) (hin : InBytes w ad k cap r)
    (h63 : n + k ≤ maxLen) (hbytes : (n + k) * bytes ≤ 140737488355328) (hbase : base ≤ w.heap.size)
    (h : ∀ g c w', w'.ownsRow base e 1 (.slice (some ⟨g, 0, none⟩) (n + k) c) (n + k) (xs ++ r.map (Value.int .u8)) → w.grownBy w' (some g0) → wpList P ops Q rest (a.put o.dst (.slice (some ⟨g, 0, none⟩) (n + k) c)) w') : wpList P ops Q (o :: rest) a w := by
  cases ad with
  | none =>
    have hc := hin.nil rfl
    have hk : k = 0 := by have := hin.le; omega
    subst hc
    subst hk
    have hr : r = [] := List.eq_nil_of_length_eq_zero hin.len
    subst hr
    refine wpList_append_own_none hgd s x t ho base e i 1 ht hi _ n xs hs hown hx ?_
    exact h g0 c0 w (by simpa using hown) (only_refl w _)
  | some ad =>
    have hnews : ∀ (j : Nat) (u : Value), (r.map (Value.int .u8))[j]? = some u → w.cell? (ad.add j) = some u := by
      intro j u hu
      have hj : j < r.length := by
        rcases Nat.lt_or_ge j r.length with h | h
        · exact h
        · rw [List.getElem?_eq_none (by simpa using h)] at hu; cases hu
      have hl := hin.len
      obtain ⟨g, off, e1, _, hseg⟩ := hin.place (by omega)
      obtain rfl := Option.some.inj e1
      exact hseg.news j u hu
    refine wpList_append_own w hgd s x t ho base e i z 1 bytes ht hi hz hsize hby hzs (by omega) _ n xs hs hown ad k cap (r.map (Value.int .u8)) hx (by simp [hin.len]) hnews (by simp [Value.oneCell']) h63 hbytes hbase ?_
    intro v' w' h1 h2 h3
    rcases h1.2 with ⟨hv, _⟩ | ⟨g, cap', cur, hv, _⟩
    · have := (h3.1 hv).1
      cases this
    · rw [hv] at h1 ⊢
      exact h g cap' w' h1 h2
end Go.Proofs.YtcaggiekooncnaaDoor
