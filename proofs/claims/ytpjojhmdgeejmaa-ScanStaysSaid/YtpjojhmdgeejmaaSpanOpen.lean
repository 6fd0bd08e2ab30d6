/- Spans, and lists of pairs, that are arguments. -/
import Derived.Test.YtpjojhmdgeejmaaSpanMath
import Derived.Test.YtpjojhmdgeejmaaRefSameP
import Derived.Test.YtpjojhmdgeejmaaTreeArg
namespace Go.Proofs.Ytpjojhmdgeejmaa
open Go.ChangeShapes Go.WideShapes Go.RowKit Go.Deep
set_option linter.unusedVariables false

set_option maxRecDepth 100000 in
theorem open_span {H : Type} {enc : TypeId × Value → H} {w : World} {base : Nat} {spare : Nat → Bool} {held : Bool} {r : Reach} {b0 : Nat} {v : Value} {d : DataW H} {p : List MemPlace}
    (hv : Value.okWide Try.prog w r b0 24 v) (h : DataW.Trod enc Try.prog w base spare held 24 v d p) : ∃ hd f t, v = DH.v hd ∧ SpanIn w hd f t := by
  obtain ⟨cs, rfl, hs⟩ := okWide_struct Try.underlying24 hv
  obtain ⟨fuel, hf⟩ := h
  obtain ⟨hd, e, key, val, h1, h2⟩ := trod_deed Try.underlying24 (by kernel_rfl) rfl rfl rfl (by kernel_rfl) (by kernel_rfl) (by kernel_rfl) Try.underlying22 Try.underlying22 Try.underlying4 Try.underlying5 (by kernel_rfl) fuel _ _ hf
  refine ⟨hd, key, val, ?_, h1, h2⟩
  have e2 : cs = (recD.cells hd).toArray := by
    simp only [Value.cells] at e
    rw [← e]
  rw [e2]
  rfl
section
variable {H : Type} {enc : TypeId × Value → H} {P : Program} {w : World} {base : Nat} {spare : Nat → Bool} {held : Bool}
theorem trod_pair {T B : TypeId} {f0 f1 : Field} (he : P.underlying T = some (.struct #[f0, f1])) (hc : P.cellsOf T = 2)
    (o0 : f0.offset = 0) (o1 : f1.offset = 1) (c0 : P.cellsOf f0.type = 1) (c1 : P.cellsOf f1.type = 1)
    (u0 : P.underlying f0.type = some (.slice B)) (u1 : P.underlying f1.type = some (.slice B)) (hB : P.underlying B = some (.int .u8)) (hcB : P.cellsOf B = 1)
    (fuel : Nat) (cs : List Value) (x : DataW H × List MemPlace) (hx : DataW.trod enc P w base spare held fuel T cs = some x) :
    ∃ r : PH, cs = recP.cells r ∧ ∃ key val, InBytes w r.ka r.kn r.kc key ∧ InBytes w r.va r.vn r.vc val := by
  obtain ⟨xs, n, hn, _, hl, hxl, hf⟩ := DataW.trod_struct he hx
  rw [hc] at hl
  obtain ⟨v0, v1, rfl⟩ : ∃ v0 v1, cs = [v0, v1] := by
    rcases cs with _ | ⟨v0, _ | ⟨v1, _ | ⟨y, r⟩⟩⟩ <;> simp at hl
    exact ⟨_, _, rfl⟩
  have hxs : xs.length = 2 := by simpa using hxl
  have g0 := hf 0 f0 rfl
  have g1 := hf 1 f1 rfl
  rw [o0, c0, List.getElem?_eq_getElem (by omega)] at g0
  rw [o1, c1, List.getElem?_eq_getElem (by omega)] at g1
  replace g0 : DataW.trod enc P w base spare held n f0.type [v0] = some xs[0] := g0
  replace g1 : DataW.trod enc P w base spare held n f1.type [v1] = some xs[1] := g1
  obtain ⟨a0, n0, k0, rfl⟩ := slice_form u0 g0
  obtain ⟨a1, n1, k1, rfl⟩ := slice_form u1 g1
  obtain ⟨key, hkey⟩ := open_bytes (d := xs[0].1) (p := xs[0].2) u0 hB hcB ⟨n, g0⟩
  obtain ⟨val, hval⟩ := open_bytes (d := xs[1].1) (p := xs[1].2) u1 hB hcB ⟨n, g1⟩
  exact ⟨⟨a0, n0, k0, a1, n1, k1⟩, rfl, key, val, hkey, hval⟩
end
set_option maxRecDepth 100000 in
theorem open_pairs {H : Type} {enc : TypeId × Value → H} {w : World} {base : Nat} {spare : Nat → Bool} {held : Bool} {a : Option Addr} {n cap : Nat} {d : DataW H} {p : List MemPlace}
    (h : DataW.Trod enc Try.prog w base spare held 35 (.slice a n cap) d p) : ∃ D : Nat → PH, InRec recP w a n cap D ∧ ∀ i, i < n → ∃ key val, InBytes w (D i).ka (D i).kn (D i).kc key ∧ InBytes w (D i).va (D i).vn (D i).vc val :=
  open_rec recP (fun r => ∃ key val, InBytes w r.ka r.kn r.kc key ∧ InBytes w r.va r.vn r.vc val) pZ Try.underlying35 (by kernel_rfl)
    (fun fuel cs x hx => trod_pair Try.underlying49 (by kernel_rfl) rfl rfl (by kernel_rfl) (by kernel_rfl) Try.underlying22 Try.underlying22 Try.underlying5 (by kernel_rfl) fuel cs x hx) h
end Go.Proofs.Ytpjojhmdgeejmaa
