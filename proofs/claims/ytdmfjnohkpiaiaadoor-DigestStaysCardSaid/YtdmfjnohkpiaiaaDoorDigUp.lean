/- The heads of the statements of layer 3: the document's example; whether a width may be. -/
import Derived.Test.YtdmfjnohkpiaiaaDoorPrDig
import Derived.Lib.SlBytesConst
namespace Go.Proofs.YtdmfjnohkpiaiaaDoor
open Go.RowKit
set_option linter.unusedVariables false

section
variable {P : Program} {md : Region.Mode} {ops : Array Oper} {Q : Exit → Act → World → Prop} {S : World → Prop}
/-- In a region that draws its order: an operation that yields v in every world that meets S is taken first. -/
theorem take_w {i : Nat} {oi : Oper} {v : Value} {fuel : Nat} {listed : Array Bool} {a : Act} {w : World} (hi : ops[i]? = some oi)
    (hs : Region.noSelect ops = true) (hf : Region.free md ops listed i = true) (hr : (Region.ready md ops listed).contains i = true)
    (hQ : ∀ c a w, Q (.panic c) (a.put oi.dst v) w → Q (.panic c) a w) (hw : Region.wanted oi (yielded ops a.tmps) = true) (hy : ∀ w, S w → (execOp a.eval oi).run P w = .ok (.value v) w) (hS : S w)
    (h : wpAnyH P md ops Q S fuel (listed.setIfInBounds i true) (a.put oi.dst v) w) : wpAnyH P md ops Q S (fuel + 1) listed a w :=
  wpAnyH_take hi hs hf hr hQ (.inl ⟨hw, hy⟩) hS h
/-- One whose guard is false. -/
theorem take_u {i : Nat} {oi : Oper} {fuel : Nat} {listed : Array Bool} {a : Act} {w : World} (hi : ops[i]? = some oi)
    (hs : Region.noSelect ops = true) (hf : Region.free md ops listed i = true) (hr : (Region.ready md ops listed).contains i = true)
    (hQ : ∀ c a w, Q (.panic c) (a.put oi.dst undef) w → Q (.panic c) a w) (hw : Region.wanted oi (yielded ops a.tmps) = false) (hS : S w)
    (h : wpAnyH P md ops Q S fuel (listed.setIfInBounds i true) (a.put oi.dst undef) w) : wpAnyH P md ops Q S (fuel + 1) listed a w :=
  wpAnyH_take hi hs hf hr hQ (.inr ⟨hw, rfl⟩) hS h
end
theorem in_row1 {w : World} {g : Nat} {t : TypeId} {fr : Nat × Nat} {z : Int} (h : w.heap[g]? = some (.cells #[.int .u8 z] t fr)) (h0 : 0 ≤ z) (h1 : z ≤ 255) : InBytes w (some ⟨g, 0, none⟩) 1 1 [z] := by
  have hlt : g < w.heap.size := by
    rcases Nat.lt_or_ge g w.heap.size with hlt | hge
    · exact hlt
    · rw [Array.getElem?_eq_none hge] at h; cases h
  refine ⟨rfl, (fun x hx => by simp at hx; omega), Nat.le_refl _, by simp [maxLen], (fun h => by cases h), fun _ => ⟨g, 0, rfl, hlt, fun i hi => ?_⟩⟩
  have h0 : i = 0 := by simpa using hi
  subst h0
  rw [cell_of_row w g (0 + 0) _ _ _ h]
  simp
theorem pair_1 : pairL [97] [255] = [1, 1, 97, 255] := by simp [pairL, bytL, numL]

set_option maxRecDepth 100000 in
set_option maxHeartbeats 2000000 in
theorem may_any (x : Int) (w : World) : Calls Tryd.prog 7 #[.int .i64 x] w (fun e w' => e = .returned (.bool (decide (1 ≤ x ∧ x ≤ 32))) ∧ w' = w) := by
  go_enter Tryd.func7, Tryd.ntmps7
  by_cases h1 : 1 ≤ x
  · by_cases h2 : x ≤ 32
    · go_wp2_with fail
      go_ret
      exact ⟨by simp [h1, h2], rfl⟩
    · have h2' : decide (x ≤ 32) = false := by simpa using h2
      go_wp2_with fail
      go_ret
      exact ⟨by simp, rfl⟩
  · have h1' : decide (1 ≤ x) = false := by simpa using h1
    go_wp2_with fail
    go_ret
    exact ⟨by simp, rfl⟩

set_option maxRecDepth 100000 in
set_option maxHeartbeats 2000000 in
theorem upD_any (w : World) : Calls Tryd.prog 5 #[] w (fun e w' => e = .returned (.bool true) ∧ Below w.heap.size w w') := by
  have hcv : (convert 22 22 (.slice (some ⟨w.heap.size, 0, none⟩) 1 1)).run Tryd.prog (w.alloc (.cells #[.int .u8 97] 5)) = .ok (.slice (some ⟨w.heap.size, 0, none⟩) 1 1) (w.alloc (.cells #[.int .u8 97] 5 (1, 2))) :=
    Lib.run_convert_bytes_const w 22 5 #[.int .u8 97] 1 1 Tryd.underlying22 Tryd.underlying5
  go_enter Tryd.func5, Tryd.ntmps5
  have h1 : ((w.alloc (.cells #[.int .u8 97] 5 (1, 2))).alloc (.cells #[.int .u8 255] 5)).heap[w.heap.size]? = some (.cells #[.int .u8 97] 5 (1, 2)) := (Below.heap_alloc (w.alloc (.cells #[.int .u8 97] 5 (1, 2))) _ w.heap.size (by simp)).trans (heap_alloc_new w _)
  have h2 : ((w.alloc (.cells #[.int .u8 97] 5 (1, 2))).alloc (.cells #[.int .u8 255] 5)).heap[w.heap.size + 1]? = some (.cells #[.int .u8 255] 5) := by
    have h := heap_alloc_new (w.alloc (.cells #[.int .u8 97] 5 (1, 2))) (.cells #[.int .u8 255] 5)
    rwa [show (w.alloc (.cells #[.int .u8 97] 5 (1, 2))).heap.size = w.heap.size + 1 by simp] at h
  have HIN := Lib.hid (And.intro (in_row1 h1 (by omega) (by omega)) (in_row1 h2 (by omega) (by omega)))
  have HB0 : Hid (Below w.heap.size w ((w.alloc (.cells #[.int .u8 97] 5 (1, 2))).alloc (.cells #[.int .u8 255] 5))) := Lib.hid (((Below.refl _ _).alloc (Nat.le_refl _) _).alloc (by simp) _)
  clear h1 h2
  go_wp2_with (first
    | (go_at_call 11
       (with_reducible refine (pair_ok 1 _ _ _ [97] _ _ _ [255] _ HIN.out.1 ?_ HIN.out.2 ?_ ?_ ?_).mono ?_)
       · omega
       · omega
       · omega
       · rfl
       rintro _ w1 ⟨g1, c1, rfl, ho1, hb1⟩
       rw [pair_1] at ho1 ⊢
       have hc1 : (convert 22 9 (.slice (some ⟨g1, 0, none⟩) 4 c1)).run Tryd.prog w1 = .ok (.string ⟨#[1, 1, 97, 255]⟩) w1 := conv_own ho1 (fun z hz => by simp at hz; omega)
       have HB1 : Hid (Below w.heap.size w w1) := Lib.hid (HB0.out.trans (hb1.mono HB0.out.size))
       clear ho1 hb1)
    | (go_at_call 13
       (with_reducible refine (none_any _).mono ?_)
       rintro _ w2 ⟨g2, c2, rfl, ho2, hb2⟩
       have hc2 : (convert 22 9 (.slice (some ⟨g2, 0, none⟩) 1 c2)).run Tryd.prog w2 = .ok (.string ⟨#[3]⟩) w2 := conv_own ho2 (fun z hz => by simp at hz; omega)
       have HB2 : Hid (Below w.heap.size w w2) := Lib.hid (HB1.out.trans (hb2.mono HB1.out.size))
       clear ho2 hb2))
  go_ret
  exact ⟨rfl, HB2.out⟩
end Go.Proofs.YtdmfjnohkpiaiaaDoor
