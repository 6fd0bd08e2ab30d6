/- The heads of the statements of layer 4: the document's examples; whether a tree is small. -/
import Derived.Test.YtcplfpnaepdddaaDoorPrTree
import Derived.Test.YtcplfpnaepdddaaDoorRefLight
import Derived.Test.YtcplfpnaepdddaaDoorCodeV
import Derived.Lib.SlBytesConst
namespace Go.Proofs.YtcplfpnaepdddaaDoor
open Go.RowKit
set_option linter.unusedVariables false

/-- make([]T, n): a new block of noughts. -/
theorem wpList_make_any {P : Program} (w : World) {ops : Array Oper} {rest : List Oper} {o : Oper} {a : Act} {Q : Exit → Act → World → Prop}
    (hg : o.guard = none) (l c : Operand) (t : TypeId) (hop : o.op = Op.makeSlice t l c)
    (e : TypeId) (i : TypeInfo) (z : Value) (h1 : P.underlying t = some (.slice e)) (h2 : P.info? e = some i) (h3 : i.zero = some z)
    (kl kc : IntKind) (L C : Int) (n : Nat) (hl : a.eval l = .int kl L) (hc : a.eval c = .int kc C) (hL : L = (n : Int)) (hC : C = (n : Int)) (b2 : i.bytes * n ≤ 281474976710656) (b3 : n ≤ maxLen)
    (hK : wpList P ops Q rest (a.put o.dst (.slice (some ⟨w.heap.size, 0, none⟩) n n)) (w.alloc (.cells (madeCells z.cells (n * i.size)) e))) :
    wpList P ops Q (o :: rest) a w := by
  refine wpList_plain hg fun K hK' => ?_
  subst hL
  subst hC
  have hb : (i.bytes : Int) * (n : Int) ≤ 281474976710656 := by
    have h : ((i.bytes * n : Nat) : Int) ≤ 281474976710656 := by omega
    rwa [Int.natCast_mul] at h
  simp only [maxLen] at b3
  have hrun := run_make (P := P) w t e i _ h1 h2 h3 kl kc n n (by omega) (by omega) hb (by omega)
  rw [Int.toNat_natCast] at hrun
  unfold Oper.wp
  simp only [execOp, hop, hl, hc, Sem.run_bind, hrun, Result.andThen_ok, Sem.run_pure]
  exact hK' _ _ hK
theorem made_nil : madeCells (Value.agg #[.int .i64 0, .slice none 0 0, .slice none 0 0, .slice none 0 0, .slice none 0 0]).cells (1 * 5) = #[.int .i64 0, .slice none 0 0, .slice none 0 0, .slice none 0 0, .slice none 0 0] := by kernel_rfl
theorem infoTree : (Tryd.prog.info? 25).map (fun i => (i.zero, i.size, i.bytes)) = some (some (.agg #[.int .i64 0, .slice none 0 0, .slice none 0 0, .slice none 0 0, .slice none 0 0]), 5, 104) := by kernel_rfl
/-- The empty tree, and its head. -/
def tNil : Tr := .mk 0 [] [] [] []
def hNil : TH := ⟨0, none, 0, 0, none, 0, 0, none, 0, 0, none, 0, 0⟩
theorem in_nil (w : World) : InBytes w none 0 0 [] := ⟨rfl, (fun z hz => by cases hz), Nat.le_refl _, by simp [maxLen], fun _ => rfl, fun h => by omega⟩
theorem inTree_nil (w : World) : InTree w hNil tNil :=
  .mk hNil tNil (fun _ => hNil) rfl (by decide) (by decide) (in_nil w) (in_nil w) (in_nil w) ⟨Nat.le_refl _, by simp [maxLen, hNil], fun _ => rfl, fun h => absurd h (by decide)⟩ rfl (fun i hi => absurd hi (by simp [tNil, Tr.kids]))
theorem check_nil : checkT tNil = 0 := by
  unfold checkT
  rw [deepT_eq, formedT_eq]
  rfl
theorem full_nil : fullT tNil = true := by
  rw [fullT_eq]
  rfl
theorem sum3 : (sumL [3]).take 1 = [8] := by decide +kernel
theorem dig_nil : digT 1 tNil = some [8] := by
  rw [digT_0 rfl, sum3]
/-- A node with one kid. -/
def tOne : Tr := .mk 1 [] [] [] [tNil]
def hOne (g : Nat) : TH := ⟨1, none, 0, 0, none, 0, 0, none, 0, 0, some ⟨g, 0, none⟩, 1, 1⟩
theorem check_one : checkT tOne = 3 := by
  unfold checkT
  have h1 : deepT tOne 64 = false := by
    rw [deepT_eq]
    simp only [tOne, Tr.kids, List.any_cons, List.any_nil]
    rw [deepT_eq]
    rfl
  have h2 : formedT tOne = false := by
    rw [formedT_eq]
    rfl
  rw [h1, h2]
  rfl
theorem inTree_one {w : World} {g : Nat} {ty : TypeId} (hb : Box w ty g hNil) : InTree w (hOne g) tOne :=
  .mk (hOne g) tOne (fun _ => hNil) rfl (by simp [hOne]) (by simp [hOne]) (in_nil w) (in_nil w) (in_nil w)
    ⟨Nat.le_refl _, by simp [maxLen, hOne], (fun h => by simp [hOne] at h), fun _ => ⟨g, 0, rfl, hb.lt, fun i hi => by
      have h5 : i < 5 := by simpa [hOne] using hi
      obtain ⟨c0, c1, c2, c3, c4⟩ := hb.cells
      rcases (by omega : i = 0 ∨ i = 1 ∨ i = 2 ∨ i = 3 ∨ i = 4) with rfl | rfl | rfl | rfl | rfl
      · exact c0
      · exact c1
      · exact c2
      · exact c3
      · exact c4⟩⟩ rfl (fun i hi => by
      have h0 : i = 0 := by simpa [tOne, Tr.kids] using hi
      subst h0
      exact inTree_nil w)

set_option maxRecDepth 100000 in
set_option maxHeartbeats 4000000 in
theorem upT_any (w : World) (hT : TabLies w) : Calls Tryd.prog 8 #[] w (Says w (.bool true)) := by
  have heq : ∀ (W : World) (p q : Int), (binOp .eql 29 (.iface 35 (.int .i64 p)) (.iface 35 (.int .i64 q))).run Tryd.prog W = .ok (.bool (p == q)) W := fun W p q => eql_code p q W
  have HT := Lib.hid hT
  clear hT
  go_enter Tryd.func8, Tryd.ntmps8
  go_upto_region 2 with (first
    | (go_at_call 17
       refine (digest_ok 1 (by omega) (by omega) tNil hNil _ (inTree_nil _) HT.out check_nil dig_nil).mono ?_
       rintro _ w1 ⟨a1, c1, rfl, hn1, hb1⟩
       have HB1 := Lib.hid hb1
       have HN1 := Lib.hid hn1.inb
       clear hn1 hb1))
  obtain ⟨ti, hti, htz⟩ := Option.map_eq_some_iff.1 infoTree
  simp only [Prod.mk.injEq] at htz
  obtain ⟨hz0, hz1, hz2⟩ := htz
  go_upto_region 3 with (first
    | (at_make
       refine wpList_make_any _ rfl (.const (.int .i64 1)) (.const (.int .i64 1)) 23 rfl 25 ti _ Tryd.underlying23 hti hz0 .i64 .i64 1 1 1 rfl rfl rfl rfl (by rw [hz2]; omega) (by simp [maxLen]) ?_
       rw [hz1, made_nil]
       have hbx : Box (w1.alloc (.cells #[.int .i64 0, .slice none 0 0, .slice none 0 0, .slice none 0 0, .slice none 0 0] 25)) 25 w1.heap.size hNil := Box.new w1 _ hNil
       have hb2 : Below w1.heap.size w1 (w1.alloc (.cells #[.int .i64 0, .slice none 0 0, .slice none 0 0, .slice none 0 0, .slice none 0 0] 25)) := (Below.refl _ _).alloc (Nat.le_refl _) _
       generalize (w1.alloc (.cells #[.int .i64 0, .slice none 0 0, .slice none 0 0, .slice none 0 0, .slice none 0 0] 25)) = w2 at *
       have HX2 := Lib.hid (inTree_one hbx)
       have HN2 := Lib.hid (HN1.out.below hb2)
       have HB2 : Hid (Below w.heap.size w w2) := Lib.hid (HB1.out.trans (hb2.mono HB1.out.size))
       clear hbx hb2)
    | (go_at_call 10
       refine (check_any tOne (hOne w1.heap.size) _ HX2.out).mono ?_
       rintro _ w3 ⟨rfl, hb3⟩
       rw [check_one]
       have HN3 := Lib.hid (HN2.out.below hb3)
       have HB3 : Hid (Below w.heap.size w w3) := Lib.hid (HB2.out.trans (hb3.mono HB2.out.size))
       clear hb3))
  have hc1 : (convert 22 9 (.slice a1 1 c1)).run Tryd.prog w3 = .ok (.string ⟨#[8]⟩) w3 := conv_in (P := Tryd.prog) HN3.out 22 5 9 Tryd.underlying22 Tryd.underlying5 Tryd.underlying9
  have hcd : codeV 3 = .iface 35 (.int .i64 3) := rfl
  rw [hcd]
  go_wp2_with (first
    | (go_at_call 13
       refine (full_any tNil hNil _ (inTree_nil _)).mono ?_
       rintro _ w4 ⟨rfl, hb4⟩
       rw [check_nil, full_nil]
       have HB4 : Hid (Below w.heap.size w w4) := Lib.hid (HB3.out.trans (hb4.mono HB3.out.size))
       clear hb4))
  go_ret
  exact ⟨rfl, HB4.out⟩
set_option maxRecDepth 100000 in
set_option maxHeartbeats 4000000 in
theorem small_any (t : Tr) (h : TH) (w : World) (ht : InTree w h t) : Calls Tryd.prog 9 #[h.v] w (fun e w' => ∃ b, e = .returned (.bool b) ∧ (b = true → LightOK t ∧ countT t ≤ 500) ∧ Below w.heap.size w w') := by
  unfold TH.v
  have hbox := Box.new w 25 h
  obtain ⟨x0, x1, x2, x3, x4⟩ := hbox.cells
  have HT := Lib.hid ht
  clear hbox ht
  go_enter Tryd.func9, Tryd.ntmps9
  go_wp2_with (first
    | (go_at_call 25
       refine (light_any t h 500 200 _ ?_ (by omega) (by omega) (by omega) (by omega)).mono ?_
       · exact HT.out.lower ((Below.refl _ _).alloc (Nat.le_refl _) _)
       rintro _ w1 ⟨r, rfl, hr1, hr2, hok, hb1⟩
       have HB1 : Hid (Below w.heap.size w w1) := Lib.hid (((Below.refl w.heap.size w).alloc (Nat.le_refl _) _).trans (hb1.mono (by simp)))
       have HOK := Lib.hid hok
       clear hb1 hok))
  all_goals
    go_ret
    refine ⟨_, rfl, fun hb => ?_, HB1.out⟩
    have h1 : 0 ≤ r := by simpa using hb
    exact ⟨(HOK.out h1).1, by have := (HOK.out h1).2; omega⟩
end Go.Proofs.YtcplfpnaepdddaaDoor
